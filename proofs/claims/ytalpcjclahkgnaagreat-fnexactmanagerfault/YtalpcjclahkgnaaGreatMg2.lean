import Derived.Test.YtalpcjclahkgnaaGreatMg1
import Derived.Test.YtalpcjclahkgnaaGreatCl2
import Derived.Test.YtalpcjclahkgnaaGreatJB3
namespace Go.Proofs.YtalpcjclahkgnaaGreat
open Go.ChangeShapes Go.WideShapes Go.ChangeAt Go.RowKit

set_option maxRecDepth 100000 in
set_option maxHeartbeats 16000000 in
theorem eqMG_ok {w : World} {s : MG} {a a2 : MGA} (h : MGRows w s a) (h' : MGRows w s a2) (hl : MGlen s) : Calls Tryz.prog 8 #[mgA s a, mgA s a2] w fun e w' => e = .returned (.bool true) ∧ Below w.heap.size w w' := by
  have H1 : Hid (MGRows w s a) := h
  have H2 : Hid (MGRows w s a2) := h'
  have HL : Hid (MGlen s) := hl
  obtain ⟨an, kn, av, kv, ae, ke, ak, kk, aj, kj, e⟩ := h.sl
  obtain ⟨anx, knx, avx, kvx, aex, kex, akx, kkx, ajx, kjx, e'⟩ := h'.sl
  generalize a.qj = qj at e
  generalize a2.qj = qjx at e'
  subst e e'
  clear h h' hl
  have n7 : (s.next != s.next) = false := by simp
  have HE0 : Hid (E2 w ((w.alloc (.cells #[.slice an s.c.nodes.length kn, .slice av s.c.vms.length kv, .slice ae s.c.tenants.length ke, .int .i64 s.c.over, .int .i64 s.c.time, .slice ak s.kept.length kk, .slice aj s.jobs.length kj, .int .i64 s.next] 41)).alloc (.cells #[.slice anx s.c.nodes.length knx, .slice avx s.c.vms.length kvx, .slice aex s.c.tenants.length kex, .int .i64 s.c.over, .int .i64 s.c.time, .slice akx s.kept.length kkx, .slice ajx s.jobs.length kjx, .int .i64 s.next] 41)) 41 #[.slice an s.c.nodes.length kn, .slice av s.c.vms.length kv, .slice ae s.c.tenants.length ke, .int .i64 s.c.over, .int .i64 s.c.time, .slice ak s.kept.length kk, .slice aj s.jobs.length kj, .int .i64 s.next] #[.slice anx s.c.nodes.length knx, .slice avx s.c.vms.length kvx, .slice aex s.c.tenants.length kex, .int .i64 s.c.over, .int .i64 s.c.time, .slice akx s.kept.length kkx, .slice ajx s.jobs.length kjx, .int .i64 s.next]) := E2.new _ _ _ _
  unfold mgA mgC
  simp only
  go_enter Tryz.func8, Tryz.ntmps8
  go_wp2_with fail
  generalize ((w.alloc (.cells #[.slice an s.c.nodes.length kn, .slice av s.c.vms.length kv, .slice ae s.c.tenants.length ke, .int .i64 s.c.over, .int .i64 s.c.time, .slice ak s.kept.length kk, .slice aj s.jobs.length kj, .int .i64 s.next] 41)).alloc (.cells #[.slice anx s.c.nodes.length knx, .slice avx s.c.vms.length kvx, .slice aex s.c.tenants.length kex, .int .i64 s.c.over, .int .i64 s.c.time, .slice akx s.kept.length kkx, .slice ajx s.jobs.length kjx, .int .i64 s.next] 41)) = u0 at *
  refine Calls.mono (eqCL_ok (s := s.c) (a := ⟨.slice an s.c.nodes.length kn, .slice av s.c.vms.length kv, .slice ae s.c.tenants.length ke⟩) (a2 := ⟨.slice anx s.c.nodes.length knx, .slice avx s.c.vms.length kvx, .slice aex s.c.tenants.length kex⟩) (H1.out.rc.below HE0.out.bel) (H2.out.rc.below HE0.out.bel) HL.out.lc) ?_
  rintro e u1 ⟨rfl, hb1⟩
  have HE1 : Hid (E2 w u1 41 #[.slice an s.c.nodes.length kn, .slice av s.c.vms.length kv, .slice ae s.c.tenants.length ke, .int .i64 s.c.over, .int .i64 s.c.time, .slice ak s.kept.length kk, .slice aj s.jobs.length kj, .int .i64 s.next] #[.slice anx s.c.nodes.length knx, .slice avx s.c.vms.length kvx, .slice aex s.c.tenants.length kex, .int .i64 s.c.over, .int .i64 s.c.time, .slice akx s.kept.length kkx, .slice ajx s.jobs.length kjx, .int .i64 s.next]) := HE0.out.step hb1
  clear hb1 HE0
  have c5 := celN HE1.out.b0 5 _ rfl
  have d5 := celN HE1.out.b1 5 _ rfl
  have lt := HE1.out.lt
  have lt0 : w.heap.size < u1.heap.size := by omega
  go_wp2_with fail
  clear c5 d5 lt lt0
  refine Calls.mono (eqANSS_ok (H1.out.rk.below HE1.out.bel) (H2.out.rk.below HE1.out.bel) HL.out.lk.1) ?_
  rintro e u2 ⟨rfl, hb1⟩
  have HE2 : Hid (E2 w u2 41 #[.slice an s.c.nodes.length kn, .slice av s.c.vms.length kv, .slice ae s.c.tenants.length ke, .int .i64 s.c.over, .int .i64 s.c.time, .slice ak s.kept.length kk, .slice aj s.jobs.length kj, .int .i64 s.next] #[.slice anx s.c.nodes.length knx, .slice avx s.c.vms.length kvx, .slice aex s.c.tenants.length kex, .int .i64 s.c.over, .int .i64 s.c.time, .slice akx s.kept.length kkx, .slice ajx s.jobs.length kjx, .int .i64 s.next]) := HE1.out.step hb1
  clear hb1 HE1
  have c6 := celN HE2.out.b0 6 _ rfl
  have d6 := celN HE2.out.b1 6 _ rfl
  have lt := HE2.out.lt
  have lt0 : w.heap.size < u2.heap.size := by omega
  go_wp2_with fail
  clear c6 d6 lt lt0
  refine Calls.mono (eqJBS_ok (H1.out.rj.below HE2.out.bel) (H1.out.nj.below HE2.out.bel) (H2.out.rj.below HE2.out.bel) (H2.out.nj.below HE2.out.bel) HL.out.lj.len HL.out.lj.el) ?_
  rintro e u3 ⟨rfl, hb1⟩
  have HE3 : Hid (E2 w u3 41 #[.slice an s.c.nodes.length kn, .slice av s.c.vms.length kv, .slice ae s.c.tenants.length ke, .int .i64 s.c.over, .int .i64 s.c.time, .slice ak s.kept.length kk, .slice aj s.jobs.length kj, .int .i64 s.next] #[.slice anx s.c.nodes.length knx, .slice avx s.c.vms.length kvx, .slice aex s.c.tenants.length kex, .int .i64 s.c.over, .int .i64 s.c.time, .slice akx s.kept.length kkx, .slice ajx s.jobs.length kjx, .int .i64 s.next]) := HE2.out.step hb1
  clear hb1 HE2
  have c7 := celN HE3.out.b0 7 _ rfl
  have d7 := celN HE3.out.b1 7 _ rfl
  have lt := HE3.out.lt
  have lt0 : w.heap.size < u3.heap.size := by omega
  go_wp2
  go_ret
  exact ⟨rfl, HE3.out.bel⟩
set_option maxRecDepth 100000 in
set_option maxHeartbeats 16000000 in
theorem szMG_w {w : World} {s : MG} {a : MGA} (h : MGRows w s a) (hm : MGmax s) : Calls Tryz.prog 4 #[mgA s a, .int .i64 1048576] w fun e w' => ∃ q, e = .returned (.int .i64 q) ∧ -1 ≤ q ∧ q ≤ 1048576 ∧ (0 ≤ q → MGlen s) ∧ Below w.heap.size w w' := by
  have H1 : Hid (MGRows w s a) := h
  have HM : Hid (MGmax s) := hm
  obtain ⟨an, kn, av, kv, ae, ke, ak, kk, aj, kj, e⟩ := h.sl
  generalize a.qj = qj at e
  subst e
  clear h hm
  have HL0 : Hid (LG w (w.alloc (.cells #[.slice an s.c.nodes.length kn, .slice av s.c.vms.length kv, .slice ae s.c.tenants.length ke, .int .i64 s.c.over, .int .i64 s.c.time, .slice ak s.kept.length kk, .slice aj s.jobs.length kj, .int .i64 s.next] 30)) w.heap.size #[.slice an s.c.nodes.length kn, .slice av s.c.vms.length kv, .slice ae s.c.tenants.length ke, .int .i64 s.c.over, .int .i64 s.c.time, .slice ak s.kept.length kk, .slice aj s.jobs.length kj, .int .i64 s.next] 30) := LG.new w _ _
  unfold mgA mgC
  simp only
  go_enter Tryz.func4, Tryz.ntmps4
  go_wp2_with fail
  generalize (w.alloc (.cells #[.slice an s.c.nodes.length kn, .slice av s.c.vms.length kv, .slice ae s.c.tenants.length ke, .int .i64 s.c.over, .int .i64 s.c.time, .slice ak s.kept.length kk, .slice aj s.jobs.length kj, .int .i64 s.next] 30)) = u0 at *
  generalize hbb : w.heap.size = b0 at HL0 ⊢
  have HB9 : Hid (w.heap.size = b0) := hbb
  clear hbb
  refine Calls.mono (szCL_w (s := s.c) (a := ⟨.slice an s.c.nodes.length kn, .slice av s.c.vms.length kv, .slice ae s.c.tenants.length ke⟩) (H1.out.rc.below HL0.out.bel) HM.out.lc) ?_
  rintro e u1 ⟨q1, rfl, q1a, q1b, hq, hu⟩
  have HL1 : Hid (LG w u1 b0 #[.slice an s.c.nodes.length kn, .slice av s.c.vms.length kv, .slice ae s.c.tenants.length ke, .int .i64 s.c.over, .int .i64 s.c.time, .slice ak s.kept.length kk, .slice aj s.jobs.length kj, .int .i64 s.next] 30) := HL0.out.step hu
  have HQ1 : Hid (0 ≤ q1 → CLlen s.c) := hq
  clear hu hq HL0
  have k0 := HL1.out.cel 5 _ rfl
  have kl := HL1.out.lt
  cases h0 : decide (q1 < 0)
  · have g0 := of_decide_eq_false h0
    go_wp2_with fail
    clear k0 kl h0
    refine Calls.mono (szANSS_w (H1.out.rk.below HL1.out.bel) HM.out.lk.1 q1 (by omega) (by omega) HM.out.lk.2) ?_
    rintro e u2 ⟨q2, rfl, q2a, q2b, hq, hu⟩
    have HL2 : Hid (LG w u2 b0 #[.slice an s.c.nodes.length kn, .slice av s.c.vms.length kv, .slice ae s.c.tenants.length ke, .int .i64 s.c.over, .int .i64 s.c.time, .slice ak s.kept.length kk, .slice aj s.jobs.length kj, .int .i64 s.next] 30) := HL1.out.step hu
    have HQ2 : Hid (0 ≤ q2 → s.kept.length ≤ 1048576 ∧ ∀ z ∈ s.kept, z.ask.size ≤ 1048576 ∧ z.reply.size ≤ 1048576) := hq
    clear hu hq HL1
    have k1 := HL2.out.cel 6 _ rfl
    have kl := HL2.out.lt
    cases h1 : decide (q2 < 0)
    · have g1 := of_decide_eq_false h1
      go_wp2_with fail
      clear k1 kl h1
      refine Calls.mono (szJBS_w (H1.out.rj.below HL2.out.bel) (H1.out.nj.below HL2.out.bel) HM.out.lj q2 (by omega) (by omega)) ?_
      rintro e u3 ⟨q3, rfl, q3a, q3b, hq, hu⟩
      have HL3 : Hid (LG w u3 b0 #[.slice an s.c.nodes.length kn, .slice av s.c.vms.length kv, .slice ae s.c.tenants.length ke, .int .i64 s.c.over, .int .i64 s.c.time, .slice ak s.kept.length kk, .slice aj s.jobs.length kj, .int .i64 s.next] 30) := HL2.out.step hu
      have HQ3 : Hid (0 ≤ q3 → JBlen s.jobs) := hq
      clear hu hq HL2
      cases h2 : decide (q3 < 0)
      · have g2 := of_decide_eq_false h2
        go_wp2
        go_ret
        exact ⟨_, rfl, q3a, q3b, fun hh => ⟨HQ1.out (by omega), HQ2.out (by omega), HQ3.out hh⟩, HB9.out ▸ HL3.out.bel⟩
      · go_wp2
        go_ret
        exact ⟨_, rfl, by omega, by omega, fun hh => absurd hh (by omega), HB9.out ▸ HL3.out.bel⟩
    · go_wp2
      go_ret
      exact ⟨_, rfl, by omega, by omega, fun hh => absurd hh (by omega), HB9.out ▸ HL2.out.bel⟩
  · go_wp2
    go_ret
    exact ⟨_, rfl, by omega, by omega, fun hh => absurd hh (by omega), HB9.out ▸ HL1.out.bel⟩
theorem cMGT : Tryz.prog.cellsOf 30 = 8 := by kernel_rfl
theorem cMGI : Tryz.prog.cellsOf 2 = 1 := by kernel_rfl
theorem cMGC : Tryz.prog.cellsOf 26 = 5 := by kernel_rfl
theorem cMGk : Tryz.prog.cellsOf 27 = 1 := by kernel_rfl
theorem cMGj : Tryz.prog.cellsOf 28 = 1 := by kernel_rfl
theorem arrayMG {α : Type} {cs : Array α} (h : cs.size = 8) : ∃ x0 x1 x2 x3 x4 x5 x6 x7, cs = #[x0, x1, x2, x3, x4, x5, x6, x7] := by
  obtain ⟨l⟩ := cs
  match l, h with
  | [x0, x1, x2, x3, x4, x5, x6, x7], _ => exact ⟨x0, x1, x2, x3, x4, x5, x6, x7, rfl⟩
set_option maxRecDepth 100000 in
theorem cl_one {H : Type} {enc : TypeId × Value → H} {W : World} {fuel : Nat} {x0 x1 x2 x3 x4 : Value} {x : DataW H × List MemPlace} (hf : DataW.trod enc Tryz.prog W 0 (fun _ => true) true fuel 26 [x0, x1, x2, x3, x4] = some x) : ∃ (s : CL), x3 = .int .i64 s.over ∧ x4 = .int .i64 s.time ∧ CLRows W s ⟨x0, x1, x2⟩ ∧ CLmax s := by
  obtain ⟨xs, n, _, hx, _, hlen, hel⟩ := DataW.trod_struct Tryz.underlying26 hf
  match xs, hlen, hel, hx with
  | [y0, y1, y2, y3, y4], _, hel, hx =>
    have g0 := hel 0 _ rfl
    have g1 := hel 1 _ rfl
    have g2 := hel 2 _ rfl
    have g3 := hel 3 _ rfl
    have g4 := hel 4 _ rfl
    have j0 : DataW.trod enc Tryz.prog W 0 (fun _ => true) true n 22 [x0] = some y0 := by simpa [cCLnodes, cCLvms, cCLtenants, cCLI] using g0
    obtain ⟨l0, r0, w0⟩ := open_nodS j0
    have j1 : DataW.trod enc Tryz.prog W 0 (fun _ => true) true n 23 [x1] = some y1 := by simpa [cCLnodes, cCLvms, cCLtenants, cCLI] using g1
    obtain ⟨l1, r1, w1⟩ := open_vmcS j1
    have j2 : DataW.trod enc Tryz.prog W 0 (fun _ => true) true n 24 [x2] = some y2 := by simpa [cCLnodes, cCLvms, cCLtenants, cCLI] using g2
    obtain ⟨l2, r2, w2⟩ := open_tntS j2
    obtain ⟨a3, e3, _, _⟩ := DataW.trod_int Tryz.underlying2 g3
    obtain ⟨a4, e4, _, _⟩ := DataW.trod_int Tryz.underlying2 g4
    simp [cCLI] at e3 e4
    subst e3 e4
    exact ⟨⟨l0, l1, l2, a3, a4⟩, rfl, rfl, ⟨r0, r1, r2⟩, ⟨w0, w1, w2⟩⟩
set_option maxRecDepth 100000 in
theorem open_MG {H : Type} {enc : TypeId × Value → H} {W : World} {base : Nat} {v : Value} {d : DataW H} {p : List MemPlace} (hv : Value.okWide Tryz.prog W .any base 30 v)
    (h : DataW.Trod enc Tryz.prog W 0 (fun _ => true) true 30 v d p) : ∃ (s : MG) (a : MGA), v = mgA s a ∧ MGRows W s a ∧ MGmax s := by
  obtain ⟨cs, rfl, hsz⟩ := okWide_struct Tryz.underlying30 hv
  obtain ⟨x0, x1, x2, x3, x4, x5, x6, x7, rfl⟩ := arrayMG (hsz.trans cMGT)
  obtain ⟨fuel, hf⟩ := h
  obtain ⟨xs, n, _, hx, _, hlen, hel⟩ := DataW.trod_struct Tryz.underlying30 hf
  match xs, hlen, hel, hx with
  | [y0, y1, y2, y3], _, hel, hx =>
    have g0 := hel 0 _ rfl
    have g1 := hel 1 _ rfl
    have g2 := hel 2 _ rfl
    have g3 := hel 3 _ rfl
    simp only [Value.cells] at g0 g1 g2 g3
    have j0 : DataW.trod enc Tryz.prog W 0 (fun _ => true) true n 26 [x0, x1, x2, x3, x4] = some y0 := by simpa [cMGC, cMGk, cMGj, cMGI] using g0
    obtain ⟨c, rfl, rfl, r0, w0⟩ := cl_one j0
    have j1 : DataW.trod enc Tryz.prog W 0 (fun _ => true) true n 27 [x5] = some y1 := by simpa [cMGC, cMGk, cMGj, cMGI] using g1
    obtain ⟨l1, r1, w1⟩ := open_ansS j1
    have j2 : DataW.trod enc Tryz.prog W 0 (fun _ => true) true n 28 [x6] = some y2 := by simpa [cMGC, cMGk, cMGj, cMGI] using g2
    obtain ⟨qs, l2, r2, n2, w2, w3⟩ := open_mjS j2
    obtain ⟨a3, e3, _, _⟩ := DataW.trod_int Tryz.underlying2 g3
    simp [cMGI] at e3
    subst e3
    exact ⟨⟨c, l1, l2, a3⟩, ⟨⟨x0, x1, x2⟩, x5, x6, qs⟩, rfl, ⟨r0, r1, r2, n2⟩, ⟨w0, w1, ⟨w2, w3⟩⟩⟩
end Go.Proofs.YtalpcjclahkgnaaGreat
