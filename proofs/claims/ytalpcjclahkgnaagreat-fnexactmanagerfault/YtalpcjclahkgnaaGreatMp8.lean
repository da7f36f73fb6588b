import Derived.Test.YtalpcjclahkgnaaGreatMp7
import Derived.Test.YtalpcjclahkgnaaGreatCs4
namespace Go.Proofs.YtalpcjclahkgnaaGreat
open Go.ChangeShapes Go.WideShapes Go.ChangeAt Go.RowKit

set_option maxRecDepth 100000 in
set_option maxHeartbeats 16000000 in
theorem specMF_any {w : World} {s : MG} {a : MGA} (h : MGRows w s a) (hl : MGlen s) : Calls Tryz.prog 5 #[mgA s a] w fun e w' => e = .returned (.int .i64 (mgV s)) ∧ Below w.heap.size w w' := by
  obtain ⟨an, kn, av, kv, ae, ke, ak, kk, aj, kj, e⟩ := h.sl
  have HL0 : Hid (LG w (w.alloc (.cells #[.slice an s.c.nodes.length kn, .slice av s.c.vms.length kv, .slice ae s.c.tenants.length ke, .int .i64 s.c.over, .int .i64 s.c.time, .slice ak s.kept.length kk, .slice aj s.jobs.length kj, .int .i64 s.next] 41)) w.heap.size #[.slice an s.c.nodes.length kn, .slice av s.c.vms.length kv, .slice ae s.c.tenants.length ke, .int .i64 s.c.over, .int .i64 s.c.time, .slice ak s.kept.length kk, .slice aj s.jobs.length kj, .int .i64 s.next] 41) := LG.new w _ _
  have hrk : ANSrow w (.slice ak s.kept.length kk) s.kept ∧ MJrow w (.slice aj s.jobs.length kj) a.qj ∧ CLRows w s.c ⟨.slice an s.c.nodes.length kn, .slice av s.c.vms.length kv, .slice ae s.c.tenants.length ke⟩ := by
    have h1 := h.rk
    have h2 := h.rj
    have h3 := h.rc
    rw [e] at h1 h2 h3
    exact ⟨h1, h2, h3⟩
  have HR : Hid (ANSrow w (.slice ak s.kept.length kk) s.kept) := hrk.1
  have HRJ : Hid (MJrow w (.slice aj s.jobs.length kj) a.qj) := hrk.2.1
  have HP : Hid (JBin w a.qj s.jobs) := h.nj
  have HQ : Hid (a.qj.length = s.jobs.length) := h.nj.len
  have HLJ : Hid (JBlen s.jobs) := hl.lj
  obtain ⟨hl1, hl2⟩ := hl.lk
  have hl3 := hl.lj.len
  have HZ : Hid (∀ z ∈ s.kept, z.ask.size ≤ 1048576 ∧ z.reply.size ≤ 1048576) := hl2
  have HCF : Hid (∀ u, Below w.heap.size w u → Calls Tryz.prog 12 #[.agg #[.slice an s.c.nodes.length kn, .slice av s.c.vms.length kv, .slice ae s.c.tenants.length ke, .int .i64 s.c.over, .int .i64 s.c.time]] u fun e w' => e = .returned (.int .i64 (cfV s.c)) ∧ Below u.heap.size u w') := fun u hu => specCF_any (s := s.c) (a := ⟨.slice an s.c.nodes.length kn, .slice av s.c.vms.length kv, .slice ae s.c.tenants.length ke⟩) (hrk.2.2.below hu) hl.lc
  have E : Hid (mgV s = if (bdM s && allD (skk s.kept) s.kept.length && allD (sjk s) s.jobs.length && cfB s.c) = true then 0 else 1) := (show _ = _ by unfold mgV mgB; rw [kp_eq, js_eq])
  have ECF : Hid (cfV s.c = if cfB s.c = true then 0 else 1) := rfl
  have EBD : Hid (bdM s = (decide (s.kept.length ≤ 20) && decide (s.jobs.length ≤ 20) && decide (1 ≤ s.next) && decide (s.next ≤ 1099511627776))) := rfl
  have a0 : (0 : Int) ≤ (s.kept.length : Int) := by omega
  have a1 : (s.kept.length : Int) ≤ 1048576 := by omega
  have b0 : (0 : Int) ≤ (s.jobs.length : Int) := by omega
  have b1 : (s.jobs.length : Int) ≤ 1048576 := by omega
  generalize a.qj = qs at *
  subst e
  clear h hl hrk hl2
  unfold mgA mgC
  simp only
  generalize mgV s = V at *
  generalize cfV s.c = CV at *
  generalize bdM s = BD at *
  cases hcf : cfB s.c
  · have E2 : Hid (V = 1) := (show V = 1 by rw [E.out, hcf]; simp)
    have hcv : CV = 1 := by rw [ECF.out, hcf]; rfl
    subst hcv
    clear E EBD hcf ECF
    go_enter Tryz.func5, Tryz.ntmps5
    go_upto_region 1 with fail
    generalize (w.alloc (.cells #[.slice an s.c.nodes.length kn, .slice av s.c.vms.length kv, .slice ae s.c.tenants.length ke, .int .i64 s.c.over, .int .i64 s.c.time, .slice ak s.kept.length kk, .slice aj s.jobs.length kj, .int .i64 s.next] 41)) = u0 at *
    generalize hbb : w.heap.size = bb at HL0 ⊢
    have HB9 : Hid (w.heap.size = bb) := hbb
    clear hbb
    have k0 := HL0.out.cel 0 _ rfl
    have k1 := HL0.out.cel 1 _ rfl
    have k2 := HL0.out.cel 2 _ rfl
    have k3 := HL0.out.cel 3 _ rfl
    have k4 := HL0.out.cel 4 _ rfl
    have k5 := HL0.out.cel 5 _ rfl
    have k6 := HL0.out.cel 6 _ rfl
    have k7 := HL0.out.cel 7 _ rfl
    have kl := HL0.out.lt
    go_wp2_with (go_at_call 12; refine Calls.mono (HCF.out _ HL0.out.bel) ?_; rintro e u1 ⟨rfl, hb⟩; have HL1 : Hid (LG w u1 bb #[.slice an s.c.nodes.length kn, .slice av s.c.vms.length kv, .slice ae s.c.tenants.length ke, .int .i64 s.c.over, .int .i64 s.c.time, .slice ak s.kept.length kk, .slice aj s.jobs.length kj, .int .i64 s.next] 41) := HL0.out.step hb; have c5 := HL1.out.cel 5 _ rfl; have c6 := HL1.out.cel 6 _ rfl; have c7 := HL1.out.cel 7 _ rfl; have cl := HL1.out.lt; clear hb)
    go_ret
    exact ⟨ret_int E2.out.symm, HB9.out ▸ HL1.out.bel⟩
  have hcv : CV = 0 := by rw [ECF.out, hcf]; rfl
  subst hcv
  rw [hcf] at E
  clear hcf ECF
  cases t0 : decide (20 < (s.kept.length : Int))
  rotate_left
  · have E2 : Hid (V = 1) := (show V = 1 by rw [E.out, EBD.out, show decide (s.kept.length ≤ 20) = false from decide_eq_false (by have := of_decide_eq_true t0; omega)]; simp)
    clear E EBD
    go_enter Tryz.func5, Tryz.ntmps5
    go_upto_region 1 with fail
    generalize (w.alloc (.cells #[.slice an s.c.nodes.length kn, .slice av s.c.vms.length kv, .slice ae s.c.tenants.length ke, .int .i64 s.c.over, .int .i64 s.c.time, .slice ak s.kept.length kk, .slice aj s.jobs.length kj, .int .i64 s.next] 41)) = u0 at *
    generalize hbb : w.heap.size = bb at HL0 ⊢
    have HB9 : Hid (w.heap.size = bb) := hbb
    clear hbb
    have k0 := HL0.out.cel 0 _ rfl
    have k1 := HL0.out.cel 1 _ rfl
    have k2 := HL0.out.cel 2 _ rfl
    have k3 := HL0.out.cel 3 _ rfl
    have k4 := HL0.out.cel 4 _ rfl
    have k5 := HL0.out.cel 5 _ rfl
    have k6 := HL0.out.cel 6 _ rfl
    have k7 := HL0.out.cel 7 _ rfl
    have kl := HL0.out.lt
    go_wp2_with (go_at_call 12; refine Calls.mono (HCF.out _ HL0.out.bel) ?_; rintro e u1 ⟨rfl, hb⟩; have HL1 : Hid (LG w u1 bb #[.slice an s.c.nodes.length kn, .slice av s.c.vms.length kv, .slice ae s.c.tenants.length ke, .int .i64 s.c.over, .int .i64 s.c.time, .slice ak s.kept.length kk, .slice aj s.jobs.length kj, .int .i64 s.next] 41) := HL0.out.step hb; have c5 := HL1.out.cel 5 _ rfl; have c6 := HL1.out.cel 6 _ rfl; have c7 := HL1.out.cel 7 _ rfl; have cl := HL1.out.lt; clear hb)
    go_ret
    exact ⟨ret_int E2.out.symm, HB9.out ▸ HL1.out.bel⟩
  cases t1 : decide (20 < (s.jobs.length : Int))
  rotate_left
  · have E2 : Hid (V = 1) := (show V = 1 by rw [E.out, EBD.out, show decide (s.jobs.length ≤ 20) = false from decide_eq_false (by have := of_decide_eq_true t1; omega)]; simp)
    clear E EBD
    go_enter Tryz.func5, Tryz.ntmps5
    go_upto_region 1 with fail
    generalize (w.alloc (.cells #[.slice an s.c.nodes.length kn, .slice av s.c.vms.length kv, .slice ae s.c.tenants.length ke, .int .i64 s.c.over, .int .i64 s.c.time, .slice ak s.kept.length kk, .slice aj s.jobs.length kj, .int .i64 s.next] 41)) = u0 at *
    generalize hbb : w.heap.size = bb at HL0 ⊢
    have HB9 : Hid (w.heap.size = bb) := hbb
    clear hbb
    have k0 := HL0.out.cel 0 _ rfl
    have k1 := HL0.out.cel 1 _ rfl
    have k2 := HL0.out.cel 2 _ rfl
    have k3 := HL0.out.cel 3 _ rfl
    have k4 := HL0.out.cel 4 _ rfl
    have k5 := HL0.out.cel 5 _ rfl
    have k6 := HL0.out.cel 6 _ rfl
    have k7 := HL0.out.cel 7 _ rfl
    have kl := HL0.out.lt
    go_wp2_with (go_at_call 12; refine Calls.mono (HCF.out _ HL0.out.bel) ?_; rintro e u1 ⟨rfl, hb⟩; have HL1 : Hid (LG w u1 bb #[.slice an s.c.nodes.length kn, .slice av s.c.vms.length kv, .slice ae s.c.tenants.length ke, .int .i64 s.c.over, .int .i64 s.c.time, .slice ak s.kept.length kk, .slice aj s.jobs.length kj, .int .i64 s.next] 41) := HL0.out.step hb; have c5 := HL1.out.cel 5 _ rfl; have c6 := HL1.out.cel 6 _ rfl; have c7 := HL1.out.cel 7 _ rfl; have cl := HL1.out.lt; clear hb)
    go_ret
    exact ⟨ret_int E2.out.symm, HB9.out ▸ HL1.out.bel⟩
  cases t2 : decide (s.next < 1)
  rotate_left
  · have E2 : Hid (V = 1) := (show V = 1 by rw [E.out, EBD.out, show decide (1 ≤ s.next) = false from decide_eq_false (by have := of_decide_eq_true t2; omega)]; simp)
    clear E EBD
    go_enter Tryz.func5, Tryz.ntmps5
    go_upto_region 1 with fail
    generalize (w.alloc (.cells #[.slice an s.c.nodes.length kn, .slice av s.c.vms.length kv, .slice ae s.c.tenants.length ke, .int .i64 s.c.over, .int .i64 s.c.time, .slice ak s.kept.length kk, .slice aj s.jobs.length kj, .int .i64 s.next] 41)) = u0 at *
    generalize hbb : w.heap.size = bb at HL0 ⊢
    have HB9 : Hid (w.heap.size = bb) := hbb
    clear hbb
    have k0 := HL0.out.cel 0 _ rfl
    have k1 := HL0.out.cel 1 _ rfl
    have k2 := HL0.out.cel 2 _ rfl
    have k3 := HL0.out.cel 3 _ rfl
    have k4 := HL0.out.cel 4 _ rfl
    have k5 := HL0.out.cel 5 _ rfl
    have k6 := HL0.out.cel 6 _ rfl
    have k7 := HL0.out.cel 7 _ rfl
    have kl := HL0.out.lt
    go_wp2_with (go_at_call 12; refine Calls.mono (HCF.out _ HL0.out.bel) ?_; rintro e u1 ⟨rfl, hb⟩; have HL1 : Hid (LG w u1 bb #[.slice an s.c.nodes.length kn, .slice av s.c.vms.length kv, .slice ae s.c.tenants.length ke, .int .i64 s.c.over, .int .i64 s.c.time, .slice ak s.kept.length kk, .slice aj s.jobs.length kj, .int .i64 s.next] 41) := HL0.out.step hb; have c5 := HL1.out.cel 5 _ rfl; have c6 := HL1.out.cel 6 _ rfl; have c7 := HL1.out.cel 7 _ rfl; have cl := HL1.out.lt; clear hb)
    go_ret
    exact ⟨ret_int E2.out.symm, HB9.out ▸ HL1.out.bel⟩
  cases t3 : decide (1099511627776 < s.next)
  rotate_left
  · have E2 : Hid (V = 1) := (show V = 1 by rw [E.out, EBD.out, show decide (s.next ≤ 1099511627776) = false from decide_eq_false (by have := of_decide_eq_true t3; omega)]; simp)
    clear E EBD
    go_enter Tryz.func5, Tryz.ntmps5
    go_upto_region 1 with fail
    generalize (w.alloc (.cells #[.slice an s.c.nodes.length kn, .slice av s.c.vms.length kv, .slice ae s.c.tenants.length ke, .int .i64 s.c.over, .int .i64 s.c.time, .slice ak s.kept.length kk, .slice aj s.jobs.length kj, .int .i64 s.next] 41)) = u0 at *
    generalize hbb : w.heap.size = bb at HL0 ⊢
    have HB9 : Hid (w.heap.size = bb) := hbb
    clear hbb
    have k0 := HL0.out.cel 0 _ rfl
    have k1 := HL0.out.cel 1 _ rfl
    have k2 := HL0.out.cel 2 _ rfl
    have k3 := HL0.out.cel 3 _ rfl
    have k4 := HL0.out.cel 4 _ rfl
    have k5 := HL0.out.cel 5 _ rfl
    have k6 := HL0.out.cel 6 _ rfl
    have k7 := HL0.out.cel 7 _ rfl
    have kl := HL0.out.lt
    go_wp2_with (go_at_call 12; refine Calls.mono (HCF.out _ HL0.out.bel) ?_; rintro e u1 ⟨rfl, hb⟩; have HL1 : Hid (LG w u1 bb #[.slice an s.c.nodes.length kn, .slice av s.c.vms.length kv, .slice ae s.c.tenants.length ke, .int .i64 s.c.over, .int .i64 s.c.time, .slice ak s.kept.length kk, .slice aj s.jobs.length kj, .int .i64 s.next] 41) := HL0.out.step hb; have c5 := HL1.out.cel 5 _ rfl; have c6 := HL1.out.cel 6 _ rfl; have c7 := HL1.out.cel 7 _ rfl; have cl := HL1.out.lt; clear hb)
    go_ret
    exact ⟨ret_int E2.out.symm, HB9.out ▸ HL1.out.bel⟩
  have hbd : BD = true := by rw [EBD.out, show decide (s.kept.length ≤ 20) = true from decide_eq_true (by have := of_decide_eq_false t0; omega), show decide (s.jobs.length ≤ 20) = true from decide_eq_true (by have := of_decide_eq_false t1; omega), show decide (1 ≤ s.next) = true from decide_eq_true (by have := of_decide_eq_false t2; omega), show decide (s.next ≤ 1099511627776) = true from decide_eq_true (by have := of_decide_eq_false t3; omega)]; rfl
  subst hbd
  have E1 : Hid (V = if (allD (skk s.kept) s.kept.length && allD (sjk s) s.jobs.length) = true then 0 else 1) := (show V = _ by rw [E.out]; simp)
  clear E EBD
  go_enter Tryz.func5, Tryz.ntmps5
  go_upto_region 1 with fail
  generalize (w.alloc (.cells #[.slice an s.c.nodes.length kn, .slice av s.c.vms.length kv, .slice ae s.c.tenants.length ke, .int .i64 s.c.over, .int .i64 s.c.time, .slice ak s.kept.length kk, .slice aj s.jobs.length kj, .int .i64 s.next] 41)) = u0 at *
  generalize hbb : w.heap.size = bb at HL0 ⊢
  have HB9 : Hid (w.heap.size = bb) := hbb
  clear hbb
  have k0 := HL0.out.cel 0 _ rfl
  have k1 := HL0.out.cel 1 _ rfl
  have k2 := HL0.out.cel 2 _ rfl
  have k3 := HL0.out.cel 3 _ rfl
  have k4 := HL0.out.cel 4 _ rfl
  have k5 := HL0.out.cel 5 _ rfl
  have k6 := HL0.out.cel 6 _ rfl
  have k7 := HL0.out.cel 7 _ rfl
  have kl := HL0.out.lt
  go_upto_region 3 with (go_at_call 12; refine Calls.mono (HCF.out _ HL0.out.bel) ?_; rintro e u1 ⟨rfl, hb⟩; have HL1 : Hid (LG w u1 bb #[.slice an s.c.nodes.length kn, .slice av s.c.vms.length kv, .slice ae s.c.tenants.length ke, .int .i64 s.c.over, .int .i64 s.c.time, .slice ak s.kept.length kk, .slice aj s.jobs.length kj, .int .i64 s.next] 41) := HL0.out.step hb; have c5 := HL1.out.cel 5 _ rfl; have c6 := HL1.out.cel 6 _ rfl; have c7 := HL1.out.cel 7 _ rfl; have cl := HL1.out.lt; clear hb)
  clear k0 k1 k2 k3 k4 k5 k6 k7 kl c5 c6 c7 cl t0 t1 t2 t3 HL0 HCF
  go_wp2
  go_loopw [3] (fun i wr => ∃ k : Nat, k ≤ s.kept.length ∧ i = .int .i64 k ∧ allD (skk s.kept) k = true ∧ LG w wr bb #[.slice an s.c.nodes.length kn, .slice av s.c.vms.length kv, .slice ae s.c.tenants.length ke, .int .i64 s.c.over, .int .i64 s.c.time, .slice ak s.kept.length kk, .slice aj s.jobs.length kj, .int .i64 s.next] 41) (fun i _ => s.kept.length - (intOf i).toNat)
  case atStart => exact ⟨0, Nat.zero_le _, rfl, rfl, HL1.out⟩
  case round =>
    obtain ⟨k, hk, rfl, hok, hlg⟩ := hrel
    have HOK : Hid (allD (skk s.kept) k = true) := hok
    have HLG : Hid (LG w wr bb #[.slice an s.c.nodes.length kn, .slice av s.c.vms.length kv, .slice ae s.c.tenants.length ke, .int .i64 s.c.over, .int .i64 s.c.time, .slice ak s.kept.length kk, .slice aj s.jobs.length kj, .int .i64 s.next] 41) := hlg
    clear hok hlg HL1
    have m5 := HLG.out.cel 5 _ rfl
    have ml := HLG.out.lt
    by_cases hlt : k < s.kept.length
    · obtain ⟨g, o, cap2, hv, _, hg, hc⟩ := HR.out.resolve_left (fun h => by rw [h.1] at hlt; simp at hlt)
      injection hv with hv1 hv2 hv3
      subst hv1 hv3
      obtain ⟨d0, d1, d2⟩ := hc.below HLG.out.bel hg k hlt
      have hgw : g < wr.heap.size := Nat.lt_of_lt_of_le hg HLG.out.bel.size
      have hk0 : (0 : Int) ≤ (k : Int) := by omega
      have hk1 : (k : Int) < (s.kept.length : Int) := by omega
      obtain ⟨z1, z2⟩ := HZ.out s.kept[k] (List.getElem_mem hlt)
      have HSK : Hid (skk s.kept k = (asB s.kept[k] && allD (idk s.kept k) k)) := (show _ = _ by unfold skk; rw [anA_at hlt])
      have HID : Hid (∀ (j : Nat) (hj : j < s.kept.length), idk s.kept k j = !((s.kept[j]).id == (s.kept[k]).id)) := fun j hj => (show _ = _ by unfold idk; rw [anA_at hj, anA_at hlt])
      have HCK : Hid (∀ (u : World) (j : Nat) (hj : j < s.kept.length), Below w.heap.size w u → u.cell? ⟨g, o + j * 3, none⟩ = some (.int .i64 (s.kept[j]).id) ∧ g < u.heap.size) := fun u j hj hu => ⟨(hc.below hu hg j hj).1, Nat.lt_of_lt_of_le hg hu.size⟩
      have s0 : (0 : Int) ≤ (s.kept[k].ask.size : Int) := by omega
      have s1 : (s.kept[k].ask.size : Int) ≤ 1048576 := by omega
      have s2 : (0 : Int) ≤ (s.kept[k].reply.size : Int) := by omega
      have s3 : (s.kept[k].reply.size : Int) ≤ 1048576 := by omega
      have HAB : Hid (asB s.kept[k] = (decide (1 ≤ s.kept[k].id) && decide (s.kept[k].id ≤ 999999999) && decide (s.kept[k].ask.size ≤ 400) && decide (s.kept[k].reply.size ≤ 400))) := rfl
      clear hc hv2 z1 z2
      obtain ⟨z, hz⟩ : ∃ z, s.kept[k] = z := ⟨_, rfl⟩
      rw [hz] at d0 d1 d2 HSK s0 s1 s2 s3 HAB
      have HID2 : Hid (∀ (j : Nat) (hj : j < s.kept.length), idk s.kept k j = !((s.kept[j]).id == z.id)) := fun j hj => (show _ = _ by rw [← hz]; exact HID.out j hj)
      clear HID hz
      have HLN : Hid (LG w (wr.alloc (.cells #[.int .i64 z.id, .string z.ask, .string z.reply] 50)) wr.heap.size #[.int .i64 z.id, .string z.ask, .string z.reply] 50) := ⟨HLG.out.bel.trans ((bx1 wr _).mono HLG.out.bel.size), heap_new _ _, HLG.out.bel.size⟩
      have HLM : Hid (LG w (wr.alloc (.cells #[.int .i64 z.id, .string z.ask, .string z.reply] 50)) bb #[.slice an s.c.nodes.length kn, .slice av s.c.vms.length kv, .slice ae s.c.tenants.length ke, .int .i64 s.c.over, .int .i64 s.c.time, .slice (some ⟨g, o, none⟩) s.kept.length kk, .slice aj s.jobs.length kj, .int .i64 s.next] 41) := HLG.out.step (bx1 _ _)
      go_upto_region 7 with fail
      clear d0 d1 d2 hgw HLG m5 ml
      generalize (wr.alloc (.cells #[.int .i64 z.id, .string z.ask, .string z.reply] 50)) = v0 at *
      generalize wr.heap.size = bn at *
      have k0 := HLN.out.cel 0 _ rfl
      have k1 := HLN.out.cel 1 _ rfl
      have k2 := HLN.out.cel 2 _ rfl
      have kl := HLN.out.lt
      cases t0 : decide (z.id < 1)
      rotate_left
      · have hbad : skk s.kept k = false := by rw [HSK.out, HAB.out, show decide (1 ≤ z.id) = false from decide_eq_false (by have := of_decide_eq_true t0; omega)]; simp
        have E2 : Hid (V = 1) := (show V = 1 by rw [E1.out, allD_badI hlt hbad]; rfl)
        clear hbad
        go_wp2
        go_ret
        exact ⟨ret_int E2.out.symm, HB9.out ▸ HLN.out.bel⟩
      cases t1 : decide (999999999 < z.id)
      rotate_left
      · have hbad : skk s.kept k = false := by rw [HSK.out, HAB.out, show decide (z.id ≤ 999999999) = false from decide_eq_false (by have := of_decide_eq_true t1; omega)]; simp
        have E2 : Hid (V = 1) := (show V = 1 by rw [E1.out, allD_badI hlt hbad]; rfl)
        clear hbad
        go_wp2
        go_ret
        exact ⟨ret_int E2.out.symm, HB9.out ▸ HLN.out.bel⟩
      cases t2 : decide (400 < (z.ask.size : Int))
      rotate_left
      · have hbad : skk s.kept k = false := by rw [HSK.out, HAB.out, show decide (z.ask.size ≤ 400) = false from decide_eq_false (by have := of_decide_eq_true t2; omega)]; simp
        have E2 : Hid (V = 1) := (show V = 1 by rw [E1.out, allD_badI hlt hbad]; rfl)
        clear hbad
        go_wp2
        go_ret
        exact ⟨ret_int E2.out.symm, HB9.out ▸ HLN.out.bel⟩
      cases t3 : decide (400 < (z.reply.size : Int))
      rotate_left
      · have hbad : skk s.kept k = false := by rw [HSK.out, HAB.out, show decide (z.reply.size ≤ 400) = false from decide_eq_false (by have := of_decide_eq_true t3; omega)]; simp
        have E2 : Hid (V = 1) := (show V = 1 by rw [E1.out, allD_badI hlt hbad]; rfl)
        clear hbad
        go_wp2
        go_ret
        exact ⟨ret_int E2.out.symm, HB9.out ▸ HLN.out.bel⟩
      have hab : asB z = true := by rw [HAB.out, show decide (1 ≤ z.id) = true from decide_eq_true (by have := of_decide_eq_false t0; omega), show decide (z.id ≤ 999999999) = true from decide_eq_true (by have := of_decide_eq_false t1; omega), show decide (z.ask.size ≤ 400) = true from decide_eq_true (by have := of_decide_eq_false t2; omega), show decide (z.reply.size ≤ 400) = true from decide_eq_true (by have := of_decide_eq_false t3; omega)]; rfl
      have HSK2 : Hid (skk s.kept k = allD (idk s.kept k) k) := (show _ = _ by rw [HSK.out, hab]; rfl)
      clear hab HSK HAB
      go_upto_region 9 with fail
      clear k0 k1 k2 kl t0 t1 t2 t3 s0 s1 s2 s3
      go_wp2
      go_loopw [5] (fun i wr2 => ∃ j : Nat, j ≤ k ∧ i = .int .i64 j ∧ allD (idk s.kept k) j = true ∧ LG w wr2 bn #[.int .i64 z.id, .string z.ask, .string z.reply] 50 ∧ LG w wr2 bb #[.slice an s.c.nodes.length kn, .slice av s.c.vms.length kv, .slice ae s.c.tenants.length ke, .int .i64 s.c.over, .int .i64 s.c.time, .slice (some ⟨g, o, none⟩) s.kept.length kk, .slice aj s.jobs.length kj, .int .i64 s.next] 41) (fun i _ => k - (intOf i).toNat)
      case atStart => exact ⟨0, Nat.zero_le _, rfl, rfl, HLN.out, HLM.out⟩
      case round =>
        obtain ⟨j, hj, rfl, hoj, hln, hlm⟩ := hrel
        have HOJ : Hid (allD (idk s.kept k) j = true) := hoj
        have HLN2 : Hid (LG w wr bn #[.int .i64 z.id, .string z.ask, .string z.reply] 50) := hln
        have HLM2 : Hid (LG w wr bb #[.slice an s.c.nodes.length kn, .slice av s.c.vms.length kv, .slice ae s.c.tenants.length ke, .int .i64 s.c.over, .int .i64 s.c.time, .slice (some ⟨g, o, none⟩) s.kept.length kk, .slice aj s.jobs.length kj, .int .i64 s.next] 41) := hlm
        clear hoj hln hlm HLN HLM
        by_cases hjk : j < k
        · have hjl : j < s.kept.length := by omega
          have HCJ0 : Hid (∀ u, Below w.heap.size w u → u.cell? ⟨g, o + j * 3, none⟩ = some (.int .i64 (s.kept[j]).id) ∧ g < u.heap.size) := fun u hu => HCK.out u j hjl hu
          have HJD : Hid (idk s.kept k j = !((s.kept[j]).id == z.id)) := HID2.out j hjl
          have hj0 : (0 : Int) ≤ (j : Int) := by omega
          have hj1 : (j : Int) < (s.kept.length : Int) := by omega
          have hj2 : (j : Int) < (k : Int) := by omega
          obtain ⟨y, hy⟩ : ∃ y, (s.kept[j]).id = y := ⟨_, rfl⟩
          have HCJ : Hid (∀ u, Below w.heap.size w u → u.cell? ⟨g, o + j * 3, none⟩ = some (.int .i64 y) ∧ g < u.heap.size) := fun u hu => (by have h9 := HCJ0.out u hu; rw [hy] at h9; exact h9)
          have HJD2 : Hid (idk s.kept k j = !(y == z.id)) := (show _ = _ by rw [← hy]; exact HJD.out)
          clear HCJ0 HJD hy
          go_upto_region 12 with fail
          have HSB : Hid (LG w wr.drew bn #[.int .i64 z.id, .string z.ask, .string z.reply] 50 ∧ LG w wr.drew bb #[.slice an s.c.nodes.length kn, .slice av s.c.vms.length kv, .slice ae s.c.tenants.length ke, .int .i64 s.c.over, .int .i64 s.c.time, .slice (some ⟨g, o, none⟩) s.kept.length kk, .slice aj s.jobs.length kj, .int .i64 s.next] 41) := ⟨HLN2.out.drew, HLM2.out.drew⟩
          refine wp_region_held (S := fun w9 => LG w w9 bn #[.int .i64 z.id, .string z.ask, .string z.reply] 50 ∧ LG w w9 bb #[.slice an s.c.nodes.length kn, .slice av s.c.vms.length kv, .slice ae s.c.tenants.length ke, .int .i64 s.c.over, .int .i64 s.c.time, .slice (some ⟨g, o, none⟩) s.kept.length kk, .slice aj s.jobs.length kj, .int .i64 s.next] 41) (by kernel_rfl) ?_
          change wpAnyH _ _ _ _ _ _ _ _ (World.drew _)
          refine wpAnyH_take (i := 0) (v := .pointer (some ⟨bb, 5, none⟩)) rfl (by kernel_rfl) (by kernel_rfl) (by kernel_rfl) (fun _ _ _ h => h) (Or.inl ⟨by kernel_rfl, fun w9 h9 => ?_⟩) HSB.out ?_
          · go_simp
          refine wpAnyH_take (i := 1) (v := .slice (some ⟨g, o, none⟩) s.kept.length kk) rfl (by kernel_rfl) (by kernel_rfl) (by kernel_rfl) (fun _ _ _ h => h) (Or.inl ⟨by kernel_rfl, fun w9 h9 => ?_⟩) HSB.out ?_
          · have k0 := h9.1.cel 0 _ rfl; have kl := h9.1.lt; have m5 := h9.2.cel 5 _ rfl; have ml := h9.2.lt; obtain ⟨dj, gl⟩ := HCJ.out _ h9.1.bel; clear h9; go_simp
          refine wpAnyH_take (i := 2) (v := .int .i64 (j : Int)) rfl (by kernel_rfl) (by kernel_rfl) (by kernel_rfl) (fun _ _ _ h => h) (Or.inl ⟨by kernel_rfl, fun w9 h9 => ?_⟩) HSB.out ?_
          · go_simp
          refine wpAnyH_take (i := 3) (v := .pointer (some ⟨g, o + j * 3, none⟩)) rfl (by kernel_rfl) (by kernel_rfl) (by kernel_rfl) (fun _ _ _ h => h) (Or.inl ⟨by kernel_rfl, fun w9 h9 => ?_⟩) HSB.out ?_
          · go_simp
          refine wpAnyH_take (i := 4) (v := .pointer (some ⟨g, o + j * 3, none⟩)) rfl (by kernel_rfl) (by kernel_rfl) (by kernel_rfl) (fun _ _ _ h => h) (Or.inl ⟨by kernel_rfl, fun w9 h9 => ?_⟩) HSB.out ?_
          · go_simp
          refine wpAnyH_take (i := 5) (v := .int .i64 y) rfl (by kernel_rfl) (by kernel_rfl) (by kernel_rfl) (fun _ _ _ h => h) (Or.inl ⟨by kernel_rfl, fun w9 h9 => ?_⟩) HSB.out ?_
          · have k0 := h9.1.cel 0 _ rfl; have kl := h9.1.lt; have m5 := h9.2.cel 5 _ rfl; have ml := h9.2.lt; obtain ⟨dj, gl⟩ := HCJ.out _ h9.1.bel; clear h9; go_simp
          refine wpAnyH_take (i := 6) (v := .pointer (some ⟨bn, 0, none⟩)) rfl (by kernel_rfl) (by kernel_rfl) (by kernel_rfl) (fun _ _ _ h => h) (Or.inl ⟨by kernel_rfl, fun w9 h9 => ?_⟩) HSB.out ?_
          · go_simp
          refine wpAnyH_take (i := 7) (v := .int .i64 z.id) rfl (by kernel_rfl) (by kernel_rfl) (by kernel_rfl) (fun _ _ _ h => h) (Or.inl ⟨by kernel_rfl, fun w9 h9 => ?_⟩) HSB.out ?_
          · have k0 := h9.1.cel 0 _ rfl; have kl := h9.1.lt; have m5 := h9.2.cel 5 _ rfl; have ml := h9.2.lt; obtain ⟨dj, gl⟩ := HCJ.out _ h9.1.bel; clear h9; go_simp
          refine wpAnyH_take (i := 8) (v := .bool (y == z.id)) rfl (by kernel_rfl) (by kernel_rfl) (by kernel_rfl) (fun _ _ _ h => h) (Or.inl ⟨by kernel_rfl, fun w9 h9 => ?_⟩) HSB.out ?_
          · go_simp
          refine wpAnyH_done (by kernel_rfl) ?_ _
          go_simp
          cases hq : (y == z.id)
          · have hoj2 : Hid (allD (idk s.kept k) (j + 1) = true) := (show _ = _ by rw [allD_succ, HOJ.out, HJD2.out, hq]; rfl)
            go_wp2
            exact ⟨⟨j + 1, by omega, by go_num, hoj2.out, HSB.out.1, HSB.out.2⟩, by simp [intOf]; omega⟩
          · have hbad : skk s.kept k = false := by rw [HSK2.out, allD_badI hjk (HJD2.out.trans (by rw [hq]; rfl))]
            have E2 : Hid (V = 1) := (show V = 1 by rw [E1.out, allD_badI hlt hbad]; rfl)
            clear hbad
            go_wp2
            go_ret
            exact ⟨ret_int E2.out.symm, HB9.out ▸ HSB.out.1.bel⟩
        · obtain rfl : j = k := by omega
          have hok2 : Hid (allD (skk s.kept) (j + 1) = true) := (show _ = _ by rw [allD_succ, HOK.out, HSK2.out, HOJ.out]; rfl)
          have hnl : ¬ ((j : Nat) : Int) < (j : Int) := by omega
          go_wp2
          exact ⟨⟨j + 1, hlt, by go_num, hok2.out, HLM2.out⟩, by simp [intOf]; omega⟩
    · obtain rfl : k = s.kept.length := by omega
      have hnl : ¬ ((s.kept.length : Nat) : Int) < (s.kept.length : Int) := by omega
      have E3 : Hid (V = if allD (sjk s) s.jobs.length = true then 0 else 1) := (show V = _ by rw [E1.out, HOK.out, Bool.true_and])
      clear E1 HOK HR HZ
      go_wp2
      clear m5 ml
      generalize wr = wa at *
      go_loopw [6] (fun i wr3 => ∃ k : Nat, k ≤ s.jobs.length ∧ i = .int .i64 k ∧ allD (sjk s) k = true ∧ LG w wr3 bb #[.slice an s.c.nodes.length kn, .slice av s.c.vms.length kv, .slice ae s.c.tenants.length ke, .int .i64 s.c.over, .int .i64 s.c.time, .slice ak s.kept.length kk, .slice aj s.jobs.length kj, .int .i64 s.next] 41) (fun i _ => s.jobs.length - (intOf i).toNat)
      case atStart => exact ⟨0, Nat.zero_le _, rfl, rfl, by first | exact HLG.out | exact HLG.out.drew⟩
      case round =>
        obtain ⟨k, hk, rfl, hok, hlg⟩ := hrel
        have HOK : Hid (allD (sjk s) k = true) := hok
        have HLG3 : Hid (LG w wr bb #[.slice an s.c.nodes.length kn, .slice av s.c.vms.length kv, .slice ae s.c.tenants.length ke, .int .i64 s.c.over, .int .i64 s.c.time, .slice ak s.kept.length kk, .slice aj s.jobs.length kj, .int .i64 s.next] 41) := hlg
        clear hok hlg HLG
        have m6 := HLG3.out.cel 6 _ rfl
        have ml := HLG3.out.lt
        by_cases hlt : k < s.jobs.length
        · have hkq : k < qs.length := by rw [HQ.out]; exact hlt
          obtain ⟨g, o, cap2, hv, _, hg, hc⟩ := HRJ.out.resolve_left (fun h => by rw [h.1] at hkq; simp at hkq)
          injection hv with hv1 hv2 hv3
          subst hv1 hv3
          obtain ⟨d0, d1, d2, d3, d4⟩ := hc.below HLG3.out.bel hg k hkq
          have hgw : g < wr.heap.size := Nat.lt_of_lt_of_le hg HLG3.out.bel.size
          obtain ⟨p0, p1⟩ := HP.out.el k hkq hlt
          rw [p0] at d0 d1 d3 d4
          unfold jbQ at d0 d1 d3 d4
          simp only at d0 d1 d3 d4
          have hk0 : (0 : Int) ≤ (k : Int) := by omega
          have hk1 : (k : Int) < (s.jobs.length : Int) := by omega
          have HCN : Hid (∀ (i : Nat) (hi : i < s.jobs.length) (u : World), Below w.heap.size w u → u.cell? ⟨g, o + i * 5, none⟩ = some (.int .i64 (s.jobs[i]).number) ∧ g < u.heap.size) := fun i hi u hu => by
            have hiq : i < qs.length := by rw [HQ.out]; exact hi
            obtain ⟨e0, _⟩ := hc.below hu hg i hiq
            obtain ⟨p9, _⟩ := HP.out.el i hiq hi
            rw [p9] at e0
            exact ⟨e0, Nat.lt_of_lt_of_le hg hu.size⟩
          have HSK : Hid (sjk s k = (jbB s.jobs[k] && nxB s.next (s.jobs[k]).number && (decide (k = 0) || decide ((jA s.jobs (k - 1)).number < (s.jobs[k]).number)))) := (show _ = _ by unfold sjk; rw [jA_at hlt])
          have HSJ0 : Hid (∀ u, Below w.heap.size w u → Calls Tryz.prog 13 #[jbA s.jobs[k] qs[k].left] u fun e w' => e = .returned (.bool (jbB s.jobs[k])) ∧ Below u.heap.size u w') := fun u hu => l23Job_any s.jobs[k] (p1.below hu) (HLJ.out.el k hlt)
          obtain ⟨al, kl, hyl⟩ := p1.sl
          rw [hyl] at d2 HSJ0
          clear hc hv2 p0 p1 hyl
          unfold jbA jbC at HSJ0
          obtain ⟨j, hj⟩ : ∃ j, s.jobs[k] = j := ⟨_, rfl⟩
          rw [hj] at d0 d1 d2 d3 d4 HSK HSJ0
          clear hj
          have HLN : Hid (LG w (wr.alloc (.cells #[.int .i64 j.number, .string j.node, .slice al j.ls.length kl, .int .i64 j.done, .int .i64 j.state] 53)) wr.heap.size #[.int .i64 j.number, .string j.node, .slice al j.ls.length kl, .int .i64 j.done, .int .i64 j.state] 53) := ⟨HLG3.out.bel.trans ((bx1 wr _).mono HLG3.out.bel.size), heap_new _ _, HLG3.out.bel.size⟩
          have HLM : Hid (LG w (wr.alloc (.cells #[.int .i64 j.number, .string j.node, .slice al j.ls.length kl, .int .i64 j.done, .int .i64 j.state] 53)) bb #[.slice an s.c.nodes.length kn, .slice av s.c.vms.length kv, .slice ae s.c.tenants.length ke, .int .i64 s.c.over, .int .i64 s.c.time, .slice ak s.kept.length kk, .slice (some ⟨g, o, none⟩) s.jobs.length kj, .int .i64 s.next] 41) := HLG3.out.step (bx1 _ _)
          go_upto_region 18 with fail
          clear d0 d1 d2 d3 d4 hgw HLG3 m6 ml
          generalize (wr.alloc (.cells #[.int .i64 j.number, .string j.node, .slice al j.ls.length kl, .int .i64 j.done, .int .i64 j.state] 53)) = v0 at *
          generalize wr.heap.size = bn at *
          have HSB : Hid (LG w v0.drew bn #[.int .i64 j.number, .string j.node, .slice al j.ls.length kl, .int .i64 j.done, .int .i64 j.state] 53 ∧ LG w v0.drew bb #[.slice an s.c.nodes.length kn, .slice av s.c.vms.length kv, .slice ae s.c.tenants.length ke, .int .i64 s.c.over, .int .i64 s.c.time, .slice ak s.kept.length kk, .slice (some ⟨g, o, none⟩) s.jobs.length kj, .int .i64 s.next] 41) := ⟨HLN.out.drew, HLM.out.drew⟩
          cases hq : jbB j
          · have HSJ : Hid (∀ u, Below w.heap.size w u → Calls Tryz.prog 13 #[.agg #[.int .i64 j.number, .string j.node, .slice al j.ls.length kl, .int .i64 j.done, .int .i64 j.state]] u fun e w' => e = .returned (.bool false) ∧ Below u.heap.size u w') := (by have h9 := HSJ0.out; rw [hq] at h9; exact h9)
            clear HSJ0
            refine wp_region_held (S := fun w9 => LG w w9 bn #[.int .i64 j.number, .string j.node, .slice al j.ls.length kl, .int .i64 j.done, .int .i64 j.state] 53 ∧ LG w w9 bb #[.slice an s.c.nodes.length kn, .slice av s.c.vms.length kv, .slice ae s.c.tenants.length ke, .int .i64 s.c.over, .int .i64 s.c.time, .slice ak s.kept.length kk, .slice (some ⟨g, o, none⟩) s.jobs.length kj, .int .i64 s.next] 41) (by kernel_rfl) ?_
            change wpAnyH _ _ _ _ _ _ _ _ (World.drew _)
            refine wpAnyH_take (i := 0) (v := .agg #[.int .i64 j.number, .string j.node, .slice al j.ls.length kl, .int .i64 j.done, .int .i64 j.state]) rfl (by kernel_rfl) (by kernel_rfl) (by kernel_rfl) (fun _ _ _ h => h) (Or.inl ⟨by kernel_rfl, fun w9 h9 => ?_⟩) HSB.out ?_
            · have k0 := h9.1.cel 0 _ rfl; have k1 := h9.1.cel 1 _ rfl; have k2 := h9.1.cel 2 _ rfl; have k3 := h9.1.cel 3 _ rfl; have k4 := h9.1.cel 4 _ rfl; have kl2 := h9.1.lt; have m6 := h9.2.cel 6 _ rfl; have m7 := h9.2.cel 7 _ rfl; have ml := h9.2.lt; clear h9; go_simp
            refine held_one 1 (by kernel_rfl) rfl (by kernel_rfl) fun K hK => ?_
            go_simp
            go_wp2_with (go_at_call 13; refine Calls.mono (HSJ.out _ HSB.out.1.bel) ?_; rintro e u3 ⟨rfl, hb⟩; have HS3 : Hid (LG w u3 bn #[.int .i64 j.number, .string j.node, .slice al j.ls.length kl, .int .i64 j.done, .int .i64 j.state] 53 ∧ LG w u3 bb #[.slice an s.c.nodes.length kn, .slice av s.c.vms.length kv, .slice ae s.c.tenants.length ke, .int .i64 s.c.over, .int .i64 s.c.time, .slice ak s.kept.length kk, .slice (some ⟨g, o, none⟩) s.jobs.length kj, .int .i64 s.next] 41) := ⟨HSB.out.1.step hb, HSB.out.2.step hb⟩; clear hb)
            refine hK _ _ HS3.out ?_
            clear hK K
            refine wpAnyH_take (i := 2) (v := .bool true) rfl (by kernel_rfl) (by kernel_rfl) (by kernel_rfl) (fun _ _ _ h => h) (Or.inl ⟨by kernel_rfl, fun w9 h9 => ?_⟩) HS3.out ?_
            · go_simp
            refine wpAnyH_take (i := 3) (v := .bool true) rfl (by kernel_rfl) (by kernel_rfl) (by kernel_rfl) (fun _ _ _ h => h) (Or.inl ⟨by kernel_rfl, fun w9 h9 => ?_⟩) HS3.out ?_
            · go_simp
            refine wpAnyH_take (i := 4) (v := undef) rfl (by kernel_rfl) (by kernel_rfl) (by kernel_rfl) (fun _ _ _ h => h) (Or.inr ⟨by kernel_rfl, rfl⟩) HS3.out ?_
            refine wpAnyH_take (i := 5) (v := undef) rfl (by kernel_rfl) (by kernel_rfl) (by kernel_rfl) (fun _ _ _ h => h) (Or.inr ⟨by kernel_rfl, rfl⟩) HS3.out ?_
            refine wpAnyH_take (i := 6) (v := undef) rfl (by kernel_rfl) (by kernel_rfl) (by kernel_rfl) (fun _ _ _ h => h) (Or.inr ⟨by kernel_rfl, rfl⟩) HS3.out ?_
            refine wpAnyH_take (i := 7) (v := .bool true) rfl (by kernel_rfl) (by kernel_rfl) (by kernel_rfl) (fun _ _ _ h => h) (Or.inl ⟨by kernel_rfl, fun w9 h9 => ?_⟩) HS3.out ?_
            · go_simp
            refine wpAnyH_take (i := 8) (v := .bool true) rfl (by kernel_rfl) (by kernel_rfl) (by kernel_rfl) (fun _ _ _ h => h) (Or.inl ⟨by kernel_rfl, fun w9 h9 => ?_⟩) HS3.out ?_
            · go_simp
            refine wpAnyH_take (i := 9) (v := undef) rfl (by kernel_rfl) (by kernel_rfl) (by kernel_rfl) (fun _ _ _ h => h) (Or.inr ⟨by kernel_rfl, rfl⟩) HS3.out ?_
            refine wpAnyH_take (i := 10) (v := undef) rfl (by kernel_rfl) (by kernel_rfl) (by kernel_rfl) (fun _ _ _ h => h) (Or.inr ⟨by kernel_rfl, rfl⟩) HS3.out ?_
            refine wpAnyH_take (i := 11) (v := undef) rfl (by kernel_rfl) (by kernel_rfl) (by kernel_rfl) (fun _ _ _ h => h) (Or.inr ⟨by kernel_rfl, rfl⟩) HS3.out ?_
            refine wpAnyH_take (i := 12) (v := undef) rfl (by kernel_rfl) (by kernel_rfl) (by kernel_rfl) (fun _ _ _ h => h) (Or.inr ⟨by kernel_rfl, rfl⟩) HS3.out ?_
            refine wpAnyH_take (i := 13) (v := undef) rfl (by kernel_rfl) (by kernel_rfl) (by kernel_rfl) (fun _ _ _ h => h) (Or.inr ⟨by kernel_rfl, rfl⟩) HS3.out ?_
            refine wpAnyH_take (i := 14) (v := .bool true) rfl (by kernel_rfl) (by kernel_rfl) (by kernel_rfl) (fun _ _ _ h => h) (Or.inl ⟨by kernel_rfl, fun w9 h9 => ?_⟩) HS3.out ?_
            · go_simp
            refine wpAnyH_take (i := 15) (v := .bool true) rfl (by kernel_rfl) (by kernel_rfl) (by kernel_rfl) (fun _ _ _ h => h) (Or.inl ⟨by kernel_rfl, fun w9 h9 => ?_⟩) HS3.out ?_
            · go_simp
            refine wpAnyH_take (i := 16) (v := undef) rfl (by kernel_rfl) (by kernel_rfl) (by kernel_rfl) (fun _ _ _ h => h) (Or.inr ⟨by kernel_rfl, rfl⟩) HS3.out ?_
            refine wpAnyH_take (i := 17) (v := undef) rfl (by kernel_rfl) (by kernel_rfl) (by kernel_rfl) (fun _ _ _ h => h) (Or.inr ⟨by kernel_rfl, rfl⟩) HS3.out ?_
            refine wpAnyH_take (i := 18) (v := undef) rfl (by kernel_rfl) (by kernel_rfl) (by kernel_rfl) (fun _ _ _ h => h) (Or.inr ⟨by kernel_rfl, rfl⟩) HS3.out ?_
            refine wpAnyH_take (i := 19) (v := undef) rfl (by kernel_rfl) (by kernel_rfl) (by kernel_rfl) (fun _ _ _ h => h) (Or.inr ⟨by kernel_rfl, rfl⟩) HS3.out ?_
            refine wpAnyH_take (i := 20) (v := undef) rfl (by kernel_rfl) (by kernel_rfl) (by kernel_rfl) (fun _ _ _ h => h) (Or.inr ⟨by kernel_rfl, rfl⟩) HS3.out ?_
            refine wpAnyH_take (i := 21) (v := undef) rfl (by kernel_rfl) (by kernel_rfl) (by kernel_rfl) (fun _ _ _ h => h) (Or.inr ⟨by kernel_rfl, rfl⟩) HS3.out ?_
            refine wpAnyH_take (i := 22) (v := undef) rfl (by kernel_rfl) (by kernel_rfl) (by kernel_rfl) (fun _ _ _ h => h) (Or.inr ⟨by kernel_rfl, rfl⟩) HS3.out ?_
            refine wpAnyH_take (i := 23) (v := undef) rfl (by kernel_rfl) (by kernel_rfl) (by kernel_rfl) (fun _ _ _ h => h) (Or.inr ⟨by kernel_rfl, rfl⟩) HS3.out ?_
            refine wpAnyH_take (i := 24) (v := undef) rfl (by kernel_rfl) (by kernel_rfl) (by kernel_rfl) (fun _ _ _ h => h) (Or.inr ⟨by kernel_rfl, rfl⟩) HS3.out ?_
            refine wpAnyH_take (i := 25) (v := undef) rfl (by kernel_rfl) (by kernel_rfl) (by kernel_rfl) (fun _ _ _ h => h) (Or.inr ⟨by kernel_rfl, rfl⟩) HS3.out ?_
            refine wpAnyH_take (i := 26) (v := undef) rfl (by kernel_rfl) (by kernel_rfl) (by kernel_rfl) (fun _ _ _ h => h) (Or.inr ⟨by kernel_rfl, rfl⟩) HS3.out ?_
            refine wpAnyH_take (i := 27) (v := undef) rfl (by kernel_rfl) (by kernel_rfl) (by kernel_rfl) (fun _ _ _ h => h) (Or.inr ⟨by kernel_rfl, rfl⟩) HS3.out ?_
            refine wpAnyH_take (i := 28) (v := undef) rfl (by kernel_rfl) (by kernel_rfl) (by kernel_rfl) (fun _ _ _ h => h) (Or.inr ⟨by kernel_rfl, rfl⟩) HS3.out ?_
            refine wpAnyH_take (i := 29) (v := undef) rfl (by kernel_rfl) (by kernel_rfl) (by kernel_rfl) (fun _ _ _ h => h) (Or.inr ⟨by kernel_rfl, rfl⟩) HS3.out ?_
            refine wpAnyH_take (i := 30) (v := .bool true) rfl (by kernel_rfl) (by kernel_rfl) (by kernel_rfl) (fun _ _ _ h => h) (Or.inl ⟨by kernel_rfl, fun w9 h9 => ?_⟩) HS3.out ?_
            · go_simp
            refine wpAnyH_done (by kernel_rfl) ?_ _
            go_simp
            have hbad : sjk s k = false := by rw [HSK.out, hq]; rfl
            have E2 : Hid (V = 1) := (show V = 1 by rw [E3.out, allD_badI hlt hbad]; rfl)
            clear hbad
            go_wp2
            go_ret
            exact ⟨ret_int E2.out.symm, HB9.out ▸ HS3.out.1.bel⟩
          have HSJ : Hid (∀ u, Below w.heap.size w u → Calls Tryz.prog 13 #[.agg #[.int .i64 j.number, .string j.node, .slice al j.ls.length kl, .int .i64 j.done, .int .i64 j.state]] u fun e w' => e = .returned (.bool true) ∧ Below u.heap.size u w') := (by have h9 := HSJ0.out; rw [hq] at h9; exact h9)
          have HSK1 : Hid (sjk s k = (nxB s.next j.number && (decide (k = 0) || decide ((jA s.jobs (k - 1)).number < j.number)))) := (show _ = _ by rw [HSK.out, hq, Bool.true_and])
          clear HSJ0 HSK hq
          cases t1 : decide (j.number < 1)
          rotate_left
          · skip
            refine wp_region_held (S := fun w9 => LG w w9 bn #[.int .i64 j.number, .string j.node, .slice al j.ls.length kl, .int .i64 j.done, .int .i64 j.state] 53 ∧ LG w w9 bb #[.slice an s.c.nodes.length kn, .slice av s.c.vms.length kv, .slice ae s.c.tenants.length ke, .int .i64 s.c.over, .int .i64 s.c.time, .slice ak s.kept.length kk, .slice (some ⟨g, o, none⟩) s.jobs.length kj, .int .i64 s.next] 41) (by kernel_rfl) ?_
            change wpAnyH _ _ _ _ _ _ _ _ (World.drew _)
            refine wpAnyH_take (i := 0) (v := .agg #[.int .i64 j.number, .string j.node, .slice al j.ls.length kl, .int .i64 j.done, .int .i64 j.state]) rfl (by kernel_rfl) (by kernel_rfl) (by kernel_rfl) (fun _ _ _ h => h) (Or.inl ⟨by kernel_rfl, fun w9 h9 => ?_⟩) HSB.out ?_
            · have k0 := h9.1.cel 0 _ rfl; have k1 := h9.1.cel 1 _ rfl; have k2 := h9.1.cel 2 _ rfl; have k3 := h9.1.cel 3 _ rfl; have k4 := h9.1.cel 4 _ rfl; have kl2 := h9.1.lt; have m6 := h9.2.cel 6 _ rfl; have m7 := h9.2.cel 7 _ rfl; have ml := h9.2.lt; clear h9; go_simp
            refine held_one 1 (by kernel_rfl) rfl (by kernel_rfl) fun K hK => ?_
            go_simp
            go_wp2_with (go_at_call 13; refine Calls.mono (HSJ.out _ HSB.out.1.bel) ?_; rintro e u3 ⟨rfl, hb⟩; have HS3 : Hid (LG w u3 bn #[.int .i64 j.number, .string j.node, .slice al j.ls.length kl, .int .i64 j.done, .int .i64 j.state] 53 ∧ LG w u3 bb #[.slice an s.c.nodes.length kn, .slice av s.c.vms.length kv, .slice ae s.c.tenants.length ke, .int .i64 s.c.over, .int .i64 s.c.time, .slice ak s.kept.length kk, .slice (some ⟨g, o, none⟩) s.jobs.length kj, .int .i64 s.next] 41) := ⟨HSB.out.1.step hb, HSB.out.2.step hb⟩; clear hb)
            refine hK _ _ HS3.out ?_
            clear hK K
            refine wpAnyH_take (i := 2) (v := .bool false) rfl (by kernel_rfl) (by kernel_rfl) (by kernel_rfl) (fun _ _ _ h => h) (Or.inl ⟨by kernel_rfl, fun w9 h9 => ?_⟩) HS3.out ?_
            · go_simp
            refine wpAnyH_take (i := 3) (v := .bool false) rfl (by kernel_rfl) (by kernel_rfl) (by kernel_rfl) (fun _ _ _ h => h) (Or.inl ⟨by kernel_rfl, fun w9 h9 => ?_⟩) HS3.out ?_
            · go_simp
            refine wpAnyH_take (i := 4) (v := .pointer (some ⟨bn, 0, none⟩)) rfl (by kernel_rfl) (by kernel_rfl) (by kernel_rfl) (fun _ _ _ h => h) (Or.inl ⟨by kernel_rfl, fun w9 h9 => ?_⟩) HS3.out ?_
            · go_simp
            refine wpAnyH_take (i := 5) (v := .int .i64 j.number) rfl (by kernel_rfl) (by kernel_rfl) (by kernel_rfl) (fun _ _ _ h => h) (Or.inl ⟨by kernel_rfl, fun w9 h9 => ?_⟩) HS3.out ?_
            · have k0 := h9.1.cel 0 _ rfl; have k1 := h9.1.cel 1 _ rfl; have k2 := h9.1.cel 2 _ rfl; have k3 := h9.1.cel 3 _ rfl; have k4 := h9.1.cel 4 _ rfl; have kl2 := h9.1.lt; have m6 := h9.2.cel 6 _ rfl; have m7 := h9.2.cel 7 _ rfl; have ml := h9.2.lt; clear h9; go_simp
            refine wpAnyH_take (i := 6) (v := .bool true) rfl (by kernel_rfl) (by kernel_rfl) (by kernel_rfl) (fun _ _ _ h => h) (Or.inl ⟨by kernel_rfl, fun w9 h9 => ?_⟩) HS3.out ?_
            · go_simp; all_goals first | rfl | decide | omega | (rw [IntKind.wrap_i64]; omega)
            refine wpAnyH_take (i := 7) (v := .bool true) rfl (by kernel_rfl) (by kernel_rfl) (by kernel_rfl) (fun _ _ _ h => h) (Or.inl ⟨by kernel_rfl, fun w9 h9 => ?_⟩) HS3.out ?_
            · go_simp
            refine wpAnyH_take (i := 8) (v := .bool true) rfl (by kernel_rfl) (by kernel_rfl) (by kernel_rfl) (fun _ _ _ h => h) (Or.inl ⟨by kernel_rfl, fun w9 h9 => ?_⟩) HS3.out ?_
            · go_simp
            refine wpAnyH_take (i := 9) (v := undef) rfl (by kernel_rfl) (by kernel_rfl) (by kernel_rfl) (fun _ _ _ h => h) (Or.inr ⟨by kernel_rfl, rfl⟩) HS3.out ?_
            refine wpAnyH_take (i := 10) (v := undef) rfl (by kernel_rfl) (by kernel_rfl) (by kernel_rfl) (fun _ _ _ h => h) (Or.inr ⟨by kernel_rfl, rfl⟩) HS3.out ?_
            refine wpAnyH_take (i := 11) (v := undef) rfl (by kernel_rfl) (by kernel_rfl) (by kernel_rfl) (fun _ _ _ h => h) (Or.inr ⟨by kernel_rfl, rfl⟩) HS3.out ?_
            refine wpAnyH_take (i := 12) (v := undef) rfl (by kernel_rfl) (by kernel_rfl) (by kernel_rfl) (fun _ _ _ h => h) (Or.inr ⟨by kernel_rfl, rfl⟩) HS3.out ?_
            refine wpAnyH_take (i := 13) (v := undef) rfl (by kernel_rfl) (by kernel_rfl) (by kernel_rfl) (fun _ _ _ h => h) (Or.inr ⟨by kernel_rfl, rfl⟩) HS3.out ?_
            refine wpAnyH_take (i := 14) (v := .bool true) rfl (by kernel_rfl) (by kernel_rfl) (by kernel_rfl) (fun _ _ _ h => h) (Or.inl ⟨by kernel_rfl, fun w9 h9 => ?_⟩) HS3.out ?_
            · go_simp
            refine wpAnyH_take (i := 15) (v := .bool true) rfl (by kernel_rfl) (by kernel_rfl) (by kernel_rfl) (fun _ _ _ h => h) (Or.inl ⟨by kernel_rfl, fun w9 h9 => ?_⟩) HS3.out ?_
            · go_simp
            refine wpAnyH_take (i := 16) (v := undef) rfl (by kernel_rfl) (by kernel_rfl) (by kernel_rfl) (fun _ _ _ h => h) (Or.inr ⟨by kernel_rfl, rfl⟩) HS3.out ?_
            refine wpAnyH_take (i := 17) (v := undef) rfl (by kernel_rfl) (by kernel_rfl) (by kernel_rfl) (fun _ _ _ h => h) (Or.inr ⟨by kernel_rfl, rfl⟩) HS3.out ?_
            refine wpAnyH_take (i := 18) (v := undef) rfl (by kernel_rfl) (by kernel_rfl) (by kernel_rfl) (fun _ _ _ h => h) (Or.inr ⟨by kernel_rfl, rfl⟩) HS3.out ?_
            refine wpAnyH_take (i := 19) (v := undef) rfl (by kernel_rfl) (by kernel_rfl) (by kernel_rfl) (fun _ _ _ h => h) (Or.inr ⟨by kernel_rfl, rfl⟩) HS3.out ?_
            refine wpAnyH_take (i := 20) (v := undef) rfl (by kernel_rfl) (by kernel_rfl) (by kernel_rfl) (fun _ _ _ h => h) (Or.inr ⟨by kernel_rfl, rfl⟩) HS3.out ?_
            refine wpAnyH_take (i := 21) (v := undef) rfl (by kernel_rfl) (by kernel_rfl) (by kernel_rfl) (fun _ _ _ h => h) (Or.inr ⟨by kernel_rfl, rfl⟩) HS3.out ?_
            refine wpAnyH_take (i := 22) (v := undef) rfl (by kernel_rfl) (by kernel_rfl) (by kernel_rfl) (fun _ _ _ h => h) (Or.inr ⟨by kernel_rfl, rfl⟩) HS3.out ?_
            refine wpAnyH_take (i := 23) (v := undef) rfl (by kernel_rfl) (by kernel_rfl) (by kernel_rfl) (fun _ _ _ h => h) (Or.inr ⟨by kernel_rfl, rfl⟩) HS3.out ?_
            refine wpAnyH_take (i := 24) (v := undef) rfl (by kernel_rfl) (by kernel_rfl) (by kernel_rfl) (fun _ _ _ h => h) (Or.inr ⟨by kernel_rfl, rfl⟩) HS3.out ?_
            refine wpAnyH_take (i := 25) (v := undef) rfl (by kernel_rfl) (by kernel_rfl) (by kernel_rfl) (fun _ _ _ h => h) (Or.inr ⟨by kernel_rfl, rfl⟩) HS3.out ?_
            refine wpAnyH_take (i := 26) (v := undef) rfl (by kernel_rfl) (by kernel_rfl) (by kernel_rfl) (fun _ _ _ h => h) (Or.inr ⟨by kernel_rfl, rfl⟩) HS3.out ?_
            refine wpAnyH_take (i := 27) (v := undef) rfl (by kernel_rfl) (by kernel_rfl) (by kernel_rfl) (fun _ _ _ h => h) (Or.inr ⟨by kernel_rfl, rfl⟩) HS3.out ?_
            refine wpAnyH_take (i := 28) (v := undef) rfl (by kernel_rfl) (by kernel_rfl) (by kernel_rfl) (fun _ _ _ h => h) (Or.inr ⟨by kernel_rfl, rfl⟩) HS3.out ?_
            refine wpAnyH_take (i := 29) (v := undef) rfl (by kernel_rfl) (by kernel_rfl) (by kernel_rfl) (fun _ _ _ h => h) (Or.inr ⟨by kernel_rfl, rfl⟩) HS3.out ?_
            refine wpAnyH_take (i := 30) (v := .bool true) rfl (by kernel_rfl) (by kernel_rfl) (by kernel_rfl) (fun _ _ _ h => h) (Or.inl ⟨by kernel_rfl, fun w9 h9 => ?_⟩) HS3.out ?_
            · go_simp
            refine wpAnyH_done (by kernel_rfl) ?_ _
            go_simp
            have hbad : sjk s k = false := by rw [HSK1.out]; unfold nxB; rw [show decide (1 ≤ j.number) = false from decide_eq_false (by have := of_decide_eq_true t1; omega)]; rfl
            have E2 : Hid (V = 1) := (show V = 1 by rw [E3.out, allD_badI hlt hbad]; rfl)
            clear hbad
            go_wp2
            go_ret
            exact ⟨ret_int E2.out.symm, HB9.out ▸ HS3.out.1.bel⟩
          cases t2 : decide (s.next ≤ j.number)
          rotate_left
          · skip
            refine wp_region_held (S := fun w9 => LG w w9 bn #[.int .i64 j.number, .string j.node, .slice al j.ls.length kl, .int .i64 j.done, .int .i64 j.state] 53 ∧ LG w w9 bb #[.slice an s.c.nodes.length kn, .slice av s.c.vms.length kv, .slice ae s.c.tenants.length ke, .int .i64 s.c.over, .int .i64 s.c.time, .slice ak s.kept.length kk, .slice (some ⟨g, o, none⟩) s.jobs.length kj, .int .i64 s.next] 41) (by kernel_rfl) ?_
            change wpAnyH _ _ _ _ _ _ _ _ (World.drew _)
            refine wpAnyH_take (i := 0) (v := .agg #[.int .i64 j.number, .string j.node, .slice al j.ls.length kl, .int .i64 j.done, .int .i64 j.state]) rfl (by kernel_rfl) (by kernel_rfl) (by kernel_rfl) (fun _ _ _ h => h) (Or.inl ⟨by kernel_rfl, fun w9 h9 => ?_⟩) HSB.out ?_
            · have k0 := h9.1.cel 0 _ rfl; have k1 := h9.1.cel 1 _ rfl; have k2 := h9.1.cel 2 _ rfl; have k3 := h9.1.cel 3 _ rfl; have k4 := h9.1.cel 4 _ rfl; have kl2 := h9.1.lt; have m6 := h9.2.cel 6 _ rfl; have m7 := h9.2.cel 7 _ rfl; have ml := h9.2.lt; clear h9; go_simp
            refine held_one 1 (by kernel_rfl) rfl (by kernel_rfl) fun K hK => ?_
            go_simp
            go_wp2_with (go_at_call 13; refine Calls.mono (HSJ.out _ HSB.out.1.bel) ?_; rintro e u3 ⟨rfl, hb⟩; have HS3 : Hid (LG w u3 bn #[.int .i64 j.number, .string j.node, .slice al j.ls.length kl, .int .i64 j.done, .int .i64 j.state] 53 ∧ LG w u3 bb #[.slice an s.c.nodes.length kn, .slice av s.c.vms.length kv, .slice ae s.c.tenants.length ke, .int .i64 s.c.over, .int .i64 s.c.time, .slice ak s.kept.length kk, .slice (some ⟨g, o, none⟩) s.jobs.length kj, .int .i64 s.next] 41) := ⟨HSB.out.1.step hb, HSB.out.2.step hb⟩; clear hb)
            refine hK _ _ HS3.out ?_
            clear hK K
            refine wpAnyH_take (i := 2) (v := .bool false) rfl (by kernel_rfl) (by kernel_rfl) (by kernel_rfl) (fun _ _ _ h => h) (Or.inl ⟨by kernel_rfl, fun w9 h9 => ?_⟩) HS3.out ?_
            · go_simp
            refine wpAnyH_take (i := 3) (v := .bool false) rfl (by kernel_rfl) (by kernel_rfl) (by kernel_rfl) (fun _ _ _ h => h) (Or.inl ⟨by kernel_rfl, fun w9 h9 => ?_⟩) HS3.out ?_
            · go_simp
            refine wpAnyH_take (i := 4) (v := .pointer (some ⟨bn, 0, none⟩)) rfl (by kernel_rfl) (by kernel_rfl) (by kernel_rfl) (fun _ _ _ h => h) (Or.inl ⟨by kernel_rfl, fun w9 h9 => ?_⟩) HS3.out ?_
            · go_simp
            refine wpAnyH_take (i := 5) (v := .int .i64 j.number) rfl (by kernel_rfl) (by kernel_rfl) (by kernel_rfl) (fun _ _ _ h => h) (Or.inl ⟨by kernel_rfl, fun w9 h9 => ?_⟩) HS3.out ?_
            · have k0 := h9.1.cel 0 _ rfl; have k1 := h9.1.cel 1 _ rfl; have k2 := h9.1.cel 2 _ rfl; have k3 := h9.1.cel 3 _ rfl; have k4 := h9.1.cel 4 _ rfl; have kl2 := h9.1.lt; have m6 := h9.2.cel 6 _ rfl; have m7 := h9.2.cel 7 _ rfl; have ml := h9.2.lt; clear h9; go_simp
            refine wpAnyH_take (i := 6) (v := .bool false) rfl (by kernel_rfl) (by kernel_rfl) (by kernel_rfl) (fun _ _ _ h => h) (Or.inl ⟨by kernel_rfl, fun w9 h9 => ?_⟩) HS3.out ?_
            · go_simp; all_goals first | rfl | decide | omega | (rw [IntKind.wrap_i64]; omega)
            refine wpAnyH_take (i := 7) (v := .bool false) rfl (by kernel_rfl) (by kernel_rfl) (by kernel_rfl) (fun _ _ _ h => h) (Or.inl ⟨by kernel_rfl, fun w9 h9 => ?_⟩) HS3.out ?_
            · go_simp
            refine wpAnyH_take (i := 8) (v := .bool false) rfl (by kernel_rfl) (by kernel_rfl) (by kernel_rfl) (fun _ _ _ h => h) (Or.inl ⟨by kernel_rfl, fun w9 h9 => ?_⟩) HS3.out ?_
            · go_simp
            refine wpAnyH_take (i := 9) (v := .pointer (some ⟨bn, 0, none⟩)) rfl (by kernel_rfl) (by kernel_rfl) (by kernel_rfl) (fun _ _ _ h => h) (Or.inl ⟨by kernel_rfl, fun w9 h9 => ?_⟩) HS3.out ?_
            · go_simp
            refine wpAnyH_take (i := 10) (v := .int .i64 j.number) rfl (by kernel_rfl) (by kernel_rfl) (by kernel_rfl) (fun _ _ _ h => h) (Or.inl ⟨by kernel_rfl, fun w9 h9 => ?_⟩) HS3.out ?_
            · have k0 := h9.1.cel 0 _ rfl; have k1 := h9.1.cel 1 _ rfl; have k2 := h9.1.cel 2 _ rfl; have k3 := h9.1.cel 3 _ rfl; have k4 := h9.1.cel 4 _ rfl; have kl2 := h9.1.lt; have m6 := h9.2.cel 6 _ rfl; have m7 := h9.2.cel 7 _ rfl; have ml := h9.2.lt; clear h9; go_simp
            refine wpAnyH_take (i := 11) (v := .pointer (some ⟨bb, 7, none⟩)) rfl (by kernel_rfl) (by kernel_rfl) (by kernel_rfl) (fun _ _ _ h => h) (Or.inl ⟨by kernel_rfl, fun w9 h9 => ?_⟩) HS3.out ?_
            · go_simp
            refine wpAnyH_take (i := 12) (v := .int .i64 s.next) rfl (by kernel_rfl) (by kernel_rfl) (by kernel_rfl) (fun _ _ _ h => h) (Or.inl ⟨by kernel_rfl, fun w9 h9 => ?_⟩) HS3.out ?_
            · have k0 := h9.1.cel 0 _ rfl; have k1 := h9.1.cel 1 _ rfl; have k2 := h9.1.cel 2 _ rfl; have k3 := h9.1.cel 3 _ rfl; have k4 := h9.1.cel 4 _ rfl; have kl2 := h9.1.lt; have m6 := h9.2.cel 6 _ rfl; have m7 := h9.2.cel 7 _ rfl; have ml := h9.2.lt; clear h9; go_simp
            refine wpAnyH_take (i := 13) (v := .bool true) rfl (by kernel_rfl) (by kernel_rfl) (by kernel_rfl) (fun _ _ _ h => h) (Or.inl ⟨by kernel_rfl, fun w9 h9 => ?_⟩) HS3.out ?_
            · go_simp; all_goals first | rfl | decide | omega | (rw [IntKind.wrap_i64]; omega)
            refine wpAnyH_take (i := 14) (v := .bool true) rfl (by kernel_rfl) (by kernel_rfl) (by kernel_rfl) (fun _ _ _ h => h) (Or.inl ⟨by kernel_rfl, fun w9 h9 => ?_⟩) HS3.out ?_
            · go_simp
            refine wpAnyH_take (i := 15) (v := .bool true) rfl (by kernel_rfl) (by kernel_rfl) (by kernel_rfl) (fun _ _ _ h => h) (Or.inl ⟨by kernel_rfl, fun w9 h9 => ?_⟩) HS3.out ?_
            · go_simp
            refine wpAnyH_take (i := 16) (v := undef) rfl (by kernel_rfl) (by kernel_rfl) (by kernel_rfl) (fun _ _ _ h => h) (Or.inr ⟨by kernel_rfl, rfl⟩) HS3.out ?_
            refine wpAnyH_take (i := 17) (v := undef) rfl (by kernel_rfl) (by kernel_rfl) (by kernel_rfl) (fun _ _ _ h => h) (Or.inr ⟨by kernel_rfl, rfl⟩) HS3.out ?_
            refine wpAnyH_take (i := 18) (v := undef) rfl (by kernel_rfl) (by kernel_rfl) (by kernel_rfl) (fun _ _ _ h => h) (Or.inr ⟨by kernel_rfl, rfl⟩) HS3.out ?_
            refine wpAnyH_take (i := 19) (v := undef) rfl (by kernel_rfl) (by kernel_rfl) (by kernel_rfl) (fun _ _ _ h => h) (Or.inr ⟨by kernel_rfl, rfl⟩) HS3.out ?_
            refine wpAnyH_take (i := 20) (v := undef) rfl (by kernel_rfl) (by kernel_rfl) (by kernel_rfl) (fun _ _ _ h => h) (Or.inr ⟨by kernel_rfl, rfl⟩) HS3.out ?_
            refine wpAnyH_take (i := 21) (v := undef) rfl (by kernel_rfl) (by kernel_rfl) (by kernel_rfl) (fun _ _ _ h => h) (Or.inr ⟨by kernel_rfl, rfl⟩) HS3.out ?_
            refine wpAnyH_take (i := 22) (v := undef) rfl (by kernel_rfl) (by kernel_rfl) (by kernel_rfl) (fun _ _ _ h => h) (Or.inr ⟨by kernel_rfl, rfl⟩) HS3.out ?_
            refine wpAnyH_take (i := 23) (v := undef) rfl (by kernel_rfl) (by kernel_rfl) (by kernel_rfl) (fun _ _ _ h => h) (Or.inr ⟨by kernel_rfl, rfl⟩) HS3.out ?_
            refine wpAnyH_take (i := 24) (v := undef) rfl (by kernel_rfl) (by kernel_rfl) (by kernel_rfl) (fun _ _ _ h => h) (Or.inr ⟨by kernel_rfl, rfl⟩) HS3.out ?_
            refine wpAnyH_take (i := 25) (v := undef) rfl (by kernel_rfl) (by kernel_rfl) (by kernel_rfl) (fun _ _ _ h => h) (Or.inr ⟨by kernel_rfl, rfl⟩) HS3.out ?_
            refine wpAnyH_take (i := 26) (v := undef) rfl (by kernel_rfl) (by kernel_rfl) (by kernel_rfl) (fun _ _ _ h => h) (Or.inr ⟨by kernel_rfl, rfl⟩) HS3.out ?_
            refine wpAnyH_take (i := 27) (v := undef) rfl (by kernel_rfl) (by kernel_rfl) (by kernel_rfl) (fun _ _ _ h => h) (Or.inr ⟨by kernel_rfl, rfl⟩) HS3.out ?_
            refine wpAnyH_take (i := 28) (v := undef) rfl (by kernel_rfl) (by kernel_rfl) (by kernel_rfl) (fun _ _ _ h => h) (Or.inr ⟨by kernel_rfl, rfl⟩) HS3.out ?_
            refine wpAnyH_take (i := 29) (v := undef) rfl (by kernel_rfl) (by kernel_rfl) (by kernel_rfl) (fun _ _ _ h => h) (Or.inr ⟨by kernel_rfl, rfl⟩) HS3.out ?_
            refine wpAnyH_take (i := 30) (v := .bool true) rfl (by kernel_rfl) (by kernel_rfl) (by kernel_rfl) (fun _ _ _ h => h) (Or.inl ⟨by kernel_rfl, fun w9 h9 => ?_⟩) HS3.out ?_
            · go_simp
            refine wpAnyH_done (by kernel_rfl) ?_ _
            go_simp
            have hbad : sjk s k = false := by rw [HSK1.out]; unfold nxB; rw [show decide (j.number < s.next) = false from decide_eq_false (by have := of_decide_eq_true t2; omega)]; simp
            have E2 : Hid (V = 1) := (show V = 1 by rw [E3.out, allD_badI hlt hbad]; rfl)
            clear hbad
            go_wp2
            go_ret
            exact ⟨ret_int E2.out.symm, HB9.out ▸ HS3.out.1.bel⟩
          have hnx : nxB s.next j.number = true := by unfold nxB; rw [decide_eq_true (show 1 ≤ j.number by have := of_decide_eq_false t1; omega), decide_eq_true (show j.number < s.next by have := of_decide_eq_false t2; omega)]; rfl
          have HSK2 : Hid (sjk s k = (decide (k = 0) || decide ((jA s.jobs (k - 1)).number < j.number))) := (show _ = _ by rw [HSK1.out, hnx, Bool.true_and])
          clear HSK1 hnx
          by_cases h0 : k = 0
          · subst h0
            have hok2 : Hid (allD (sjk s) (0 + 1) = true) := (show _ = _ by rw [allD_succ, HSK2.out]; simp [allD])
            refine wp_region_held (S := fun w9 => LG w w9 bn #[.int .i64 j.number, .string j.node, .slice al j.ls.length kl, .int .i64 j.done, .int .i64 j.state] 53 ∧ LG w w9 bb #[.slice an s.c.nodes.length kn, .slice av s.c.vms.length kv, .slice ae s.c.tenants.length ke, .int .i64 s.c.over, .int .i64 s.c.time, .slice ak s.kept.length kk, .slice (some ⟨g, o, none⟩) s.jobs.length kj, .int .i64 s.next] 41) (by kernel_rfl) ?_
            change wpAnyH _ _ _ _ _ _ _ _ (World.drew _)
            refine wpAnyH_take (i := 0) (v := .agg #[.int .i64 j.number, .string j.node, .slice al j.ls.length kl, .int .i64 j.done, .int .i64 j.state]) rfl (by kernel_rfl) (by kernel_rfl) (by kernel_rfl) (fun _ _ _ h => h) (Or.inl ⟨by kernel_rfl, fun w9 h9 => ?_⟩) HSB.out ?_
            · have k0 := h9.1.cel 0 _ rfl; have k1 := h9.1.cel 1 _ rfl; have k2 := h9.1.cel 2 _ rfl; have k3 := h9.1.cel 3 _ rfl; have k4 := h9.1.cel 4 _ rfl; have kl2 := h9.1.lt; have m6 := h9.2.cel 6 _ rfl; have m7 := h9.2.cel 7 _ rfl; have ml := h9.2.lt; clear h9; go_simp
            refine held_one 1 (by kernel_rfl) rfl (by kernel_rfl) fun K hK => ?_
            go_simp
            go_wp2_with (go_at_call 13; refine Calls.mono (HSJ.out _ HSB.out.1.bel) ?_; rintro e u3 ⟨rfl, hb⟩; have HS3 : Hid (LG w u3 bn #[.int .i64 j.number, .string j.node, .slice al j.ls.length kl, .int .i64 j.done, .int .i64 j.state] 53 ∧ LG w u3 bb #[.slice an s.c.nodes.length kn, .slice av s.c.vms.length kv, .slice ae s.c.tenants.length ke, .int .i64 s.c.over, .int .i64 s.c.time, .slice ak s.kept.length kk, .slice (some ⟨g, o, none⟩) s.jobs.length kj, .int .i64 s.next] 41) := ⟨HSB.out.1.step hb, HSB.out.2.step hb⟩; clear hb)
            refine hK _ _ HS3.out ?_
            clear hK K
            refine wpAnyH_take (i := 2) (v := .bool false) rfl (by kernel_rfl) (by kernel_rfl) (by kernel_rfl) (fun _ _ _ h => h) (Or.inl ⟨by kernel_rfl, fun w9 h9 => ?_⟩) HS3.out ?_
            · go_simp
            refine wpAnyH_take (i := 3) (v := .bool false) rfl (by kernel_rfl) (by kernel_rfl) (by kernel_rfl) (fun _ _ _ h => h) (Or.inl ⟨by kernel_rfl, fun w9 h9 => ?_⟩) HS3.out ?_
            · go_simp
            refine wpAnyH_take (i := 4) (v := .pointer (some ⟨bn, 0, none⟩)) rfl (by kernel_rfl) (by kernel_rfl) (by kernel_rfl) (fun _ _ _ h => h) (Or.inl ⟨by kernel_rfl, fun w9 h9 => ?_⟩) HS3.out ?_
            · go_simp
            refine wpAnyH_take (i := 5) (v := .int .i64 j.number) rfl (by kernel_rfl) (by kernel_rfl) (by kernel_rfl) (fun _ _ _ h => h) (Or.inl ⟨by kernel_rfl, fun w9 h9 => ?_⟩) HS3.out ?_
            · have k0 := h9.1.cel 0 _ rfl; have k1 := h9.1.cel 1 _ rfl; have k2 := h9.1.cel 2 _ rfl; have k3 := h9.1.cel 3 _ rfl; have k4 := h9.1.cel 4 _ rfl; have kl2 := h9.1.lt; have m6 := h9.2.cel 6 _ rfl; have m7 := h9.2.cel 7 _ rfl; have ml := h9.2.lt; clear h9; go_simp
            refine wpAnyH_take (i := 6) (v := .bool false) rfl (by kernel_rfl) (by kernel_rfl) (by kernel_rfl) (fun _ _ _ h => h) (Or.inl ⟨by kernel_rfl, fun w9 h9 => ?_⟩) HS3.out ?_
            · go_simp; all_goals first | rfl | decide | omega | (rw [IntKind.wrap_i64]; omega)
            refine wpAnyH_take (i := 7) (v := .bool false) rfl (by kernel_rfl) (by kernel_rfl) (by kernel_rfl) (fun _ _ _ h => h) (Or.inl ⟨by kernel_rfl, fun w9 h9 => ?_⟩) HS3.out ?_
            · go_simp
            refine wpAnyH_take (i := 8) (v := .bool false) rfl (by kernel_rfl) (by kernel_rfl) (by kernel_rfl) (fun _ _ _ h => h) (Or.inl ⟨by kernel_rfl, fun w9 h9 => ?_⟩) HS3.out ?_
            · go_simp
            refine wpAnyH_take (i := 9) (v := .pointer (some ⟨bn, 0, none⟩)) rfl (by kernel_rfl) (by kernel_rfl) (by kernel_rfl) (fun _ _ _ h => h) (Or.inl ⟨by kernel_rfl, fun w9 h9 => ?_⟩) HS3.out ?_
            · go_simp
            refine wpAnyH_take (i := 10) (v := .int .i64 j.number) rfl (by kernel_rfl) (by kernel_rfl) (by kernel_rfl) (fun _ _ _ h => h) (Or.inl ⟨by kernel_rfl, fun w9 h9 => ?_⟩) HS3.out ?_
            · have k0 := h9.1.cel 0 _ rfl; have k1 := h9.1.cel 1 _ rfl; have k2 := h9.1.cel 2 _ rfl; have k3 := h9.1.cel 3 _ rfl; have k4 := h9.1.cel 4 _ rfl; have kl2 := h9.1.lt; have m6 := h9.2.cel 6 _ rfl; have m7 := h9.2.cel 7 _ rfl; have ml := h9.2.lt; clear h9; go_simp
            refine wpAnyH_take (i := 11) (v := .pointer (some ⟨bb, 7, none⟩)) rfl (by kernel_rfl) (by kernel_rfl) (by kernel_rfl) (fun _ _ _ h => h) (Or.inl ⟨by kernel_rfl, fun w9 h9 => ?_⟩) HS3.out ?_
            · go_simp
            refine wpAnyH_take (i := 12) (v := .int .i64 s.next) rfl (by kernel_rfl) (by kernel_rfl) (by kernel_rfl) (fun _ _ _ h => h) (Or.inl ⟨by kernel_rfl, fun w9 h9 => ?_⟩) HS3.out ?_
            · have k0 := h9.1.cel 0 _ rfl; have k1 := h9.1.cel 1 _ rfl; have k2 := h9.1.cel 2 _ rfl; have k3 := h9.1.cel 3 _ rfl; have k4 := h9.1.cel 4 _ rfl; have kl2 := h9.1.lt; have m6 := h9.2.cel 6 _ rfl; have m7 := h9.2.cel 7 _ rfl; have ml := h9.2.lt; clear h9; go_simp
            refine wpAnyH_take (i := 13) (v := .bool false) rfl (by kernel_rfl) (by kernel_rfl) (by kernel_rfl) (fun _ _ _ h => h) (Or.inl ⟨by kernel_rfl, fun w9 h9 => ?_⟩) HS3.out ?_
            · go_simp; all_goals first | rfl | decide | omega | (rw [IntKind.wrap_i64]; omega)
            refine wpAnyH_take (i := 14) (v := .bool false) rfl (by kernel_rfl) (by kernel_rfl) (by kernel_rfl) (fun _ _ _ h => h) (Or.inl ⟨by kernel_rfl, fun w9 h9 => ?_⟩) HS3.out ?_
            · go_simp
            refine wpAnyH_take (i := 15) (v := .bool false) rfl (by kernel_rfl) (by kernel_rfl) (by kernel_rfl) (fun _ _ _ h => h) (Or.inl ⟨by kernel_rfl, fun w9 h9 => ?_⟩) HS3.out ?_
            · go_simp
            refine wpAnyH_take (i := 16) (v := .int .i64 ((0 : Nat) : Int)) rfl (by kernel_rfl) (by kernel_rfl) (by kernel_rfl) (fun _ _ _ h => h) (Or.inl ⟨by kernel_rfl, fun w9 h9 => ?_⟩) HS3.out ?_
            · go_simp
            refine wpAnyH_take (i := 17) (v := .bool false) rfl (by kernel_rfl) (by kernel_rfl) (by kernel_rfl) (fun _ _ _ h => h) (Or.inl ⟨by kernel_rfl, fun w9 h9 => ?_⟩) HS3.out ?_
            · go_simp; all_goals first | rfl | decide | omega | (rw [IntKind.wrap_i64]; omega)
            refine wpAnyH_take (i := 18) (v := .bool false) rfl (by kernel_rfl) (by kernel_rfl) (by kernel_rfl) (fun _ _ _ h => h) (Or.inl ⟨by kernel_rfl, fun w9 h9 => ?_⟩) HS3.out ?_
            · go_simp
            refine wpAnyH_take (i := 19) (v := undef) rfl (by kernel_rfl) (by kernel_rfl) (by kernel_rfl) (fun _ _ _ h => h) (Or.inr ⟨by kernel_rfl, rfl⟩) HS3.out ?_
            refine wpAnyH_take (i := 20) (v := undef) rfl (by kernel_rfl) (by kernel_rfl) (by kernel_rfl) (fun _ _ _ h => h) (Or.inr ⟨by kernel_rfl, rfl⟩) HS3.out ?_
            refine wpAnyH_take (i := 21) (v := undef) rfl (by kernel_rfl) (by kernel_rfl) (by kernel_rfl) (fun _ _ _ h => h) (Or.inr ⟨by kernel_rfl, rfl⟩) HS3.out ?_
            refine wpAnyH_take (i := 22) (v := undef) rfl (by kernel_rfl) (by kernel_rfl) (by kernel_rfl) (fun _ _ _ h => h) (Or.inr ⟨by kernel_rfl, rfl⟩) HS3.out ?_
            refine wpAnyH_take (i := 23) (v := undef) rfl (by kernel_rfl) (by kernel_rfl) (by kernel_rfl) (fun _ _ _ h => h) (Or.inr ⟨by kernel_rfl, rfl⟩) HS3.out ?_
            refine wpAnyH_take (i := 24) (v := undef) rfl (by kernel_rfl) (by kernel_rfl) (by kernel_rfl) (fun _ _ _ h => h) (Or.inr ⟨by kernel_rfl, rfl⟩) HS3.out ?_
            refine wpAnyH_take (i := 25) (v := undef) rfl (by kernel_rfl) (by kernel_rfl) (by kernel_rfl) (fun _ _ _ h => h) (Or.inr ⟨by kernel_rfl, rfl⟩) HS3.out ?_
            refine wpAnyH_take (i := 26) (v := undef) rfl (by kernel_rfl) (by kernel_rfl) (by kernel_rfl) (fun _ _ _ h => h) (Or.inr ⟨by kernel_rfl, rfl⟩) HS3.out ?_
            refine wpAnyH_take (i := 27) (v := undef) rfl (by kernel_rfl) (by kernel_rfl) (by kernel_rfl) (fun _ _ _ h => h) (Or.inr ⟨by kernel_rfl, rfl⟩) HS3.out ?_
            refine wpAnyH_take (i := 28) (v := undef) rfl (by kernel_rfl) (by kernel_rfl) (by kernel_rfl) (fun _ _ _ h => h) (Or.inr ⟨by kernel_rfl, rfl⟩) HS3.out ?_
            refine wpAnyH_take (i := 29) (v := .bool false) rfl (by kernel_rfl) (by kernel_rfl) (by kernel_rfl) (fun _ _ _ h => h) (Or.inl ⟨by kernel_rfl, fun w9 h9 => ?_⟩) HS3.out ?_
            · go_simp
            refine wpAnyH_take (i := 30) (v := .bool false) rfl (by kernel_rfl) (by kernel_rfl) (by kernel_rfl) (fun _ _ _ h => h) (Or.inl ⟨by kernel_rfl, fun w9 h9 => ?_⟩) HS3.out ?_
            · go_simp
            refine wpAnyH_done (by kernel_rfl) ?_ _
            go_simp
            go_wp2
            exact ⟨⟨0 + 1, hlt, by go_num, hok2.out, HS3.out.2⟩, by simp [intOf]; omega⟩
          · obtain ⟨i, rfl⟩ : ∃ i, k = i + 1 := ⟨k - 1, by omega⟩
            have hil : i < s.jobs.length := by omega
            have hi0 : (0 : Int) ≤ (i : Int) := by omega
            have hi1 : (i : Int) < (s.jobs.length : Int) := by omega
            have hi2 : (0 : Int) < ((i + 1 : Nat) : Int) := by omega
            have hi3 : ((i + 1 : Nat) : Int) - 1 = (i : Int) := by omega
            obtain ⟨y, hy⟩ : ∃ y, (s.jobs[i]).number = y := ⟨_, rfl⟩
            have HCJ : Hid (∀ u, Below w.heap.size w u → u.cell? ⟨g, o + i * 5, none⟩ = some (.int .i64 y) ∧ g < u.heap.size) := fun u hu => (by have h9 := HCN.out i hil u hu; rw [hy] at h9; exact h9)
            have HSK3 : Hid (sjk s (i + 1) = decide (y < j.number)) := (show _ = _ by rw [HSK2.out, Nat.add_sub_cancel, jA_at hil, hy]; simp)
            clear HSK2 hy h0
            refine wp_region_held (S := fun w9 => LG w w9 bn #[.int .i64 j.number, .string j.node, .slice al j.ls.length kl, .int .i64 j.done, .int .i64 j.state] 53 ∧ LG w w9 bb #[.slice an s.c.nodes.length kn, .slice av s.c.vms.length kv, .slice ae s.c.tenants.length ke, .int .i64 s.c.over, .int .i64 s.c.time, .slice ak s.kept.length kk, .slice (some ⟨g, o, none⟩) s.jobs.length kj, .int .i64 s.next] 41) (by kernel_rfl) ?_
            change wpAnyH _ _ _ _ _ _ _ _ (World.drew _)
            refine wpAnyH_take (i := 0) (v := .agg #[.int .i64 j.number, .string j.node, .slice al j.ls.length kl, .int .i64 j.done, .int .i64 j.state]) rfl (by kernel_rfl) (by kernel_rfl) (by kernel_rfl) (fun _ _ _ h => h) (Or.inl ⟨by kernel_rfl, fun w9 h9 => ?_⟩) HSB.out ?_
            · have k0 := h9.1.cel 0 _ rfl; have k1 := h9.1.cel 1 _ rfl; have k2 := h9.1.cel 2 _ rfl; have k3 := h9.1.cel 3 _ rfl; have k4 := h9.1.cel 4 _ rfl; have kl2 := h9.1.lt; have m6 := h9.2.cel 6 _ rfl; have m7 := h9.2.cel 7 _ rfl; have ml := h9.2.lt; obtain ⟨dj, gl⟩ := HCJ.out _ h9.1.bel; clear h9; go_simp
            refine held_one 1 (by kernel_rfl) rfl (by kernel_rfl) fun K hK => ?_
            go_simp
            go_wp2_with (go_at_call 13; refine Calls.mono (HSJ.out _ HSB.out.1.bel) ?_; rintro e u3 ⟨rfl, hb⟩; have HS3 : Hid (LG w u3 bn #[.int .i64 j.number, .string j.node, .slice al j.ls.length kl, .int .i64 j.done, .int .i64 j.state] 53 ∧ LG w u3 bb #[.slice an s.c.nodes.length kn, .slice av s.c.vms.length kv, .slice ae s.c.tenants.length ke, .int .i64 s.c.over, .int .i64 s.c.time, .slice ak s.kept.length kk, .slice (some ⟨g, o, none⟩) s.jobs.length kj, .int .i64 s.next] 41) := ⟨HSB.out.1.step hb, HSB.out.2.step hb⟩; clear hb)
            refine hK _ _ HS3.out ?_
            clear hK K
            refine wpAnyH_take (i := 2) (v := .bool false) rfl (by kernel_rfl) (by kernel_rfl) (by kernel_rfl) (fun _ _ _ h => h) (Or.inl ⟨by kernel_rfl, fun w9 h9 => ?_⟩) HS3.out ?_
            · go_simp
            refine wpAnyH_take (i := 3) (v := .bool false) rfl (by kernel_rfl) (by kernel_rfl) (by kernel_rfl) (fun _ _ _ h => h) (Or.inl ⟨by kernel_rfl, fun w9 h9 => ?_⟩) HS3.out ?_
            · go_simp
            refine wpAnyH_take (i := 4) (v := .pointer (some ⟨bn, 0, none⟩)) rfl (by kernel_rfl) (by kernel_rfl) (by kernel_rfl) (fun _ _ _ h => h) (Or.inl ⟨by kernel_rfl, fun w9 h9 => ?_⟩) HS3.out ?_
            · go_simp
            refine wpAnyH_take (i := 5) (v := .int .i64 j.number) rfl (by kernel_rfl) (by kernel_rfl) (by kernel_rfl) (fun _ _ _ h => h) (Or.inl ⟨by kernel_rfl, fun w9 h9 => ?_⟩) HS3.out ?_
            · have k0 := h9.1.cel 0 _ rfl; have k1 := h9.1.cel 1 _ rfl; have k2 := h9.1.cel 2 _ rfl; have k3 := h9.1.cel 3 _ rfl; have k4 := h9.1.cel 4 _ rfl; have kl2 := h9.1.lt; have m6 := h9.2.cel 6 _ rfl; have m7 := h9.2.cel 7 _ rfl; have ml := h9.2.lt; obtain ⟨dj, gl⟩ := HCJ.out _ h9.1.bel; clear h9; go_simp
            refine wpAnyH_take (i := 6) (v := .bool false) rfl (by kernel_rfl) (by kernel_rfl) (by kernel_rfl) (fun _ _ _ h => h) (Or.inl ⟨by kernel_rfl, fun w9 h9 => ?_⟩) HS3.out ?_
            · go_simp; all_goals first | rfl | decide | omega | (rw [IntKind.wrap_i64]; omega)
            refine wpAnyH_take (i := 7) (v := .bool false) rfl (by kernel_rfl) (by kernel_rfl) (by kernel_rfl) (fun _ _ _ h => h) (Or.inl ⟨by kernel_rfl, fun w9 h9 => ?_⟩) HS3.out ?_
            · go_simp
            refine wpAnyH_take (i := 8) (v := .bool false) rfl (by kernel_rfl) (by kernel_rfl) (by kernel_rfl) (fun _ _ _ h => h) (Or.inl ⟨by kernel_rfl, fun w9 h9 => ?_⟩) HS3.out ?_
            · go_simp
            refine wpAnyH_take (i := 9) (v := .pointer (some ⟨bn, 0, none⟩)) rfl (by kernel_rfl) (by kernel_rfl) (by kernel_rfl) (fun _ _ _ h => h) (Or.inl ⟨by kernel_rfl, fun w9 h9 => ?_⟩) HS3.out ?_
            · go_simp
            refine wpAnyH_take (i := 10) (v := .int .i64 j.number) rfl (by kernel_rfl) (by kernel_rfl) (by kernel_rfl) (fun _ _ _ h => h) (Or.inl ⟨by kernel_rfl, fun w9 h9 => ?_⟩) HS3.out ?_
            · have k0 := h9.1.cel 0 _ rfl; have k1 := h9.1.cel 1 _ rfl; have k2 := h9.1.cel 2 _ rfl; have k3 := h9.1.cel 3 _ rfl; have k4 := h9.1.cel 4 _ rfl; have kl2 := h9.1.lt; have m6 := h9.2.cel 6 _ rfl; have m7 := h9.2.cel 7 _ rfl; have ml := h9.2.lt; obtain ⟨dj, gl⟩ := HCJ.out _ h9.1.bel; clear h9; go_simp
            refine wpAnyH_take (i := 11) (v := .pointer (some ⟨bb, 7, none⟩)) rfl (by kernel_rfl) (by kernel_rfl) (by kernel_rfl) (fun _ _ _ h => h) (Or.inl ⟨by kernel_rfl, fun w9 h9 => ?_⟩) HS3.out ?_
            · go_simp
            refine wpAnyH_take (i := 12) (v := .int .i64 s.next) rfl (by kernel_rfl) (by kernel_rfl) (by kernel_rfl) (fun _ _ _ h => h) (Or.inl ⟨by kernel_rfl, fun w9 h9 => ?_⟩) HS3.out ?_
            · have k0 := h9.1.cel 0 _ rfl; have k1 := h9.1.cel 1 _ rfl; have k2 := h9.1.cel 2 _ rfl; have k3 := h9.1.cel 3 _ rfl; have k4 := h9.1.cel 4 _ rfl; have kl2 := h9.1.lt; have m6 := h9.2.cel 6 _ rfl; have m7 := h9.2.cel 7 _ rfl; have ml := h9.2.lt; obtain ⟨dj, gl⟩ := HCJ.out _ h9.1.bel; clear h9; go_simp
            refine wpAnyH_take (i := 13) (v := .bool false) rfl (by kernel_rfl) (by kernel_rfl) (by kernel_rfl) (fun _ _ _ h => h) (Or.inl ⟨by kernel_rfl, fun w9 h9 => ?_⟩) HS3.out ?_
            · go_simp; all_goals first | rfl | decide | omega | (rw [IntKind.wrap_i64]; omega)
            refine wpAnyH_take (i := 14) (v := .bool false) rfl (by kernel_rfl) (by kernel_rfl) (by kernel_rfl) (fun _ _ _ h => h) (Or.inl ⟨by kernel_rfl, fun w9 h9 => ?_⟩) HS3.out ?_
            · go_simp
            refine wpAnyH_take (i := 15) (v := .bool false) rfl (by kernel_rfl) (by kernel_rfl) (by kernel_rfl) (fun _ _ _ h => h) (Or.inl ⟨by kernel_rfl, fun w9 h9 => ?_⟩) HS3.out ?_
            · go_simp
            refine wpAnyH_take (i := 16) (v := .int .i64 ((i + 1 : Nat) : Int)) rfl (by kernel_rfl) (by kernel_rfl) (by kernel_rfl) (fun _ _ _ h => h) (Or.inl ⟨by kernel_rfl, fun w9 h9 => ?_⟩) HS3.out ?_
            · go_simp
            refine wpAnyH_take (i := 17) (v := .bool true) rfl (by kernel_rfl) (by kernel_rfl) (by kernel_rfl) (fun _ _ _ h => h) (Or.inl ⟨by kernel_rfl, fun w9 h9 => ?_⟩) HS3.out ?_
            · go_simp; all_goals first | rfl | decide | omega | (rw [IntKind.wrap_i64]; omega)
            refine wpAnyH_take (i := 18) (v := .bool true) rfl (by kernel_rfl) (by kernel_rfl) (by kernel_rfl) (fun _ _ _ h => h) (Or.inl ⟨by kernel_rfl, fun w9 h9 => ?_⟩) HS3.out ?_
            · go_simp
            refine wpAnyH_take (i := 19) (v := .pointer (some ⟨bb, 6, none⟩)) rfl (by kernel_rfl) (by kernel_rfl) (by kernel_rfl) (fun _ _ _ h => h) (Or.inl ⟨by kernel_rfl, fun w9 h9 => ?_⟩) HS3.out ?_
            · go_simp
            refine wpAnyH_take (i := 20) (v := .slice (some ⟨g, o, none⟩) s.jobs.length kj) rfl (by kernel_rfl) (by kernel_rfl) (by kernel_rfl) (fun _ _ _ h => h) (Or.inl ⟨by kernel_rfl, fun w9 h9 => ?_⟩) HS3.out ?_
            · have k0 := h9.1.cel 0 _ rfl; have k1 := h9.1.cel 1 _ rfl; have k2 := h9.1.cel 2 _ rfl; have k3 := h9.1.cel 3 _ rfl; have k4 := h9.1.cel 4 _ rfl; have kl2 := h9.1.lt; have m6 := h9.2.cel 6 _ rfl; have m7 := h9.2.cel 7 _ rfl; have ml := h9.2.lt; obtain ⟨dj, gl⟩ := HCJ.out _ h9.1.bel; clear h9; go_simp
            refine wpAnyH_take (i := 21) (v := .int .i64 ((i + 1 : Nat) : Int)) rfl (by kernel_rfl) (by kernel_rfl) (by kernel_rfl) (fun _ _ _ h => h) (Or.inl ⟨by kernel_rfl, fun w9 h9 => ?_⟩) HS3.out ?_
            · go_simp
            refine wpAnyH_take (i := 22) (v := .int .i64 (i : Int)) rfl (by kernel_rfl) (by kernel_rfl) (by kernel_rfl) (fun _ _ _ h => h) (Or.inl ⟨by kernel_rfl, fun w9 h9 => ?_⟩) HS3.out ?_
            · go_simp; all_goals first | rfl | decide | omega | (rw [IntKind.wrap_i64]; omega)
            refine wpAnyH_take (i := 23) (v := .pointer (some ⟨g, o + i * 5, none⟩)) rfl (by kernel_rfl) (by kernel_rfl) (by kernel_rfl) (fun _ _ _ h => h) (Or.inl ⟨by kernel_rfl, fun w9 h9 => ?_⟩) HS3.out ?_
            · go_simp
            refine wpAnyH_take (i := 24) (v := .pointer (some ⟨g, o + i * 5, none⟩)) rfl (by kernel_rfl) (by kernel_rfl) (by kernel_rfl) (fun _ _ _ h => h) (Or.inl ⟨by kernel_rfl, fun w9 h9 => ?_⟩) HS3.out ?_
            · go_simp
            refine wpAnyH_take (i := 25) (v := .int .i64 y) rfl (by kernel_rfl) (by kernel_rfl) (by kernel_rfl) (fun _ _ _ h => h) (Or.inl ⟨by kernel_rfl, fun w9 h9 => ?_⟩) HS3.out ?_
            · have k0 := h9.1.cel 0 _ rfl; have k1 := h9.1.cel 1 _ rfl; have k2 := h9.1.cel 2 _ rfl; have k3 := h9.1.cel 3 _ rfl; have k4 := h9.1.cel 4 _ rfl; have kl2 := h9.1.lt; have m6 := h9.2.cel 6 _ rfl; have m7 := h9.2.cel 7 _ rfl; have ml := h9.2.lt; obtain ⟨dj, gl⟩ := HCJ.out _ h9.1.bel; clear h9; go_simp
            refine wpAnyH_take (i := 26) (v := .pointer (some ⟨bn, 0, none⟩)) rfl (by kernel_rfl) (by kernel_rfl) (by kernel_rfl) (fun _ _ _ h => h) (Or.inl ⟨by kernel_rfl, fun w9 h9 => ?_⟩) HS3.out ?_
            · go_simp
            refine wpAnyH_take (i := 27) (v := .int .i64 j.number) rfl (by kernel_rfl) (by kernel_rfl) (by kernel_rfl) (fun _ _ _ h => h) (Or.inl ⟨by kernel_rfl, fun w9 h9 => ?_⟩) HS3.out ?_
            · have k0 := h9.1.cel 0 _ rfl; have k1 := h9.1.cel 1 _ rfl; have k2 := h9.1.cel 2 _ rfl; have k3 := h9.1.cel 3 _ rfl; have k4 := h9.1.cel 4 _ rfl; have kl2 := h9.1.lt; have m6 := h9.2.cel 6 _ rfl; have m7 := h9.2.cel 7 _ rfl; have ml := h9.2.lt; obtain ⟨dj, gl⟩ := HCJ.out _ h9.1.bel; clear h9; go_simp
            refine wpAnyH_take (i := 28) (v := .bool (decide (j.number ≤ y))) rfl (by kernel_rfl) (by kernel_rfl) (by kernel_rfl) (fun _ _ _ h => h) (Or.inl ⟨by kernel_rfl, fun w9 h9 => ?_⟩) HS3.out ?_
            · go_simp; all_goals first | rfl | decide | omega | (rw [IntKind.wrap_i64]; omega)
            refine wpAnyH_take (i := 29) (v := .bool (decide (j.number ≤ y))) rfl (by kernel_rfl) (by kernel_rfl) (by kernel_rfl) (fun _ _ _ h => h) (Or.inl ⟨by kernel_rfl, fun w9 h9 => ?_⟩) HS3.out ?_
            · go_simp
            refine wpAnyH_take (i := 30) (v := .bool (decide (j.number ≤ y))) rfl (by kernel_rfl) (by kernel_rfl) (by kernel_rfl) (fun _ _ _ h => h) (Or.inl ⟨by kernel_rfl, fun w9 h9 => ?_⟩) HS3.out ?_
            · go_simp
            refine wpAnyH_done (by kernel_rfl) ?_ _
            go_simp
            cases hx : decide (j.number ≤ y)
            · have hok2 : Hid (allD (sjk s) (i + 1 + 1) = true) := (show _ = _ by rw [allD_succ, HOK.out, HSK3.out, decide_eq_true (show y < j.number by have := of_decide_eq_false hx; omega)]; rfl)
              go_wp2
              exact ⟨⟨i + 1 + 1, hlt, by go_num, hok2.out, HS3.out.2⟩, by simp [intOf]; omega⟩
            · have hbad : sjk s (i + 1) = false := by rw [HSK3.out]; exact decide_eq_false (by have := of_decide_eq_true hx; omega)
              have E2 : Hid (V = 1) := (show V = 1 by rw [E3.out, allD_badI hlt hbad]; rfl)
              clear hbad
              go_wp2
              go_ret
              exact ⟨ret_int E2.out.symm, HB9.out ▸ HS3.out.1.bel⟩
        · obtain rfl : k = s.jobs.length := by omega
          have E2 : Hid (V = 0) := (show V = 0 by rw [E3.out, HOK.out]; rfl)
          have hnl : ¬ ((s.jobs.length : Nat) : Int) < (s.jobs.length : Int) := by omega
          go_wp2
          go_ret
          exact ⟨ret_int E2.out.symm, HB9.out ▸ HLG3.out.bel⟩
end Go.Proofs.YtalpcjclahkgnaaGreat
