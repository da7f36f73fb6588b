import Derived.Test.YtomfbiiegcmmlaaGreatJm1
import Derived.Test.YtomfbiiegcmmlaaGreatHl
namespace Go.Proofs.YtomfbiiegcmmlaaGreat
open Go.ChangeShapes Go.WideShapes Go.ChangeAt Go.RowKit

set_option maxRecDepth 100000
/-- An image in the midst of a row. -/
structure PE (w : World) (g o : Nat) (m : IM) (a : IA) : Prop where
  lt : g < w.heap.size
  c0 : w.cell? ⟨g, o, none⟩ = some (.string m.n)
  c1 : w.cell? ⟨g, o + 1, none⟩ = some (.string m.b)
  c2 : w.cell? ⟨g, o + 2, none⟩ = some a.vt
  c3 : w.cell? ⟨g, o + 3, none⟩ = some a.vd
  c4 : w.cell? ⟨g, o + 4, none⟩ = some a.vs
  row : IRows w m a
theorem PE.below {w w' : World} {g o : Nat} {m : IM} {a : IA} (h : PE w g o m a) (hb : Below w.heap.size w w') : PE w' g o m a :=
  ⟨Nat.lt_of_lt_of_le h.lt hb.size, ((bcell hb).1 g o h.lt).trans h.c0, ((bcell hb).1 g (o + 1) h.lt).trans h.c1, ((bcell hb).1 g (o + 2) h.lt).trans h.c2, ((bcell hb).1 g (o + 3) h.lt).trans h.c3, ((bcell hb).1 g (o + 4) h.lt).trans h.c4, h.row.below hb⟩
theorem PE.cel {w : World} {g o : Nat} {m : IM} {a : IA} (h : PE w g o m a) : ∃ p1 r1 p2 r2 p3 r3, w.cell? ⟨g, o, none⟩ = some (.string m.n) ∧ w.cell? ⟨g, o + 1, none⟩ = some (.string m.b) ∧ w.cell? ⟨g, o + 2, none⟩ = some (.slice p1 m.t.length r1) ∧ w.cell? ⟨g, o + 3, none⟩ = some (.slice p2 m.d.length r2) ∧ w.cell? ⟨g, o + 4, none⟩ = some (.slice p3 m.s.length r3) := by
  obtain ⟨p1, r1, s1⟩ := h.row.t.sl
  obtain ⟨p2, r2, s2⟩ := h.row.d.sl
  obtain ⟨p3, r3, s3⟩ := h.row.sn.sl
  rw [h.row.si.len] at s3
  have c2 := h.c2
  have c3 := h.c3
  have c4 := h.c4
  rw [s1] at c2
  rw [s2] at c3
  rw [s3] at c4
  exact ⟨p1, r1, p2, r2, p3, r3, h.c0, h.c1, c2, c3, c4⟩
theorem IGrow.elt {w : World} {v : Value} {gs : List IG} {ms : List IM} (h : IGrow w v gs) (hi : IGin w gs ms) {k : Nat} (hk : k < ms.length) : ∃ g o cap a, v = .slice (some ⟨g, o, none⟩) ms.length cap ∧ PE w g (o + k * 5) ms[k] a := by
  have hlq := hi.len
  have hkq : k < gs.length := by rw [hlq]; exact hk
  obtain ⟨g, o, cap2, hv, _, hg, hcc⟩ := h.resolve_left (fun h => by rw [h.1] at hkq; simp at hkq)
  obtain ⟨e0, e1, q, e2⟩ := hi.el k hkq hk
  obtain ⟨d0, d1, d2, d3, d4⟩ := hcc k hkq
  rw [e0] at d0
  rw [e1] at d1
  rw [hlq] at hv
  exact ⟨g, o, cap2, ⟨gs[k].t, gs[k].d, gs[k].s, q⟩, hv, hg, d0, d1, d2, d3, d4, e2⟩
/-- A state behind a pointer. -/
structure JP (w : World) (b : Nat) (s : JS) (v : Value) (gs : List IG) : Prop where
  lt : b < w.heap.size
  c0 : w.cell? ⟨b, 0, none⟩ = some v
  c1 : w.cell? ⟨b, 1, none⟩ = some (.string s.a)
  c2 : w.cell? ⟨b, 2, none⟩ = some (.int .i64 s.j.k)
  c3 : w.cell? ⟨b, 3, none⟩ = some (.int .i64 s.j.x)
  c4 : w.cell? ⟨b, 4, none⟩ = some (.string s.j.d)
  c5 : w.cell? ⟨b, 5, none⟩ = some (.string s.j.g)
  row : IGrow w v gs
  inn : IGin w gs s.ms
theorem JP.below {w w' : World} {b : Nat} {s : JS} {v : Value} {gs : List IG} (h : JP w b s v gs) (hb : Below w.heap.size w w') : JP w' b s v gs :=
  ⟨Nat.lt_of_lt_of_le h.lt hb.size, ((bcell hb).1 b 0 h.lt).trans h.c0, ((bcell hb).1 b 1 h.lt).trans h.c1, ((bcell hb).1 b 2 h.lt).trans h.c2, ((bcell hb).1 b 3 h.lt).trans h.c3, ((bcell hb).1 b 4 h.lt).trans h.c4, ((bcell hb).1 b 5 h.lt).trans h.c5, h.row.below hb, h.inn.below hb⟩
theorem JP.pe {w : World} {b : Nat} {s : JS} {gs : List IG} {g o L cap : Nat} (h : JP w b s (.slice (some ⟨g, o, none⟩) L cap) gs) {k : Nat} (hk : k < s.ms.length) : ∃ a, PE w g (o + k * 5) (gI s.ms k) a := by
  obtain ⟨g2, o2, cap2, a, hv, hp⟩ := h.row.elt h.inn hk
  rw [← gI_at s.ms k hk] at hp
  injection hv with hv1 hv2 hv3
  injection hv1 with hv4
  injection hv4 with h1 h2
  subst h1 h2
  exact ⟨a, hp⟩
set_option maxHeartbeats 4000000 in
theorem jImage_any {w : World} {b : Nat} {s : JS} {gs : List IG} {g o cap : Nat} (h : JP w b s (.slice (some ⟨g, o, none⟩) s.ms.length cap) gs) (hl : s.ms.length ≤ 1048576) {n : ByteArray} {k : Nat} (hf : fdN s.ms n = some k) : Calls Tryz.prog 153 #[.pointer (some ⟨b, 0, none⟩), .string n] w fun e w' => e = .returned (.pointer (some ⟨g, o + k * 5, none⟩)) ∧ Below w.heap.size w w' := by
  have hk := fdN_lt hf
  have HJ : Hid (JP w b s (.slice (some ⟨g, o, none⟩) s.ms.length cap) gs) := h
  have BD : Hid (Below w.heap.size w w.drew) := (Below.refl _ _).drew
  have HIA : Hid _ := imageAt_any (h.row.below BD.out) (h.inn.below BD.out) hl n
  rw [show fdI s.ms n = k from by unfold fdI; rw [hf]] at HIA
  have hk0 : (0 : Int) ≤ (k : Int) := by omega
  have hk1 : (k : Int) < (s.ms.length : Int) := by omega
  clear h hf
  go_enter Tryz.func153, Tryz.ntmps153
  go_wp2_with fail
  refine wp_region_held (S := fun w9 => JP w9 b s (.slice (some ⟨g, o, none⟩) s.ms.length cap) gs) (by kernel_rfl) ?_
  change wpAnyH _ _ _ _ _ _ _ _ (World.drew _)
  refine wpAnyH_take (i := 0) (v := .pointer (some ⟨b, 0, none⟩)) rfl (by kernel_rfl) (by kernel_rfl) (by kernel_rfl) (fun _ _ _ h => h) (Or.inl ⟨by kernel_rfl, fun w9 h9 => ?_⟩) (HJ.out.below BD.out) ?_
  · go_simp
  refine wpAnyH_take (i := 1) (v := .pointer (some ⟨b, 0, none⟩)) rfl (by kernel_rfl) (by kernel_rfl) (by kernel_rfl) (fun _ _ _ h => h) (Or.inl ⟨by kernel_rfl, fun w9 h9 => ?_⟩) (HJ.out.below BD.out) ?_
  · go_simp
  refine wpAnyH_take (i := 2) (v := .pointer (some ⟨b, 0, none⟩)) rfl (by kernel_rfl) (by kernel_rfl) (by kernel_rfl) (fun _ _ _ h => h) (Or.inl ⟨by kernel_rfl, fun w9 h9 => ?_⟩) (HJ.out.below BD.out) ?_
  · go_simp
  refine wpAnyH_take (i := 3) (v := .slice (some ⟨g, o, none⟩) s.ms.length cap) rfl (by kernel_rfl) (by kernel_rfl) (by kernel_rfl) (fun _ _ _ h => h) (Or.inl ⟨by kernel_rfl, fun w9 h9 => ?_⟩) (HJ.out.below BD.out) ?_
  · obtain ⟨y9, x0, x1, x2, x3, x4, x5, _, _⟩ := h9; go_simp
  refine wpAnyH_take (i := 4) (v := .pointer (some ⟨b, 0, none⟩)) rfl (by kernel_rfl) (by kernel_rfl) (by kernel_rfl) (fun _ _ _ h => h) (Or.inl ⟨by kernel_rfl, fun w9 h9 => ?_⟩) (HJ.out.below BD.out) ?_
  · go_simp
  refine wpAnyH_take (i := 5) (v := .pointer (some ⟨b, 0, none⟩)) rfl (by kernel_rfl) (by kernel_rfl) (by kernel_rfl) (fun _ _ _ h => h) (Or.inl ⟨by kernel_rfl, fun w9 h9 => ?_⟩) (HJ.out.below BD.out) ?_
  · go_simp
  refine wpAnyH_take (i := 6) (v := .pointer (some ⟨b, 0, none⟩)) rfl (by kernel_rfl) (by kernel_rfl) (by kernel_rfl) (fun _ _ _ h => h) (Or.inl ⟨by kernel_rfl, fun w9 h9 => ?_⟩) (HJ.out.below BD.out) ?_
  · go_simp
  refine wpAnyH_take (i := 7) (v := .slice (some ⟨g, o, none⟩) s.ms.length cap) rfl (by kernel_rfl) (by kernel_rfl) (by kernel_rfl) (fun _ _ _ h => h) (Or.inl ⟨by kernel_rfl, fun w9 h9 => ?_⟩) (HJ.out.below BD.out) ?_
  · obtain ⟨y9, x0, x1, x2, x3, x4, x5, _, _⟩ := h9; go_simp
  refine wpAnyH_take (i := 8) (v := .string n) rfl (by kernel_rfl) (by kernel_rfl) (by kernel_rfl) (fun _ _ _ h => h) (Or.inl ⟨by kernel_rfl, fun w9 h9 => ?_⟩) (HJ.out.below BD.out) ?_
  · go_simp
  refine held_one 9 (by kernel_rfl) rfl (by kernel_rfl) fun K hK => ?_
  go_simp
  go_wp2_with (go_at_call 66; refine Calls.mono HIA.out ?_; rintro e u1 ⟨rfl, hu⟩; have HU : Hid (Below w.heap.size w u1) := BD.out.trans (hu.mono BD.out.size); clear hu)
  refine hK _ _ (HJ.out.below HU.out) ?_
  clear hK K
  refine wpAnyH_take (i := 10) (v := .pointer (some ⟨g, o + k * 5, none⟩)) rfl (by kernel_rfl) (by kernel_rfl) (by kernel_rfl) (fun _ _ _ h => h) (Or.inl ⟨by kernel_rfl, fun w9 h9 => ?_⟩) (HJ.out.below HU.out) ?_
  · go_simp
  refine wpAnyH_take (i := 11) (v := .pointer (some ⟨g, o + k * 5, none⟩)) rfl (by kernel_rfl) (by kernel_rfl) (by kernel_rfl) (fun _ _ _ h => h) (Or.inl ⟨by kernel_rfl, fun w9 h9 => ?_⟩) (HJ.out.below HU.out) ?_
  · go_simp
  refine wpAnyH_done (by kernel_rfl) ?_ _
  go_simp
  go_wp2
  go_ret
  exact ⟨rfl, HU.out⟩
set_option maxHeartbeats 4000000 in
theorem jActive_any {w : World} {b : Nat} {s : JS} {gs : List IG} {g o cap : Nat} (h : JP w b s (.slice (some ⟨g, o, none⟩) s.ms.length cap) gs) (hl : s.ms.length ≤ 1048576) {c : Nat} (hf : fdN s.ms s.a = some c) : Calls Tryz.prog 130 #[.pointer (some ⟨b, 0, none⟩)] w fun e w' => e = .returned (.pointer (some ⟨g, o + c * 5, none⟩)) ∧ Below w.heap.size w w' := by
  have HI : Hid _ := jImage_any h hl hf
  have c1 := h.c1
  have hlt := h.lt
  clear h
  go_enter Tryz.func130, Tryz.ntmps130
  go_wp2_with (go_at_call 153; refine Calls.mono HI.out ?_; rintro e u1 ⟨rfl, hu⟩; have HU : Hid (Below w.heap.size w u1) := hu; clear hu)
  go_ret
  exact ⟨rfl, HU.out⟩
set_option maxHeartbeats 4000000 in
theorem jClusters_any {w : World} {b : Nat} {s : JS} {gs : List IG} {g o cap : Nat} (h : JP w b s (.slice (some ⟨g, o, none⟩) s.ms.length cap) gs) (hl : s.ms.length ≤ 1048576) {c : Nat} (hf : fdN s.ms s.a = some c) : Calls Tryz.prog 85 #[.pointer (some ⟨b, 0, none⟩)] w fun e w' => e = .returned (.int .i64 ((gI s.ms c).t.length : Nat)) ∧ Below w.heap.size w w' := by
  have HI : Hid _ := jActive_any h hl hf
  obtain ⟨a, hp⟩ := h.pe (fdN_lt hf)
  have HP : Hid (PE w g (o + c * 5) (gI s.ms c) a) := hp
  clear h hp
  go_enter Tryz.func85, Tryz.ntmps85
  go_wp2_with (go_at_call 130; refine Calls.mono HI.out ?_; rintro e u1 ⟨rfl, hu⟩; have HU : Hid (Below w.heap.size w u1) := hu; have hp2 := HP.out.below hu; obtain ⟨p1, r1, p2, r2, p3, r3, z0, z1, z2, z3, z4⟩ := hp2.cel; have hgl := hp2.lt; clear hu hp2)
  go_ret
  exact ⟨rfl, HU.out⟩

set_option maxRecDepth 100000
set_option maxHeartbeats 4000000 in
theorem jFronts_any {w : World} {b : Nat} {s : JS} {v : Value} {gs : List IG} (h : JP w b s v gs) (hl : s.ms.length ≤ 1048576) (n : ByteArray) : Calls Tryz.prog 67 #[.pointer (some ⟨b, 0, none⟩), .string n] w fun e w' => e = .returned (.int .i64 (frL s.ms n : Nat)) ∧ Below w.heap.size w w' := by
  obtain ⟨ao, cap, rfl⟩ := h.row.sl
  have hlq := h.inn.len
  rw [hlq] at h
  have c0 := h.c0
  have hlt := h.lt
  have HJ : Hid (JP w b s (.slice ao s.ms.length cap) gs) := h
  clear h hlq
  go_enter Tryz.func67, Tryz.ntmps67
  go_wp2
  go_loopw [5, 13] (fun x i wr => ∃ k : Nat, k ≤ s.ms.length ∧ i = .int .i64 k ∧ x = .int .i64 (frL (s.ms.take k) n : Nat) ∧ Below w.heap.size w wr) (fun _ i _ => s.ms.length - (intOf i).toNat)
  case atStart => exact ⟨0, Nat.zero_le _, rfl, rfl, Below.refl _ _⟩
  case round =>
    obtain ⟨k, hk, rfl, rfl, hb⟩ := hrel
    have HB : Hid (Below w.heap.size w wr) := hb
    by_cases hkl : k < s.ms.length
    · have h2 := HJ.out.below hb
      obtain ⟨g, o, cap2, a, hv, hp⟩ := h2.row.elt h2.inn hkl
      injection hv with hv1 hv2 hv3
      subst hv1 hv3
      obtain ⟨p1, r1, p2, r2, p3, r3, z0, z1, z2, z3, z4⟩ := hp.cel
      have hgl := hp.lt
      have hk0 : (0 : Int) ≤ (k : Int) := by omega
      have hk1 : (k : Int) < (s.ms.length : Int) := by omega
      have HE : Hid _ := frL_succ s.ms n k hkl
      have hfl := frL_le (s.ms.take k) n
      have hfl2 : frL (s.ms.take k) n ≤ 1048576 := by rw [List.length_take] at hfl; omega
      generalize frL (s.ms.take k) n = F at *
      generalize s.ms[k] = m at *
      have HB2 : Hid (Below w.heap.size w (wr.alloc (.cells #[.string m.n, .string m.b, .slice p1 m.t.length r1, .slice p2 m.d.length r2, .slice p3 m.s.length r3] 68))) := hb.alloc hb.size _
      clear h2 hp hv2 hb hfl
      cases hq : (m.b.toList == n.toList)
      · have HE2 : Hid (frL (s.ms.take (k + 1)) n = F) := (show _ = F by rw [HE.out]; unfold bq; rw [hq]; rfl)
        go_wp2
        exact ⟨⟨k + 1, hkl, by simp, by rw [HE2.out], HB2.out⟩, by simp [intOf]; omega⟩
      · have HE2 : Hid (frL (s.ms.take (k + 1)) n = F + 1) := (show _ = F + 1 by rw [HE.out]; unfold bq; rw [hq]; rfl)
        go_wp2
        exact ⟨⟨k + 1, hkl, by simp, by rw [HE2.out]; simp, HB2.out⟩, by simp [intOf]; omega⟩
    · obtain rfl : k = s.ms.length := by omega
      rw [List.take_length]
      go_wp2
      go_ret
      exact ⟨rfl, HB.out⟩
theorem uJB : Tryz.prog.underlying 30 = some (.struct (Tryz.prog.fieldsOf 30)) := by kernel_rfl
theorem stJB : Tryz.prog.stoodInHeld 30 = false := by kernel_rfl
theorem fJB : (Tryz.prog.fieldsOf 30).toList.map (fun f => (f.name == "_", f.type, f.offset)) = [(false, 2, 0), (false, 2, 1), (false, 9, 2), (false, 9, 3)] := by kernel_rfl
theorem listF4 {α : Type} {cs : List α} (h : cs.length = 4) : ∃ x y z u, cs = [x, y, z, u] := by
  match cs, h with
  | [x, y, z, u], _ => exact ⟨x, y, z, u, rfl⟩
theorem pj0 (a b : Int) (c d : ByteArray) (w : World) : (part 2 #[.int .i64 a, .int .i64 b, .string c, .string d] 0).run Tryz.prog w = .ok (.int .i64 a) w := by kernel_rfl
theorem pj1 (a b : Int) (c d : ByteArray) (w : World) : (part 2 #[.int .i64 a, .int .i64 b, .string c, .string d] 1).run Tryz.prog w = .ok (.int .i64 b) w := by kernel_rfl
theorem pj2 (a b : Int) (c d : ByteArray) (w : World) : (part 9 #[.int .i64 a, .int .i64 b, .string c, .string d] 2).run Tryz.prog w = .ok (.string c) w := by kernel_rfl
theorem pj3 (a b : Int) (c d : ByteArray) (w : World) : (part 9 #[.int .i64 a, .int .i64 b, .string c, .string d] 3).run Tryz.prog w = .ok (.string d) w := by kernel_rfl
theorem eqJBN (n : Nat) (a b : Int) (c d : ByteArray) (a2 b2 : Int) (c2 d2 : ByteArray) (w : World) : (Op.equalIn (n + 2) 30 (.agg #[.int .i64 a, .int .i64 b, .string c, .string d]) (.agg #[.int .i64 a2, .int .i64 b2, .string c2, .string d2])).run Tryz.prog w = .ok (a == a2 && (b == b2 && (c.toList == c2.toList && d.toList == d2.toList))) w := by
  rw [run_equalIn_struct w (n + 1) 30 _ _ uJB stJB]
  have hf := fJB
  obtain ⟨f1, f2, f3, f4, hq⟩ := listF4 (show (Tryz.prog.fieldsOf 30).toList.length = 4 by kernel_rfl)
  rw [hq] at hf ⊢
  simp only [List.map_cons, List.map_nil, List.cons.injEq, Prod.mk.injEq, and_true] at hf
  obtain ⟨⟨n1, t1, o1⟩, ⟨n2, t2, o2⟩, ⟨n3, t3, o3⟩, n4, t4, o4⟩ := hf
  have m1 : f1.name ≠ "_" := by simpa using n1
  have m2 : f2.name ≠ "_" := by simpa using n2
  have m3 : f3.name ≠ "_" := by simpa using n3
  have m4 : f4.name ≠ "_" := by simpa using n4
  simp only [Op.eqFields, ne_eq, m1, m2, m3, m4, not_false_eq_true, if_true, t1, o1, t2, o2, t3, o3, t4, o4, Sem.run_bind, pj0, pj1, pj2, pj3, Result.andThen_ok, run_equalIn_int w n 2 .i64 .i64 _ _ Tryz.underlying2, run_equalIn_string w n 9 _ _ Tryz.underlying9, Sem.run_ite, Sem.run_pure]
  cases a == a2 <;> cases b == b2 <;> cases c.toList == c2.toList <;> cases d.toList == d2.toList <;> simp
theorem eqJB (a b : Int) (c d : ByteArray) (a2 b2 : Int) (c2 d2 : ByteArray) (w : World) : (binOp .eql 30 (.agg #[.int .i64 a, .int .i64 b, .string c, .string d]) (.agg #[.int .i64 a2, .int .i64 b2, .string c2, .string d2])).run Tryz.prog w = .ok (.bool (a == a2 && (b == b2 && (c.toList == c2.toList && d.toList == d2.toList)))) w := by
  rw [run_eql_struct, eqJBN 9998]
  rfl
theorem neJB (a b : Int) (c d : ByteArray) (a2 b2 : Int) (c2 d2 : ByteArray) (w : World) : (binOp .neq 30 (.agg #[.int .i64 a, .int .i64 b, .string c, .string d]) (.agg #[.int .i64 a2, .int .i64 b2, .string c2, .string d2])).run Tryz.prog w = .ok (.bool (!(a == a2 && (b == b2 && (c.toList == c2.toList && d.toList == d2.toList))))) w := by
  have h : (Op.equal 30 (.agg #[.int .i64 a, .int .i64 b, .string c, .string d]) (.agg #[.int .i64 a2, .int .i64 b2, .string c2, .string d2])).run Tryz.prog w = .ok (a == a2 && (b == b2 && (c.toList == c2.toList && d.toList == d2.toList))) w := eqJBN 9998 a b c d a2 b2 c2 d2 w
  generalize (a == a2 && (b == b2 && (c.toList == c2.toList && d.toList == d2.toList))) = Z at *
  simp only [binOp, Sem.run_bind, h]
  rfl
set_option maxHeartbeats 4000000 in
theorem jHasJob_any {w : World} {b : Nat} {s : JS} {v : Value} {gs : List IG} (h : JP w b s v gs) : Calls Tryz.prog 68 #[.pointer (some ⟨b, 0, none⟩)] w fun e w' => e = .returned (.bool (hjB s.j)) ∧ w' = w := by
  have c2 := h.c2
  have c3 := h.c3
  have c4 := h.c4
  have c5 := h.c5
  have hlt := h.lt
  have hE := fun u => neJB s.j.k s.j.x s.j.d s.j.g 0 0 ⟨#[]⟩ ⟨#[]⟩ u
  rw [bq_nil, bq_nil] at hE
  have HG : Hid ((!(s.j.k == 0 && (s.j.x == 0 && (decide (s.j.d.size = 0) && decide (s.j.g.size = 0))))) = hjB s.j) := (show _ = _ from rfl)
  generalize (!(s.j.k == 0 && (s.j.x == 0 && (decide (s.j.d.size = 0) && decide (s.j.g.size = 0))))) = Z at *
  clear h
  go_enter Tryz.func68, Tryz.ntmps68
  go_wp2
  go_ret
  exact ⟨ret_bool HG.out, rfl⟩

set_option maxRecDepth 100000
theorem PE.sl {w : World} {g o : Nat} {m : IM} {a : IA} (h : PE w g o m a) : ∃ p1 r1 p2 r2 p3 r3 q, a = ⟨.slice p1 m.t.length r1, .slice p2 m.d.length r2, .slice p3 m.s.length r3, q⟩ := by
  obtain ⟨p1, r1, s1⟩ := h.row.t.sl
  obtain ⟨p2, r2, s2⟩ := h.row.d.sl
  obtain ⟨p3, r3, s3⟩ := h.row.sn.sl
  rw [h.row.si.len] at s3
  obtain ⟨vt, vd, vs, q⟩ := a
  simp only at s1 s2 s3
  subst s1 s2 s3
  exact ⟨_, _, _, _, _, _, _, rfl⟩
set_option maxHeartbeats 4000000 in
theorem askStream_any {w : World} {b : Nat} {s : JS} {gs : List IG} {g o cap : Nat} (h : JP w b s (.slice (some ⟨g, o, none⟩) s.ms.length cap) gs) (hl : s.ms.length ≤ 1048576) {c : Nat} (hf : fdN s.ms s.a = some c) (tg : ByteArray) : Calls Tryz.prog 155 #[.pointer (some ⟨b, 0, none⟩), .string tg] w fun e w' => e = .returned (.int .i64 (if (gI s.ms c).b.size = 0 then 5 else 0)) ∧ Below w.heap.size w w' := by
  have HA : Hid _ := jActive_any h hl hf
  obtain ⟨a, hp⟩ := h.pe (fdN_lt hf)
  have HP : Hid (PE w g (o + c * 5) (gI s.ms c) a) := hp
  clear h hp
  generalize gI s.ms c = m at *
  by_cases hz : m.b.size = 0
  · rw [if_pos hz]
    have HBE : Hid (m.b = ⟨#[]⟩) := ba_empty hz
    clear hz
    go_enter Tryz.func155, Tryz.ntmps155
    go_wp2_with (go_at_call 130; refine Calls.mono HA.out ?_; rintro e u1 ⟨rfl, hu⟩; have HU : Hid (Below w.heap.size w u1) := hu; have hp2 := HP.out.below hu; have z1 := hp2.c1; rw [HBE.out] at z1; have hgl := hp2.lt; clear hu hp2)
    go_ret
    exact ⟨rfl, HU.out⟩
  · rw [if_neg hz]
    obtain ⟨hie, hne⟩ := ba_ne hz
    clear hz
    go_enter Tryz.func155, Tryz.ntmps155
    go_wp2_with (go_at_call 130; refine Calls.mono HA.out ?_; rintro e u1 ⟨rfl, hu⟩; have HU : Hid (Below w.heap.size w u1) := hu; have hp2 := HP.out.below hu; have z1 := hp2.c1; have hgl := hp2.lt; clear hu hp2)
    go_ret
    exact ⟨rfl, HU.out⟩
set_option maxHeartbeats 4000000 in
theorem askCommit_any {w : World} {b : Nat} {s : JS} {gs : List IG} {g o cap : Nat} (h : JP w b s (.slice (some ⟨g, o, none⟩) s.ms.length cap) gs) (hl : s.ms.length ≤ 1048576) (hr : RL s.ms) {c : Nat} (hf : fdN s.ms s.a = some c) (tg : ByteArray) : Calls Tryz.prog 158 #[.pointer (some ⟨b, 0, none⟩), .string tg] w fun e w' => e = .returned (.int .i64 (if (gI s.ms c).b.size = 0 then 5 else cmC s.ms c)) ∧ Below w.heap.size w w' := by
  have HA : Hid _ := jActive_any h hl hf
  have hc := fdN_lt hf
  obtain ⟨a, hp⟩ := h.pe hc
  obtain ⟨p1, r1, p2, r2, p3, r3, q, rfl⟩ := hp.sl
  have HP : Hid (PE w g (o + c * 5) (gI s.ms c) ⟨.slice p1 (gI s.ms c).t.length r1, .slice p2 (gI s.ms c).d.length r2, .slice p3 (gI s.ms c).s.length r3, q⟩) := hp
  have HJ : Hid (JP w b s (.slice (some ⟨g, o, none⟩) s.ms.length cap) gs) := h
  have HFR : Hid (∀ u, Below w.heap.size w u → Calls Tryz.prog 67 #[.pointer (some ⟨b, 0, none⟩), .string (gI s.ms c).b] u fun e w' => e = .returned (.int .i64 (frL s.ms (gI s.ms c).b : Nat)) ∧ Below u.heap.size u w') := fun u hu => jFronts_any (HJ.out.below hu) hl _
  clear hp
  by_cases hz : (gI s.ms c).b.size = 0
  · rw [if_pos hz]
    have HBE : Hid ((gI s.ms c).b = ⟨#[]⟩) := ba_empty hz
    clear hz HFR h hr hc
    generalize gI s.ms c = m at *
    go_enter Tryz.func158, Tryz.ntmps158
    go_wp2_with (go_at_call 130; refine Calls.mono HA.out ?_; rintro e u1 ⟨rfl, hu⟩; have HU : Hid (Below w.heap.size w u1) := hu; have hp2 := HP.out.below hu; have z1 := hp2.c1; rw [HBE.out] at z1; have hgl := hp2.lt; clear hu hp2)
    go_ret
    exact ⟨rfl, HU.out⟩
  rw [if_neg hz]
  obtain ⟨hie, hne⟩ := ba_ne hz
  obtain ⟨k, hq, hk, _, _⟩ := pth_next (hr.ce c hc) hz
  have hq2 : fdN s.ms (gI s.ms c).b = some k := hq
  have HIM : Hid (∀ u, Below w.heap.size w u → Calls Tryz.prog 153 #[.pointer (some ⟨b, 0, none⟩), .string (gI s.ms c).b] u fun e w' => e = .returned (.pointer (some ⟨g, o + k * 5, none⟩)) ∧ Below u.heap.size u w') := fun u hu => jImage_any (HJ.out.below hu) hl hq2
  obtain ⟨a2, hp2⟩ := h.pe hk
  obtain ⟨p4, r4, p5, r5, p6, r6, q2, rfl⟩ := hp2.sl
  have HP2 : Hid (PE w g (o + k * 5) (gI s.ms k) ⟨.slice p4 (gI s.ms k).t.length r4, .slice p5 (gI s.ms k).d.length r5, .slice p6 (gI s.ms k).s.length r6, q2⟩) := hp2
  have hfl := frL_le s.ms (gI s.ms c).b
  unfold cmC
  rw [hq2]
  simp only
  clear hz hq hq2 hp2 h hr hc hk hf
  generalize frL s.ms (gI s.ms c).b = F at *
  generalize gI s.ms c = m at *
  generalize gI s.ms k = m2 at *
  by_cases h1 : 1 < F
  · rw [if_pos (.inl h1)]
    have h1i : (1 : Int) < (F : Int) := by omega
    go_enter Tryz.func158, Tryz.ntmps158
    go_wp2_with (first | (go_at_call 130; refine Calls.mono HA.out ?_; rintro e u1 ⟨rfl, hu⟩; have HU : Hid (Below w.heap.size w u1) := hu; have hp2 := HP.out.below hu; have z1 := hp2.c1; have hgl := hp2.lt; clear hu hp2) | (go_at_call 67; refine Calls.mono (HFR.out _ HU.out) ?_; rintro e u2 ⟨rfl, hu⟩; have HU2 : Hid (Below w.heap.size w u2) := HU.out.trans (hu.mono HU.out.size); clear hu))
    go_ret
    exact ⟨rfl, HU2.out⟩
  have h1i : ¬ (1 : Int) < (F : Int) := by omega
  by_cases h2 : 0 < m.s.length
  · rw [if_pos (.inr h2)]
    have h2i : (0 : Int) < (m.s.length : Int) := by omega
    go_enter Tryz.func158, Tryz.ntmps158
    go_wp2_with (first | (go_at_call 130; refine Calls.mono HA.out ?_; rintro e u1 ⟨rfl, hu⟩; have HU : Hid (Below w.heap.size w u1) := hu; have hp2 := HP.out.below hu; have z1 := hp2.c1; have hgl := hp2.lt; clear hu hp2) | (go_at_call 67; refine Calls.mono (HFR.out _ HU.out) ?_; rintro e u2 ⟨rfl, hu⟩; have HU2 : Hid (Below w.heap.size w u2) := HU.out.trans (hu.mono HU.out.size); have hp3 := HP.out.below HU2.out; have z4 := hp3.c4; have hgl2 := hp3.lt; clear hu hp3))
    go_ret
    exact ⟨rfl, HU2.out⟩
  have h2i : ¬ (0 : Int) < (m.s.length : Int) := by omega
  rw [if_neg (by omega)]
  obtain ⟨R, hR⟩ : ∃ R : Int, (if m2.t.length < m.t.length then (2 : Int) else 0) = R := ⟨_, rfl⟩
  rw [hR]
  have HR : Hid ((if m2.t.length < m.t.length then (2 : Int) else 0) = R) := hR
  clear hR
  go_enter Tryz.func158, Tryz.ntmps158
  go_wp2_with (first | (go_at_call 130; refine Calls.mono HA.out ?_; rintro e u1 ⟨rfl, hu⟩; have HU : Hid (Below w.heap.size w u1) := hu; have hp2 := HP.out.below hu; have z1 := hp2.c1; have hgl := hp2.lt; clear hu hp2) | (go_at_call 67; refine Calls.mono (HFR.out _ HU.out) ?_; rintro e u2 ⟨rfl, hu⟩; have HU2 : Hid (Below w.heap.size w u2) := HU.out.trans (hu.mono HU.out.size); have hp3 := HP.out.below HU2.out; have z4 := hp3.c4; have hgl2 := hp3.lt; clear hu hp3))
  have HBD : Hid (Below w.heap.size w u2.drew) := HU2.out.trans ((Below.refl _ _).drew.mono HU2.out.size)
  have HSS : Hid (∀ u, Below w.heap.size w u → JP u b s (.slice (some ⟨g, o, none⟩) s.ms.length cap) gs ∧ PE u g (o + c * 5) m ⟨.slice p1 m.t.length r1, .slice p2 m.d.length r2, .slice p3 m.s.length r3, q⟩ ∧ PE u g (o + k * 5) m2 ⟨.slice p4 m2.t.length r4, .slice p5 m2.d.length r5, .slice p6 m2.s.length r6, q2⟩) := fun u hu => ⟨HJ.out.below hu, HP.out.below hu, HP2.out.below hu⟩
  clear z1 z4
  refine wp_region_held (S := fun w9 => JP w9 b s (.slice (some ⟨g, o, none⟩) s.ms.length cap) gs ∧ PE w9 g (o + c * 5) m ⟨.slice p1 m.t.length r1, .slice p2 m.d.length r2, .slice p3 m.s.length r3, q⟩ ∧ PE w9 g (o + k * 5) m2 ⟨.slice p4 m2.t.length r4, .slice p5 m2.d.length r5, .slice p6 m2.s.length r6, q2⟩) (by kernel_rfl) ?_
  change wpAnyH _ _ _ _ _ _ _ _ (World.drew _)
  refine wpAnyH_take (i := 0) (v := .pointer (some ⟨b, 0, none⟩)) rfl (by kernel_rfl) (by kernel_rfl) (by kernel_rfl) (fun _ _ _ h => h) (Or.inl ⟨by kernel_rfl, fun w9 h9 => ?_⟩) (HSS.out _ HBD.out) ?_
  · go_simp
  refine wpAnyH_take (i := 1) (v := .pointer (some ⟨g, o + c * 5, none⟩)) rfl (by kernel_rfl) (by kernel_rfl) (by kernel_rfl) (fun _ _ _ h => h) (Or.inl ⟨by kernel_rfl, fun w9 h9 => ?_⟩) (HSS.out _ HBD.out) ?_
  · go_simp
  refine wpAnyH_take (i := 2) (v := .pointer (some ⟨g, o + c * 5, none⟩)) rfl (by kernel_rfl) (by kernel_rfl) (by kernel_rfl) (fun _ _ _ h => h) (Or.inl ⟨by kernel_rfl, fun w9 h9 => ?_⟩) (HSS.out _ HBD.out) ?_
  · go_simp
  refine wpAnyH_take (i := 3) (v := .pointer (some ⟨g, o + c * 5 + 1, none⟩)) rfl (by kernel_rfl) (by kernel_rfl) (by kernel_rfl) (fun _ _ _ h => h) (Or.inl ⟨by kernel_rfl, fun w9 h9 => ?_⟩) (HSS.out _ HBD.out) ?_
  · go_simp
  refine wpAnyH_take (i := 4) (v := .string m.b) rfl (by kernel_rfl) (by kernel_rfl) (by kernel_rfl) (fun _ _ _ h => h) (Or.inl ⟨by kernel_rfl, fun w9 h9 => ?_⟩) (HSS.out _ HBD.out) ?_
  · obtain ⟨⟨y9, x0, x1, x2, x3, x4, x5, _, _⟩, ⟨yl, y0, y1, y2, y3, y4, _⟩, ⟨zl, z0, z1, z2, z3, z4, _⟩⟩ := h9; simp only at y2 y3 y4 z2 z3 z4; go_simp
  refine wpAnyH_take (i := 10) (v := .pointer (some ⟨g, o + c * 5, none⟩)) rfl (by kernel_rfl) (by kernel_rfl) (by kernel_rfl) (fun _ _ _ h => h) (Or.inl ⟨by kernel_rfl, fun w9 h9 => ?_⟩) (HSS.out _ HBD.out) ?_
  · go_simp
  refine wpAnyH_take (i := 11) (v := .pointer (some ⟨g, o + c * 5, none⟩)) rfl (by kernel_rfl) (by kernel_rfl) (by kernel_rfl) (fun _ _ _ h => h) (Or.inl ⟨by kernel_rfl, fun w9 h9 => ?_⟩) (HSS.out _ HBD.out) ?_
  · go_simp
  refine wpAnyH_take (i := 12) (v := .pointer (some ⟨g, o + c * 5 + 2, none⟩)) rfl (by kernel_rfl) (by kernel_rfl) (by kernel_rfl) (fun _ _ _ h => h) (Or.inl ⟨by kernel_rfl, fun w9 h9 => ?_⟩) (HSS.out _ HBD.out) ?_
  · go_simp
  refine wpAnyH_take (i := 13) (v := .slice p1 m.t.length r1) rfl (by kernel_rfl) (by kernel_rfl) (by kernel_rfl) (fun _ _ _ h => h) (Or.inl ⟨by kernel_rfl, fun w9 h9 => ?_⟩) (HSS.out _ HBD.out) ?_
  · obtain ⟨⟨y9, x0, x1, x2, x3, x4, x5, _, _⟩, ⟨yl, y0, y1, y2, y3, y4, _⟩, ⟨zl, z0, z1, z2, z3, z4, _⟩⟩ := h9; simp only at y2 y3 y4 z2 z3 z4; go_simp
  refine wpAnyH_take (i := 14) (v := .int .i64 (m.t.length : Nat)) rfl (by kernel_rfl) (by kernel_rfl) (by kernel_rfl) (fun _ _ _ h => h) (Or.inl ⟨by kernel_rfl, fun w9 h9 => ?_⟩) (HSS.out _ HBD.out) ?_
  · go_simp
  refine held_one 5 (by kernel_rfl) rfl (by kernel_rfl) fun K hK => ?_
  go_simp
  go_wp2_with (go_at_call 153; refine Calls.mono (HIM.out _ HBD.out) ?_; rintro e u3 ⟨rfl, hu⟩; have HU3 : Hid (Below w.heap.size w u3) := HBD.out.trans (hu.mono HBD.out.size); clear hu)
  refine hK _ _ (HSS.out _ HU3.out) ?_
  clear hK K
  refine wpAnyH_take (i := 6) (v := .pointer (some ⟨g, o + k * 5, none⟩)) rfl (by kernel_rfl) (by kernel_rfl) (by kernel_rfl) (fun _ _ _ h => h) (Or.inl ⟨by kernel_rfl, fun w9 h9 => ?_⟩) (HSS.out _ HU3.out) ?_
  · go_simp
  refine wpAnyH_take (i := 7) (v := .pointer (some ⟨g, o + k * 5 + 2, none⟩)) rfl (by kernel_rfl) (by kernel_rfl) (by kernel_rfl) (fun _ _ _ h => h) (Or.inl ⟨by kernel_rfl, fun w9 h9 => ?_⟩) (HSS.out _ HU3.out) ?_
  · go_simp
  refine wpAnyH_take (i := 8) (v := .slice p4 m2.t.length r4) rfl (by kernel_rfl) (by kernel_rfl) (by kernel_rfl) (fun _ _ _ h => h) (Or.inl ⟨by kernel_rfl, fun w9 h9 => ?_⟩) (HSS.out _ HU3.out) ?_
  · obtain ⟨⟨y9, x0, x1, x2, x3, x4, x5, _, _⟩, ⟨yl, y0, y1, y2, y3, y4, _⟩, ⟨zl, z0, z1, z2, z3, z4, _⟩⟩ := h9; simp only at y2 y3 y4 z2 z3 z4; go_simp
  refine wpAnyH_take (i := 9) (v := .int .i64 (m2.t.length : Nat)) rfl (by kernel_rfl) (by kernel_rfl) (by kernel_rfl) (fun _ _ _ h => h) (Or.inl ⟨by kernel_rfl, fun w9 h9 => ?_⟩) (HSS.out _ HU3.out) ?_
  · go_simp
  refine wpAnyH_take (i := 15) (v := .bool (decide ((m2.t.length : Int) < (m.t.length : Int)))) rfl (by kernel_rfl) (by kernel_rfl) (by kernel_rfl) (fun _ _ _ h => h) (Or.inl ⟨by kernel_rfl, fun w9 h9 => ?_⟩) (HSS.out _ HU3.out) ?_
  · go_simp
  refine wpAnyH_done (by kernel_rfl) ?_ _
  go_simp
  by_cases ht : m2.t.length < m.t.length
  · have hti : (m2.t.length : Int) < (m.t.length : Int) := by omega
    rw [if_pos ht] at HR
    clear ht
    go_wp2
    go_ret
    exact ⟨ret_int HR.out, HU3.out⟩
  · have hti : ¬ (m2.t.length : Int) < (m.t.length : Int) := by omega
    rw [if_neg ht] at HR
    clear ht
    go_wp2
    go_ret
    exact ⟨ret_int HR.out, HU3.out⟩
end Go.Proofs.YtomfbiiegcmmlaaGreat
