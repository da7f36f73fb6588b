import Derived.Test.YtomfbiiegcmmlaaGreatJs2
import Derived.Test.YtomfbiiegcmmlaaGreatJqZ
namespace Go.Proofs.YtomfbiiegcmmlaaGreat
open Go.ChangeShapes Go.WideShapes Go.ChangeAt Go.RowKit

set_option maxRecDepth 100000
theorem cel4 {u : World} {b t : Nat} {a0 a1 a2 a3 : Value} (h : u.heap[b]? = some (.cells #[a0, a1, a2, a3] t (0, 0))) : u.cell? ⟨b, 0, none⟩ = some a0 ∧ u.cell? ⟨b, 1, none⟩ = some a1 ∧ u.cell? ⟨b, 2, none⟩ = some a2 ∧ u.cell? ⟨b, 3, none⟩ = some a3 := by
  simp [World.cell?, h]
/-- A job in its box. -/
structure JQ (u : World) (B : Nat) (j : JB) : Prop where
  lt : B < u.heap.size
  c0 : u.cell? ⟨B, 0, none⟩ = some (.int .i64 j.k)
  c1 : u.cell? ⟨B, 1, none⟩ = some (.int .i64 j.x)
  c2 : u.cell? ⟨B, 2, none⟩ = some (.string j.d)
  c3 : u.cell? ⟨B, 3, none⟩ = some (.string j.g)
theorem JQ.below {w w' : World} {b : Nat} {j : JB} (h : JQ w b j) (hb : Below w.heap.size w w') : JQ w' b j :=
  ⟨Nat.lt_of_lt_of_le h.lt hb.size, ((bcell hb).1 b 0 h.lt).trans h.c0, ((bcell hb).1 b 1 h.lt).trans h.c1, ((bcell hb).1 b 2 h.lt).trans h.c2, ((bcell hb).1 b 3 h.lt).trans h.c3⟩
theorem JQ.new (w : World) (j : JB) (t : TypeId) : JQ (w.alloc (.cells #[.int .i64 j.k, .int .i64 j.x, .string j.d, .string j.g] t)) w.heap.size j := by
  obtain ⟨c0, c1, c2, c3⟩ := cel4 (heap_new w (.cells #[.int .i64 j.k, .int .i64 j.x, .string j.d, .string j.g] t))
  exact ⟨by simp, c0, c1, c2, c3⟩
set_option maxHeartbeats 8000000 in
theorem specJF_any {w : World} {s : JS} {v : Value} {gs : List IG} (h : IGrow w v gs) (hi : IGin w gs s.ms) (hL : JLen s) (hx : s.j.x ≤ 9223372036854775807) : Calls Tryz.prog 7 #[jsA v s.a s.j] w fun e w' => e = .returned (.int .i64 (if jsB s then 0 else 1)) ∧ Below w.heap.size w w' := by
  obtain ⟨ao, cap, rfl⟩ := h.sl
  have hlq := hi.len
  rw [hlq] at h ⊢
  have HB0 : Hid (Below w.heap.size w (w.alloc (.cells #[.slice ao s.ms.length cap, .string s.a, .int .i64 s.j.k, .int .i64 s.j.x, .string s.j.d, .string s.j.g] 32))) := (Below.refl _ _).alloc (Nat.le_refl _) _
  have HJ0 : Hid (JP (w.alloc (.cells #[.slice ao s.ms.length cap, .string s.a, .int .i64 s.j.k, .int .i64 s.j.x, .string s.j.d, .string s.j.g] 32)) w.heap.size s (.slice ao s.ms.length cap) gs) := (JBox.new h hi).jp
  have HC : Hid _ := specChain_any HJ0.out.row HJ0.out.inn hL.l hL.m
  obtain ⟨R, hR⟩ : ∃ R : Int, (if jsB s then (0 : Int) else 1) = R := ⟨_, rfl⟩
  rw [hR]
  clear h hi hlq
  unfold jsA
  cases hch : chB s.ms with
  | false =>
    rw [jsB_no hch, if_neg (by decide)] at hR
    rw [hch, if_neg (by decide)] at HC
    have HR : Hid _ := hR
    clear hL hx hch hR
    go_enter Tryz.func7, Tryz.ntmps7
    go_wp2_with (go_at_call 26; refine Calls.mono HC.out ?_; rintro e u1 ⟨rfl, hu⟩; have HU : Hid (Below w.heap.size w u1) := HB0.out.trans (hu.mono HB0.out.size); clear hu)
    go_ret
    exact ⟨ret_int HR.out, HU.out⟩
  | true =>
  rw [hch, if_pos rfl] at HC
  have HFD : Hid (∀ u, Below (w.alloc (.cells #[.slice ao s.ms.length cap, .string s.a, .int .i64 s.j.k, .int .i64 s.j.x, .string s.j.d, .string s.j.g] 32)).heap.size (w.alloc (.cells #[.slice ao s.ms.length cap, .string s.a, .int .i64 s.j.k, .int .i64 s.j.x, .string s.j.d, .string s.j.g] 32)) u → Calls Tryz.prog 27 #[.slice ao s.ms.length cap, .string s.a] u fun e w' => e = .returned (.int .i64 (fdI s.ms s.a)) ∧ w' = u) := fun u hu => l13Find_any (HJ0.out.below hu).row (HJ0.out.below hu).inn hL.l _
  have HBH : Hid (∀ u, Below (w.alloc (.cells #[.slice ao s.ms.length cap, .string s.a, .int .i64 s.j.k, .int .i64 s.j.x, .string s.j.d, .string s.j.g] 32)).heap.size (w.alloc (.cells #[.slice ao s.ms.length cap, .string s.a, .int .i64 s.j.k, .int .i64 s.j.x, .string s.j.d, .string s.j.g] 32)) u → Calls Tryz.prog 28 #[.slice ao s.ms.length cap, .string s.a] u fun e w' => e = .returned (.int .i64 (frL s.ms s.a : Nat)) ∧ w' = u) := fun u hu => behind_any (HJ0.out.below hu).row (HJ0.out.below hu).inn hL.l _
  cases hf : fdN s.ms s.a with
  | none =>
    rw [jsB_none hf, if_neg (by decide)] at hR
    rw [show fdI s.ms s.a = -1 from by unfold fdI; rw [hf]] at HFD
    have HR : Hid _ := hR
    clear hL hx hch hR hf HBH
    go_enter Tryz.func7, Tryz.ntmps7
    go_wp2_with (first | (go_at_call 26; refine Calls.mono HC.out ?_; rintro e u1 ⟨rfl, hu⟩; have HU : Hid (Below w.heap.size w u1) := HB0.out.trans (hu.mono HB0.out.size); have HV : Hid (Below _ _ u1) := hu; have hj := HJ0.out.below hu; have j0 := hj.c0; have j1 := hj.c1; have jl := hj.lt; clear hu hj) | (go_at_call 27; refine Calls.mono (HFD.out _ HV.out) ?_; rintro e uu ⟨rfl, hu⟩; rw [hu]; clear hu))
    go_ret
    exact ⟨ret_int HR.out, HU.out⟩
  | some c =>
  rw [jsB_some hch hf] at hR
  rw [show fdI s.ms s.a = c from by unfold fdI; rw [hf]] at HFD
  have hci : ¬ (c : Int) < 0 := by omega
  by_cases hF : frL s.ms s.a = 0
  case neg =>
    rw [decide_eq_false hF, Bool.false_and, if_neg (by decide)] at hR
    have HR : Hid _ := hR
    have hFi : (0 : Int) < (frL s.ms s.a : Int) := by omega
    clear hL hx hch hR hf
    generalize frL s.ms s.a = F at *
    go_enter Tryz.func7, Tryz.ntmps7
    go_wp2_with (first | (go_at_call 26; refine Calls.mono HC.out ?_; rintro e u1 ⟨rfl, hu⟩; have HU : Hid (Below w.heap.size w u1) := HB0.out.trans (hu.mono HB0.out.size); have HV : Hid (Below _ _ u1) := hu; have hj := HJ0.out.below hu; have j0 := hj.c0; have j1 := hj.c1; have jl := hj.lt; clear hu hj) | (go_at_call 27; refine Calls.mono (HFD.out _ HV.out) ?_; rintro e uu ⟨rfl, hu⟩; rw [hu]; clear hu) | (go_at_call 28; refine Calls.mono (HBH.out _ HV.out) ?_; rintro e uu ⟨rfl, hu⟩; rw [hu]; clear hu))
    go_ret
    exact ⟨ret_int HR.out, HU.out⟩
  rw [decide_eq_true hF, Bool.true_and] at hR
  rw [hF] at HBH
  have hE := fun u => eqJB s.j.k s.j.x s.j.d s.j.g 0 0 ⟨#[]⟩ ⟨#[]⟩ u
  rw [bq_nil, bq_nil] at hE
  unfold hjB at hR
  generalize (s.j.k == 0 && (s.j.x == 0 && (decide (s.j.d.size = 0) && decide (s.j.g.size = 0)))) = Z at *
  cases Z with
  | true =>
    rw [show (!(!true)) = true from rfl, Bool.true_or, if_pos rfl] at hR
    have HR : Hid _ := hR
    clear hL hx hch hR hf hF
    go_enter Tryz.func7, Tryz.ntmps7
    go_wp2_with (first | (go_at_call 26; refine Calls.mono HC.out ?_; rintro e u1 ⟨rfl, hu⟩; have HU : Hid (Below w.heap.size w u1) := HB0.out.trans (hu.mono HB0.out.size); have HV : Hid (Below _ _ u1) := hu; have hj := HJ0.out.below hu; have j0 := hj.c0; have j1 := hj.c1; have j2 := hj.c2; have j3 := hj.c3; have j4 := hj.c4; have j5 := hj.c5; have jl := hj.lt; clear hu hj) | (go_at_call 27; refine Calls.mono (HFD.out _ HV.out) ?_; rintro e uu ⟨rfl, hu⟩; rw [hu]; clear hu) | (go_at_call 28; refine Calls.mono (HBH.out _ HV.out) ?_; rintro e uu ⟨rfl, hu⟩; rw [hu]; clear hu))
    go_ret
    exact ⟨ret_int HR.out, HU.out.alloc HU.out.size _⟩
  | false =>
  rw [show (!(!false)) = false from rfl, Bool.false_or] at hR
  have HR : Hid _ := hR
  have hc := fdN_lt hf
  obtain ⟨g, o, cap2, a, hv, hpx⟩ := HJ0.out.row.elt HJ0.out.inn hc
  injection hv with hv1 hv2 hv3
  subst hv1 hv3
  clear hpx hv2 hF hR
  go_enter Tryz.func7, Tryz.ntmps7
  go_wp2_with (first | (go_at_call 26; refine Calls.mono HC.out ?_; rintro e u1 ⟨rfl, hu⟩; have HU : Hid (Below w.heap.size w u1) := HB0.out.trans (hu.mono HB0.out.size); have HV : Hid (Below _ _ u1) := hu; have hj := HJ0.out.below hu; have HJ1 : Hid (JP u1 w.heap.size s (.slice (some ⟨g, o, none⟩) s.ms.length cap) gs) := hj; have j0 := hj.c0; have j1 := hj.c1; have j2 := hj.c2; have j3 := hj.c3; have j4 := hj.c4; have j5 := hj.c5; have jl := hj.lt; clear hu hj) | (go_at_call 27; refine Calls.mono (HFD.out _ HV.out) ?_; rintro e uu ⟨rfl, hu⟩; rw [hu]; clear hu) | (go_at_call 28; refine Calls.mono (HBH.out _ HV.out) ?_; rintro e uu ⟨rfl, hu⟩; rw [hu]; clear hu))
  have HQ : Hid (JQ (u1.alloc (.cells #[.int .i64 s.j.k, .int .i64 s.j.x, .string s.j.d, .string s.j.g] 30)) u1.heap.size s.j) := JQ.new _ _ _
  have HB2 : Hid (Below w.heap.size w (u1.alloc (.cells #[.int .i64 s.j.k, .int .i64 s.j.x, .string s.j.d, .string s.j.g] 30))) := HU.out.alloc HU.out.size _
  have HJ2 : Hid (JP (u1.alloc (.cells #[.int .i64 s.j.k, .int .i64 s.j.x, .string s.j.d, .string s.j.g] 30)) w.heap.size s (.slice (some ⟨g, o, none⟩) s.ms.length cap) gs) := HJ1.out.below ((Below.refl _ _).alloc (Nat.le_refl _) _)
  clear j0 j1 j2 j3 j4 j5 jl HJ1 HV HFD HBH HC HJ0 hE HB0 HU
  generalize hB : u1.heap.size = B at *
  generalize (u1.alloc (.cells #[.int .i64 s.j.k, .int .i64 s.j.x, .string s.j.d, .string s.j.g] 30)) = W at *
  clear hB
  obtain ⟨a2, hp⟩ := HJ2.out.pe hc
  obtain ⟨p1, r1, p2, r2, p3, r3, q, rfl⟩ := hp.sl
  have HP : Hid (PE W g (o + c * 5) (gI s.ms c) ⟨.slice p1 (gI s.ms c).t.length r1, .slice p2 (gI s.ms c).d.length r2, .slice p3 (gI s.ms c).s.length r3, q⟩) := hp
  obtain ⟨b, hb⟩ : ∃ b, w.heap.size = b := ⟨_, rfl⟩
  rw [hb] at HJ2 ⊢
  have HSS : Hid (∀ u, Below W.heap.size W u → JP u b s (.slice (some ⟨g, o, none⟩) s.ms.length cap) gs ∧ PE u g (o + c * 5) (gI s.ms c) ⟨.slice p1 (gI s.ms c).t.length r1, .slice p2 (gI s.ms c).d.length r2, .slice p3 (gI s.ms c).s.length r3, q⟩ ∧ JQ u B s.j) := fun u hu => ⟨HJ2.out.below hu, HP.out.below hu, HQ.out.below hu⟩
  have HBD : Hid (Below W.heap.size W W.drew) := (Below.refl _ _).drew
  have HMY : Hid (Calls Tryz.prog 29 #[jsA (.slice (some ⟨g, o, none⟩) s.ms.length cap) s.a s.j, .int .i64 s.j.k, .string s.j.g] W.drew fun e w' => e = .returned (.int .i64 (mayC s.ms c s.a s.j.k s.j.g)) ∧ Below W.drew.heap.size W.drew w') := may_any (HJ2.out.below HBD.out).row (HJ2.out.below HBD.out).inn hL.l (RL.of hch) hf _ _
  have HNX : Hid (∀ u, Calls Tryz.prog 30 #[.string s.j.d, .int .i64 s.j.x, .bool true] u fun e w' => e = .returned (.int .i64 (nxt s.j.d s.j.x true)) ∧ w' = u) := fun u => specNextBit_any _ _ _ u hx
  have HCN : Hid (∀ u, Calls Tryz.prog 31 #[.string s.j.d] u fun e w' => e = .returned (.int .i64 (cnt s.j.d (8 * s.j.d.size))) ∧ w' = u) := fun u => specCountBits_any _ u hL.d
  have HDJ : Hid (s.j.d.size ≤ 8 → drJ s.j = (decide (nxt s.j.d s.j.x true < 0) && !(s.j.k == 1 && decide (0 < cnt s.j.d (8 * s.j.d.size))))) := fun hd => drJ_of s.j hd
  have HDN : Hid (¬ s.j.d.size ≤ 8 → drJ s.j = false) := fun hd => by unfold drJ; rw [decide_eq_false hd, Bool.false_and]
  have HWB : Hid (Below w.heap.size w W) := (show Below w.heap.size w W by rw [hb]; rw [hb] at HB2; exact HB2.out)
  have hR := HR.out
  unfold jrB at hR
  unfold jsA at HMY
  have hc0 : (0 : Int) ≤ (c : Int) := by omega
  have hc1 : (c : Int) < (s.ms.length : Int) := by omega
  clear hp HJ2 HP HQ hL hf hch hx HR hc hb HB2
  generalize nxt s.j.d s.j.x true = X at *
  generalize cnt s.j.d (8 * s.j.d.size) = Cn at *
  generalize drJ s.j = Dr at *
  generalize mayC s.ms c s.a s.j.k s.j.g = C at *
  generalize gI s.ms c = m at *
  by_cases hC : C = 0
  case neg =>
    rw [decide_eq_false hC, Bool.false_and, if_neg (by decide)] at hR
    have HR : Hid _ := hR
    have hCb : (C == 0) = false := by simpa using hC
    have hCn : (C != 0) = true := by simpa using hC
    clear hC hR
    refine wp_region_held (S := fun w9 => JP w9 b s (.slice (some ⟨g, o, none⟩) s.ms.length cap) gs ∧ PE w9 g (o + c * 5) m ⟨.slice p1 m.t.length r1, .slice p2 m.d.length r2, .slice p3 m.s.length r3, q⟩ ∧ JQ w9 B s.j) (by kernel_rfl) ?_
    change wpAnyH _ _ _ _ _ _ _ _ (World.drew _)
    refine wpAnyH_take (i := 0) (v := .agg #[.slice (some ⟨g, o, none⟩) s.ms.length cap, .string s.a, .int .i64 s.j.k, .int .i64 s.j.x, .string s.j.d, .string s.j.g]) rfl (by kernel_rfl) (by kernel_rfl) (by kernel_rfl) (fun _ _ _ h => h) (Or.inl ⟨by kernel_rfl, fun w9 h9 => ?_⟩) (HSS.out _ HBD.out) ?_
    · obtain ⟨⟨y9, x0, x1, x2, x3, x4, x5, _, _⟩, ⟨yl, y0, y1, y2, y3, y4, _⟩, ⟨zl, z0, z1, z2, z3⟩⟩ := h9; simp only at y2 y3 y4; go_simp
    refine wpAnyH_take (i := 1) (v := .pointer (some ⟨B, 0, none⟩)) rfl (by kernel_rfl) (by kernel_rfl) (by kernel_rfl) (fun _ _ _ h => h) (Or.inl ⟨by kernel_rfl, fun w9 h9 => ?_⟩) (HSS.out _ HBD.out) ?_
    · go_simp
    refine wpAnyH_take (i := 2) (v := .int .i64 s.j.k) rfl (by kernel_rfl) (by kernel_rfl) (by kernel_rfl) (fun _ _ _ h => h) (Or.inl ⟨by kernel_rfl, fun w9 h9 => ?_⟩) (HSS.out _ HBD.out) ?_
    · obtain ⟨⟨y9, x0, x1, x2, x3, x4, x5, _, _⟩, ⟨yl, y0, y1, y2, y3, y4, _⟩, ⟨zl, z0, z1, z2, z3⟩⟩ := h9; simp only at y2 y3 y4; go_simp
    refine wpAnyH_take (i := 3) (v := .pointer (some ⟨B, 3, none⟩)) rfl (by kernel_rfl) (by kernel_rfl) (by kernel_rfl) (fun _ _ _ h => h) (Or.inl ⟨by kernel_rfl, fun w9 h9 => ?_⟩) (HSS.out _ HBD.out) ?_
    · go_simp
    refine wpAnyH_take (i := 4) (v := .string s.j.g) rfl (by kernel_rfl) (by kernel_rfl) (by kernel_rfl) (fun _ _ _ h => h) (Or.inl ⟨by kernel_rfl, fun w9 h9 => ?_⟩) (HSS.out _ HBD.out) ?_
    · obtain ⟨⟨y9, x0, x1, x2, x3, x4, x5, _, _⟩, ⟨yl, y0, y1, y2, y3, y4, _⟩, ⟨zl, z0, z1, z2, z3⟩⟩ := h9; simp only at y2 y3 y4; go_simp
    refine held_one 5 (by kernel_rfl) rfl (by kernel_rfl) fun K hK => ?_
    go_simp
    go_wp2_with (go_at_call 29; refine Calls.mono HMY.out ?_; rintro e u2 ⟨rfl, hu⟩; have HV2 : Hid (Below W.heap.size W u2) := HBD.out.trans (hu.mono HBD.out.size); have HU2 : Hid (Below w.heap.size w u2) := HWB.out.trans (HV2.out.mono HWB.out.size); clear hu)
    refine hK _ _ (HSS.out _ HV2.out) ?_
    clear hK K
    refine wpAnyH_take (i := 6) (v := .bool true) rfl (by kernel_rfl) (by kernel_rfl) (by kernel_rfl) (fun _ _ _ h => h) (Or.inl ⟨by kernel_rfl, fun w9 h9 => ?_⟩) (HSS.out _ HV2.out) ?_
    · go_simp
    refine wpAnyH_take (i := 7) (v := .bool true) rfl (by kernel_rfl) (by kernel_rfl) (by kernel_rfl) (fun _ _ _ h => h) (Or.inl ⟨by kernel_rfl, fun w9 h9 => ?_⟩) (HSS.out _ HV2.out) ?_
    · go_simp
    refine wpAnyH_take (i := 8) (v := undef) rfl (by kernel_rfl) (by kernel_rfl) (by kernel_rfl) (fun _ _ _ h => h) (Or.inr ⟨by kernel_rfl, rfl⟩) (HSS.out _ HV2.out) ?_
    refine wpAnyH_take (i := 9) (v := undef) rfl (by kernel_rfl) (by kernel_rfl) (by kernel_rfl) (fun _ _ _ h => h) (Or.inr ⟨by kernel_rfl, rfl⟩) (HSS.out _ HV2.out) ?_
    refine wpAnyH_take (i := 10) (v := undef) rfl (by kernel_rfl) (by kernel_rfl) (by kernel_rfl) (fun _ _ _ h => h) (Or.inr ⟨by kernel_rfl, rfl⟩) (HSS.out _ HV2.out) ?_
    refine wpAnyH_take (i := 11) (v := .bool true) rfl (by kernel_rfl) (by kernel_rfl) (by kernel_rfl) (fun _ _ _ h => h) (Or.inl ⟨by kernel_rfl, fun w9 h9 => ?_⟩) (HSS.out _ HV2.out) ?_
    · go_simp
    refine wpAnyH_take (i := 12) (v := .bool true) rfl (by kernel_rfl) (by kernel_rfl) (by kernel_rfl) (fun _ _ _ h => h) (Or.inl ⟨by kernel_rfl, fun w9 h9 => ?_⟩) (HSS.out _ HV2.out) ?_
    · go_simp
    refine wpAnyH_take (i := 13) (v := undef) rfl (by kernel_rfl) (by kernel_rfl) (by kernel_rfl) (fun _ _ _ h => h) (Or.inr ⟨by kernel_rfl, rfl⟩) (HSS.out _ HV2.out) ?_
    refine wpAnyH_take (i := 14) (v := undef) rfl (by kernel_rfl) (by kernel_rfl) (by kernel_rfl) (fun _ _ _ h => h) (Or.inr ⟨by kernel_rfl, rfl⟩) (HSS.out _ HV2.out) ?_
    refine wpAnyH_take (i := 15) (v := undef) rfl (by kernel_rfl) (by kernel_rfl) (by kernel_rfl) (fun _ _ _ h => h) (Or.inr ⟨by kernel_rfl, rfl⟩) (HSS.out _ HV2.out) ?_
    refine wpAnyH_take (i := 16) (v := undef) rfl (by kernel_rfl) (by kernel_rfl) (by kernel_rfl) (fun _ _ _ h => h) (Or.inr ⟨by kernel_rfl, rfl⟩) (HSS.out _ HV2.out) ?_
    refine wpAnyH_take (i := 17) (v := undef) rfl (by kernel_rfl) (by kernel_rfl) (by kernel_rfl) (fun _ _ _ h => h) (Or.inr ⟨by kernel_rfl, rfl⟩) (HSS.out _ HV2.out) ?_
    refine wpAnyH_take (i := 18) (v := undef) rfl (by kernel_rfl) (by kernel_rfl) (by kernel_rfl) (fun _ _ _ h => h) (Or.inr ⟨by kernel_rfl, rfl⟩) (HSS.out _ HV2.out) ?_
    refine wpAnyH_take (i := 19) (v := undef) rfl (by kernel_rfl) (by kernel_rfl) (by kernel_rfl) (fun _ _ _ h => h) (Or.inr ⟨by kernel_rfl, rfl⟩) (HSS.out _ HV2.out) ?_
    refine wpAnyH_take (i := 20) (v := undef) rfl (by kernel_rfl) (by kernel_rfl) (by kernel_rfl) (fun _ _ _ h => h) (Or.inr ⟨by kernel_rfl, rfl⟩) (HSS.out _ HV2.out) ?_
    refine wpAnyH_take (i := 21) (v := undef) rfl (by kernel_rfl) (by kernel_rfl) (by kernel_rfl) (fun _ _ _ h => h) (Or.inr ⟨by kernel_rfl, rfl⟩) (HSS.out _ HV2.out) ?_
    refine wpAnyH_take (i := 22) (v := undef) rfl (by kernel_rfl) (by kernel_rfl) (by kernel_rfl) (fun _ _ _ h => h) (Or.inr ⟨by kernel_rfl, rfl⟩) (HSS.out _ HV2.out) ?_
    refine wpAnyH_take (i := 23) (v := .bool true) rfl (by kernel_rfl) (by kernel_rfl) (by kernel_rfl) (fun _ _ _ h => h) (Or.inl ⟨by kernel_rfl, fun w9 h9 => ?_⟩) (HSS.out _ HV2.out) ?_
    · go_simp
    refine wpAnyH_take (i := 24) (v := .bool true) rfl (by kernel_rfl) (by kernel_rfl) (by kernel_rfl) (fun _ _ _ h => h) (Or.inl ⟨by kernel_rfl, fun w9 h9 => ?_⟩) (HSS.out _ HV2.out) ?_
    · go_simp
    refine wpAnyH_take (i := 25) (v := undef) rfl (by kernel_rfl) (by kernel_rfl) (by kernel_rfl) (fun _ _ _ h => h) (Or.inr ⟨by kernel_rfl, rfl⟩) (HSS.out _ HV2.out) ?_
    refine wpAnyH_take (i := 26) (v := undef) rfl (by kernel_rfl) (by kernel_rfl) (by kernel_rfl) (fun _ _ _ h => h) (Or.inr ⟨by kernel_rfl, rfl⟩) (HSS.out _ HV2.out) ?_
    refine wpAnyH_take (i := 27) (v := undef) rfl (by kernel_rfl) (by kernel_rfl) (by kernel_rfl) (fun _ _ _ h => h) (Or.inr ⟨by kernel_rfl, rfl⟩) (HSS.out _ HV2.out) ?_
    refine wpAnyH_take (i := 28) (v := undef) rfl (by kernel_rfl) (by kernel_rfl) (by kernel_rfl) (fun _ _ _ h => h) (Or.inr ⟨by kernel_rfl, rfl⟩) (HSS.out _ HV2.out) ?_
    refine wpAnyH_take (i := 29) (v := .bool true) rfl (by kernel_rfl) (by kernel_rfl) (by kernel_rfl) (fun _ _ _ h => h) (Or.inl ⟨by kernel_rfl, fun w9 h9 => ?_⟩) (HSS.out _ HV2.out) ?_
    · go_simp
    refine wpAnyH_take (i := 30) (v := .bool true) rfl (by kernel_rfl) (by kernel_rfl) (by kernel_rfl) (fun _ _ _ h => h) (Or.inl ⟨by kernel_rfl, fun w9 h9 => ?_⟩) (HSS.out _ HV2.out) ?_
    · go_simp
    refine wpAnyH_take (i := 31) (v := undef) rfl (by kernel_rfl) (by kernel_rfl) (by kernel_rfl) (fun _ _ _ h => h) (Or.inr ⟨by kernel_rfl, rfl⟩) (HSS.out _ HV2.out) ?_
    refine wpAnyH_take (i := 32) (v := undef) rfl (by kernel_rfl) (by kernel_rfl) (by kernel_rfl) (fun _ _ _ h => h) (Or.inr ⟨by kernel_rfl, rfl⟩) (HSS.out _ HV2.out) ?_
    refine wpAnyH_take (i := 33) (v := undef) rfl (by kernel_rfl) (by kernel_rfl) (by kernel_rfl) (fun _ _ _ h => h) (Or.inr ⟨by kernel_rfl, rfl⟩) (HSS.out _ HV2.out) ?_
    refine wpAnyH_take (i := 34) (v := undef) rfl (by kernel_rfl) (by kernel_rfl) (by kernel_rfl) (fun _ _ _ h => h) (Or.inr ⟨by kernel_rfl, rfl⟩) (HSS.out _ HV2.out) ?_
    refine wpAnyH_take (i := 35) (v := undef) rfl (by kernel_rfl) (by kernel_rfl) (by kernel_rfl) (fun _ _ _ h => h) (Or.inr ⟨by kernel_rfl, rfl⟩) (HSS.out _ HV2.out) ?_
    refine wpAnyH_take (i := 36) (v := undef) rfl (by kernel_rfl) (by kernel_rfl) (by kernel_rfl) (fun _ _ _ h => h) (Or.inr ⟨by kernel_rfl, rfl⟩) (HSS.out _ HV2.out) ?_
    refine wpAnyH_take (i := 37) (v := .bool true) rfl (by kernel_rfl) (by kernel_rfl) (by kernel_rfl) (fun _ _ _ h => h) (Or.inl ⟨by kernel_rfl, fun w9 h9 => ?_⟩) (HSS.out _ HV2.out) ?_
    · go_simp
    refine wpAnyH_done (by kernel_rfl) ?_ _
    go_simp
    go_wp2
    go_ret
    exact ⟨ret_int HR.out, HU2.out⟩
  subst hC
  rw [decide_eq_true rfl, Bool.true_and] at hR
  by_cases h0 : 0 ≤ s.j.x
  case neg =>
    rw [decide_eq_false h0, Bool.false_and, if_neg (by decide)] at hR
    have HR : Hid _ := hR
    have h0i : s.j.x < 0 := by omega
    clear hR
    refine wp_region_held (S := fun w9 => JP w9 b s (.slice (some ⟨g, o, none⟩) s.ms.length cap) gs ∧ PE w9 g (o + c * 5) m ⟨.slice p1 m.t.length r1, .slice p2 m.d.length r2, .slice p3 m.s.length r3, q⟩ ∧ JQ w9 B s.j) (by kernel_rfl) ?_
    change wpAnyH _ _ _ _ _ _ _ _ (World.drew _)
    refine wpAnyH_take (i := 0) (v := .agg #[.slice (some ⟨g, o, none⟩) s.ms.length cap, .string s.a, .int .i64 s.j.k, .int .i64 s.j.x, .string s.j.d, .string s.j.g]) rfl (by kernel_rfl) (by kernel_rfl) (by kernel_rfl) (fun _ _ _ h => h) (Or.inl ⟨by kernel_rfl, fun w9 h9 => ?_⟩) (HSS.out _ HBD.out) ?_
    · obtain ⟨⟨y9, x0, x1, x2, x3, x4, x5, _, _⟩, ⟨yl, y0, y1, y2, y3, y4, _⟩, ⟨zl, z0, z1, z2, z3⟩⟩ := h9; simp only at y2 y3 y4; go_simp
    refine wpAnyH_take (i := 1) (v := .pointer (some ⟨B, 0, none⟩)) rfl (by kernel_rfl) (by kernel_rfl) (by kernel_rfl) (fun _ _ _ h => h) (Or.inl ⟨by kernel_rfl, fun w9 h9 => ?_⟩) (HSS.out _ HBD.out) ?_
    · go_simp
    refine wpAnyH_take (i := 2) (v := .int .i64 s.j.k) rfl (by kernel_rfl) (by kernel_rfl) (by kernel_rfl) (fun _ _ _ h => h) (Or.inl ⟨by kernel_rfl, fun w9 h9 => ?_⟩) (HSS.out _ HBD.out) ?_
    · obtain ⟨⟨y9, x0, x1, x2, x3, x4, x5, _, _⟩, ⟨yl, y0, y1, y2, y3, y4, _⟩, ⟨zl, z0, z1, z2, z3⟩⟩ := h9; simp only at y2 y3 y4; go_simp
    refine wpAnyH_take (i := 3) (v := .pointer (some ⟨B, 3, none⟩)) rfl (by kernel_rfl) (by kernel_rfl) (by kernel_rfl) (fun _ _ _ h => h) (Or.inl ⟨by kernel_rfl, fun w9 h9 => ?_⟩) (HSS.out _ HBD.out) ?_
    · go_simp
    refine wpAnyH_take (i := 4) (v := .string s.j.g) rfl (by kernel_rfl) (by kernel_rfl) (by kernel_rfl) (fun _ _ _ h => h) (Or.inl ⟨by kernel_rfl, fun w9 h9 => ?_⟩) (HSS.out _ HBD.out) ?_
    · obtain ⟨⟨y9, x0, x1, x2, x3, x4, x5, _, _⟩, ⟨yl, y0, y1, y2, y3, y4, _⟩, ⟨zl, z0, z1, z2, z3⟩⟩ := h9; simp only at y2 y3 y4; go_simp
    refine held_one 5 (by kernel_rfl) rfl (by kernel_rfl) fun K hK => ?_
    go_simp
    go_wp2_with (go_at_call 29; refine Calls.mono HMY.out ?_; rintro e u2 ⟨rfl, hu⟩; have HV2 : Hid (Below W.heap.size W u2) := HBD.out.trans (hu.mono HBD.out.size); have HU2 : Hid (Below w.heap.size w u2) := HWB.out.trans (HV2.out.mono HWB.out.size); clear hu)
    refine hK _ _ (HSS.out _ HV2.out) ?_
    clear hK K
    refine wpAnyH_take (i := 6) (v := .bool false) rfl (by kernel_rfl) (by kernel_rfl) (by kernel_rfl) (fun _ _ _ h => h) (Or.inl ⟨by kernel_rfl, fun w9 h9 => ?_⟩) (HSS.out _ HV2.out) ?_
    · go_simp
    refine wpAnyH_take (i := 7) (v := .bool false) rfl (by kernel_rfl) (by kernel_rfl) (by kernel_rfl) (fun _ _ _ h => h) (Or.inl ⟨by kernel_rfl, fun w9 h9 => ?_⟩) (HSS.out _ HV2.out) ?_
    · go_simp
    refine wpAnyH_take (i := 8) (v := .pointer (some ⟨B, 1, none⟩)) rfl (by kernel_rfl) (by kernel_rfl) (by kernel_rfl) (fun _ _ _ h => h) (Or.inl ⟨by kernel_rfl, fun w9 h9 => ?_⟩) (HSS.out _ HV2.out) ?_
    · go_simp
    refine wpAnyH_take (i := 9) (v := .int .i64 s.j.x) rfl (by kernel_rfl) (by kernel_rfl) (by kernel_rfl) (fun _ _ _ h => h) (Or.inl ⟨by kernel_rfl, fun w9 h9 => ?_⟩) (HSS.out _ HV2.out) ?_
    · obtain ⟨⟨y9, x0, x1, x2, x3, x4, x5, _, _⟩, ⟨yl, y0, y1, y2, y3, y4, _⟩, ⟨zl, z0, z1, z2, z3⟩⟩ := h9; simp only at y2 y3 y4; go_simp
    refine wpAnyH_take (i := 10) (v := .bool true) rfl (by kernel_rfl) (by kernel_rfl) (by kernel_rfl) (fun _ _ _ h => h) (Or.inl ⟨by kernel_rfl, fun w9 h9 => ?_⟩) (HSS.out _ HV2.out) ?_
    · go_simp; all_goals omega
    refine wpAnyH_take (i := 11) (v := .bool true) rfl (by kernel_rfl) (by kernel_rfl) (by kernel_rfl) (fun _ _ _ h => h) (Or.inl ⟨by kernel_rfl, fun w9 h9 => ?_⟩) (HSS.out _ HV2.out) ?_
    · go_simp
    refine wpAnyH_take (i := 12) (v := .bool true) rfl (by kernel_rfl) (by kernel_rfl) (by kernel_rfl) (fun _ _ _ h => h) (Or.inl ⟨by kernel_rfl, fun w9 h9 => ?_⟩) (HSS.out _ HV2.out) ?_
    · go_simp
    refine wpAnyH_take (i := 13) (v := undef) rfl (by kernel_rfl) (by kernel_rfl) (by kernel_rfl) (fun _ _ _ h => h) (Or.inr ⟨by kernel_rfl, rfl⟩) (HSS.out _ HV2.out) ?_
    refine wpAnyH_take (i := 14) (v := undef) rfl (by kernel_rfl) (by kernel_rfl) (by kernel_rfl) (fun _ _ _ h => h) (Or.inr ⟨by kernel_rfl, rfl⟩) (HSS.out _ HV2.out) ?_
    refine wpAnyH_take (i := 15) (v := undef) rfl (by kernel_rfl) (by kernel_rfl) (by kernel_rfl) (fun _ _ _ h => h) (Or.inr ⟨by kernel_rfl, rfl⟩) (HSS.out _ HV2.out) ?_
    refine wpAnyH_take (i := 16) (v := undef) rfl (by kernel_rfl) (by kernel_rfl) (by kernel_rfl) (fun _ _ _ h => h) (Or.inr ⟨by kernel_rfl, rfl⟩) (HSS.out _ HV2.out) ?_
    refine wpAnyH_take (i := 17) (v := undef) rfl (by kernel_rfl) (by kernel_rfl) (by kernel_rfl) (fun _ _ _ h => h) (Or.inr ⟨by kernel_rfl, rfl⟩) (HSS.out _ HV2.out) ?_
    refine wpAnyH_take (i := 18) (v := undef) rfl (by kernel_rfl) (by kernel_rfl) (by kernel_rfl) (fun _ _ _ h => h) (Or.inr ⟨by kernel_rfl, rfl⟩) (HSS.out _ HV2.out) ?_
    refine wpAnyH_take (i := 19) (v := undef) rfl (by kernel_rfl) (by kernel_rfl) (by kernel_rfl) (fun _ _ _ h => h) (Or.inr ⟨by kernel_rfl, rfl⟩) (HSS.out _ HV2.out) ?_
    refine wpAnyH_take (i := 20) (v := undef) rfl (by kernel_rfl) (by kernel_rfl) (by kernel_rfl) (fun _ _ _ h => h) (Or.inr ⟨by kernel_rfl, rfl⟩) (HSS.out _ HV2.out) ?_
    refine wpAnyH_take (i := 21) (v := undef) rfl (by kernel_rfl) (by kernel_rfl) (by kernel_rfl) (fun _ _ _ h => h) (Or.inr ⟨by kernel_rfl, rfl⟩) (HSS.out _ HV2.out) ?_
    refine wpAnyH_take (i := 22) (v := undef) rfl (by kernel_rfl) (by kernel_rfl) (by kernel_rfl) (fun _ _ _ h => h) (Or.inr ⟨by kernel_rfl, rfl⟩) (HSS.out _ HV2.out) ?_
    refine wpAnyH_take (i := 23) (v := .bool true) rfl (by kernel_rfl) (by kernel_rfl) (by kernel_rfl) (fun _ _ _ h => h) (Or.inl ⟨by kernel_rfl, fun w9 h9 => ?_⟩) (HSS.out _ HV2.out) ?_
    · go_simp
    refine wpAnyH_take (i := 24) (v := .bool true) rfl (by kernel_rfl) (by kernel_rfl) (by kernel_rfl) (fun _ _ _ h => h) (Or.inl ⟨by kernel_rfl, fun w9 h9 => ?_⟩) (HSS.out _ HV2.out) ?_
    · go_simp
    refine wpAnyH_take (i := 25) (v := undef) rfl (by kernel_rfl) (by kernel_rfl) (by kernel_rfl) (fun _ _ _ h => h) (Or.inr ⟨by kernel_rfl, rfl⟩) (HSS.out _ HV2.out) ?_
    refine wpAnyH_take (i := 26) (v := undef) rfl (by kernel_rfl) (by kernel_rfl) (by kernel_rfl) (fun _ _ _ h => h) (Or.inr ⟨by kernel_rfl, rfl⟩) (HSS.out _ HV2.out) ?_
    refine wpAnyH_take (i := 27) (v := undef) rfl (by kernel_rfl) (by kernel_rfl) (by kernel_rfl) (fun _ _ _ h => h) (Or.inr ⟨by kernel_rfl, rfl⟩) (HSS.out _ HV2.out) ?_
    refine wpAnyH_take (i := 28) (v := undef) rfl (by kernel_rfl) (by kernel_rfl) (by kernel_rfl) (fun _ _ _ h => h) (Or.inr ⟨by kernel_rfl, rfl⟩) (HSS.out _ HV2.out) ?_
    refine wpAnyH_take (i := 29) (v := .bool true) rfl (by kernel_rfl) (by kernel_rfl) (by kernel_rfl) (fun _ _ _ h => h) (Or.inl ⟨by kernel_rfl, fun w9 h9 => ?_⟩) (HSS.out _ HV2.out) ?_
    · go_simp
    refine wpAnyH_take (i := 30) (v := .bool true) rfl (by kernel_rfl) (by kernel_rfl) (by kernel_rfl) (fun _ _ _ h => h) (Or.inl ⟨by kernel_rfl, fun w9 h9 => ?_⟩) (HSS.out _ HV2.out) ?_
    · go_simp
    refine wpAnyH_take (i := 31) (v := undef) rfl (by kernel_rfl) (by kernel_rfl) (by kernel_rfl) (fun _ _ _ h => h) (Or.inr ⟨by kernel_rfl, rfl⟩) (HSS.out _ HV2.out) ?_
    refine wpAnyH_take (i := 32) (v := undef) rfl (by kernel_rfl) (by kernel_rfl) (by kernel_rfl) (fun _ _ _ h => h) (Or.inr ⟨by kernel_rfl, rfl⟩) (HSS.out _ HV2.out) ?_
    refine wpAnyH_take (i := 33) (v := undef) rfl (by kernel_rfl) (by kernel_rfl) (by kernel_rfl) (fun _ _ _ h => h) (Or.inr ⟨by kernel_rfl, rfl⟩) (HSS.out _ HV2.out) ?_
    refine wpAnyH_take (i := 34) (v := undef) rfl (by kernel_rfl) (by kernel_rfl) (by kernel_rfl) (fun _ _ _ h => h) (Or.inr ⟨by kernel_rfl, rfl⟩) (HSS.out _ HV2.out) ?_
    refine wpAnyH_take (i := 35) (v := undef) rfl (by kernel_rfl) (by kernel_rfl) (by kernel_rfl) (fun _ _ _ h => h) (Or.inr ⟨by kernel_rfl, rfl⟩) (HSS.out _ HV2.out) ?_
    refine wpAnyH_take (i := 36) (v := undef) rfl (by kernel_rfl) (by kernel_rfl) (by kernel_rfl) (fun _ _ _ h => h) (Or.inr ⟨by kernel_rfl, rfl⟩) (HSS.out _ HV2.out) ?_
    refine wpAnyH_take (i := 37) (v := .bool true) rfl (by kernel_rfl) (by kernel_rfl) (by kernel_rfl) (fun _ _ _ h => h) (Or.inl ⟨by kernel_rfl, fun w9 h9 => ?_⟩) (HSS.out _ HV2.out) ?_
    · go_simp
    refine wpAnyH_done (by kernel_rfl) ?_ _
    go_simp
    go_wp2
    go_ret
    exact ⟨ret_int HR.out, HU2.out⟩
  rw [decide_eq_true h0, Bool.true_and] at hR
  have h0i : ¬ s.j.x < 0 := by omega
  by_cases h1 : s.j.x ≤ (m.t.length : Int)
  case neg =>
    rw [decide_eq_false h1, Bool.false_and, if_neg (by decide)] at hR
    have HR : Hid _ := hR
    have h1i : (m.t.length : Int) < s.j.x := by omega
    clear hR
    refine wp_region_held (S := fun w9 => JP w9 b s (.slice (some ⟨g, o, none⟩) s.ms.length cap) gs ∧ PE w9 g (o + c * 5) m ⟨.slice p1 m.t.length r1, .slice p2 m.d.length r2, .slice p3 m.s.length r3, q⟩ ∧ JQ w9 B s.j) (by kernel_rfl) ?_
    change wpAnyH _ _ _ _ _ _ _ _ (World.drew _)
    refine wpAnyH_take (i := 0) (v := .agg #[.slice (some ⟨g, o, none⟩) s.ms.length cap, .string s.a, .int .i64 s.j.k, .int .i64 s.j.x, .string s.j.d, .string s.j.g]) rfl (by kernel_rfl) (by kernel_rfl) (by kernel_rfl) (fun _ _ _ h => h) (Or.inl ⟨by kernel_rfl, fun w9 h9 => ?_⟩) (HSS.out _ HBD.out) ?_
    · obtain ⟨⟨y9, x0, x1, x2, x3, x4, x5, _, _⟩, ⟨yl, y0, y1, y2, y3, y4, _⟩, ⟨zl, z0, z1, z2, z3⟩⟩ := h9; simp only at y2 y3 y4; go_simp
    refine wpAnyH_take (i := 1) (v := .pointer (some ⟨B, 0, none⟩)) rfl (by kernel_rfl) (by kernel_rfl) (by kernel_rfl) (fun _ _ _ h => h) (Or.inl ⟨by kernel_rfl, fun w9 h9 => ?_⟩) (HSS.out _ HBD.out) ?_
    · go_simp
    refine wpAnyH_take (i := 2) (v := .int .i64 s.j.k) rfl (by kernel_rfl) (by kernel_rfl) (by kernel_rfl) (fun _ _ _ h => h) (Or.inl ⟨by kernel_rfl, fun w9 h9 => ?_⟩) (HSS.out _ HBD.out) ?_
    · obtain ⟨⟨y9, x0, x1, x2, x3, x4, x5, _, _⟩, ⟨yl, y0, y1, y2, y3, y4, _⟩, ⟨zl, z0, z1, z2, z3⟩⟩ := h9; simp only at y2 y3 y4; go_simp
    refine wpAnyH_take (i := 3) (v := .pointer (some ⟨B, 3, none⟩)) rfl (by kernel_rfl) (by kernel_rfl) (by kernel_rfl) (fun _ _ _ h => h) (Or.inl ⟨by kernel_rfl, fun w9 h9 => ?_⟩) (HSS.out _ HBD.out) ?_
    · go_simp
    refine wpAnyH_take (i := 4) (v := .string s.j.g) rfl (by kernel_rfl) (by kernel_rfl) (by kernel_rfl) (fun _ _ _ h => h) (Or.inl ⟨by kernel_rfl, fun w9 h9 => ?_⟩) (HSS.out _ HBD.out) ?_
    · obtain ⟨⟨y9, x0, x1, x2, x3, x4, x5, _, _⟩, ⟨yl, y0, y1, y2, y3, y4, _⟩, ⟨zl, z0, z1, z2, z3⟩⟩ := h9; simp only at y2 y3 y4; go_simp
    refine held_one 5 (by kernel_rfl) rfl (by kernel_rfl) fun K hK => ?_
    go_simp
    go_wp2_with (go_at_call 29; refine Calls.mono HMY.out ?_; rintro e u2 ⟨rfl, hu⟩; have HV2 : Hid (Below W.heap.size W u2) := HBD.out.trans (hu.mono HBD.out.size); have HU2 : Hid (Below w.heap.size w u2) := HWB.out.trans (HV2.out.mono HWB.out.size); clear hu)
    refine hK _ _ (HSS.out _ HV2.out) ?_
    clear hK K
    refine wpAnyH_take (i := 6) (v := .bool false) rfl (by kernel_rfl) (by kernel_rfl) (by kernel_rfl) (fun _ _ _ h => h) (Or.inl ⟨by kernel_rfl, fun w9 h9 => ?_⟩) (HSS.out _ HV2.out) ?_
    · go_simp
    refine wpAnyH_take (i := 7) (v := .bool false) rfl (by kernel_rfl) (by kernel_rfl) (by kernel_rfl) (fun _ _ _ h => h) (Or.inl ⟨by kernel_rfl, fun w9 h9 => ?_⟩) (HSS.out _ HV2.out) ?_
    · go_simp
    refine wpAnyH_take (i := 8) (v := .pointer (some ⟨B, 1, none⟩)) rfl (by kernel_rfl) (by kernel_rfl) (by kernel_rfl) (fun _ _ _ h => h) (Or.inl ⟨by kernel_rfl, fun w9 h9 => ?_⟩) (HSS.out _ HV2.out) ?_
    · go_simp
    refine wpAnyH_take (i := 9) (v := .int .i64 s.j.x) rfl (by kernel_rfl) (by kernel_rfl) (by kernel_rfl) (fun _ _ _ h => h) (Or.inl ⟨by kernel_rfl, fun w9 h9 => ?_⟩) (HSS.out _ HV2.out) ?_
    · obtain ⟨⟨y9, x0, x1, x2, x3, x4, x5, _, _⟩, ⟨yl, y0, y1, y2, y3, y4, _⟩, ⟨zl, z0, z1, z2, z3⟩⟩ := h9; simp only at y2 y3 y4; go_simp
    refine wpAnyH_take (i := 10) (v := .bool false) rfl (by kernel_rfl) (by kernel_rfl) (by kernel_rfl) (fun _ _ _ h => h) (Or.inl ⟨by kernel_rfl, fun w9 h9 => ?_⟩) (HSS.out _ HV2.out) ?_
    · go_simp; all_goals omega
    refine wpAnyH_take (i := 11) (v := .bool false) rfl (by kernel_rfl) (by kernel_rfl) (by kernel_rfl) (fun _ _ _ h => h) (Or.inl ⟨by kernel_rfl, fun w9 h9 => ?_⟩) (HSS.out _ HV2.out) ?_
    · go_simp
    refine wpAnyH_take (i := 12) (v := .bool false) rfl (by kernel_rfl) (by kernel_rfl) (by kernel_rfl) (fun _ _ _ h => h) (Or.inl ⟨by kernel_rfl, fun w9 h9 => ?_⟩) (HSS.out _ HV2.out) ?_
    · go_simp
    refine wpAnyH_take (i := 13) (v := .pointer (some ⟨B, 1, none⟩)) rfl (by kernel_rfl) (by kernel_rfl) (by kernel_rfl) (fun _ _ _ h => h) (Or.inl ⟨by kernel_rfl, fun w9 h9 => ?_⟩) (HSS.out _ HV2.out) ?_
    · go_simp
    refine wpAnyH_take (i := 14) (v := .int .i64 s.j.x) rfl (by kernel_rfl) (by kernel_rfl) (by kernel_rfl) (fun _ _ _ h => h) (Or.inl ⟨by kernel_rfl, fun w9 h9 => ?_⟩) (HSS.out _ HV2.out) ?_
    · obtain ⟨⟨y9, x0, x1, x2, x3, x4, x5, _, _⟩, ⟨yl, y0, y1, y2, y3, y4, _⟩, ⟨zl, z0, z1, z2, z3⟩⟩ := h9; simp only at y2 y3 y4; go_simp
    refine wpAnyH_take (i := 15) (v := .pointer (some ⟨b, 0, none⟩)) rfl (by kernel_rfl) (by kernel_rfl) (by kernel_rfl) (fun _ _ _ h => h) (Or.inl ⟨by kernel_rfl, fun w9 h9 => ?_⟩) (HSS.out _ HV2.out) ?_
    · go_simp
    refine wpAnyH_take (i := 16) (v := .slice (some ⟨g, o, none⟩) s.ms.length cap) rfl (by kernel_rfl) (by kernel_rfl) (by kernel_rfl) (fun _ _ _ h => h) (Or.inl ⟨by kernel_rfl, fun w9 h9 => ?_⟩) (HSS.out _ HV2.out) ?_
    · obtain ⟨⟨y9, x0, x1, x2, x3, x4, x5, _, _⟩, ⟨yl, y0, y1, y2, y3, y4, _⟩, ⟨zl, z0, z1, z2, z3⟩⟩ := h9; simp only at y2 y3 y4; go_simp
    refine wpAnyH_take (i := 17) (v := .int .i64 (c : Nat)) rfl (by kernel_rfl) (by kernel_rfl) (by kernel_rfl) (fun _ _ _ h => h) (Or.inl ⟨by kernel_rfl, fun w9 h9 => ?_⟩) (HSS.out _ HV2.out) ?_
    · go_simp
    refine wpAnyH_take (i := 18) (v := .pointer (some ⟨g, o + c * 5, none⟩)) rfl (by kernel_rfl) (by kernel_rfl) (by kernel_rfl) (fun _ _ _ h => h) (Or.inl ⟨by kernel_rfl, fun w9 h9 => ?_⟩) (HSS.out _ HV2.out) ?_
    · go_simp
    refine wpAnyH_take (i := 19) (v := .pointer (some ⟨g, o + c * 5 + 2, none⟩)) rfl (by kernel_rfl) (by kernel_rfl) (by kernel_rfl) (fun _ _ _ h => h) (Or.inl ⟨by kernel_rfl, fun w9 h9 => ?_⟩) (HSS.out _ HV2.out) ?_
    · go_simp
    refine wpAnyH_take (i := 20) (v := .slice p1 m.t.length r1) rfl (by kernel_rfl) (by kernel_rfl) (by kernel_rfl) (fun _ _ _ h => h) (Or.inl ⟨by kernel_rfl, fun w9 h9 => ?_⟩) (HSS.out _ HV2.out) ?_
    · obtain ⟨⟨y9, x0, x1, x2, x3, x4, x5, _, _⟩, ⟨yl, y0, y1, y2, y3, y4, _⟩, ⟨zl, z0, z1, z2, z3⟩⟩ := h9; simp only at y2 y3 y4; go_simp
    refine wpAnyH_take (i := 21) (v := .int .i64 (m.t.length : Nat)) rfl (by kernel_rfl) (by kernel_rfl) (by kernel_rfl) (fun _ _ _ h => h) (Or.inl ⟨by kernel_rfl, fun w9 h9 => ?_⟩) (HSS.out _ HV2.out) ?_
    · go_simp
    refine wpAnyH_take (i := 22) (v := .bool true) rfl (by kernel_rfl) (by kernel_rfl) (by kernel_rfl) (fun _ _ _ h => h) (Or.inl ⟨by kernel_rfl, fun w9 h9 => ?_⟩) (HSS.out _ HV2.out) ?_
    · go_simp; all_goals omega
    refine wpAnyH_take (i := 23) (v := .bool true) rfl (by kernel_rfl) (by kernel_rfl) (by kernel_rfl) (fun _ _ _ h => h) (Or.inl ⟨by kernel_rfl, fun w9 h9 => ?_⟩) (HSS.out _ HV2.out) ?_
    · go_simp
    refine wpAnyH_take (i := 24) (v := .bool true) rfl (by kernel_rfl) (by kernel_rfl) (by kernel_rfl) (fun _ _ _ h => h) (Or.inl ⟨by kernel_rfl, fun w9 h9 => ?_⟩) (HSS.out _ HV2.out) ?_
    · go_simp
    refine wpAnyH_take (i := 25) (v := undef) rfl (by kernel_rfl) (by kernel_rfl) (by kernel_rfl) (fun _ _ _ h => h) (Or.inr ⟨by kernel_rfl, rfl⟩) (HSS.out _ HV2.out) ?_
    refine wpAnyH_take (i := 26) (v := undef) rfl (by kernel_rfl) (by kernel_rfl) (by kernel_rfl) (fun _ _ _ h => h) (Or.inr ⟨by kernel_rfl, rfl⟩) (HSS.out _ HV2.out) ?_
    refine wpAnyH_take (i := 27) (v := undef) rfl (by kernel_rfl) (by kernel_rfl) (by kernel_rfl) (fun _ _ _ h => h) (Or.inr ⟨by kernel_rfl, rfl⟩) (HSS.out _ HV2.out) ?_
    refine wpAnyH_take (i := 28) (v := undef) rfl (by kernel_rfl) (by kernel_rfl) (by kernel_rfl) (fun _ _ _ h => h) (Or.inr ⟨by kernel_rfl, rfl⟩) (HSS.out _ HV2.out) ?_
    refine wpAnyH_take (i := 29) (v := .bool true) rfl (by kernel_rfl) (by kernel_rfl) (by kernel_rfl) (fun _ _ _ h => h) (Or.inl ⟨by kernel_rfl, fun w9 h9 => ?_⟩) (HSS.out _ HV2.out) ?_
    · go_simp
    refine wpAnyH_take (i := 30) (v := .bool true) rfl (by kernel_rfl) (by kernel_rfl) (by kernel_rfl) (fun _ _ _ h => h) (Or.inl ⟨by kernel_rfl, fun w9 h9 => ?_⟩) (HSS.out _ HV2.out) ?_
    · go_simp
    refine wpAnyH_take (i := 31) (v := undef) rfl (by kernel_rfl) (by kernel_rfl) (by kernel_rfl) (fun _ _ _ h => h) (Or.inr ⟨by kernel_rfl, rfl⟩) (HSS.out _ HV2.out) ?_
    refine wpAnyH_take (i := 32) (v := undef) rfl (by kernel_rfl) (by kernel_rfl) (by kernel_rfl) (fun _ _ _ h => h) (Or.inr ⟨by kernel_rfl, rfl⟩) (HSS.out _ HV2.out) ?_
    refine wpAnyH_take (i := 33) (v := undef) rfl (by kernel_rfl) (by kernel_rfl) (by kernel_rfl) (fun _ _ _ h => h) (Or.inr ⟨by kernel_rfl, rfl⟩) (HSS.out _ HV2.out) ?_
    refine wpAnyH_take (i := 34) (v := undef) rfl (by kernel_rfl) (by kernel_rfl) (by kernel_rfl) (fun _ _ _ h => h) (Or.inr ⟨by kernel_rfl, rfl⟩) (HSS.out _ HV2.out) ?_
    refine wpAnyH_take (i := 35) (v := undef) rfl (by kernel_rfl) (by kernel_rfl) (by kernel_rfl) (fun _ _ _ h => h) (Or.inr ⟨by kernel_rfl, rfl⟩) (HSS.out _ HV2.out) ?_
    refine wpAnyH_take (i := 36) (v := undef) rfl (by kernel_rfl) (by kernel_rfl) (by kernel_rfl) (fun _ _ _ h => h) (Or.inr ⟨by kernel_rfl, rfl⟩) (HSS.out _ HV2.out) ?_
    refine wpAnyH_take (i := 37) (v := .bool true) rfl (by kernel_rfl) (by kernel_rfl) (by kernel_rfl) (fun _ _ _ h => h) (Or.inl ⟨by kernel_rfl, fun w9 h9 => ?_⟩) (HSS.out _ HV2.out) ?_
    · go_simp
    refine wpAnyH_done (by kernel_rfl) ?_ _
    go_simp
    go_wp2
    go_ret
    exact ⟨ret_int HR.out, HU2.out⟩
  rw [decide_eq_true h1, Bool.true_and] at hR
  have h1i : ¬ (m.t.length : Int) < s.j.x := by omega
  by_cases h2 : s.j.d.size ≤ 8
  case neg =>
    rw [HDN.out h2, if_neg (by decide)] at hR
    have HR : Hid _ := hR
    have h2i : (8 : Int) < (s.j.d.size : Int) := by omega
    clear hR
    refine wp_region_held (S := fun w9 => JP w9 b s (.slice (some ⟨g, o, none⟩) s.ms.length cap) gs ∧ PE w9 g (o + c * 5) m ⟨.slice p1 m.t.length r1, .slice p2 m.d.length r2, .slice p3 m.s.length r3, q⟩ ∧ JQ w9 B s.j) (by kernel_rfl) ?_
    change wpAnyH _ _ _ _ _ _ _ _ (World.drew _)
    refine wpAnyH_take (i := 0) (v := .agg #[.slice (some ⟨g, o, none⟩) s.ms.length cap, .string s.a, .int .i64 s.j.k, .int .i64 s.j.x, .string s.j.d, .string s.j.g]) rfl (by kernel_rfl) (by kernel_rfl) (by kernel_rfl) (fun _ _ _ h => h) (Or.inl ⟨by kernel_rfl, fun w9 h9 => ?_⟩) (HSS.out _ HBD.out) ?_
    · obtain ⟨⟨y9, x0, x1, x2, x3, x4, x5, _, _⟩, ⟨yl, y0, y1, y2, y3, y4, _⟩, ⟨zl, z0, z1, z2, z3⟩⟩ := h9; simp only at y2 y3 y4; go_simp
    refine wpAnyH_take (i := 1) (v := .pointer (some ⟨B, 0, none⟩)) rfl (by kernel_rfl) (by kernel_rfl) (by kernel_rfl) (fun _ _ _ h => h) (Or.inl ⟨by kernel_rfl, fun w9 h9 => ?_⟩) (HSS.out _ HBD.out) ?_
    · go_simp
    refine wpAnyH_take (i := 2) (v := .int .i64 s.j.k) rfl (by kernel_rfl) (by kernel_rfl) (by kernel_rfl) (fun _ _ _ h => h) (Or.inl ⟨by kernel_rfl, fun w9 h9 => ?_⟩) (HSS.out _ HBD.out) ?_
    · obtain ⟨⟨y9, x0, x1, x2, x3, x4, x5, _, _⟩, ⟨yl, y0, y1, y2, y3, y4, _⟩, ⟨zl, z0, z1, z2, z3⟩⟩ := h9; simp only at y2 y3 y4; go_simp
    refine wpAnyH_take (i := 3) (v := .pointer (some ⟨B, 3, none⟩)) rfl (by kernel_rfl) (by kernel_rfl) (by kernel_rfl) (fun _ _ _ h => h) (Or.inl ⟨by kernel_rfl, fun w9 h9 => ?_⟩) (HSS.out _ HBD.out) ?_
    · go_simp
    refine wpAnyH_take (i := 4) (v := .string s.j.g) rfl (by kernel_rfl) (by kernel_rfl) (by kernel_rfl) (fun _ _ _ h => h) (Or.inl ⟨by kernel_rfl, fun w9 h9 => ?_⟩) (HSS.out _ HBD.out) ?_
    · obtain ⟨⟨y9, x0, x1, x2, x3, x4, x5, _, _⟩, ⟨yl, y0, y1, y2, y3, y4, _⟩, ⟨zl, z0, z1, z2, z3⟩⟩ := h9; simp only at y2 y3 y4; go_simp
    refine held_one 5 (by kernel_rfl) rfl (by kernel_rfl) fun K hK => ?_
    go_simp
    go_wp2_with (go_at_call 29; refine Calls.mono HMY.out ?_; rintro e u2 ⟨rfl, hu⟩; have HV2 : Hid (Below W.heap.size W u2) := HBD.out.trans (hu.mono HBD.out.size); have HU2 : Hid (Below w.heap.size w u2) := HWB.out.trans (HV2.out.mono HWB.out.size); clear hu)
    refine hK _ _ (HSS.out _ HV2.out) ?_
    clear hK K
    refine wpAnyH_take (i := 6) (v := .bool false) rfl (by kernel_rfl) (by kernel_rfl) (by kernel_rfl) (fun _ _ _ h => h) (Or.inl ⟨by kernel_rfl, fun w9 h9 => ?_⟩) (HSS.out _ HV2.out) ?_
    · go_simp
    refine wpAnyH_take (i := 7) (v := .bool false) rfl (by kernel_rfl) (by kernel_rfl) (by kernel_rfl) (fun _ _ _ h => h) (Or.inl ⟨by kernel_rfl, fun w9 h9 => ?_⟩) (HSS.out _ HV2.out) ?_
    · go_simp
    refine wpAnyH_take (i := 8) (v := .pointer (some ⟨B, 1, none⟩)) rfl (by kernel_rfl) (by kernel_rfl) (by kernel_rfl) (fun _ _ _ h => h) (Or.inl ⟨by kernel_rfl, fun w9 h9 => ?_⟩) (HSS.out _ HV2.out) ?_
    · go_simp
    refine wpAnyH_take (i := 9) (v := .int .i64 s.j.x) rfl (by kernel_rfl) (by kernel_rfl) (by kernel_rfl) (fun _ _ _ h => h) (Or.inl ⟨by kernel_rfl, fun w9 h9 => ?_⟩) (HSS.out _ HV2.out) ?_
    · obtain ⟨⟨y9, x0, x1, x2, x3, x4, x5, _, _⟩, ⟨yl, y0, y1, y2, y3, y4, _⟩, ⟨zl, z0, z1, z2, z3⟩⟩ := h9; simp only at y2 y3 y4; go_simp
    refine wpAnyH_take (i := 10) (v := .bool false) rfl (by kernel_rfl) (by kernel_rfl) (by kernel_rfl) (fun _ _ _ h => h) (Or.inl ⟨by kernel_rfl, fun w9 h9 => ?_⟩) (HSS.out _ HV2.out) ?_
    · go_simp; all_goals omega
    refine wpAnyH_take (i := 11) (v := .bool false) rfl (by kernel_rfl) (by kernel_rfl) (by kernel_rfl) (fun _ _ _ h => h) (Or.inl ⟨by kernel_rfl, fun w9 h9 => ?_⟩) (HSS.out _ HV2.out) ?_
    · go_simp
    refine wpAnyH_take (i := 12) (v := .bool false) rfl (by kernel_rfl) (by kernel_rfl) (by kernel_rfl) (fun _ _ _ h => h) (Or.inl ⟨by kernel_rfl, fun w9 h9 => ?_⟩) (HSS.out _ HV2.out) ?_
    · go_simp
    refine wpAnyH_take (i := 13) (v := .pointer (some ⟨B, 1, none⟩)) rfl (by kernel_rfl) (by kernel_rfl) (by kernel_rfl) (fun _ _ _ h => h) (Or.inl ⟨by kernel_rfl, fun w9 h9 => ?_⟩) (HSS.out _ HV2.out) ?_
    · go_simp
    refine wpAnyH_take (i := 14) (v := .int .i64 s.j.x) rfl (by kernel_rfl) (by kernel_rfl) (by kernel_rfl) (fun _ _ _ h => h) (Or.inl ⟨by kernel_rfl, fun w9 h9 => ?_⟩) (HSS.out _ HV2.out) ?_
    · obtain ⟨⟨y9, x0, x1, x2, x3, x4, x5, _, _⟩, ⟨yl, y0, y1, y2, y3, y4, _⟩, ⟨zl, z0, z1, z2, z3⟩⟩ := h9; simp only at y2 y3 y4; go_simp
    refine wpAnyH_take (i := 15) (v := .pointer (some ⟨b, 0, none⟩)) rfl (by kernel_rfl) (by kernel_rfl) (by kernel_rfl) (fun _ _ _ h => h) (Or.inl ⟨by kernel_rfl, fun w9 h9 => ?_⟩) (HSS.out _ HV2.out) ?_
    · go_simp
    refine wpAnyH_take (i := 16) (v := .slice (some ⟨g, o, none⟩) s.ms.length cap) rfl (by kernel_rfl) (by kernel_rfl) (by kernel_rfl) (fun _ _ _ h => h) (Or.inl ⟨by kernel_rfl, fun w9 h9 => ?_⟩) (HSS.out _ HV2.out) ?_
    · obtain ⟨⟨y9, x0, x1, x2, x3, x4, x5, _, _⟩, ⟨yl, y0, y1, y2, y3, y4, _⟩, ⟨zl, z0, z1, z2, z3⟩⟩ := h9; simp only at y2 y3 y4; go_simp
    refine wpAnyH_take (i := 17) (v := .int .i64 (c : Nat)) rfl (by kernel_rfl) (by kernel_rfl) (by kernel_rfl) (fun _ _ _ h => h) (Or.inl ⟨by kernel_rfl, fun w9 h9 => ?_⟩) (HSS.out _ HV2.out) ?_
    · go_simp
    refine wpAnyH_take (i := 18) (v := .pointer (some ⟨g, o + c * 5, none⟩)) rfl (by kernel_rfl) (by kernel_rfl) (by kernel_rfl) (fun _ _ _ h => h) (Or.inl ⟨by kernel_rfl, fun w9 h9 => ?_⟩) (HSS.out _ HV2.out) ?_
    · go_simp
    refine wpAnyH_take (i := 19) (v := .pointer (some ⟨g, o + c * 5 + 2, none⟩)) rfl (by kernel_rfl) (by kernel_rfl) (by kernel_rfl) (fun _ _ _ h => h) (Or.inl ⟨by kernel_rfl, fun w9 h9 => ?_⟩) (HSS.out _ HV2.out) ?_
    · go_simp
    refine wpAnyH_take (i := 20) (v := .slice p1 m.t.length r1) rfl (by kernel_rfl) (by kernel_rfl) (by kernel_rfl) (fun _ _ _ h => h) (Or.inl ⟨by kernel_rfl, fun w9 h9 => ?_⟩) (HSS.out _ HV2.out) ?_
    · obtain ⟨⟨y9, x0, x1, x2, x3, x4, x5, _, _⟩, ⟨yl, y0, y1, y2, y3, y4, _⟩, ⟨zl, z0, z1, z2, z3⟩⟩ := h9; simp only at y2 y3 y4; go_simp
    refine wpAnyH_take (i := 21) (v := .int .i64 (m.t.length : Nat)) rfl (by kernel_rfl) (by kernel_rfl) (by kernel_rfl) (fun _ _ _ h => h) (Or.inl ⟨by kernel_rfl, fun w9 h9 => ?_⟩) (HSS.out _ HV2.out) ?_
    · go_simp
    refine wpAnyH_take (i := 22) (v := .bool false) rfl (by kernel_rfl) (by kernel_rfl) (by kernel_rfl) (fun _ _ _ h => h) (Or.inl ⟨by kernel_rfl, fun w9 h9 => ?_⟩) (HSS.out _ HV2.out) ?_
    · go_simp; all_goals omega
    refine wpAnyH_take (i := 23) (v := .bool false) rfl (by kernel_rfl) (by kernel_rfl) (by kernel_rfl) (fun _ _ _ h => h) (Or.inl ⟨by kernel_rfl, fun w9 h9 => ?_⟩) (HSS.out _ HV2.out) ?_
    · go_simp
    refine wpAnyH_take (i := 24) (v := .bool false) rfl (by kernel_rfl) (by kernel_rfl) (by kernel_rfl) (fun _ _ _ h => h) (Or.inl ⟨by kernel_rfl, fun w9 h9 => ?_⟩) (HSS.out _ HV2.out) ?_
    · go_simp
    refine wpAnyH_take (i := 25) (v := .pointer (some ⟨B, 2, none⟩)) rfl (by kernel_rfl) (by kernel_rfl) (by kernel_rfl) (fun _ _ _ h => h) (Or.inl ⟨by kernel_rfl, fun w9 h9 => ?_⟩) (HSS.out _ HV2.out) ?_
    · go_simp
    refine wpAnyH_take (i := 26) (v := .string s.j.d) rfl (by kernel_rfl) (by kernel_rfl) (by kernel_rfl) (fun _ _ _ h => h) (Or.inl ⟨by kernel_rfl, fun w9 h9 => ?_⟩) (HSS.out _ HV2.out) ?_
    · obtain ⟨⟨y9, x0, x1, x2, x3, x4, x5, _, _⟩, ⟨yl, y0, y1, y2, y3, y4, _⟩, ⟨zl, z0, z1, z2, z3⟩⟩ := h9; simp only at y2 y3 y4; go_simp
    refine wpAnyH_take (i := 27) (v := .int .i64 (s.j.d.size : Nat)) rfl (by kernel_rfl) (by kernel_rfl) (by kernel_rfl) (fun _ _ _ h => h) (Or.inl ⟨by kernel_rfl, fun w9 h9 => ?_⟩) (HSS.out _ HV2.out) ?_
    · go_simp
    refine wpAnyH_take (i := 28) (v := .bool true) rfl (by kernel_rfl) (by kernel_rfl) (by kernel_rfl) (fun _ _ _ h => h) (Or.inl ⟨by kernel_rfl, fun w9 h9 => ?_⟩) (HSS.out _ HV2.out) ?_
    · go_simp; all_goals omega
    refine wpAnyH_take (i := 29) (v := .bool true) rfl (by kernel_rfl) (by kernel_rfl) (by kernel_rfl) (fun _ _ _ h => h) (Or.inl ⟨by kernel_rfl, fun w9 h9 => ?_⟩) (HSS.out _ HV2.out) ?_
    · go_simp
    refine wpAnyH_take (i := 30) (v := .bool true) rfl (by kernel_rfl) (by kernel_rfl) (by kernel_rfl) (fun _ _ _ h => h) (Or.inl ⟨by kernel_rfl, fun w9 h9 => ?_⟩) (HSS.out _ HV2.out) ?_
    · go_simp
    refine wpAnyH_take (i := 31) (v := undef) rfl (by kernel_rfl) (by kernel_rfl) (by kernel_rfl) (fun _ _ _ h => h) (Or.inr ⟨by kernel_rfl, rfl⟩) (HSS.out _ HV2.out) ?_
    refine wpAnyH_take (i := 32) (v := undef) rfl (by kernel_rfl) (by kernel_rfl) (by kernel_rfl) (fun _ _ _ h => h) (Or.inr ⟨by kernel_rfl, rfl⟩) (HSS.out _ HV2.out) ?_
    refine wpAnyH_take (i := 33) (v := undef) rfl (by kernel_rfl) (by kernel_rfl) (by kernel_rfl) (fun _ _ _ h => h) (Or.inr ⟨by kernel_rfl, rfl⟩) (HSS.out _ HV2.out) ?_
    refine wpAnyH_take (i := 34) (v := undef) rfl (by kernel_rfl) (by kernel_rfl) (by kernel_rfl) (fun _ _ _ h => h) (Or.inr ⟨by kernel_rfl, rfl⟩) (HSS.out _ HV2.out) ?_
    refine wpAnyH_take (i := 35) (v := undef) rfl (by kernel_rfl) (by kernel_rfl) (by kernel_rfl) (fun _ _ _ h => h) (Or.inr ⟨by kernel_rfl, rfl⟩) (HSS.out _ HV2.out) ?_
    refine wpAnyH_take (i := 36) (v := undef) rfl (by kernel_rfl) (by kernel_rfl) (by kernel_rfl) (fun _ _ _ h => h) (Or.inr ⟨by kernel_rfl, rfl⟩) (HSS.out _ HV2.out) ?_
    refine wpAnyH_take (i := 37) (v := .bool true) rfl (by kernel_rfl) (by kernel_rfl) (by kernel_rfl) (fun _ _ _ h => h) (Or.inl ⟨by kernel_rfl, fun w9 h9 => ?_⟩) (HSS.out _ HV2.out) ?_
    · go_simp
    refine wpAnyH_done (by kernel_rfl) ?_ _
    go_simp
    go_wp2
    go_ret
    exact ⟨ret_int HR.out, HU2.out⟩
  have h2i : ¬ (8 : Int) < (s.j.d.size : Int) := by omega
  rw [HDJ.out h2] at hR
  by_cases h3 : X < 0
  case neg =>
    rw [decide_eq_false h3, Bool.false_and, if_neg (by decide)] at hR
    have HR : Hid _ := hR
    have h3i : 0 ≤ X := by omega
    clear hR
    refine wp_region_held (S := fun w9 => JP w9 b s (.slice (some ⟨g, o, none⟩) s.ms.length cap) gs ∧ PE w9 g (o + c * 5) m ⟨.slice p1 m.t.length r1, .slice p2 m.d.length r2, .slice p3 m.s.length r3, q⟩ ∧ JQ w9 B s.j) (by kernel_rfl) ?_
    change wpAnyH _ _ _ _ _ _ _ _ (World.drew _)
    refine wpAnyH_take (i := 0) (v := .agg #[.slice (some ⟨g, o, none⟩) s.ms.length cap, .string s.a, .int .i64 s.j.k, .int .i64 s.j.x, .string s.j.d, .string s.j.g]) rfl (by kernel_rfl) (by kernel_rfl) (by kernel_rfl) (fun _ _ _ h => h) (Or.inl ⟨by kernel_rfl, fun w9 h9 => ?_⟩) (HSS.out _ HBD.out) ?_
    · obtain ⟨⟨y9, x0, x1, x2, x3, x4, x5, _, _⟩, ⟨yl, y0, y1, y2, y3, y4, _⟩, ⟨zl, z0, z1, z2, z3⟩⟩ := h9; simp only at y2 y3 y4; go_simp
    refine wpAnyH_take (i := 1) (v := .pointer (some ⟨B, 0, none⟩)) rfl (by kernel_rfl) (by kernel_rfl) (by kernel_rfl) (fun _ _ _ h => h) (Or.inl ⟨by kernel_rfl, fun w9 h9 => ?_⟩) (HSS.out _ HBD.out) ?_
    · go_simp
    refine wpAnyH_take (i := 2) (v := .int .i64 s.j.k) rfl (by kernel_rfl) (by kernel_rfl) (by kernel_rfl) (fun _ _ _ h => h) (Or.inl ⟨by kernel_rfl, fun w9 h9 => ?_⟩) (HSS.out _ HBD.out) ?_
    · obtain ⟨⟨y9, x0, x1, x2, x3, x4, x5, _, _⟩, ⟨yl, y0, y1, y2, y3, y4, _⟩, ⟨zl, z0, z1, z2, z3⟩⟩ := h9; simp only at y2 y3 y4; go_simp
    refine wpAnyH_take (i := 3) (v := .pointer (some ⟨B, 3, none⟩)) rfl (by kernel_rfl) (by kernel_rfl) (by kernel_rfl) (fun _ _ _ h => h) (Or.inl ⟨by kernel_rfl, fun w9 h9 => ?_⟩) (HSS.out _ HBD.out) ?_
    · go_simp
    refine wpAnyH_take (i := 4) (v := .string s.j.g) rfl (by kernel_rfl) (by kernel_rfl) (by kernel_rfl) (fun _ _ _ h => h) (Or.inl ⟨by kernel_rfl, fun w9 h9 => ?_⟩) (HSS.out _ HBD.out) ?_
    · obtain ⟨⟨y9, x0, x1, x2, x3, x4, x5, _, _⟩, ⟨yl, y0, y1, y2, y3, y4, _⟩, ⟨zl, z0, z1, z2, z3⟩⟩ := h9; simp only at y2 y3 y4; go_simp
    refine held_one 5 (by kernel_rfl) rfl (by kernel_rfl) fun K hK => ?_
    go_simp
    go_wp2_with (go_at_call 29; refine Calls.mono HMY.out ?_; rintro e u2 ⟨rfl, hu⟩; have HV2 : Hid (Below W.heap.size W u2) := HBD.out.trans (hu.mono HBD.out.size); have HU2 : Hid (Below w.heap.size w u2) := HWB.out.trans (HV2.out.mono HWB.out.size); clear hu)
    refine hK _ _ (HSS.out _ HV2.out) ?_
    clear hK K
    refine wpAnyH_take (i := 6) (v := .bool false) rfl (by kernel_rfl) (by kernel_rfl) (by kernel_rfl) (fun _ _ _ h => h) (Or.inl ⟨by kernel_rfl, fun w9 h9 => ?_⟩) (HSS.out _ HV2.out) ?_
    · go_simp
    refine wpAnyH_take (i := 7) (v := .bool false) rfl (by kernel_rfl) (by kernel_rfl) (by kernel_rfl) (fun _ _ _ h => h) (Or.inl ⟨by kernel_rfl, fun w9 h9 => ?_⟩) (HSS.out _ HV2.out) ?_
    · go_simp
    refine wpAnyH_take (i := 8) (v := .pointer (some ⟨B, 1, none⟩)) rfl (by kernel_rfl) (by kernel_rfl) (by kernel_rfl) (fun _ _ _ h => h) (Or.inl ⟨by kernel_rfl, fun w9 h9 => ?_⟩) (HSS.out _ HV2.out) ?_
    · go_simp
    refine wpAnyH_take (i := 9) (v := .int .i64 s.j.x) rfl (by kernel_rfl) (by kernel_rfl) (by kernel_rfl) (fun _ _ _ h => h) (Or.inl ⟨by kernel_rfl, fun w9 h9 => ?_⟩) (HSS.out _ HV2.out) ?_
    · obtain ⟨⟨y9, x0, x1, x2, x3, x4, x5, _, _⟩, ⟨yl, y0, y1, y2, y3, y4, _⟩, ⟨zl, z0, z1, z2, z3⟩⟩ := h9; simp only at y2 y3 y4; go_simp
    refine wpAnyH_take (i := 10) (v := .bool false) rfl (by kernel_rfl) (by kernel_rfl) (by kernel_rfl) (fun _ _ _ h => h) (Or.inl ⟨by kernel_rfl, fun w9 h9 => ?_⟩) (HSS.out _ HV2.out) ?_
    · go_simp; all_goals omega
    refine wpAnyH_take (i := 11) (v := .bool false) rfl (by kernel_rfl) (by kernel_rfl) (by kernel_rfl) (fun _ _ _ h => h) (Or.inl ⟨by kernel_rfl, fun w9 h9 => ?_⟩) (HSS.out _ HV2.out) ?_
    · go_simp
    refine wpAnyH_take (i := 12) (v := .bool false) rfl (by kernel_rfl) (by kernel_rfl) (by kernel_rfl) (fun _ _ _ h => h) (Or.inl ⟨by kernel_rfl, fun w9 h9 => ?_⟩) (HSS.out _ HV2.out) ?_
    · go_simp
    refine wpAnyH_take (i := 13) (v := .pointer (some ⟨B, 1, none⟩)) rfl (by kernel_rfl) (by kernel_rfl) (by kernel_rfl) (fun _ _ _ h => h) (Or.inl ⟨by kernel_rfl, fun w9 h9 => ?_⟩) (HSS.out _ HV2.out) ?_
    · go_simp
    refine wpAnyH_take (i := 14) (v := .int .i64 s.j.x) rfl (by kernel_rfl) (by kernel_rfl) (by kernel_rfl) (fun _ _ _ h => h) (Or.inl ⟨by kernel_rfl, fun w9 h9 => ?_⟩) (HSS.out _ HV2.out) ?_
    · obtain ⟨⟨y9, x0, x1, x2, x3, x4, x5, _, _⟩, ⟨yl, y0, y1, y2, y3, y4, _⟩, ⟨zl, z0, z1, z2, z3⟩⟩ := h9; simp only at y2 y3 y4; go_simp
    refine wpAnyH_take (i := 15) (v := .pointer (some ⟨b, 0, none⟩)) rfl (by kernel_rfl) (by kernel_rfl) (by kernel_rfl) (fun _ _ _ h => h) (Or.inl ⟨by kernel_rfl, fun w9 h9 => ?_⟩) (HSS.out _ HV2.out) ?_
    · go_simp
    refine wpAnyH_take (i := 16) (v := .slice (some ⟨g, o, none⟩) s.ms.length cap) rfl (by kernel_rfl) (by kernel_rfl) (by kernel_rfl) (fun _ _ _ h => h) (Or.inl ⟨by kernel_rfl, fun w9 h9 => ?_⟩) (HSS.out _ HV2.out) ?_
    · obtain ⟨⟨y9, x0, x1, x2, x3, x4, x5, _, _⟩, ⟨yl, y0, y1, y2, y3, y4, _⟩, ⟨zl, z0, z1, z2, z3⟩⟩ := h9; simp only at y2 y3 y4; go_simp
    refine wpAnyH_take (i := 17) (v := .int .i64 (c : Nat)) rfl (by kernel_rfl) (by kernel_rfl) (by kernel_rfl) (fun _ _ _ h => h) (Or.inl ⟨by kernel_rfl, fun w9 h9 => ?_⟩) (HSS.out _ HV2.out) ?_
    · go_simp
    refine wpAnyH_take (i := 18) (v := .pointer (some ⟨g, o + c * 5, none⟩)) rfl (by kernel_rfl) (by kernel_rfl) (by kernel_rfl) (fun _ _ _ h => h) (Or.inl ⟨by kernel_rfl, fun w9 h9 => ?_⟩) (HSS.out _ HV2.out) ?_
    · go_simp
    refine wpAnyH_take (i := 19) (v := .pointer (some ⟨g, o + c * 5 + 2, none⟩)) rfl (by kernel_rfl) (by kernel_rfl) (by kernel_rfl) (fun _ _ _ h => h) (Or.inl ⟨by kernel_rfl, fun w9 h9 => ?_⟩) (HSS.out _ HV2.out) ?_
    · go_simp
    refine wpAnyH_take (i := 20) (v := .slice p1 m.t.length r1) rfl (by kernel_rfl) (by kernel_rfl) (by kernel_rfl) (fun _ _ _ h => h) (Or.inl ⟨by kernel_rfl, fun w9 h9 => ?_⟩) (HSS.out _ HV2.out) ?_
    · obtain ⟨⟨y9, x0, x1, x2, x3, x4, x5, _, _⟩, ⟨yl, y0, y1, y2, y3, y4, _⟩, ⟨zl, z0, z1, z2, z3⟩⟩ := h9; simp only at y2 y3 y4; go_simp
    refine wpAnyH_take (i := 21) (v := .int .i64 (m.t.length : Nat)) rfl (by kernel_rfl) (by kernel_rfl) (by kernel_rfl) (fun _ _ _ h => h) (Or.inl ⟨by kernel_rfl, fun w9 h9 => ?_⟩) (HSS.out _ HV2.out) ?_
    · go_simp
    refine wpAnyH_take (i := 22) (v := .bool false) rfl (by kernel_rfl) (by kernel_rfl) (by kernel_rfl) (fun _ _ _ h => h) (Or.inl ⟨by kernel_rfl, fun w9 h9 => ?_⟩) (HSS.out _ HV2.out) ?_
    · go_simp; all_goals omega
    refine wpAnyH_take (i := 23) (v := .bool false) rfl (by kernel_rfl) (by kernel_rfl) (by kernel_rfl) (fun _ _ _ h => h) (Or.inl ⟨by kernel_rfl, fun w9 h9 => ?_⟩) (HSS.out _ HV2.out) ?_
    · go_simp
    refine wpAnyH_take (i := 24) (v := .bool false) rfl (by kernel_rfl) (by kernel_rfl) (by kernel_rfl) (fun _ _ _ h => h) (Or.inl ⟨by kernel_rfl, fun w9 h9 => ?_⟩) (HSS.out _ HV2.out) ?_
    · go_simp
    refine wpAnyH_take (i := 25) (v := .pointer (some ⟨B, 2, none⟩)) rfl (by kernel_rfl) (by kernel_rfl) (by kernel_rfl) (fun _ _ _ h => h) (Or.inl ⟨by kernel_rfl, fun w9 h9 => ?_⟩) (HSS.out _ HV2.out) ?_
    · go_simp
    refine wpAnyH_take (i := 26) (v := .string s.j.d) rfl (by kernel_rfl) (by kernel_rfl) (by kernel_rfl) (fun _ _ _ h => h) (Or.inl ⟨by kernel_rfl, fun w9 h9 => ?_⟩) (HSS.out _ HV2.out) ?_
    · obtain ⟨⟨y9, x0, x1, x2, x3, x4, x5, _, _⟩, ⟨yl, y0, y1, y2, y3, y4, _⟩, ⟨zl, z0, z1, z2, z3⟩⟩ := h9; simp only at y2 y3 y4; go_simp
    refine wpAnyH_take (i := 27) (v := .int .i64 (s.j.d.size : Nat)) rfl (by kernel_rfl) (by kernel_rfl) (by kernel_rfl) (fun _ _ _ h => h) (Or.inl ⟨by kernel_rfl, fun w9 h9 => ?_⟩) (HSS.out _ HV2.out) ?_
    · go_simp
    refine wpAnyH_take (i := 28) (v := .bool false) rfl (by kernel_rfl) (by kernel_rfl) (by kernel_rfl) (fun _ _ _ h => h) (Or.inl ⟨by kernel_rfl, fun w9 h9 => ?_⟩) (HSS.out _ HV2.out) ?_
    · go_simp; all_goals omega
    refine wpAnyH_take (i := 29) (v := .bool false) rfl (by kernel_rfl) (by kernel_rfl) (by kernel_rfl) (fun _ _ _ h => h) (Or.inl ⟨by kernel_rfl, fun w9 h9 => ?_⟩) (HSS.out _ HV2.out) ?_
    · go_simp
    refine wpAnyH_take (i := 30) (v := .bool false) rfl (by kernel_rfl) (by kernel_rfl) (by kernel_rfl) (fun _ _ _ h => h) (Or.inl ⟨by kernel_rfl, fun w9 h9 => ?_⟩) (HSS.out _ HV2.out) ?_
    · go_simp
    refine wpAnyH_take (i := 31) (v := .pointer (some ⟨B, 2, none⟩)) rfl (by kernel_rfl) (by kernel_rfl) (by kernel_rfl) (fun _ _ _ h => h) (Or.inl ⟨by kernel_rfl, fun w9 h9 => ?_⟩) (HSS.out _ HV2.out) ?_
    · go_simp
    refine wpAnyH_take (i := 32) (v := .string s.j.d) rfl (by kernel_rfl) (by kernel_rfl) (by kernel_rfl) (fun _ _ _ h => h) (Or.inl ⟨by kernel_rfl, fun w9 h9 => ?_⟩) (HSS.out _ HV2.out) ?_
    · obtain ⟨⟨y9, x0, x1, x2, x3, x4, x5, _, _⟩, ⟨yl, y0, y1, y2, y3, y4, _⟩, ⟨zl, z0, z1, z2, z3⟩⟩ := h9; simp only at y2 y3 y4; go_simp
    refine wpAnyH_take (i := 33) (v := .pointer (some ⟨B, 1, none⟩)) rfl (by kernel_rfl) (by kernel_rfl) (by kernel_rfl) (fun _ _ _ h => h) (Or.inl ⟨by kernel_rfl, fun w9 h9 => ?_⟩) (HSS.out _ HV2.out) ?_
    · go_simp
    refine wpAnyH_take (i := 34) (v := .int .i64 s.j.x) rfl (by kernel_rfl) (by kernel_rfl) (by kernel_rfl) (fun _ _ _ h => h) (Or.inl ⟨by kernel_rfl, fun w9 h9 => ?_⟩) (HSS.out _ HV2.out) ?_
    · obtain ⟨⟨y9, x0, x1, x2, x3, x4, x5, _, _⟩, ⟨yl, y0, y1, y2, y3, y4, _⟩, ⟨zl, z0, z1, z2, z3⟩⟩ := h9; simp only at y2 y3 y4; go_simp
    refine held_one 35 (by kernel_rfl) rfl (by kernel_rfl) fun K hK => ?_
    go_simp
    go_wp2_with (go_at_call 30; refine Calls.mono (HNX.out _) ?_; rintro e uu ⟨rfl, hu⟩; rw [hu]; clear hu)
    refine hK _ _ (HSS.out _ HV2.out) ?_
    clear hK K
    refine wpAnyH_take (i := 36) (v := .bool true) rfl (by kernel_rfl) (by kernel_rfl) (by kernel_rfl) (fun _ _ _ h => h) (Or.inl ⟨by kernel_rfl, fun w9 h9 => ?_⟩) (HSS.out _ HV2.out) ?_
    · go_simp; all_goals omega
    refine wpAnyH_take (i := 37) (v := .bool true) rfl (by kernel_rfl) (by kernel_rfl) (by kernel_rfl) (fun _ _ _ h => h) (Or.inl ⟨by kernel_rfl, fun w9 h9 => ?_⟩) (HSS.out _ HV2.out) ?_
    · go_simp
    refine wpAnyH_done (by kernel_rfl) ?_ _
    go_simp
    go_wp2
    go_ret
    exact ⟨ret_int HR.out, HU2.out⟩
  rw [decide_eq_true h3, Bool.true_and] at hR
  have h3i : ¬ 0 ≤ X := by omega
  have HR : Hid _ := hR
  clear hR
  refine wp_region_held (S := fun w9 => JP w9 b s (.slice (some ⟨g, o, none⟩) s.ms.length cap) gs ∧ PE w9 g (o + c * 5) m ⟨.slice p1 m.t.length r1, .slice p2 m.d.length r2, .slice p3 m.s.length r3, q⟩ ∧ JQ w9 B s.j) (by kernel_rfl) ?_
  change wpAnyH _ _ _ _ _ _ _ _ (World.drew _)
  refine wpAnyH_take (i := 0) (v := .agg #[.slice (some ⟨g, o, none⟩) s.ms.length cap, .string s.a, .int .i64 s.j.k, .int .i64 s.j.x, .string s.j.d, .string s.j.g]) rfl (by kernel_rfl) (by kernel_rfl) (by kernel_rfl) (fun _ _ _ h => h) (Or.inl ⟨by kernel_rfl, fun w9 h9 => ?_⟩) (HSS.out _ HBD.out) ?_
  · obtain ⟨⟨y9, x0, x1, x2, x3, x4, x5, _, _⟩, ⟨yl, y0, y1, y2, y3, y4, _⟩, ⟨zl, z0, z1, z2, z3⟩⟩ := h9; simp only at y2 y3 y4; go_simp
  refine wpAnyH_take (i := 1) (v := .pointer (some ⟨B, 0, none⟩)) rfl (by kernel_rfl) (by kernel_rfl) (by kernel_rfl) (fun _ _ _ h => h) (Or.inl ⟨by kernel_rfl, fun w9 h9 => ?_⟩) (HSS.out _ HBD.out) ?_
  · go_simp
  refine wpAnyH_take (i := 2) (v := .int .i64 s.j.k) rfl (by kernel_rfl) (by kernel_rfl) (by kernel_rfl) (fun _ _ _ h => h) (Or.inl ⟨by kernel_rfl, fun w9 h9 => ?_⟩) (HSS.out _ HBD.out) ?_
  · obtain ⟨⟨y9, x0, x1, x2, x3, x4, x5, _, _⟩, ⟨yl, y0, y1, y2, y3, y4, _⟩, ⟨zl, z0, z1, z2, z3⟩⟩ := h9; simp only at y2 y3 y4; go_simp
  refine wpAnyH_take (i := 3) (v := .pointer (some ⟨B, 3, none⟩)) rfl (by kernel_rfl) (by kernel_rfl) (by kernel_rfl) (fun _ _ _ h => h) (Or.inl ⟨by kernel_rfl, fun w9 h9 => ?_⟩) (HSS.out _ HBD.out) ?_
  · go_simp
  refine wpAnyH_take (i := 4) (v := .string s.j.g) rfl (by kernel_rfl) (by kernel_rfl) (by kernel_rfl) (fun _ _ _ h => h) (Or.inl ⟨by kernel_rfl, fun w9 h9 => ?_⟩) (HSS.out _ HBD.out) ?_
  · obtain ⟨⟨y9, x0, x1, x2, x3, x4, x5, _, _⟩, ⟨yl, y0, y1, y2, y3, y4, _⟩, ⟨zl, z0, z1, z2, z3⟩⟩ := h9; simp only at y2 y3 y4; go_simp
  refine held_one 5 (by kernel_rfl) rfl (by kernel_rfl) fun K hK => ?_
  go_simp
  go_wp2_with (go_at_call 29; refine Calls.mono HMY.out ?_; rintro e u2 ⟨rfl, hu⟩; have HV2 : Hid (Below W.heap.size W u2) := HBD.out.trans (hu.mono HBD.out.size); have HU2 : Hid (Below w.heap.size w u2) := HWB.out.trans (HV2.out.mono HWB.out.size); clear hu)
  refine hK _ _ (HSS.out _ HV2.out) ?_
  clear hK K
  refine wpAnyH_take (i := 6) (v := .bool false) rfl (by kernel_rfl) (by kernel_rfl) (by kernel_rfl) (fun _ _ _ h => h) (Or.inl ⟨by kernel_rfl, fun w9 h9 => ?_⟩) (HSS.out _ HV2.out) ?_
  · go_simp
  refine wpAnyH_take (i := 7) (v := .bool false) rfl (by kernel_rfl) (by kernel_rfl) (by kernel_rfl) (fun _ _ _ h => h) (Or.inl ⟨by kernel_rfl, fun w9 h9 => ?_⟩) (HSS.out _ HV2.out) ?_
  · go_simp
  refine wpAnyH_take (i := 8) (v := .pointer (some ⟨B, 1, none⟩)) rfl (by kernel_rfl) (by kernel_rfl) (by kernel_rfl) (fun _ _ _ h => h) (Or.inl ⟨by kernel_rfl, fun w9 h9 => ?_⟩) (HSS.out _ HV2.out) ?_
  · go_simp
  refine wpAnyH_take (i := 9) (v := .int .i64 s.j.x) rfl (by kernel_rfl) (by kernel_rfl) (by kernel_rfl) (fun _ _ _ h => h) (Or.inl ⟨by kernel_rfl, fun w9 h9 => ?_⟩) (HSS.out _ HV2.out) ?_
  · obtain ⟨⟨y9, x0, x1, x2, x3, x4, x5, _, _⟩, ⟨yl, y0, y1, y2, y3, y4, _⟩, ⟨zl, z0, z1, z2, z3⟩⟩ := h9; simp only at y2 y3 y4; go_simp
  refine wpAnyH_take (i := 10) (v := .bool false) rfl (by kernel_rfl) (by kernel_rfl) (by kernel_rfl) (fun _ _ _ h => h) (Or.inl ⟨by kernel_rfl, fun w9 h9 => ?_⟩) (HSS.out _ HV2.out) ?_
  · go_simp; all_goals omega
  refine wpAnyH_take (i := 11) (v := .bool false) rfl (by kernel_rfl) (by kernel_rfl) (by kernel_rfl) (fun _ _ _ h => h) (Or.inl ⟨by kernel_rfl, fun w9 h9 => ?_⟩) (HSS.out _ HV2.out) ?_
  · go_simp
  refine wpAnyH_take (i := 12) (v := .bool false) rfl (by kernel_rfl) (by kernel_rfl) (by kernel_rfl) (fun _ _ _ h => h) (Or.inl ⟨by kernel_rfl, fun w9 h9 => ?_⟩) (HSS.out _ HV2.out) ?_
  · go_simp
  refine wpAnyH_take (i := 13) (v := .pointer (some ⟨B, 1, none⟩)) rfl (by kernel_rfl) (by kernel_rfl) (by kernel_rfl) (fun _ _ _ h => h) (Or.inl ⟨by kernel_rfl, fun w9 h9 => ?_⟩) (HSS.out _ HV2.out) ?_
  · go_simp
  refine wpAnyH_take (i := 14) (v := .int .i64 s.j.x) rfl (by kernel_rfl) (by kernel_rfl) (by kernel_rfl) (fun _ _ _ h => h) (Or.inl ⟨by kernel_rfl, fun w9 h9 => ?_⟩) (HSS.out _ HV2.out) ?_
  · obtain ⟨⟨y9, x0, x1, x2, x3, x4, x5, _, _⟩, ⟨yl, y0, y1, y2, y3, y4, _⟩, ⟨zl, z0, z1, z2, z3⟩⟩ := h9; simp only at y2 y3 y4; go_simp
  refine wpAnyH_take (i := 15) (v := .pointer (some ⟨b, 0, none⟩)) rfl (by kernel_rfl) (by kernel_rfl) (by kernel_rfl) (fun _ _ _ h => h) (Or.inl ⟨by kernel_rfl, fun w9 h9 => ?_⟩) (HSS.out _ HV2.out) ?_
  · go_simp
  refine wpAnyH_take (i := 16) (v := .slice (some ⟨g, o, none⟩) s.ms.length cap) rfl (by kernel_rfl) (by kernel_rfl) (by kernel_rfl) (fun _ _ _ h => h) (Or.inl ⟨by kernel_rfl, fun w9 h9 => ?_⟩) (HSS.out _ HV2.out) ?_
  · obtain ⟨⟨y9, x0, x1, x2, x3, x4, x5, _, _⟩, ⟨yl, y0, y1, y2, y3, y4, _⟩, ⟨zl, z0, z1, z2, z3⟩⟩ := h9; simp only at y2 y3 y4; go_simp
  refine wpAnyH_take (i := 17) (v := .int .i64 (c : Nat)) rfl (by kernel_rfl) (by kernel_rfl) (by kernel_rfl) (fun _ _ _ h => h) (Or.inl ⟨by kernel_rfl, fun w9 h9 => ?_⟩) (HSS.out _ HV2.out) ?_
  · go_simp
  refine wpAnyH_take (i := 18) (v := .pointer (some ⟨g, o + c * 5, none⟩)) rfl (by kernel_rfl) (by kernel_rfl) (by kernel_rfl) (fun _ _ _ h => h) (Or.inl ⟨by kernel_rfl, fun w9 h9 => ?_⟩) (HSS.out _ HV2.out) ?_
  · go_simp
  refine wpAnyH_take (i := 19) (v := .pointer (some ⟨g, o + c * 5 + 2, none⟩)) rfl (by kernel_rfl) (by kernel_rfl) (by kernel_rfl) (fun _ _ _ h => h) (Or.inl ⟨by kernel_rfl, fun w9 h9 => ?_⟩) (HSS.out _ HV2.out) ?_
  · go_simp
  refine wpAnyH_take (i := 20) (v := .slice p1 m.t.length r1) rfl (by kernel_rfl) (by kernel_rfl) (by kernel_rfl) (fun _ _ _ h => h) (Or.inl ⟨by kernel_rfl, fun w9 h9 => ?_⟩) (HSS.out _ HV2.out) ?_
  · obtain ⟨⟨y9, x0, x1, x2, x3, x4, x5, _, _⟩, ⟨yl, y0, y1, y2, y3, y4, _⟩, ⟨zl, z0, z1, z2, z3⟩⟩ := h9; simp only at y2 y3 y4; go_simp
  refine wpAnyH_take (i := 21) (v := .int .i64 (m.t.length : Nat)) rfl (by kernel_rfl) (by kernel_rfl) (by kernel_rfl) (fun _ _ _ h => h) (Or.inl ⟨by kernel_rfl, fun w9 h9 => ?_⟩) (HSS.out _ HV2.out) ?_
  · go_simp
  refine wpAnyH_take (i := 22) (v := .bool false) rfl (by kernel_rfl) (by kernel_rfl) (by kernel_rfl) (fun _ _ _ h => h) (Or.inl ⟨by kernel_rfl, fun w9 h9 => ?_⟩) (HSS.out _ HV2.out) ?_
  · go_simp; all_goals omega
  refine wpAnyH_take (i := 23) (v := .bool false) rfl (by kernel_rfl) (by kernel_rfl) (by kernel_rfl) (fun _ _ _ h => h) (Or.inl ⟨by kernel_rfl, fun w9 h9 => ?_⟩) (HSS.out _ HV2.out) ?_
  · go_simp
  refine wpAnyH_take (i := 24) (v := .bool false) rfl (by kernel_rfl) (by kernel_rfl) (by kernel_rfl) (fun _ _ _ h => h) (Or.inl ⟨by kernel_rfl, fun w9 h9 => ?_⟩) (HSS.out _ HV2.out) ?_
  · go_simp
  refine wpAnyH_take (i := 25) (v := .pointer (some ⟨B, 2, none⟩)) rfl (by kernel_rfl) (by kernel_rfl) (by kernel_rfl) (fun _ _ _ h => h) (Or.inl ⟨by kernel_rfl, fun w9 h9 => ?_⟩) (HSS.out _ HV2.out) ?_
  · go_simp
  refine wpAnyH_take (i := 26) (v := .string s.j.d) rfl (by kernel_rfl) (by kernel_rfl) (by kernel_rfl) (fun _ _ _ h => h) (Or.inl ⟨by kernel_rfl, fun w9 h9 => ?_⟩) (HSS.out _ HV2.out) ?_
  · obtain ⟨⟨y9, x0, x1, x2, x3, x4, x5, _, _⟩, ⟨yl, y0, y1, y2, y3, y4, _⟩, ⟨zl, z0, z1, z2, z3⟩⟩ := h9; simp only at y2 y3 y4; go_simp
  refine wpAnyH_take (i := 27) (v := .int .i64 (s.j.d.size : Nat)) rfl (by kernel_rfl) (by kernel_rfl) (by kernel_rfl) (fun _ _ _ h => h) (Or.inl ⟨by kernel_rfl, fun w9 h9 => ?_⟩) (HSS.out _ HV2.out) ?_
  · go_simp
  refine wpAnyH_take (i := 28) (v := .bool false) rfl (by kernel_rfl) (by kernel_rfl) (by kernel_rfl) (fun _ _ _ h => h) (Or.inl ⟨by kernel_rfl, fun w9 h9 => ?_⟩) (HSS.out _ HV2.out) ?_
  · go_simp; all_goals omega
  refine wpAnyH_take (i := 29) (v := .bool false) rfl (by kernel_rfl) (by kernel_rfl) (by kernel_rfl) (fun _ _ _ h => h) (Or.inl ⟨by kernel_rfl, fun w9 h9 => ?_⟩) (HSS.out _ HV2.out) ?_
  · go_simp
  refine wpAnyH_take (i := 30) (v := .bool false) rfl (by kernel_rfl) (by kernel_rfl) (by kernel_rfl) (fun _ _ _ h => h) (Or.inl ⟨by kernel_rfl, fun w9 h9 => ?_⟩) (HSS.out _ HV2.out) ?_
  · go_simp
  refine wpAnyH_take (i := 31) (v := .pointer (some ⟨B, 2, none⟩)) rfl (by kernel_rfl) (by kernel_rfl) (by kernel_rfl) (fun _ _ _ h => h) (Or.inl ⟨by kernel_rfl, fun w9 h9 => ?_⟩) (HSS.out _ HV2.out) ?_
  · go_simp
  refine wpAnyH_take (i := 32) (v := .string s.j.d) rfl (by kernel_rfl) (by kernel_rfl) (by kernel_rfl) (fun _ _ _ h => h) (Or.inl ⟨by kernel_rfl, fun w9 h9 => ?_⟩) (HSS.out _ HV2.out) ?_
  · obtain ⟨⟨y9, x0, x1, x2, x3, x4, x5, _, _⟩, ⟨yl, y0, y1, y2, y3, y4, _⟩, ⟨zl, z0, z1, z2, z3⟩⟩ := h9; simp only at y2 y3 y4; go_simp
  refine wpAnyH_take (i := 33) (v := .pointer (some ⟨B, 1, none⟩)) rfl (by kernel_rfl) (by kernel_rfl) (by kernel_rfl) (fun _ _ _ h => h) (Or.inl ⟨by kernel_rfl, fun w9 h9 => ?_⟩) (HSS.out _ HV2.out) ?_
  · go_simp
  refine wpAnyH_take (i := 34) (v := .int .i64 s.j.x) rfl (by kernel_rfl) (by kernel_rfl) (by kernel_rfl) (fun _ _ _ h => h) (Or.inl ⟨by kernel_rfl, fun w9 h9 => ?_⟩) (HSS.out _ HV2.out) ?_
  · obtain ⟨⟨y9, x0, x1, x2, x3, x4, x5, _, _⟩, ⟨yl, y0, y1, y2, y3, y4, _⟩, ⟨zl, z0, z1, z2, z3⟩⟩ := h9; simp only at y2 y3 y4; go_simp
  refine held_one 35 (by kernel_rfl) rfl (by kernel_rfl) fun K hK => ?_
  go_simp
  go_wp2_with (go_at_call 30; refine Calls.mono (HNX.out _) ?_; rintro e uu ⟨rfl, hu⟩; rw [hu]; clear hu)
  refine hK _ _ (HSS.out _ HV2.out) ?_
  clear hK K
  refine wpAnyH_take (i := 36) (v := .bool false) rfl (by kernel_rfl) (by kernel_rfl) (by kernel_rfl) (fun _ _ _ h => h) (Or.inl ⟨by kernel_rfl, fun w9 h9 => ?_⟩) (HSS.out _ HV2.out) ?_
  · go_simp; all_goals omega
  refine wpAnyH_take (i := 37) (v := .bool false) rfl (by kernel_rfl) (by kernel_rfl) (by kernel_rfl) (fun _ _ _ h => h) (Or.inl ⟨by kernel_rfl, fun w9 h9 => ?_⟩) (HSS.out _ HV2.out) ?_
  · go_simp
  refine wpAnyH_done (by kernel_rfl) ?_ _
  go_simp
  obtain ⟨_, _, hq9⟩ := HSS.out _ HV2.out
  have q0 := hq9.c0
  have q2 := hq9.c2
  have ql := hq9.lt
  clear hq9
  generalize s.j.k = kk at *
  generalize s.j.d = dd at *
  by_cases hk : kk = 1
  · subst hk
    have HR2 := HR.out
    rw [beq_self_eq_true, Bool.true_and] at HR2
    have HR3 : Hid _ := HR2
    clear HR2 HR
    by_cases hcn : 0 < Cn
    · rw [decide_eq_true hcn, if_neg (by decide)] at HR3
      go_wp2_with (go_at_call 31; refine Calls.mono (HCN.out _) ?_; rintro e uu ⟨rfl, hu⟩; rw [hu]; clear hu)
      go_ret
      exact ⟨ret_int HR3.out, HU2.out⟩
    · rw [decide_eq_false hcn, if_pos (by decide)] at HR3
      go_wp2_with (go_at_call 31; refine Calls.mono (HCN.out _) ?_; rintro e uu ⟨rfl, hu⟩; rw [hu]; clear hu)
      go_ret
      exact ⟨ret_int HR3.out, HU2.out⟩
  · have hkb : (kk == 1) = false := by simpa using hk
    have HR2 := HR.out
    rw [hkb, Bool.false_and, if_pos (by decide)] at HR2
    have HR3 : Hid _ := HR2
    clear HR2 HR hk HCN
    go_wp2
    go_ret
    exact ⟨ret_int HR3.out, HU2.out⟩
end Go.Proofs.YtomfbiiegcmmlaaGreat
