import Derived.Test.YtomfbiiegcmmlaaGreatJpZ
import Derived.Laws.EntriesVeiled
import Derived.Test.YtomfbiiegcmmlaaGreatJlZ
namespace Go.Proofs.YtomfbiiegcmmlaaGreat
open Go.ChangeShapes Go.WideShapes Go.ChangeAt Go.RowKit

set_option maxRecDepth 100000
set_option maxHeartbeats 4000000 in
theorem askMirror_any {w : World} {b : Nat} {s : JS} {gs : List IG} {g o cap : Nat} (h : JP w b s (.slice (some ⟨g, o, none⟩) s.ms.length cap) gs) (hl : s.ms.length ≤ 1048576) {c : Nat} (hf : fdN s.ms s.a = some c) (tg : ByteArray) : Calls Tryz.prog 161 #[.pointer (some ⟨b, 0, none⟩), .string tg] w fun e w' => e = .returned (.int .i64 (mrC s.ms c s.a tg)) ∧ Below w.heap.size w w' := by
  have HJ : Hid (JP w b s (.slice (some ⟨g, o, none⟩) s.ms.length cap) gs) := h
  have HIA : Hid _ := imageAt_any h.row h.inn hl tg
  have k0 := h.c0
  have k1 := h.c1
  have hlt := h.lt
  have hc := fdN_lt hf
  unfold mrC
  cases hq : fdN s.ms tg with
  | none =>
    rw [show fdI s.ms tg = -1 from by unfold fdI; rw [hq]] at HIA
    simp only
    clear h hf hq hc
    go_enter Tryz.func161, Tryz.ntmps161
    go_wp2_with (go_at_call 66; refine Calls.mono HIA.out ?_; rintro e u1 ⟨rfl, hu⟩; have HU : Hid (Below w.heap.size w u1) := hu; clear hu)
    go_ret
    exact ⟨rfl, HU.out⟩
  | some k =>
  rw [show fdI s.ms tg = k from by unfold fdI; rw [hq]] at HIA
  simp only
  have hk := fdN_lt hq
  have hki : ¬ (k : Int) < 0 := by omega
  have HA : Hid (∀ u, Below w.heap.size w u → Calls Tryz.prog 130 #[.pointer (some ⟨b, 0, none⟩)] u fun e w' => e = .returned (.pointer (some ⟨g, o + c * 5, none⟩)) ∧ Below u.heap.size u w') := fun u hu => jActive_any (HJ.out.below hu) hl hf
  have HIM : Hid (∀ u, Below w.heap.size w u → Calls Tryz.prog 153 #[.pointer (some ⟨b, 0, none⟩), .string tg] u fun e w' => e = .returned (.pointer (some ⟨g, o + k * 5, none⟩)) ∧ Below u.heap.size u w') := fun u hu => jImage_any (HJ.out.below hu) hl hq
  have HFR : Hid (∀ u, Below w.heap.size w u → Calls Tryz.prog 67 #[.pointer (some ⟨b, 0, none⟩), .string tg] u fun e w' => e = .returned (.int .i64 (frL s.ms tg : Nat)) ∧ Below u.heap.size u w') := fun u hu => jFronts_any (HJ.out.below hu) hl _
  obtain ⟨a, hp⟩ := h.pe hc
  obtain ⟨p1, r1, p2, r2, p3, r3, q, rfl⟩ := hp.sl
  have HP : Hid (PE w g (o + c * 5) (gI s.ms c) ⟨.slice p1 (gI s.ms c).t.length r1, .slice p2 (gI s.ms c).d.length r2, .slice p3 (gI s.ms c).s.length r3, q⟩) := hp
  obtain ⟨a2, hp2⟩ := h.pe hk
  obtain ⟨p4, r4, p5, r5, p6, r6, q2, rfl⟩ := hp2.sl
  have HP2 : Hid (PE w g (o + k * 5) (gI s.ms k) ⟨.slice p4 (gI s.ms k).t.length r4, .slice p5 (gI s.ms k).d.length r5, .slice p6 (gI s.ms k).s.length r6, q2⟩) := hp2
  clear h hp hp2 hf hq hc hk
  generalize frL s.ms tg = F at *
  generalize gI s.ms c = m at *
  generalize gI s.ms k = m2 at *
  unfold bq
  cases hbq : (tg.toList == s.a.toList)
  case true =>
    rw [if_pos rfl]
    go_enter Tryz.func161, Tryz.ntmps161
    go_wp2_with (go_at_call 66; refine Calls.mono HIA.out ?_; rintro e u1 ⟨rfl, hu⟩; have HU : Hid (Below w.heap.size w u1) := hu; have hj := HJ.out.below hu; have j1 := hj.c1; have jl := hj.lt; clear hu hj)
    go_ret
    exact ⟨rfl, HU.out⟩
  rw [if_neg (by decide)]
  by_cases h1 : 0 < F
  · rw [if_pos (.inl h1)]
    have h1i : (0 : Int) < (F : Int) := by omega
    go_enter Tryz.func161, Tryz.ntmps161
    go_wp2_with (first | (go_at_call 66; refine Calls.mono HIA.out ?_; rintro e u1 ⟨rfl, hu⟩; have HU : Hid (Below w.heap.size w u1) := hu; have hj := HJ.out.below hu; have j1 := hj.c1; have jl := hj.lt; clear hu hj) | (go_at_call 153; refine Calls.mono (HIM.out _ HU.out) ?_; rintro e u2 ⟨rfl, hu⟩; have HU2 : Hid (Below w.heap.size w u2) := HU.out.trans (hu.mono HU.out.size); clear hu) | (go_at_call 67; refine Calls.mono (HFR.out _ HU2.out) ?_; rintro e u3 ⟨rfl, hu⟩; have HU3 : Hid (Below w.heap.size w u3) := HU2.out.trans (hu.mono HU2.out.size); clear hu))
    go_ret
    exact ⟨rfl, HU3.out⟩
  have h1i : ¬ (0 : Int) < (F : Int) := by omega
  by_cases h2 : 0 < m2.b.size
  · rw [if_pos (.inr (.inl h2))]
    obtain ⟨hie, hne⟩ := ba_ne (show ¬ m2.b.size = 0 by omega)
    go_enter Tryz.func161, Tryz.ntmps161
    go_wp2_with (first | (go_at_call 66; refine Calls.mono HIA.out ?_; rintro e u1 ⟨rfl, hu⟩; have HU : Hid (Below w.heap.size w u1) := hu; have hj := HJ.out.below hu; have j1 := hj.c1; have jl := hj.lt; clear hu hj) | (go_at_call 153; refine Calls.mono (HIM.out _ HU.out) ?_; rintro e u2 ⟨rfl, hu⟩; have HU2 : Hid (Below w.heap.size w u2) := HU.out.trans (hu.mono HU.out.size); clear hu) | (go_at_call 67; refine Calls.mono (HFR.out _ HU2.out) ?_; rintro e u3 ⟨rfl, hu⟩; have HU3 : Hid (Below w.heap.size w u3) := HU2.out.trans (hu.mono HU2.out.size); have hp3 := HP2.out.below HU3.out; have z1 := hp3.c1; have z4 := hp3.c4; have hgl2 := hp3.lt; clear hu hp3))
    go_ret
    exact ⟨rfl, HU3.out⟩
  have HBE : Hid (m2.b = ⟨#[]⟩) := ba_empty (show m2.b.size = 0 by omega)
  by_cases h3 : 0 < m2.s.length
  · rw [if_pos (.inr (.inr h3))]
    have h3i : (0 : Int) < (m2.s.length : Int) := by omega
    clear h2
    go_enter Tryz.func161, Tryz.ntmps161
    go_wp2_with (first | (go_at_call 66; refine Calls.mono HIA.out ?_; rintro e u1 ⟨rfl, hu⟩; have HU : Hid (Below w.heap.size w u1) := hu; have hj := HJ.out.below hu; have j1 := hj.c1; have jl := hj.lt; clear hu hj) | (go_at_call 153; refine Calls.mono (HIM.out _ HU.out) ?_; rintro e u2 ⟨rfl, hu⟩; have HU2 : Hid (Below w.heap.size w u2) := HU.out.trans (hu.mono HU.out.size); clear hu) | (go_at_call 67; refine Calls.mono (HFR.out _ HU2.out) ?_; rintro e u3 ⟨rfl, hu⟩; have HU3 : Hid (Below w.heap.size w u3) := HU2.out.trans (hu.mono HU2.out.size); have hp3 := HP2.out.below HU3.out; have z1 := hp3.c1; rw [HBE.out] at z1; have z4 := hp3.c4; have hgl2 := hp3.lt; clear hu hp3))
    go_ret
    exact ⟨rfl, HU3.out⟩
  have h3i : ¬ (0 : Int) < (m2.s.length : Int) := by omega
  rw [if_neg (by omega)]
  obtain ⟨R, hR⟩ : ∃ R : Int, (if m2.t.length = m.t.length then (0 : Int) else 2) = R := ⟨_, rfl⟩
  rw [hR]
  have HR : Hid ((if m2.t.length = m.t.length then (0 : Int) else 2) = R) := hR
  clear hR h2 h3
  go_enter Tryz.func161, Tryz.ntmps161
  go_wp2_with (first | (go_at_call 66; refine Calls.mono HIA.out ?_; rintro e u1 ⟨rfl, hu⟩; have HU : Hid (Below w.heap.size w u1) := hu; have hj := HJ.out.below hu; have j1 := hj.c1; have jl := hj.lt; clear hu hj) | (go_at_call 153; refine Calls.mono (HIM.out _ HU.out) ?_; rintro e u2 ⟨rfl, hu⟩; have HU2 : Hid (Below w.heap.size w u2) := HU.out.trans (hu.mono HU.out.size); clear hu) | (go_at_call 67; refine Calls.mono (HFR.out _ HU2.out) ?_; rintro e u3 ⟨rfl, hu⟩; have HU3 : Hid (Below w.heap.size w u3) := HU2.out.trans (hu.mono HU2.out.size); have hp3 := HP2.out.below HU3.out; have z1 := hp3.c1; rw [HBE.out] at z1; have z4 := hp3.c4; have hgl2 := hp3.lt; clear hu hp3))
  have HBD : Hid (Below w.heap.size w u3.drew) := HU3.out.trans ((Below.refl _ _).drew.mono HU3.out.size)
  have HSS : Hid (∀ u, Below w.heap.size w u → JP u b s (.slice (some ⟨g, o, none⟩) s.ms.length cap) gs ∧ PE u g (o + c * 5) m ⟨.slice p1 m.t.length r1, .slice p2 m.d.length r2, .slice p3 m.s.length r3, q⟩ ∧ PE u g (o + k * 5) m2 ⟨.slice p4 m2.t.length r4, .slice p5 m2.d.length r5, .slice p6 m2.s.length r6, q2⟩) := fun u hu => ⟨HJ.out.below hu, HP.out.below hu, HP2.out.below hu⟩
  clear z1 z4 j1
  refine wp_region_held (S := fun w9 => JP w9 b s (.slice (some ⟨g, o, none⟩) s.ms.length cap) gs ∧ PE w9 g (o + c * 5) m ⟨.slice p1 m.t.length r1, .slice p2 m.d.length r2, .slice p3 m.s.length r3, q⟩ ∧ PE w9 g (o + k * 5) m2 ⟨.slice p4 m2.t.length r4, .slice p5 m2.d.length r5, .slice p6 m2.s.length r6, q2⟩) (by kernel_rfl) ?_
  change wpAnyH _ _ _ _ _ _ _ _ (World.drew _)
  refine wpAnyH_take (i := 0) (v := .pointer (some ⟨g, o + k * 5, none⟩)) rfl (by kernel_rfl) (by kernel_rfl) (by kernel_rfl) (fun _ _ _ h => h) (Or.inl ⟨by kernel_rfl, fun w9 h9 => ?_⟩) (HSS.out _ HBD.out) ?_
  · go_simp
  refine wpAnyH_take (i := 1) (v := .pointer (some ⟨g, o + k * 5, none⟩)) rfl (by kernel_rfl) (by kernel_rfl) (by kernel_rfl) (fun _ _ _ h => h) (Or.inl ⟨by kernel_rfl, fun w9 h9 => ?_⟩) (HSS.out _ HBD.out) ?_
  · go_simp
  refine wpAnyH_take (i := 2) (v := .pointer (some ⟨g, o + k * 5 + 2, none⟩)) rfl (by kernel_rfl) (by kernel_rfl) (by kernel_rfl) (fun _ _ _ h => h) (Or.inl ⟨by kernel_rfl, fun w9 h9 => ?_⟩) (HSS.out _ HBD.out) ?_
  · go_simp
  refine wpAnyH_take (i := 3) (v := .slice p4 m2.t.length r4) rfl (by kernel_rfl) (by kernel_rfl) (by kernel_rfl) (fun _ _ _ h => h) (Or.inl ⟨by kernel_rfl, fun w9 h9 => ?_⟩) (HSS.out _ HBD.out) ?_
  · obtain ⟨⟨y9, x0, x1, x2, x3, x4, x5, _, _⟩, ⟨yl, y0, y1, y2, y3, y4, _⟩, ⟨zl, z0, z1, z2, z3, z4, _⟩⟩ := h9; simp only at y2 y3 y4 z2 z3 z4; go_simp
  refine wpAnyH_take (i := 4) (v := .int .i64 (m2.t.length : Nat)) rfl (by kernel_rfl) (by kernel_rfl) (by kernel_rfl) (fun _ _ _ h => h) (Or.inl ⟨by kernel_rfl, fun w9 h9 => ?_⟩) (HSS.out _ HBD.out) ?_
  · go_simp
  refine wpAnyH_take (i := 5) (v := .pointer (some ⟨b, 0, none⟩)) rfl (by kernel_rfl) (by kernel_rfl) (by kernel_rfl) (fun _ _ _ h => h) (Or.inl ⟨by kernel_rfl, fun w9 h9 => ?_⟩) (HSS.out _ HBD.out) ?_
  · go_simp
  refine held_one 6 (by kernel_rfl) rfl (by kernel_rfl) fun K hK => ?_
  go_simp
  go_wp2_with (go_at_call 130; refine Calls.mono (HA.out _ HBD.out) ?_; rintro e u4 ⟨rfl, hu⟩; have HU4 : Hid (Below w.heap.size w u4) := HBD.out.trans (hu.mono HBD.out.size); clear hu)
  refine hK _ _ (HSS.out _ HU4.out) ?_
  clear hK K
  refine wpAnyH_take (i := 7) (v := .pointer (some ⟨g, o + c * 5, none⟩)) rfl (by kernel_rfl) (by kernel_rfl) (by kernel_rfl) (fun _ _ _ h => h) (Or.inl ⟨by kernel_rfl, fun w9 h9 => ?_⟩) (HSS.out _ HU4.out) ?_
  · go_simp
  refine wpAnyH_take (i := 8) (v := .pointer (some ⟨g, o + c * 5 + 2, none⟩)) rfl (by kernel_rfl) (by kernel_rfl) (by kernel_rfl) (fun _ _ _ h => h) (Or.inl ⟨by kernel_rfl, fun w9 h9 => ?_⟩) (HSS.out _ HU4.out) ?_
  · go_simp
  refine wpAnyH_take (i := 9) (v := .slice p1 m.t.length r1) rfl (by kernel_rfl) (by kernel_rfl) (by kernel_rfl) (fun _ _ _ h => h) (Or.inl ⟨by kernel_rfl, fun w9 h9 => ?_⟩) (HSS.out _ HU4.out) ?_
  · obtain ⟨⟨y9, x0, x1, x2, x3, x4, x5, _, _⟩, ⟨yl, y0, y1, y2, y3, y4, _⟩, ⟨zl, z0, z1, z2, z3, z4, _⟩⟩ := h9; simp only at y2 y3 y4 z2 z3 z4; go_simp
  refine wpAnyH_take (i := 10) (v := .int .i64 (m.t.length : Nat)) rfl (by kernel_rfl) (by kernel_rfl) (by kernel_rfl) (fun _ _ _ h => h) (Or.inl ⟨by kernel_rfl, fun w9 h9 => ?_⟩) (HSS.out _ HU4.out) ?_
  · go_simp
  refine wpAnyH_take (i := 11) (v := .bool ((m2.t.length : Int) != (m.t.length : Int))) rfl (by kernel_rfl) (by kernel_rfl) (by kernel_rfl) (fun _ _ _ h => h) (Or.inl ⟨by kernel_rfl, fun w9 h9 => ?_⟩) (HSS.out _ HU4.out) ?_
  · go_simp
  refine wpAnyH_done (by kernel_rfl) ?_ _
  go_simp
  by_cases ht : m2.t.length = m.t.length
  · have hti : (m2.t.length : Int) = (m.t.length : Int) := by omega
    rw [if_pos ht] at HR
    clear ht
    rw [hti]
    go_wp2
    go_ret
    exact ⟨ret_int HR.out, HU4.out⟩
  · have hti : ¬ (m2.t.length : Int) = (m.t.length : Int) := by omega
    have htb : ((m2.t.length : Int) == (m.t.length : Int)) = false := by simpa using hti
    have htc : ((m2.t.length : Int) != (m.t.length : Int)) = true := by simpa using hti
    rw [if_neg ht] at HR
    clear ht
    go_wp2
    go_ret
    exact ⟨ret_int HR.out, HU4.out⟩
/-- The functions of a job. -/
def wkV (b : Nat) (k : Int) : Value :=
  if k = 1 then .agg #[.func (.func 155) #[.pointer (some ⟨b, 0, none⟩)] #[], .func (.func 156) #[.pointer (some ⟨b, 0, none⟩)] #[], .func (.func 157) #[.pointer (some ⟨b, 0, none⟩)] #[]]
  else if k = 2 then .agg #[.func (.func 158) #[.pointer (some ⟨b, 0, none⟩)] #[], .func (.func 159) #[.pointer (some ⟨b, 0, none⟩)] #[], .func (.func 160) #[.pointer (some ⟨b, 0, none⟩)] #[]]
  else .agg #[.func (.func 161) #[.pointer (some ⟨b, 0, none⟩)] #[], .func (.func 162) #[.pointer (some ⟨b, 0, none⟩)] #[], .func (.func 163) #[.pointer (some ⟨b, 0, none⟩)] #[]]

set_option maxRecDepth 100000
set_option maxHeartbeats 4000000 in
theorem workOf_any (b : Nat) (k : Int) (w : World) : Calls Tryz.prog 127 #[.pointer (some ⟨b, 0, none⟩), .int .i64 k] w fun e w' => (∃ x1 x2 x3, e = .returned (.tuple #[.agg #[x1, x2, x3], .bool (decide (1 ≤ k ∧ k ≤ 3))]) ∧ (1 ≤ k ∧ k ≤ 3 → .agg #[x1, x2, x3] = wkV b k) ∧ x1.oneCell' = true ∧ x2.oneCell' = true ∧ x3.oneCell' = true) ∧ Below w.heap.size w w' := by
  by_cases h1 : k = 1
  · subst h1
    rw [decide_eq_true (by omega)]
    go_enter Tryz.func127, Tryz.ntmps127
    go_wp2
    refine bodyPost_ret (v := .tuple #[.agg #[.func (.func 155) #[.pointer (some ⟨b, 0, none⟩)] #[], .func (.func 156) #[.pointer (some ⟨b, 0, none⟩)] #[], .func (.func 157) #[.pointer (some ⟨b, 0, none⟩)] #[]], .bool true]) ?_ rfl ⟨⟨_, _, _, rfl, fun _ => rfl, rfl, rfl, rfl⟩, (Below.refl _ _).alloc (Nat.le_refl _) _⟩
    simp only [results, Tryz.results127, go_sem]
    simp [go_sem]
  by_cases h2 : k = 2
  · subst h2
    rw [decide_eq_true (by omega)]
    go_enter Tryz.func127, Tryz.ntmps127
    go_wp2
    refine bodyPost_ret (v := .tuple #[.agg #[.func (.func 158) #[.pointer (some ⟨b, 0, none⟩)] #[], .func (.func 159) #[.pointer (some ⟨b, 0, none⟩)] #[], .func (.func 160) #[.pointer (some ⟨b, 0, none⟩)] #[]], .bool true]) ?_ rfl ⟨⟨_, _, _, rfl, fun _ => rfl, rfl, rfl, rfl⟩, (Below.refl _ _).alloc (Nat.le_refl _) _⟩
    simp only [results, Tryz.results127, go_sem]
    simp [go_sem]
  by_cases h3 : k = 3
  · subst h3
    rw [decide_eq_true (by omega)]
    go_enter Tryz.func127, Tryz.ntmps127
    go_wp2
    refine bodyPost_ret (v := .tuple #[.agg #[.func (.func 161) #[.pointer (some ⟨b, 0, none⟩)] #[], .func (.func 162) #[.pointer (some ⟨b, 0, none⟩)] #[], .func (.func 163) #[.pointer (some ⟨b, 0, none⟩)] #[]], .bool true]) ?_ rfl ⟨⟨_, _, _, rfl, fun _ => rfl, rfl, rfl, rfl⟩, (Below.refl _ _).alloc (Nat.le_refl _) _⟩
    simp only [results, Tryz.results127, go_sem]
    simp [go_sem]
  have h4 : ¬ (1 ≤ k ∧ k ≤ 3) := by omega
  rw [decide_eq_false h4]
  have e1 : (k == 1) = false := by simpa using h1
  have e2 : (k == 2) = false := by simpa using h2
  have e3 : (k == 3) = false := by simpa using h3
  have H4 : Hid (¬ (1 ≤ k ∧ k ≤ 3)) := h4
  clear h1 h2 h3 h4
  go_enter Tryz.func127, Tryz.ntmps127
  go_wp2
  refine bodyPost_ret (v := .tuple #[.agg #[.nilFunc, .nilFunc, .nilFunc], .bool false]) ?_ rfl ⟨⟨_, _, _, rfl, fun h => absurd h H4.out, rfl, rfl, rfl⟩, (Below.refl _ _).alloc (Nat.le_refl _) _⟩
  simp only [results, Tryz.results127, go_sem]
  simp [go_sem]
theorem hcfS (xs : Array Value) (w' : World) : (callFunc 155 xs).run Tryz.prog w' = .ok (.enter 155 xs) w' := by kernel_rfl
theorem hcfC (xs : Array Value) (w' : World) : (callFunc 158 xs).run Tryz.prog w' = .ok (.enter 158 xs) w' := by kernel_rfl
theorem hcfM (xs : Array Value) (w' : World) : (callFunc 161 xs).run Tryz.prog w' = .ok (.enter 161 xs) w' := by kernel_rfl
set_option maxHeartbeats 4000000 in
theorem askStart_any {w : World} {b : Nat} {s : JS} {gs : List IG} {g o cap : Nat} (h : JP w b s (.slice (some ⟨g, o, none⟩) s.ms.length cap) gs) (hl : s.ms.length ≤ 1048576) (hr : RL s.ms) {c : Nat} (hf : fdN s.ms s.a = some c) (kd : Int) (tg : ByteArray) : Calls Tryz.prog 112 #[.pointer (some ⟨b, 0, none⟩), .int .i64 kd, .string tg] w fun e w' => e = .returned (.int .i64 (mayC s.ms c s.a kd tg)) ∧ Below w.heap.size w w' := by
  have HJ : Hid (JP w b s (.slice (some ⟨g, o, none⟩) s.ms.length cap) gs) := h
  have HW : Hid _ := workOf_any b kd w
  unfold mayC
  by_cases h3 : kd = 3
  · subst h3
    simp only [Int.reduceEq, if_true, if_false]
    rw [decide_eq_true (by omega)] at HW
    by_cases hz : tg.size = 0
    · rw [if_pos hz]
      have hbe := ba_empty hz
      subst hbe
      clear hz h hr hf
      go_enter Tryz.func112, Tryz.ntmps112
      go_wp2_with fail
      refine Calls.mono HW.out ?_
      rintro e u1 ⟨⟨x1, x2, x3, rfl, hx, _⟩, hu⟩
      have hx2 := hx (by omega)
      unfold wkV at hx2
      simp only [Int.reduceEq, if_false] at hx2
      injection hx2 with hx3
      injection hx3 with hx4
      injection hx4 with e1 hx5
      injection hx5 with e2 hx6
      injection hx6 with e3 _
      subst e1 e2 e3
      have HU2 : Hid (Below w.heap.size w (u1.alloc (.cells #[.func (.func 161) #[.pointer (some ⟨b, 0, none⟩)] #[], .func (.func 162) #[.pointer (some ⟨b, 0, none⟩)] #[], .func (.func 163) #[.pointer (some ⟨b, 0, none⟩)] #[]] 152))) := hu.alloc hu.size _
      clear hu hx HW
      go_wp2
      go_ret
      exact ⟨rfl, HU2.out⟩
    · rw [if_neg hz]
      obtain ⟨hie, hne⟩ := ba_ne hz
      clear hz
      have HA : Hid (∀ u, Below w.heap.size w u → Calls Tryz.prog 161 #[.pointer (some ⟨b, 0, none⟩), .string tg] u fun e w' => e = .returned (.int .i64 (mrC s.ms c s.a tg)) ∧ Below u.heap.size u w') := fun u hu => askMirror_any (HJ.out.below hu) hl hf _
      have hcf := hcfM
      generalize mrC s.ms c s.a tg = R at *
      clear h hr hf
      go_enter Tryz.func112, Tryz.ntmps112
      go_wp2_with fail
      refine Calls.mono HW.out ?_
      rintro e u1 ⟨⟨x1, x2, x3, rfl, hx, _⟩, hu⟩
      have hx2 := hx (by omega)
      unfold wkV at hx2
      simp only [Int.reduceEq, if_false] at hx2
      injection hx2 with hx3
      injection hx3 with hx4
      injection hx4 with e1 hx5
      injection hx5 with e2 hx6
      injection hx6 with e3 _
      subst e1 e2 e3
      have HU : Hid (Below w.heap.size w u1) := hu
      have HU2 : Hid (Below w.heap.size w (u1.alloc (.cells #[.func (.func 161) #[.pointer (some ⟨b, 0, none⟩)] #[], .func (.func 162) #[.pointer (some ⟨b, 0, none⟩)] #[], .func (.func 163) #[.pointer (some ⟨b, 0, none⟩)] #[]] 152))) := hu.alloc hu.size _
      clear hu hx HW
      go_wp2_with (go_at_call 161; refine Calls.mono (HA.out _ HU2.out) ?_; rintro e u2 ⟨rfl, hu⟩; have HU3 : Hid (Below w.heap.size w u2) := HU2.out.trans (hu.mono HU2.out.size); clear hu)
      go_ret
      exact ⟨rfl, HU3.out⟩
  by_cases h1 : kd = 1
  · subst h1
    simp only [Int.reduceEq, if_true, if_false]
    rw [decide_eq_true (by omega)] at HW
    by_cases hz : tg.size = 0
    · rw [if_pos hz]
      have hbe := ba_empty hz
      subst hbe
      clear hz
      have HA : Hid (∀ u, Below w.heap.size w u → Calls Tryz.prog 155 #[.pointer (some ⟨b, 0, none⟩), .string ⟨#[]⟩] u fun e w' => e = .returned (.int .i64 (if (gI s.ms c).b.size = 0 then 5 else 0)) ∧ Below u.heap.size u w') := fun u hu => askStream_any (HJ.out.below hu) hl hf _
      have hcf := hcfS
      generalize (if (gI s.ms c).b.size = 0 then (5 : Int) else 0) = R at *
      clear h hr hf
      go_enter Tryz.func112, Tryz.ntmps112
      go_wp2_with fail
      refine Calls.mono HW.out ?_
      rintro e u1 ⟨⟨x1, x2, x3, rfl, hx, _⟩, hu⟩
      have hx2 := hx (by omega)
      unfold wkV at hx2
      simp only [Int.reduceEq, if_true, if_false] at hx2
      injection hx2 with hx3
      injection hx3 with hx4
      injection hx4 with e1 hx5
      injection hx5 with e2 hx6
      injection hx6 with e3 _
      subst e1 e2 e3
      have HU : Hid (Below w.heap.size w u1) := hu
      have HU2 : Hid (Below w.heap.size w (u1.alloc (.cells #[.func (.func 155) #[.pointer (some ⟨b, 0, none⟩)] #[], .func (.func 156) #[.pointer (some ⟨b, 0, none⟩)] #[], .func (.func 157) #[.pointer (some ⟨b, 0, none⟩)] #[]] 152))) := hu.alloc hu.size _
      clear hu hx HW
      go_wp2_with (go_at_call 155; refine Calls.mono (HA.out _ HU2.out) ?_; rintro e u2 ⟨rfl, hu⟩; have HU3 : Hid (Below w.heap.size w u2) := HU2.out.trans (hu.mono HU2.out.size); clear hu)
      go_ret
      exact ⟨rfl, HU3.out⟩
    · rw [if_neg hz]
      obtain ⟨hie, hne⟩ := ba_ne hz
      clear hz h hr hf
      go_enter Tryz.func112, Tryz.ntmps112
      go_wp2_with fail
      refine Calls.mono HW.out ?_
      rintro e u1 ⟨⟨x1, x2, x3, rfl, hx, _⟩, hu⟩
      have hx2 := hx (by omega)
      unfold wkV at hx2
      simp only [Int.reduceEq, if_true, if_false] at hx2
      injection hx2 with hx3
      injection hx3 with hx4
      injection hx4 with e1 hx5
      injection hx5 with e2 hx6
      injection hx6 with e3 _
      subst e1 e2 e3
      have HU2 : Hid (Below w.heap.size w (u1.alloc (.cells #[.func (.func 155) #[.pointer (some ⟨b, 0, none⟩)] #[], .func (.func 156) #[.pointer (some ⟨b, 0, none⟩)] #[], .func (.func 157) #[.pointer (some ⟨b, 0, none⟩)] #[]] 152))) := hu.alloc hu.size _
      clear hu hx HW
      go_wp2
      go_ret
      exact ⟨rfl, HU2.out⟩
  by_cases h2 : kd = 2
  · subst h2
    simp only [Int.reduceEq, if_true, if_false]
    rw [decide_eq_true (by omega)] at HW
    by_cases hz : tg.size = 0
    · rw [if_pos hz]
      have hbe := ba_empty hz
      subst hbe
      clear hz
      have HA : Hid (∀ u, Below w.heap.size w u → Calls Tryz.prog 158 #[.pointer (some ⟨b, 0, none⟩), .string ⟨#[]⟩] u fun e w' => e = .returned (.int .i64 (if (gI s.ms c).b.size = 0 then 5 else cmC s.ms c)) ∧ Below u.heap.size u w') := fun u hu => askCommit_any (HJ.out.below hu) hl hr hf _
      have hcf := hcfC
      generalize (if (gI s.ms c).b.size = 0 then (5 : Int) else cmC s.ms c) = R at *
      clear h hr hf
      go_enter Tryz.func112, Tryz.ntmps112
      go_wp2_with fail
      refine Calls.mono HW.out ?_
      rintro e u1 ⟨⟨x1, x2, x3, rfl, hx, _⟩, hu⟩
      have hx2 := hx (by omega)
      unfold wkV at hx2
      simp only [Int.reduceEq, if_true, if_false] at hx2
      injection hx2 with hx3
      injection hx3 with hx4
      injection hx4 with e1 hx5
      injection hx5 with e2 hx6
      injection hx6 with e3 _
      subst e1 e2 e3
      have HU : Hid (Below w.heap.size w u1) := hu
      have HU2 : Hid (Below w.heap.size w (u1.alloc (.cells #[.func (.func 158) #[.pointer (some ⟨b, 0, none⟩)] #[], .func (.func 159) #[.pointer (some ⟨b, 0, none⟩)] #[], .func (.func 160) #[.pointer (some ⟨b, 0, none⟩)] #[]] 152))) := hu.alloc hu.size _
      clear hu hx HW
      go_wp2_with (go_at_call 158; refine Calls.mono (HA.out _ HU2.out) ?_; rintro e u2 ⟨rfl, hu⟩; have HU3 : Hid (Below w.heap.size w u2) := HU2.out.trans (hu.mono HU2.out.size); clear hu)
      go_ret
      exact ⟨rfl, HU3.out⟩
    · rw [if_neg hz]
      obtain ⟨hie, hne⟩ := ba_ne hz
      clear hz h hr hf
      go_enter Tryz.func112, Tryz.ntmps112
      go_wp2_with fail
      refine Calls.mono HW.out ?_
      rintro e u1 ⟨⟨x1, x2, x3, rfl, hx, _⟩, hu⟩
      have hx2 := hx (by omega)
      unfold wkV at hx2
      simp only [Int.reduceEq, if_true, if_false] at hx2
      injection hx2 with hx3
      injection hx3 with hx4
      injection hx4 with e1 hx5
      injection hx5 with e2 hx6
      injection hx6 with e3 _
      subst e1 e2 e3
      have HU2 : Hid (Below w.heap.size w (u1.alloc (.cells #[.func (.func 158) #[.pointer (some ⟨b, 0, none⟩)] #[], .func (.func 159) #[.pointer (some ⟨b, 0, none⟩)] #[], .func (.func 160) #[.pointer (some ⟨b, 0, none⟩)] #[]] 152))) := hu.alloc hu.size _
      clear hu hx HW
      go_wp2
      go_ret
      exact ⟨rfl, HU2.out⟩
  rw [if_neg h3, if_neg h1, if_neg h2]
  rw [decide_eq_false (by omega)] at HW
  clear h1 h2 h3 h hr hf
  go_enter Tryz.func112, Tryz.ntmps112
  go_wp2_with fail
  refine Calls.mono HW.out ?_
  rintro e u1 ⟨⟨x1, x2, x3, rfl, hx, o1, o2, o3⟩, hu⟩
  have HU2 : Hid (Below w.heap.size w (u1.alloc (.cells #[x1, x2, x3] 152))) := hu.alloc hu.size _
  have hs1 := fun (P : Program) (w : World) (a : Addr) (m : Mode) => run_store P w a x1 m o1
  have hs2 := fun (P : Program) (w : World) (a : Addr) (m : Mode) => run_store P w a x2 m o2
  have hs3 := fun (P : Program) (w : World) (a : Addr) (m : Mode) => run_store P w a x3 m o3
  clear hu hx HW
  go_wp2
  go_ret
  exact ⟨rfl, HU2.out⟩

set_option maxRecDepth 100000
set_option maxHeartbeats 4000000 in
theorem jDirty_any {w : World} {b : Nat} {s : JS} {v : Value} {gs : List IG} (h : JP w b s v gs) (hx : s.j.x ≤ 9223372036854775807) : Calls Tryz.prog 113 #[.pointer (some ⟨b, 0, none⟩)] w fun e w' => e = .returned (.bool (drJ s.j)) ∧ w' = w := by
  have c2 := h.c2
  have c3 := h.c3
  have c4 := h.c4
  have hlt := h.lt
  obtain ⟨G, hG⟩ : ∃ G, drJ s.j = G := ⟨_, rfl⟩
  rw [hG]
  unfold drJ at hG
  have HN : Hid (∀ u, Calls Tryz.prog 148 #[.string s.j.d, .int .i64 (if s.j.k = 1 then 0 else s.j.x), .bool true] u fun e w' => e = .returned (.int .i64 (nxt s.j.d (if s.j.k = 1 then 0 else s.j.x) true)) ∧ w' = u) := fun u => implNextBit_any _ _ _ u (by split <;> omega)
  clear h hx
  generalize s.j.k = kk at *
  generalize s.j.x = xx at *
  generalize s.j.d = dd at *
  by_cases hd : dd.size ≤ 8
  · have hdi : (dd.size : Int) ≤ 8 := by omega
    rw [decide_eq_true hd, Bool.true_and] at hG
    have HG : Hid _ := hG
    clear hG hd
    by_cases hk : kk = 1
    · subst hk
      rw [if_pos rfl] at HN HG
      generalize nxt dd 0 true = X at *
      go_enter Tryz.func113, Tryz.ntmps113
      go_wp2_with (go_at_call 148; refine Calls.mono (HN.out _) ?_; rintro e u1 ⟨rfl, hu⟩; rw [hu]; clear hu)
      all_goals go_ret
      all_goals exact ⟨ret_bool HG.out, rfl⟩
    · rw [if_neg hk] at HN HG
      have hkb : (kk == 1) = false := by simpa using hk
      clear hk
      generalize nxt dd xx true = X at *
      go_enter Tryz.func113, Tryz.ntmps113
      go_wp2_with (go_at_call 148; refine Calls.mono (HN.out _) ?_; rintro e u1 ⟨rfl, hu⟩; rw [hu]; clear hu)
      all_goals go_ret
      all_goals exact ⟨ret_bool HG.out, rfl⟩
  · have hdi : ¬ (dd.size : Int) ≤ 8 := by omega
    rw [decide_eq_false hd, Bool.false_and] at hG
    subst hG
    clear hd HN
    by_cases hk : kk = 1
    · subst hk
      go_enter Tryz.func113, Tryz.ntmps113
      go_wp2
      go_ret
      exact ⟨rfl, rfl⟩
    · have hkb : (kk == 1) = false := by simpa using hk
      clear hk
      go_enter Tryz.func113, Tryz.ntmps113
      go_wp2
      go_ret
      exact ⟨rfl, rfl⟩
set_option maxHeartbeats 4000000 in
theorem jJobRight_any {w : World} {b : Nat} {s : JS} {gs : List IG} {g o cap : Nat} (h : JP w b s (.slice (some ⟨g, o, none⟩) s.ms.length cap) gs) (hl : s.ms.length ≤ 1048576) (hr : RL s.ms) {c : Nat} (hf : fdN s.ms s.a = some c) (hx : s.j.x ≤ 9223372036854775807) : Calls Tryz.prog 69 #[.pointer (some ⟨b, 0, none⟩)] w fun e w' => e = .returned (.bool (jrB s.ms c s.a s.j)) ∧ Below w.heap.size w w' := by
  have HJ : Hid (JP w b s (.slice (some ⟨g, o, none⟩) s.ms.length cap) gs) := h
  have HJU : Hid (∀ u, Below w.heap.size w u → JP u b s (.slice (some ⟨g, o, none⟩) s.ms.length cap) gs) := fun u hu => HJ.out.below hu
  have HBD : Hid (Below w.heap.size w w.drew) := (Below.refl _ _).drew
  have HAS : Hid (∀ u, Below w.heap.size w u → Calls Tryz.prog 112 #[.pointer (some ⟨b, 0, none⟩), .int .i64 s.j.k, .string s.j.g] u fun e w' => e = .returned (.int .i64 (mayC s.ms c s.a s.j.k s.j.g)) ∧ Below u.heap.size u w') := fun u hu => askStart_any (HJ.out.below hu) hl hr hf _ _
  have HCL : Hid (∀ u, Below w.heap.size w u → Calls Tryz.prog 85 #[.pointer (some ⟨b, 0, none⟩)] u fun e w' => e = .returned (.int .i64 ((gI s.ms c).t.length : Nat)) ∧ Below u.heap.size u w') := fun u hu => jClusters_any (HJ.out.below hu) hl hf
  have HDR : Hid (∀ u, Below w.heap.size w u → Calls Tryz.prog 113 #[.pointer (some ⟨b, 0, none⟩)] u fun e w' => e = .returned (.bool (drJ s.j)) ∧ w' = u) := fun u hu => jDirty_any (HJ.out.below hu) hx
  obtain ⟨G, hG⟩ : ∃ G, jrB s.ms c s.a s.j = G := ⟨_, rfl⟩
  rw [hG]
  unfold jrB at hG
  clear h hl hr hf hx
  generalize mayC s.ms c s.a s.j.k s.j.g = C at *
  generalize (gI s.ms c).t.length = T at *
  generalize drJ s.j = Dr at *
  by_cases hC : C = 0
  case neg =>
    rw [decide_eq_false hC, Bool.false_and] at hG
    subst hG
    have hCb : (C == 0) = false := by simpa using hC
    have hCn : (C != 0) = true := by simpa using hC
    clear hC HCL HDR
    go_enter Tryz.func69, Tryz.ntmps69
    go_wp2_with fail
    refine wp_region_held (S := fun w9 => JP w9 b s (.slice (some ⟨g, o, none⟩) s.ms.length cap) gs) (by kernel_rfl) ?_
    change wpAnyH _ _ _ _ _ _ _ _ (World.drew _)
    refine wpAnyH_take (i := 0) (v := .pointer (some ⟨b, 0, none⟩)) rfl (by kernel_rfl) (by kernel_rfl) (by kernel_rfl) (fun _ _ _ h => h) (Or.inl ⟨by kernel_rfl, fun w9 h9 => ?_⟩) (HJU.out _ HBD.out) ?_
    · go_simp
    refine wpAnyH_take (i := 1) (v := .pointer (some ⟨b, 0, none⟩)) rfl (by kernel_rfl) (by kernel_rfl) (by kernel_rfl) (fun _ _ _ h => h) (Or.inl ⟨by kernel_rfl, fun w9 h9 => ?_⟩) (HJU.out _ HBD.out) ?_
    · go_simp
    refine wpAnyH_take (i := 2) (v := .pointer (some ⟨b, 0, none⟩)) rfl (by kernel_rfl) (by kernel_rfl) (by kernel_rfl) (fun _ _ _ h => h) (Or.inl ⟨by kernel_rfl, fun w9 h9 => ?_⟩) (HJU.out _ HBD.out) ?_
    · go_simp
    refine wpAnyH_take (i := 3) (v := .pointer (some ⟨b, 2, none⟩)) rfl (by kernel_rfl) (by kernel_rfl) (by kernel_rfl) (fun _ _ _ h => h) (Or.inl ⟨by kernel_rfl, fun w9 h9 => ?_⟩) (HJU.out _ HBD.out) ?_
    · go_simp
    refine wpAnyH_take (i := 4) (v := .pointer (some ⟨b, 2, none⟩)) rfl (by kernel_rfl) (by kernel_rfl) (by kernel_rfl) (fun _ _ _ h => h) (Or.inl ⟨by kernel_rfl, fun w9 h9 => ?_⟩) (HJU.out _ HBD.out) ?_
    · go_simp
    refine wpAnyH_take (i := 5) (v := .int .i64 s.j.k) rfl (by kernel_rfl) (by kernel_rfl) (by kernel_rfl) (fun _ _ _ h => h) (Or.inl ⟨by kernel_rfl, fun w9 h9 => ?_⟩) (HJU.out _ HBD.out) ?_
    · obtain ⟨y9, x0, x1, x2, x3, x4, x5, _, _⟩ := h9; go_simp
    refine wpAnyH_take (i := 6) (v := .pointer (some ⟨b, 0, none⟩)) rfl (by kernel_rfl) (by kernel_rfl) (by kernel_rfl) (fun _ _ _ h => h) (Or.inl ⟨by kernel_rfl, fun w9 h9 => ?_⟩) (HJU.out _ HBD.out) ?_
    · go_simp
    refine wpAnyH_take (i := 7) (v := .pointer (some ⟨b, 0, none⟩)) rfl (by kernel_rfl) (by kernel_rfl) (by kernel_rfl) (fun _ _ _ h => h) (Or.inl ⟨by kernel_rfl, fun w9 h9 => ?_⟩) (HJU.out _ HBD.out) ?_
    · go_simp
    refine wpAnyH_take (i := 8) (v := .pointer (some ⟨b, 2, none⟩)) rfl (by kernel_rfl) (by kernel_rfl) (by kernel_rfl) (fun _ _ _ h => h) (Or.inl ⟨by kernel_rfl, fun w9 h9 => ?_⟩) (HJU.out _ HBD.out) ?_
    · go_simp
    refine wpAnyH_take (i := 9) (v := .pointer (some ⟨b, 5, none⟩)) rfl (by kernel_rfl) (by kernel_rfl) (by kernel_rfl) (fun _ _ _ h => h) (Or.inl ⟨by kernel_rfl, fun w9 h9 => ?_⟩) (HJU.out _ HBD.out) ?_
    · go_simp
    refine wpAnyH_take (i := 10) (v := .string s.j.g) rfl (by kernel_rfl) (by kernel_rfl) (by kernel_rfl) (fun _ _ _ h => h) (Or.inl ⟨by kernel_rfl, fun w9 h9 => ?_⟩) (HJU.out _ HBD.out) ?_
    · obtain ⟨y9, x0, x1, x2, x3, x4, x5, _, _⟩ := h9; go_simp
    refine held_one 11 (by kernel_rfl) rfl (by kernel_rfl) fun K hK => ?_
    go_simp
    go_wp2_with (go_at_call 112; refine Calls.mono (HAS.out _ HBD.out) ?_; rintro e u1 ⟨rfl, hu⟩; have HU1 : Hid (Below w.heap.size w u1) := HBD.out.trans (hu.mono HBD.out.size); clear hu)
    refine hK _ _ (HJU.out _ HU1.out) ?_
    clear hK K
    refine wpAnyH_take (i := 12) (v := .bool true) rfl (by kernel_rfl) (by kernel_rfl) (by kernel_rfl) (fun _ _ _ h => h) (Or.inl ⟨by kernel_rfl, fun w9 h9 => ?_⟩) (HJU.out _ HU1.out) ?_
    · go_simp
    refine wpAnyH_done (by kernel_rfl) ?_ _
    go_simp
    go_wp2
    go_ret
    exact ⟨rfl, HU1.out⟩
  subst hC
  rw [decide_eq_true rfl, Bool.true_and] at hG
  by_cases h0 : 0 ≤ s.j.x
  case neg =>
    rw [decide_eq_false h0, Bool.false_and] at hG
    subst hG
    have hd0 : decide (0 ≤ s.j.x) = false := decide_eq_false h0
    clear HCL HDR
    go_enter Tryz.func69, Tryz.ntmps69
    go_wp2_with fail
    refine wp_region_held (S := fun w9 => JP w9 b s (.slice (some ⟨g, o, none⟩) s.ms.length cap) gs) (by kernel_rfl) ?_
    change wpAnyH _ _ _ _ _ _ _ _ (World.drew _)
    refine wpAnyH_take (i := 0) (v := .pointer (some ⟨b, 0, none⟩)) rfl (by kernel_rfl) (by kernel_rfl) (by kernel_rfl) (fun _ _ _ h => h) (Or.inl ⟨by kernel_rfl, fun w9 h9 => ?_⟩) (HJU.out _ HBD.out) ?_
    · go_simp
    refine wpAnyH_take (i := 1) (v := .pointer (some ⟨b, 0, none⟩)) rfl (by kernel_rfl) (by kernel_rfl) (by kernel_rfl) (fun _ _ _ h => h) (Or.inl ⟨by kernel_rfl, fun w9 h9 => ?_⟩) (HJU.out _ HBD.out) ?_
    · go_simp
    refine wpAnyH_take (i := 2) (v := .pointer (some ⟨b, 0, none⟩)) rfl (by kernel_rfl) (by kernel_rfl) (by kernel_rfl) (fun _ _ _ h => h) (Or.inl ⟨by kernel_rfl, fun w9 h9 => ?_⟩) (HJU.out _ HBD.out) ?_
    · go_simp
    refine wpAnyH_take (i := 3) (v := .pointer (some ⟨b, 2, none⟩)) rfl (by kernel_rfl) (by kernel_rfl) (by kernel_rfl) (fun _ _ _ h => h) (Or.inl ⟨by kernel_rfl, fun w9 h9 => ?_⟩) (HJU.out _ HBD.out) ?_
    · go_simp
    refine wpAnyH_take (i := 4) (v := .pointer (some ⟨b, 2, none⟩)) rfl (by kernel_rfl) (by kernel_rfl) (by kernel_rfl) (fun _ _ _ h => h) (Or.inl ⟨by kernel_rfl, fun w9 h9 => ?_⟩) (HJU.out _ HBD.out) ?_
    · go_simp
    refine wpAnyH_take (i := 5) (v := .int .i64 s.j.k) rfl (by kernel_rfl) (by kernel_rfl) (by kernel_rfl) (fun _ _ _ h => h) (Or.inl ⟨by kernel_rfl, fun w9 h9 => ?_⟩) (HJU.out _ HBD.out) ?_
    · obtain ⟨y9, x0, x1, x2, x3, x4, x5, _, _⟩ := h9; go_simp
    refine wpAnyH_take (i := 6) (v := .pointer (some ⟨b, 0, none⟩)) rfl (by kernel_rfl) (by kernel_rfl) (by kernel_rfl) (fun _ _ _ h => h) (Or.inl ⟨by kernel_rfl, fun w9 h9 => ?_⟩) (HJU.out _ HBD.out) ?_
    · go_simp
    refine wpAnyH_take (i := 7) (v := .pointer (some ⟨b, 0, none⟩)) rfl (by kernel_rfl) (by kernel_rfl) (by kernel_rfl) (fun _ _ _ h => h) (Or.inl ⟨by kernel_rfl, fun w9 h9 => ?_⟩) (HJU.out _ HBD.out) ?_
    · go_simp
    refine wpAnyH_take (i := 8) (v := .pointer (some ⟨b, 2, none⟩)) rfl (by kernel_rfl) (by kernel_rfl) (by kernel_rfl) (fun _ _ _ h => h) (Or.inl ⟨by kernel_rfl, fun w9 h9 => ?_⟩) (HJU.out _ HBD.out) ?_
    · go_simp
    refine wpAnyH_take (i := 9) (v := .pointer (some ⟨b, 5, none⟩)) rfl (by kernel_rfl) (by kernel_rfl) (by kernel_rfl) (fun _ _ _ h => h) (Or.inl ⟨by kernel_rfl, fun w9 h9 => ?_⟩) (HJU.out _ HBD.out) ?_
    · go_simp
    refine wpAnyH_take (i := 10) (v := .string s.j.g) rfl (by kernel_rfl) (by kernel_rfl) (by kernel_rfl) (fun _ _ _ h => h) (Or.inl ⟨by kernel_rfl, fun w9 h9 => ?_⟩) (HJU.out _ HBD.out) ?_
    · obtain ⟨y9, x0, x1, x2, x3, x4, x5, _, _⟩ := h9; go_simp
    refine held_one 11 (by kernel_rfl) rfl (by kernel_rfl) fun K hK => ?_
    go_simp
    go_wp2_with (go_at_call 112; refine Calls.mono (HAS.out _ HBD.out) ?_; rintro e u1 ⟨rfl, hu⟩; have HU1 : Hid (Below w.heap.size w u1) := HBD.out.trans (hu.mono HBD.out.size); clear hu)
    refine hK _ _ (HJU.out _ HU1.out) ?_
    clear hK K
    refine wpAnyH_take (i := 12) (v := .bool false) rfl (by kernel_rfl) (by kernel_rfl) (by kernel_rfl) (fun _ _ _ h => h) (Or.inl ⟨by kernel_rfl, fun w9 h9 => ?_⟩) (HJU.out _ HU1.out) ?_
    · go_simp
    refine wpAnyH_done (by kernel_rfl) ?_ _
    go_simp
    go_wp2_with fail
    have HBD2 : Hid (Below w.heap.size w u1.drew) := HU1.out.trans ((Below.refl _ _).drew.mono HU1.out.size)
    refine wp_region_held (S := fun w9 => JP w9 b s (.slice (some ⟨g, o, none⟩) s.ms.length cap) gs) (by kernel_rfl) ?_
    change wpAnyH _ _ _ _ _ _ _ _ (World.drew _)
    refine wpAnyH_take (i := 0) (v := .pointer (some ⟨b, 0, none⟩)) rfl (by kernel_rfl) (by kernel_rfl) (by kernel_rfl) (fun _ _ _ h => h) (Or.inl ⟨by kernel_rfl, fun w9 h9 => ?_⟩) (HJU.out _ HBD2.out) ?_
    · go_simp
    refine wpAnyH_take (i := 1) (v := .pointer (some ⟨b, 0, none⟩)) rfl (by kernel_rfl) (by kernel_rfl) (by kernel_rfl) (fun _ _ _ h => h) (Or.inl ⟨by kernel_rfl, fun w9 h9 => ?_⟩) (HJU.out _ HBD2.out) ?_
    · go_simp
    refine wpAnyH_take (i := 2) (v := .pointer (some ⟨b, 2, none⟩)) rfl (by kernel_rfl) (by kernel_rfl) (by kernel_rfl) (fun _ _ _ h => h) (Or.inl ⟨by kernel_rfl, fun w9 h9 => ?_⟩) (HJU.out _ HBD2.out) ?_
    · go_simp
    refine wpAnyH_take (i := 3) (v := .pointer (some ⟨b, 3, none⟩)) rfl (by kernel_rfl) (by kernel_rfl) (by kernel_rfl) (fun _ _ _ h => h) (Or.inl ⟨by kernel_rfl, fun w9 h9 => ?_⟩) (HJU.out _ HBD2.out) ?_
    · go_simp
    refine wpAnyH_take (i := 4) (v := .int .i64 s.j.x) rfl (by kernel_rfl) (by kernel_rfl) (by kernel_rfl) (fun _ _ _ h => h) (Or.inl ⟨by kernel_rfl, fun w9 h9 => ?_⟩) (HJU.out _ HBD2.out) ?_
    · obtain ⟨y9, x0, x1, x2, x3, x4, x5, _, _⟩ := h9; go_simp
    refine wpAnyH_take (i := 5) (v := .bool false) rfl (by kernel_rfl) (by kernel_rfl) (by kernel_rfl) (fun _ _ _ h => h) (Or.inl ⟨by kernel_rfl, fun w9 h9 => ?_⟩) (HJU.out _ HBD2.out) ?_
    · go_simp
    refine wpAnyH_take (i := 6) (v := .bool false) rfl (by kernel_rfl) (by kernel_rfl) (by kernel_rfl) (fun _ _ _ h => h) (Or.inl ⟨by kernel_rfl, fun w9 h9 => ?_⟩) (HJU.out _ HBD2.out) ?_
    · go_simp
    refine wpAnyH_take (i := 7) (v := undef) rfl (by kernel_rfl) (by kernel_rfl) (by kernel_rfl) (fun _ _ _ h => h) (Or.inr ⟨by kernel_rfl, rfl⟩) (HJU.out _ HBD2.out) ?_
    refine wpAnyH_take (i := 8) (v := undef) rfl (by kernel_rfl) (by kernel_rfl) (by kernel_rfl) (fun _ _ _ h => h) (Or.inr ⟨by kernel_rfl, rfl⟩) (HJU.out _ HBD2.out) ?_
    refine wpAnyH_take (i := 9) (v := undef) rfl (by kernel_rfl) (by kernel_rfl) (by kernel_rfl) (fun _ _ _ h => h) (Or.inr ⟨by kernel_rfl, rfl⟩) (HJU.out _ HBD2.out) ?_
    refine wpAnyH_take (i := 10) (v := undef) rfl (by kernel_rfl) (by kernel_rfl) (by kernel_rfl) (fun _ _ _ h => h) (Or.inr ⟨by kernel_rfl, rfl⟩) (HJU.out _ HBD2.out) ?_
    refine wpAnyH_take (i := 11) (v := undef) rfl (by kernel_rfl) (by kernel_rfl) (by kernel_rfl) (fun _ _ _ h => h) (Or.inr ⟨by kernel_rfl, rfl⟩) (HJU.out _ HBD2.out) ?_
    refine wpAnyH_take (i := 12) (v := undef) rfl (by kernel_rfl) (by kernel_rfl) (by kernel_rfl) (fun _ _ _ h => h) (Or.inr ⟨by kernel_rfl, rfl⟩) (HJU.out _ HBD2.out) ?_
    refine wpAnyH_take (i := 13) (v := undef) rfl (by kernel_rfl) (by kernel_rfl) (by kernel_rfl) (fun _ _ _ h => h) (Or.inr ⟨by kernel_rfl, rfl⟩) (HJU.out _ HBD2.out) ?_
    refine wpAnyH_take (i := 14) (v := undef) rfl (by kernel_rfl) (by kernel_rfl) (by kernel_rfl) (fun _ _ _ h => h) (Or.inr ⟨by kernel_rfl, rfl⟩) (HJU.out _ HBD2.out) ?_
    refine wpAnyH_take (i := 15) (v := .bool false) rfl (by kernel_rfl) (by kernel_rfl) (by kernel_rfl) (fun _ _ _ h => h) (Or.inl ⟨by kernel_rfl, fun w9 h9 => ?_⟩) (HJU.out _ HBD2.out) ?_
    · go_simp
    refine wpAnyH_take (i := 16) (v := .bool false) rfl (by kernel_rfl) (by kernel_rfl) (by kernel_rfl) (fun _ _ _ h => h) (Or.inl ⟨by kernel_rfl, fun w9 h9 => ?_⟩) (HJU.out _ HBD2.out) ?_
    · go_simp
    refine wpAnyH_take (i := 17) (v := undef) rfl (by kernel_rfl) (by kernel_rfl) (by kernel_rfl) (fun _ _ _ h => h) (Or.inr ⟨by kernel_rfl, rfl⟩) (HJU.out _ HBD2.out) ?_
    refine wpAnyH_take (i := 18) (v := undef) rfl (by kernel_rfl) (by kernel_rfl) (by kernel_rfl) (fun _ _ _ h => h) (Or.inr ⟨by kernel_rfl, rfl⟩) (HJU.out _ HBD2.out) ?_
    refine wpAnyH_take (i := 19) (v := .bool false) rfl (by kernel_rfl) (by kernel_rfl) (by kernel_rfl) (fun _ _ _ h => h) (Or.inl ⟨by kernel_rfl, fun w9 h9 => ?_⟩) (HJU.out _ HBD2.out) ?_
    · go_simp
    refine wpAnyH_take (i := 20) (v := .bool false) rfl (by kernel_rfl) (by kernel_rfl) (by kernel_rfl) (fun _ _ _ h => h) (Or.inl ⟨by kernel_rfl, fun w9 h9 => ?_⟩) (HJU.out _ HBD2.out) ?_
    · go_simp
    refine wpAnyH_done (by kernel_rfl) ?_ _
    go_simp
    go_wp2
    go_ret
    exact ⟨rfl, HBD2.out⟩
  rw [decide_eq_true h0, Bool.true_and] at hG
  have hd0 : decide (0 ≤ s.j.x) = true := decide_eq_true h0
  by_cases h1 : s.j.x ≤ (T : Int)
  case neg =>
    rw [decide_eq_false h1, Bool.false_and] at hG
    subst hG
    have hd1 : decide (s.j.x ≤ (T : Int)) = false := decide_eq_false h1
    clear HDR
    go_enter Tryz.func69, Tryz.ntmps69
    go_wp2_with fail
    refine wp_region_held (S := fun w9 => JP w9 b s (.slice (some ⟨g, o, none⟩) s.ms.length cap) gs) (by kernel_rfl) ?_
    change wpAnyH _ _ _ _ _ _ _ _ (World.drew _)
    refine wpAnyH_take (i := 0) (v := .pointer (some ⟨b, 0, none⟩)) rfl (by kernel_rfl) (by kernel_rfl) (by kernel_rfl) (fun _ _ _ h => h) (Or.inl ⟨by kernel_rfl, fun w9 h9 => ?_⟩) (HJU.out _ HBD.out) ?_
    · go_simp
    refine wpAnyH_take (i := 1) (v := .pointer (some ⟨b, 0, none⟩)) rfl (by kernel_rfl) (by kernel_rfl) (by kernel_rfl) (fun _ _ _ h => h) (Or.inl ⟨by kernel_rfl, fun w9 h9 => ?_⟩) (HJU.out _ HBD.out) ?_
    · go_simp
    refine wpAnyH_take (i := 2) (v := .pointer (some ⟨b, 0, none⟩)) rfl (by kernel_rfl) (by kernel_rfl) (by kernel_rfl) (fun _ _ _ h => h) (Or.inl ⟨by kernel_rfl, fun w9 h9 => ?_⟩) (HJU.out _ HBD.out) ?_
    · go_simp
    refine wpAnyH_take (i := 3) (v := .pointer (some ⟨b, 2, none⟩)) rfl (by kernel_rfl) (by kernel_rfl) (by kernel_rfl) (fun _ _ _ h => h) (Or.inl ⟨by kernel_rfl, fun w9 h9 => ?_⟩) (HJU.out _ HBD.out) ?_
    · go_simp
    refine wpAnyH_take (i := 4) (v := .pointer (some ⟨b, 2, none⟩)) rfl (by kernel_rfl) (by kernel_rfl) (by kernel_rfl) (fun _ _ _ h => h) (Or.inl ⟨by kernel_rfl, fun w9 h9 => ?_⟩) (HJU.out _ HBD.out) ?_
    · go_simp
    refine wpAnyH_take (i := 5) (v := .int .i64 s.j.k) rfl (by kernel_rfl) (by kernel_rfl) (by kernel_rfl) (fun _ _ _ h => h) (Or.inl ⟨by kernel_rfl, fun w9 h9 => ?_⟩) (HJU.out _ HBD.out) ?_
    · obtain ⟨y9, x0, x1, x2, x3, x4, x5, _, _⟩ := h9; go_simp
    refine wpAnyH_take (i := 6) (v := .pointer (some ⟨b, 0, none⟩)) rfl (by kernel_rfl) (by kernel_rfl) (by kernel_rfl) (fun _ _ _ h => h) (Or.inl ⟨by kernel_rfl, fun w9 h9 => ?_⟩) (HJU.out _ HBD.out) ?_
    · go_simp
    refine wpAnyH_take (i := 7) (v := .pointer (some ⟨b, 0, none⟩)) rfl (by kernel_rfl) (by kernel_rfl) (by kernel_rfl) (fun _ _ _ h => h) (Or.inl ⟨by kernel_rfl, fun w9 h9 => ?_⟩) (HJU.out _ HBD.out) ?_
    · go_simp
    refine wpAnyH_take (i := 8) (v := .pointer (some ⟨b, 2, none⟩)) rfl (by kernel_rfl) (by kernel_rfl) (by kernel_rfl) (fun _ _ _ h => h) (Or.inl ⟨by kernel_rfl, fun w9 h9 => ?_⟩) (HJU.out _ HBD.out) ?_
    · go_simp
    refine wpAnyH_take (i := 9) (v := .pointer (some ⟨b, 5, none⟩)) rfl (by kernel_rfl) (by kernel_rfl) (by kernel_rfl) (fun _ _ _ h => h) (Or.inl ⟨by kernel_rfl, fun w9 h9 => ?_⟩) (HJU.out _ HBD.out) ?_
    · go_simp
    refine wpAnyH_take (i := 10) (v := .string s.j.g) rfl (by kernel_rfl) (by kernel_rfl) (by kernel_rfl) (fun _ _ _ h => h) (Or.inl ⟨by kernel_rfl, fun w9 h9 => ?_⟩) (HJU.out _ HBD.out) ?_
    · obtain ⟨y9, x0, x1, x2, x3, x4, x5, _, _⟩ := h9; go_simp
    refine held_one 11 (by kernel_rfl) rfl (by kernel_rfl) fun K hK => ?_
    go_simp
    go_wp2_with (go_at_call 112; refine Calls.mono (HAS.out _ HBD.out) ?_; rintro e u1 ⟨rfl, hu⟩; have HU1 : Hid (Below w.heap.size w u1) := HBD.out.trans (hu.mono HBD.out.size); clear hu)
    refine hK _ _ (HJU.out _ HU1.out) ?_
    clear hK K
    refine wpAnyH_take (i := 12) (v := .bool false) rfl (by kernel_rfl) (by kernel_rfl) (by kernel_rfl) (fun _ _ _ h => h) (Or.inl ⟨by kernel_rfl, fun w9 h9 => ?_⟩) (HJU.out _ HU1.out) ?_
    · go_simp
    refine wpAnyH_done (by kernel_rfl) ?_ _
    go_simp
    go_wp2_with fail
    have HBD2 : Hid (Below w.heap.size w u1.drew) := HU1.out.trans ((Below.refl _ _).drew.mono HU1.out.size)
    refine wp_region_held (S := fun w9 => JP w9 b s (.slice (some ⟨g, o, none⟩) s.ms.length cap) gs) (by kernel_rfl) ?_
    change wpAnyH _ _ _ _ _ _ _ _ (World.drew _)
    refine wpAnyH_take (i := 0) (v := .pointer (some ⟨b, 0, none⟩)) rfl (by kernel_rfl) (by kernel_rfl) (by kernel_rfl) (fun _ _ _ h => h) (Or.inl ⟨by kernel_rfl, fun w9 h9 => ?_⟩) (HJU.out _ HBD2.out) ?_
    · go_simp
    refine wpAnyH_take (i := 1) (v := .pointer (some ⟨b, 0, none⟩)) rfl (by kernel_rfl) (by kernel_rfl) (by kernel_rfl) (fun _ _ _ h => h) (Or.inl ⟨by kernel_rfl, fun w9 h9 => ?_⟩) (HJU.out _ HBD2.out) ?_
    · go_simp
    refine wpAnyH_take (i := 2) (v := .pointer (some ⟨b, 2, none⟩)) rfl (by kernel_rfl) (by kernel_rfl) (by kernel_rfl) (fun _ _ _ h => h) (Or.inl ⟨by kernel_rfl, fun w9 h9 => ?_⟩) (HJU.out _ HBD2.out) ?_
    · go_simp
    refine wpAnyH_take (i := 3) (v := .pointer (some ⟨b, 3, none⟩)) rfl (by kernel_rfl) (by kernel_rfl) (by kernel_rfl) (fun _ _ _ h => h) (Or.inl ⟨by kernel_rfl, fun w9 h9 => ?_⟩) (HJU.out _ HBD2.out) ?_
    · go_simp
    refine wpAnyH_take (i := 4) (v := .int .i64 s.j.x) rfl (by kernel_rfl) (by kernel_rfl) (by kernel_rfl) (fun _ _ _ h => h) (Or.inl ⟨by kernel_rfl, fun w9 h9 => ?_⟩) (HJU.out _ HBD2.out) ?_
    · obtain ⟨y9, x0, x1, x2, x3, x4, x5, _, _⟩ := h9; go_simp
    refine wpAnyH_take (i := 5) (v := .bool true) rfl (by kernel_rfl) (by kernel_rfl) (by kernel_rfl) (fun _ _ _ h => h) (Or.inl ⟨by kernel_rfl, fun w9 h9 => ?_⟩) (HJU.out _ HBD2.out) ?_
    · go_simp
    refine wpAnyH_take (i := 6) (v := .bool true) rfl (by kernel_rfl) (by kernel_rfl) (by kernel_rfl) (fun _ _ _ h => h) (Or.inl ⟨by kernel_rfl, fun w9 h9 => ?_⟩) (HJU.out _ HBD2.out) ?_
    · go_simp
    refine wpAnyH_take (i := 7) (v := .pointer (some ⟨b, 0, none⟩)) rfl (by kernel_rfl) (by kernel_rfl) (by kernel_rfl) (fun _ _ _ h => h) (Or.inl ⟨by kernel_rfl, fun w9 h9 => ?_⟩) (HJU.out _ HBD2.out) ?_
    · go_simp
    refine wpAnyH_take (i := 8) (v := .pointer (some ⟨b, 0, none⟩)) rfl (by kernel_rfl) (by kernel_rfl) (by kernel_rfl) (fun _ _ _ h => h) (Or.inl ⟨by kernel_rfl, fun w9 h9 => ?_⟩) (HJU.out _ HBD2.out) ?_
    · go_simp
    refine wpAnyH_take (i := 9) (v := .pointer (some ⟨b, 2, none⟩)) rfl (by kernel_rfl) (by kernel_rfl) (by kernel_rfl) (fun _ _ _ h => h) (Or.inl ⟨by kernel_rfl, fun w9 h9 => ?_⟩) (HJU.out _ HBD2.out) ?_
    · go_simp
    refine wpAnyH_take (i := 10) (v := .pointer (some ⟨b, 3, none⟩)) rfl (by kernel_rfl) (by kernel_rfl) (by kernel_rfl) (fun _ _ _ h => h) (Or.inl ⟨by kernel_rfl, fun w9 h9 => ?_⟩) (HJU.out _ HBD2.out) ?_
    · go_simp
    refine wpAnyH_take (i := 11) (v := .int .i64 s.j.x) rfl (by kernel_rfl) (by kernel_rfl) (by kernel_rfl) (fun _ _ _ h => h) (Or.inl ⟨by kernel_rfl, fun w9 h9 => ?_⟩) (HJU.out _ HBD2.out) ?_
    · obtain ⟨y9, x0, x1, x2, x3, x4, x5, _, _⟩ := h9; go_simp
    refine wpAnyH_take (i := 12) (v := .pointer (some ⟨b, 0, none⟩)) rfl (by kernel_rfl) (by kernel_rfl) (by kernel_rfl) (fun _ _ _ h => h) (Or.inl ⟨by kernel_rfl, fun w9 h9 => ?_⟩) (HJU.out _ HBD2.out) ?_
    · go_simp
    refine held_one 13 (by kernel_rfl) rfl (by kernel_rfl) fun K hK => ?_
    go_simp
    go_wp2_with (go_at_call 85; refine Calls.mono (HCL.out _ HBD2.out) ?_; rintro e u2 ⟨rfl, hu⟩; have HU2 : Hid (Below w.heap.size w u2) := HBD2.out.trans (hu.mono HBD2.out.size); clear hu)
    refine hK _ _ (HJU.out _ HU2.out) ?_
    clear hK K
    refine wpAnyH_take (i := 14) (v := .bool false) rfl (by kernel_rfl) (by kernel_rfl) (by kernel_rfl) (fun _ _ _ h => h) (Or.inl ⟨by kernel_rfl, fun w9 h9 => ?_⟩) (HJU.out _ HU2.out) ?_
    · go_simp
    refine wpAnyH_take (i := 15) (v := .bool false) rfl (by kernel_rfl) (by kernel_rfl) (by kernel_rfl) (fun _ _ _ h => h) (Or.inl ⟨by kernel_rfl, fun w9 h9 => ?_⟩) (HJU.out _ HU2.out) ?_
    · go_simp
    refine wpAnyH_take (i := 16) (v := .bool false) rfl (by kernel_rfl) (by kernel_rfl) (by kernel_rfl) (fun _ _ _ h => h) (Or.inl ⟨by kernel_rfl, fun w9 h9 => ?_⟩) (HJU.out _ HU2.out) ?_
    · go_simp
    refine wpAnyH_take (i := 17) (v := undef) rfl (by kernel_rfl) (by kernel_rfl) (by kernel_rfl) (fun _ _ _ h => h) (Or.inr ⟨by kernel_rfl, rfl⟩) (HJU.out _ HU2.out) ?_
    refine wpAnyH_take (i := 18) (v := undef) rfl (by kernel_rfl) (by kernel_rfl) (by kernel_rfl) (fun _ _ _ h => h) (Or.inr ⟨by kernel_rfl, rfl⟩) (HJU.out _ HU2.out) ?_
    refine wpAnyH_take (i := 19) (v := .bool false) rfl (by kernel_rfl) (by kernel_rfl) (by kernel_rfl) (fun _ _ _ h => h) (Or.inl ⟨by kernel_rfl, fun w9 h9 => ?_⟩) (HJU.out _ HU2.out) ?_
    · go_simp
    refine wpAnyH_take (i := 20) (v := .bool false) rfl (by kernel_rfl) (by kernel_rfl) (by kernel_rfl) (fun _ _ _ h => h) (Or.inl ⟨by kernel_rfl, fun w9 h9 => ?_⟩) (HJU.out _ HU2.out) ?_
    · go_simp
    refine wpAnyH_done (by kernel_rfl) ?_ _
    go_simp
    go_wp2
    go_ret
    exact ⟨rfl, HU2.out⟩
  rw [decide_eq_true h1, Bool.true_and] at hG
  have hd1 : decide (s.j.x ≤ (T : Int)) = true := decide_eq_true h1
  subst hG
  go_enter Tryz.func69, Tryz.ntmps69
  go_wp2_with fail
  refine wp_region_held (S := fun w9 => JP w9 b s (.slice (some ⟨g, o, none⟩) s.ms.length cap) gs) (by kernel_rfl) ?_
  change wpAnyH _ _ _ _ _ _ _ _ (World.drew _)
  refine wpAnyH_take (i := 0) (v := .pointer (some ⟨b, 0, none⟩)) rfl (by kernel_rfl) (by kernel_rfl) (by kernel_rfl) (fun _ _ _ h => h) (Or.inl ⟨by kernel_rfl, fun w9 h9 => ?_⟩) (HJU.out _ HBD.out) ?_
  · go_simp
  refine wpAnyH_take (i := 1) (v := .pointer (some ⟨b, 0, none⟩)) rfl (by kernel_rfl) (by kernel_rfl) (by kernel_rfl) (fun _ _ _ h => h) (Or.inl ⟨by kernel_rfl, fun w9 h9 => ?_⟩) (HJU.out _ HBD.out) ?_
  · go_simp
  refine wpAnyH_take (i := 2) (v := .pointer (some ⟨b, 0, none⟩)) rfl (by kernel_rfl) (by kernel_rfl) (by kernel_rfl) (fun _ _ _ h => h) (Or.inl ⟨by kernel_rfl, fun w9 h9 => ?_⟩) (HJU.out _ HBD.out) ?_
  · go_simp
  refine wpAnyH_take (i := 3) (v := .pointer (some ⟨b, 2, none⟩)) rfl (by kernel_rfl) (by kernel_rfl) (by kernel_rfl) (fun _ _ _ h => h) (Or.inl ⟨by kernel_rfl, fun w9 h9 => ?_⟩) (HJU.out _ HBD.out) ?_
  · go_simp
  refine wpAnyH_take (i := 4) (v := .pointer (some ⟨b, 2, none⟩)) rfl (by kernel_rfl) (by kernel_rfl) (by kernel_rfl) (fun _ _ _ h => h) (Or.inl ⟨by kernel_rfl, fun w9 h9 => ?_⟩) (HJU.out _ HBD.out) ?_
  · go_simp
  refine wpAnyH_take (i := 5) (v := .int .i64 s.j.k) rfl (by kernel_rfl) (by kernel_rfl) (by kernel_rfl) (fun _ _ _ h => h) (Or.inl ⟨by kernel_rfl, fun w9 h9 => ?_⟩) (HJU.out _ HBD.out) ?_
  · obtain ⟨y9, x0, x1, x2, x3, x4, x5, _, _⟩ := h9; go_simp
  refine wpAnyH_take (i := 6) (v := .pointer (some ⟨b, 0, none⟩)) rfl (by kernel_rfl) (by kernel_rfl) (by kernel_rfl) (fun _ _ _ h => h) (Or.inl ⟨by kernel_rfl, fun w9 h9 => ?_⟩) (HJU.out _ HBD.out) ?_
  · go_simp
  refine wpAnyH_take (i := 7) (v := .pointer (some ⟨b, 0, none⟩)) rfl (by kernel_rfl) (by kernel_rfl) (by kernel_rfl) (fun _ _ _ h => h) (Or.inl ⟨by kernel_rfl, fun w9 h9 => ?_⟩) (HJU.out _ HBD.out) ?_
  · go_simp
  refine wpAnyH_take (i := 8) (v := .pointer (some ⟨b, 2, none⟩)) rfl (by kernel_rfl) (by kernel_rfl) (by kernel_rfl) (fun _ _ _ h => h) (Or.inl ⟨by kernel_rfl, fun w9 h9 => ?_⟩) (HJU.out _ HBD.out) ?_
  · go_simp
  refine wpAnyH_take (i := 9) (v := .pointer (some ⟨b, 5, none⟩)) rfl (by kernel_rfl) (by kernel_rfl) (by kernel_rfl) (fun _ _ _ h => h) (Or.inl ⟨by kernel_rfl, fun w9 h9 => ?_⟩) (HJU.out _ HBD.out) ?_
  · go_simp
  refine wpAnyH_take (i := 10) (v := .string s.j.g) rfl (by kernel_rfl) (by kernel_rfl) (by kernel_rfl) (fun _ _ _ h => h) (Or.inl ⟨by kernel_rfl, fun w9 h9 => ?_⟩) (HJU.out _ HBD.out) ?_
  · obtain ⟨y9, x0, x1, x2, x3, x4, x5, _, _⟩ := h9; go_simp
  refine held_one 11 (by kernel_rfl) rfl (by kernel_rfl) fun K hK => ?_
  go_simp
  go_wp2_with (go_at_call 112; refine Calls.mono (HAS.out _ HBD.out) ?_; rintro e u1 ⟨rfl, hu⟩; have HU1 : Hid (Below w.heap.size w u1) := HBD.out.trans (hu.mono HBD.out.size); clear hu)
  refine hK _ _ (HJU.out _ HU1.out) ?_
  clear hK K
  refine wpAnyH_take (i := 12) (v := .bool false) rfl (by kernel_rfl) (by kernel_rfl) (by kernel_rfl) (fun _ _ _ h => h) (Or.inl ⟨by kernel_rfl, fun w9 h9 => ?_⟩) (HJU.out _ HU1.out) ?_
  · go_simp
  refine wpAnyH_done (by kernel_rfl) ?_ _
  go_simp
  go_wp2_with fail
  have HBD2 : Hid (Below w.heap.size w u1.drew) := HU1.out.trans ((Below.refl _ _).drew.mono HU1.out.size)
  refine wp_region_held (S := fun w9 => JP w9 b s (.slice (some ⟨g, o, none⟩) s.ms.length cap) gs) (by kernel_rfl) ?_
  change wpAnyH _ _ _ _ _ _ _ _ (World.drew _)
  refine wpAnyH_take (i := 0) (v := .pointer (some ⟨b, 0, none⟩)) rfl (by kernel_rfl) (by kernel_rfl) (by kernel_rfl) (fun _ _ _ h => h) (Or.inl ⟨by kernel_rfl, fun w9 h9 => ?_⟩) (HJU.out _ HBD2.out) ?_
  · go_simp
  refine wpAnyH_take (i := 1) (v := .pointer (some ⟨b, 0, none⟩)) rfl (by kernel_rfl) (by kernel_rfl) (by kernel_rfl) (fun _ _ _ h => h) (Or.inl ⟨by kernel_rfl, fun w9 h9 => ?_⟩) (HJU.out _ HBD2.out) ?_
  · go_simp
  refine wpAnyH_take (i := 2) (v := .pointer (some ⟨b, 2, none⟩)) rfl (by kernel_rfl) (by kernel_rfl) (by kernel_rfl) (fun _ _ _ h => h) (Or.inl ⟨by kernel_rfl, fun w9 h9 => ?_⟩) (HJU.out _ HBD2.out) ?_
  · go_simp
  refine wpAnyH_take (i := 3) (v := .pointer (some ⟨b, 3, none⟩)) rfl (by kernel_rfl) (by kernel_rfl) (by kernel_rfl) (fun _ _ _ h => h) (Or.inl ⟨by kernel_rfl, fun w9 h9 => ?_⟩) (HJU.out _ HBD2.out) ?_
  · go_simp
  refine wpAnyH_take (i := 4) (v := .int .i64 s.j.x) rfl (by kernel_rfl) (by kernel_rfl) (by kernel_rfl) (fun _ _ _ h => h) (Or.inl ⟨by kernel_rfl, fun w9 h9 => ?_⟩) (HJU.out _ HBD2.out) ?_
  · obtain ⟨y9, x0, x1, x2, x3, x4, x5, _, _⟩ := h9; go_simp
  refine wpAnyH_take (i := 5) (v := .bool true) rfl (by kernel_rfl) (by kernel_rfl) (by kernel_rfl) (fun _ _ _ h => h) (Or.inl ⟨by kernel_rfl, fun w9 h9 => ?_⟩) (HJU.out _ HBD2.out) ?_
  · go_simp
  refine wpAnyH_take (i := 6) (v := .bool true) rfl (by kernel_rfl) (by kernel_rfl) (by kernel_rfl) (fun _ _ _ h => h) (Or.inl ⟨by kernel_rfl, fun w9 h9 => ?_⟩) (HJU.out _ HBD2.out) ?_
  · go_simp
  refine wpAnyH_take (i := 7) (v := .pointer (some ⟨b, 0, none⟩)) rfl (by kernel_rfl) (by kernel_rfl) (by kernel_rfl) (fun _ _ _ h => h) (Or.inl ⟨by kernel_rfl, fun w9 h9 => ?_⟩) (HJU.out _ HBD2.out) ?_
  · go_simp
  refine wpAnyH_take (i := 8) (v := .pointer (some ⟨b, 0, none⟩)) rfl (by kernel_rfl) (by kernel_rfl) (by kernel_rfl) (fun _ _ _ h => h) (Or.inl ⟨by kernel_rfl, fun w9 h9 => ?_⟩) (HJU.out _ HBD2.out) ?_
  · go_simp
  refine wpAnyH_take (i := 9) (v := .pointer (some ⟨b, 2, none⟩)) rfl (by kernel_rfl) (by kernel_rfl) (by kernel_rfl) (fun _ _ _ h => h) (Or.inl ⟨by kernel_rfl, fun w9 h9 => ?_⟩) (HJU.out _ HBD2.out) ?_
  · go_simp
  refine wpAnyH_take (i := 10) (v := .pointer (some ⟨b, 3, none⟩)) rfl (by kernel_rfl) (by kernel_rfl) (by kernel_rfl) (fun _ _ _ h => h) (Or.inl ⟨by kernel_rfl, fun w9 h9 => ?_⟩) (HJU.out _ HBD2.out) ?_
  · go_simp
  refine wpAnyH_take (i := 11) (v := .int .i64 s.j.x) rfl (by kernel_rfl) (by kernel_rfl) (by kernel_rfl) (fun _ _ _ h => h) (Or.inl ⟨by kernel_rfl, fun w9 h9 => ?_⟩) (HJU.out _ HBD2.out) ?_
  · obtain ⟨y9, x0, x1, x2, x3, x4, x5, _, _⟩ := h9; go_simp
  refine wpAnyH_take (i := 12) (v := .pointer (some ⟨b, 0, none⟩)) rfl (by kernel_rfl) (by kernel_rfl) (by kernel_rfl) (fun _ _ _ h => h) (Or.inl ⟨by kernel_rfl, fun w9 h9 => ?_⟩) (HJU.out _ HBD2.out) ?_
  · go_simp
  refine held_one 13 (by kernel_rfl) rfl (by kernel_rfl) fun K hK => ?_
  go_simp
  go_wp2_with (go_at_call 85; refine Calls.mono (HCL.out _ HBD2.out) ?_; rintro e u2 ⟨rfl, hu⟩; have HU2 : Hid (Below w.heap.size w u2) := HBD2.out.trans (hu.mono HBD2.out.size); clear hu)
  refine hK _ _ (HJU.out _ HU2.out) ?_
  clear hK K
  refine wpAnyH_take (i := 14) (v := .bool true) rfl (by kernel_rfl) (by kernel_rfl) (by kernel_rfl) (fun _ _ _ h => h) (Or.inl ⟨by kernel_rfl, fun w9 h9 => ?_⟩) (HJU.out _ HU2.out) ?_
  · go_simp
  refine wpAnyH_take (i := 15) (v := .bool true) rfl (by kernel_rfl) (by kernel_rfl) (by kernel_rfl) (fun _ _ _ h => h) (Or.inl ⟨by kernel_rfl, fun w9 h9 => ?_⟩) (HJU.out _ HU2.out) ?_
  · go_simp
  refine wpAnyH_take (i := 16) (v := .bool true) rfl (by kernel_rfl) (by kernel_rfl) (by kernel_rfl) (fun _ _ _ h => h) (Or.inl ⟨by kernel_rfl, fun w9 h9 => ?_⟩) (HJU.out _ HU2.out) ?_
  · go_simp
  refine wpAnyH_take (i := 17) (v := .pointer (some ⟨b, 0, none⟩)) rfl (by kernel_rfl) (by kernel_rfl) (by kernel_rfl) (fun _ _ _ h => h) (Or.inl ⟨by kernel_rfl, fun w9 h9 => ?_⟩) (HJU.out _ HU2.out) ?_
  · go_simp
  refine held_one 18 (by kernel_rfl) rfl (by kernel_rfl) fun K hK => ?_
  go_simp
  go_wp2_with (go_at_call 113; refine Calls.mono (HDR.out _ HU2.out) ?_; rintro e u3 ⟨rfl, hu⟩; rw [hu]; clear hu)
  refine hK _ _ (HJU.out _ HU2.out) ?_
  clear hK K
  refine wpAnyH_take (i := 19) (v := .bool Dr) rfl (by kernel_rfl) (by kernel_rfl) (by kernel_rfl) (fun _ _ _ h => h) (Or.inl ⟨by kernel_rfl, fun w9 h9 => ?_⟩) (HJU.out _ HU2.out) ?_
  · go_simp
  refine wpAnyH_take (i := 20) (v := .bool Dr) rfl (by kernel_rfl) (by kernel_rfl) (by kernel_rfl) (fun _ _ _ h => h) (Or.inl ⟨by kernel_rfl, fun w9 h9 => ?_⟩) (HJU.out _ HU2.out) ?_
  · go_simp
  refine wpAnyH_done (by kernel_rfl) ?_ _
  go_simp
  go_wp2
  go_ret
  exact ⟨rfl, HU2.out⟩

set_option maxRecDepth 100000
theorem jsB_no {s : JS} (h : chB s.ms = false) : jsB s = false := by unfold jsB; rw [h, Bool.false_and]
theorem jsB_none {s : JS} (h : fdN s.ms s.a = none) : jsB s = false := by unfold jsB; rw [h, Bool.and_false]
theorem jsB_some {s : JS} (h : chB s.ms = true) {c : Nat} (hf : fdN s.ms s.a = some c) : jsB s = (decide (frL s.ms s.a = 0) && (!(hjB s.j) || jrB s.ms c s.a s.j)) := by unfold jsB; rw [h, hf, Bool.true_and]
set_option maxHeartbeats 4000000 in
theorem jRight_any {w : World} {b : Nat} {s : JS} {v : Value} {gs : List IG} (h : JP w b s v gs) (hL : JLen s) (hx : s.j.x ≤ 9223372036854775807) : Calls Tryz.prog 34 #[.pointer (some ⟨b, 0, none⟩)] w fun e w' => e = .returned (.bool (jsB s)) ∧ Below w.heap.size w w' := by
  obtain ⟨ao, cap, rfl⟩ := h.row.sl
  have hlq := h.inn.len
  rw [hlq] at h
  have HJ : Hid (JP w b s (.slice ao s.ms.length cap) gs) := h
  have HJU : Hid (∀ u, Below w.heap.size w u → JP u b s (.slice ao s.ms.length cap) gs) := fun u hu => HJ.out.below hu
  have HBD : Hid (Below w.heap.size w w.drew) := (Below.refl _ _).drew
  have HCF : Hid (∀ u, Below w.heap.size w u → Calls Tryz.prog 65 #[.slice ao s.ms.length cap] u fun e w' => e = .returned (.int .i64 (if chB s.ms then 0 else 1)) ∧ Below u.heap.size u w') := fun u hu => implChain_any (HJ.out.below hu).row (HJ.out.below hu).inn hL.l hL.m
  have HIA : Hid (∀ u, Below w.heap.size w u → Calls Tryz.prog 66 #[.slice ao s.ms.length cap, .string s.a] u fun e w' => e = .returned (.int .i64 (fdI s.ms s.a)) ∧ Below u.heap.size u w') := fun u hu => imageAt_any (HJ.out.below hu).row (HJ.out.below hu).inn hL.l _
  have HFR : Hid (∀ u, Below w.heap.size w u → Calls Tryz.prog 67 #[.pointer (some ⟨b, 0, none⟩), .string s.a] u fun e w' => e = .returned (.int .i64 (frL s.ms s.a : Nat)) ∧ Below u.heap.size u w') := fun u hu => jFronts_any (HJ.out.below hu) hL.l _
  cases hch : chB s.ms with
  | false =>
    rw [jsB_no hch]
    rw [hch, if_neg (by decide)] at HCF
    clear h hL hx hch HIA HFR hlq
    go_enter Tryz.func34, Tryz.ntmps34
    go_wp2_with fail
    refine wp_region_held (S := fun w9 => JP w9 b s (.slice ao s.ms.length cap) gs) (by kernel_rfl) ?_
    change wpAnyH _ _ _ _ _ _ _ _ (World.drew _)
    refine wpAnyH_take (i := 0) (v := .pointer (some ⟨b, 0, none⟩)) rfl (by kernel_rfl) (by kernel_rfl) (by kernel_rfl) (fun _ _ _ h => h) (Or.inl ⟨by kernel_rfl, fun w9 h9 => ?_⟩) (HJU.out _ HBD.out) ?_
    · go_simp
    refine wpAnyH_take (i := 1) (v := .pointer (some ⟨b, 0, none⟩)) rfl (by kernel_rfl) (by kernel_rfl) (by kernel_rfl) (fun _ _ _ h => h) (Or.inl ⟨by kernel_rfl, fun w9 h9 => ?_⟩) (HJU.out _ HBD.out) ?_
    · go_simp
    refine wpAnyH_take (i := 2) (v := .pointer (some ⟨b, 0, none⟩)) rfl (by kernel_rfl) (by kernel_rfl) (by kernel_rfl) (fun _ _ _ h => h) (Or.inl ⟨by kernel_rfl, fun w9 h9 => ?_⟩) (HJU.out _ HBD.out) ?_
    · go_simp
    refine wpAnyH_take (i := 3) (v := .slice ao s.ms.length cap) rfl (by kernel_rfl) (by kernel_rfl) (by kernel_rfl) (fun _ _ _ h => h) (Or.inl ⟨by kernel_rfl, fun w9 h9 => ?_⟩) (HJU.out _ HBD.out) ?_
    · obtain ⟨y9, x0, x1, x2, x3, x4, x5, _, _⟩ := h9; go_simp
    refine held_one 4 (by kernel_rfl) rfl (by kernel_rfl) fun K hK => ?_
    go_simp
    go_wp2_with (go_at_call 65; refine Calls.mono (HCF.out _ HBD.out) ?_; rintro e u1 ⟨rfl, hu⟩; have HU1 : Hid (Below w.heap.size w u1) := HBD.out.trans (hu.mono HBD.out.size); clear hu)
    refine hK _ _ (HJU.out _ HU1.out) ?_
    clear hK K
    refine wpAnyH_take (i := 5) (v := .bool true) rfl (by kernel_rfl) (by kernel_rfl) (by kernel_rfl) (fun _ _ _ h => h) (Or.inl ⟨by kernel_rfl, fun w9 h9 => ?_⟩) (HJU.out _ HU1.out) ?_
    · go_simp
    refine wpAnyH_take (i := 6) (v := .bool true) rfl (by kernel_rfl) (by kernel_rfl) (by kernel_rfl) (fun _ _ _ h => h) (Or.inl ⟨by kernel_rfl, fun w9 h9 => ?_⟩) (HJU.out _ HU1.out) ?_
    · go_simp
    refine wpAnyH_take (i := 7) (v := undef) rfl (by kernel_rfl) (by kernel_rfl) (by kernel_rfl) (fun _ _ _ h => h) (Or.inr ⟨by kernel_rfl, rfl⟩) (HJU.out _ HU1.out) ?_
    refine wpAnyH_take (i := 8) (v := undef) rfl (by kernel_rfl) (by kernel_rfl) (by kernel_rfl) (fun _ _ _ h => h) (Or.inr ⟨by kernel_rfl, rfl⟩) (HJU.out _ HU1.out) ?_
    refine wpAnyH_take (i := 9) (v := undef) rfl (by kernel_rfl) (by kernel_rfl) (by kernel_rfl) (fun _ _ _ h => h) (Or.inr ⟨by kernel_rfl, rfl⟩) (HJU.out _ HU1.out) ?_
    refine wpAnyH_take (i := 10) (v := undef) rfl (by kernel_rfl) (by kernel_rfl) (by kernel_rfl) (fun _ _ _ h => h) (Or.inr ⟨by kernel_rfl, rfl⟩) (HJU.out _ HU1.out) ?_
    refine wpAnyH_take (i := 11) (v := undef) rfl (by kernel_rfl) (by kernel_rfl) (by kernel_rfl) (fun _ _ _ h => h) (Or.inr ⟨by kernel_rfl, rfl⟩) (HJU.out _ HU1.out) ?_
    refine wpAnyH_take (i := 12) (v := undef) rfl (by kernel_rfl) (by kernel_rfl) (by kernel_rfl) (fun _ _ _ h => h) (Or.inr ⟨by kernel_rfl, rfl⟩) (HJU.out _ HU1.out) ?_
    refine wpAnyH_take (i := 13) (v := undef) rfl (by kernel_rfl) (by kernel_rfl) (by kernel_rfl) (fun _ _ _ h => h) (Or.inr ⟨by kernel_rfl, rfl⟩) (HJU.out _ HU1.out) ?_
    refine wpAnyH_take (i := 14) (v := undef) rfl (by kernel_rfl) (by kernel_rfl) (by kernel_rfl) (fun _ _ _ h => h) (Or.inr ⟨by kernel_rfl, rfl⟩) (HJU.out _ HU1.out) ?_
    refine wpAnyH_take (i := 15) (v := undef) rfl (by kernel_rfl) (by kernel_rfl) (by kernel_rfl) (fun _ _ _ h => h) (Or.inr ⟨by kernel_rfl, rfl⟩) (HJU.out _ HU1.out) ?_
    refine wpAnyH_take (i := 16) (v := undef) rfl (by kernel_rfl) (by kernel_rfl) (by kernel_rfl) (fun _ _ _ h => h) (Or.inr ⟨by kernel_rfl, rfl⟩) (HJU.out _ HU1.out) ?_
    refine wpAnyH_take (i := 17) (v := .bool true) rfl (by kernel_rfl) (by kernel_rfl) (by kernel_rfl) (fun _ _ _ h => h) (Or.inl ⟨by kernel_rfl, fun w9 h9 => ?_⟩) (HJU.out _ HU1.out) ?_
    · go_simp
    refine wpAnyH_take (i := 18) (v := .bool true) rfl (by kernel_rfl) (by kernel_rfl) (by kernel_rfl) (fun _ _ _ h => h) (Or.inl ⟨by kernel_rfl, fun w9 h9 => ?_⟩) (HJU.out _ HU1.out) ?_
    · go_simp
    refine wpAnyH_take (i := 19) (v := undef) rfl (by kernel_rfl) (by kernel_rfl) (by kernel_rfl) (fun _ _ _ h => h) (Or.inr ⟨by kernel_rfl, rfl⟩) (HJU.out _ HU1.out) ?_
    refine wpAnyH_take (i := 20) (v := undef) rfl (by kernel_rfl) (by kernel_rfl) (by kernel_rfl) (fun _ _ _ h => h) (Or.inr ⟨by kernel_rfl, rfl⟩) (HJU.out _ HU1.out) ?_
    refine wpAnyH_take (i := 21) (v := undef) rfl (by kernel_rfl) (by kernel_rfl) (by kernel_rfl) (fun _ _ _ h => h) (Or.inr ⟨by kernel_rfl, rfl⟩) (HJU.out _ HU1.out) ?_
    refine wpAnyH_take (i := 22) (v := undef) rfl (by kernel_rfl) (by kernel_rfl) (by kernel_rfl) (fun _ _ _ h => h) (Or.inr ⟨by kernel_rfl, rfl⟩) (HJU.out _ HU1.out) ?_
    refine wpAnyH_take (i := 23) (v := undef) rfl (by kernel_rfl) (by kernel_rfl) (by kernel_rfl) (fun _ _ _ h => h) (Or.inr ⟨by kernel_rfl, rfl⟩) (HJU.out _ HU1.out) ?_
    refine wpAnyH_take (i := 24) (v := undef) rfl (by kernel_rfl) (by kernel_rfl) (by kernel_rfl) (fun _ _ _ h => h) (Or.inr ⟨by kernel_rfl, rfl⟩) (HJU.out _ HU1.out) ?_
    refine wpAnyH_take (i := 25) (v := undef) rfl (by kernel_rfl) (by kernel_rfl) (by kernel_rfl) (fun _ _ _ h => h) (Or.inr ⟨by kernel_rfl, rfl⟩) (HJU.out _ HU1.out) ?_
    refine wpAnyH_take (i := 26) (v := .bool true) rfl (by kernel_rfl) (by kernel_rfl) (by kernel_rfl) (fun _ _ _ h => h) (Or.inl ⟨by kernel_rfl, fun w9 h9 => ?_⟩) (HJU.out _ HU1.out) ?_
    · go_simp
    refine wpAnyH_done (by kernel_rfl) ?_ _
    go_simp
    go_wp2
    go_ret
    exact ⟨rfl, HU1.out⟩
  | true =>
  rw [hch, if_pos rfl] at HCF
  cases hf : fdN s.ms s.a with
  | none =>
    rw [jsB_none hf]
    rw [show fdI s.ms s.a = -1 from by unfold fdI; rw [hf]] at HIA
    clear h hL hx hch HFR hlq hf
    go_enter Tryz.func34, Tryz.ntmps34
    go_wp2_with fail
    refine wp_region_held (S := fun w9 => JP w9 b s (.slice ao s.ms.length cap) gs) (by kernel_rfl) ?_
    change wpAnyH _ _ _ _ _ _ _ _ (World.drew _)
    refine wpAnyH_take (i := 0) (v := .pointer (some ⟨b, 0, none⟩)) rfl (by kernel_rfl) (by kernel_rfl) (by kernel_rfl) (fun _ _ _ h => h) (Or.inl ⟨by kernel_rfl, fun w9 h9 => ?_⟩) (HJU.out _ HBD.out) ?_
    · go_simp
    refine wpAnyH_take (i := 1) (v := .pointer (some ⟨b, 0, none⟩)) rfl (by kernel_rfl) (by kernel_rfl) (by kernel_rfl) (fun _ _ _ h => h) (Or.inl ⟨by kernel_rfl, fun w9 h9 => ?_⟩) (HJU.out _ HBD.out) ?_
    · go_simp
    refine wpAnyH_take (i := 2) (v := .pointer (some ⟨b, 0, none⟩)) rfl (by kernel_rfl) (by kernel_rfl) (by kernel_rfl) (fun _ _ _ h => h) (Or.inl ⟨by kernel_rfl, fun w9 h9 => ?_⟩) (HJU.out _ HBD.out) ?_
    · go_simp
    refine wpAnyH_take (i := 3) (v := .slice ao s.ms.length cap) rfl (by kernel_rfl) (by kernel_rfl) (by kernel_rfl) (fun _ _ _ h => h) (Or.inl ⟨by kernel_rfl, fun w9 h9 => ?_⟩) (HJU.out _ HBD.out) ?_
    · obtain ⟨y9, x0, x1, x2, x3, x4, x5, _, _⟩ := h9; go_simp
    refine held_one 4 (by kernel_rfl) rfl (by kernel_rfl) fun K hK => ?_
    go_simp
    go_wp2_with (go_at_call 65; refine Calls.mono (HCF.out _ HBD.out) ?_; rintro e u1 ⟨rfl, hu⟩; have HU1 : Hid (Below w.heap.size w u1) := HBD.out.trans (hu.mono HBD.out.size); clear hu)
    refine hK _ _ (HJU.out _ HU1.out) ?_
    clear hK K
    refine wpAnyH_take (i := 5) (v := .bool false) rfl (by kernel_rfl) (by kernel_rfl) (by kernel_rfl) (fun _ _ _ h => h) (Or.inl ⟨by kernel_rfl, fun w9 h9 => ?_⟩) (HJU.out _ HU1.out) ?_
    · go_simp
    refine wpAnyH_take (i := 6) (v := .bool false) rfl (by kernel_rfl) (by kernel_rfl) (by kernel_rfl) (fun _ _ _ h => h) (Or.inl ⟨by kernel_rfl, fun w9 h9 => ?_⟩) (HJU.out _ HU1.out) ?_
    · go_simp
    refine wpAnyH_take (i := 7) (v := .pointer (some ⟨b, 0, none⟩)) rfl (by kernel_rfl) (by kernel_rfl) (by kernel_rfl) (fun _ _ _ h => h) (Or.inl ⟨by kernel_rfl, fun w9 h9 => ?_⟩) (HJU.out _ HU1.out) ?_
    · go_simp
    refine wpAnyH_take (i := 8) (v := .pointer (some ⟨b, 0, none⟩)) rfl (by kernel_rfl) (by kernel_rfl) (by kernel_rfl) (fun _ _ _ h => h) (Or.inl ⟨by kernel_rfl, fun w9 h9 => ?_⟩) (HJU.out _ HU1.out) ?_
    · go_simp
    refine wpAnyH_take (i := 9) (v := .pointer (some ⟨b, 0, none⟩)) rfl (by kernel_rfl) (by kernel_rfl) (by kernel_rfl) (fun _ _ _ h => h) (Or.inl ⟨by kernel_rfl, fun w9 h9 => ?_⟩) (HJU.out _ HU1.out) ?_
    · go_simp
    refine wpAnyH_take (i := 10) (v := .slice ao s.ms.length cap) rfl (by kernel_rfl) (by kernel_rfl) (by kernel_rfl) (fun _ _ _ h => h) (Or.inl ⟨by kernel_rfl, fun w9 h9 => ?_⟩) (HJU.out _ HU1.out) ?_
    · obtain ⟨y9, x0, x1, x2, x3, x4, x5, _, _⟩ := h9; go_simp
    refine wpAnyH_take (i := 11) (v := .pointer (some ⟨b, 0, none⟩)) rfl (by kernel_rfl) (by kernel_rfl) (by kernel_rfl) (fun _ _ _ h => h) (Or.inl ⟨by kernel_rfl, fun w9 h9 => ?_⟩) (HJU.out _ HU1.out) ?_
    · go_simp
    refine wpAnyH_take (i := 12) (v := .pointer (some ⟨b, 0, none⟩)) rfl (by kernel_rfl) (by kernel_rfl) (by kernel_rfl) (fun _ _ _ h => h) (Or.inl ⟨by kernel_rfl, fun w9 h9 => ?_⟩) (HJU.out _ HU1.out) ?_
    · go_simp
    refine wpAnyH_take (i := 13) (v := .pointer (some ⟨b, 1, none⟩)) rfl (by kernel_rfl) (by kernel_rfl) (by kernel_rfl) (fun _ _ _ h => h) (Or.inl ⟨by kernel_rfl, fun w9 h9 => ?_⟩) (HJU.out _ HU1.out) ?_
    · go_simp
    refine wpAnyH_take (i := 14) (v := .string s.a) rfl (by kernel_rfl) (by kernel_rfl) (by kernel_rfl) (fun _ _ _ h => h) (Or.inl ⟨by kernel_rfl, fun w9 h9 => ?_⟩) (HJU.out _ HU1.out) ?_
    · obtain ⟨y9, x0, x1, x2, x3, x4, x5, _, _⟩ := h9; go_simp
    refine held_one 15 (by kernel_rfl) rfl (by kernel_rfl) fun K hK => ?_
    go_simp
    go_wp2_with (go_at_call 66; refine Calls.mono (HIA.out _ HU1.out) ?_; rintro e u2 ⟨rfl, hu⟩; have HU2 : Hid (Below w.heap.size w u2) := HU1.out.trans (hu.mono HU1.out.size); clear hu)
    refine hK _ _ (HJU.out _ HU2.out) ?_
    clear hK K
    refine wpAnyH_take (i := 16) (v := .bool true) rfl (by kernel_rfl) (by kernel_rfl) (by kernel_rfl) (fun _ _ _ h => h) (Or.inl ⟨by kernel_rfl, fun w9 h9 => ?_⟩) (HJU.out _ HU2.out) ?_
    · go_simp; all_goals omega
    refine wpAnyH_take (i := 17) (v := .bool true) rfl (by kernel_rfl) (by kernel_rfl) (by kernel_rfl) (fun _ _ _ h => h) (Or.inl ⟨by kernel_rfl, fun w9 h9 => ?_⟩) (HJU.out _ HU2.out) ?_
    · go_simp
    refine wpAnyH_take (i := 18) (v := .bool true) rfl (by kernel_rfl) (by kernel_rfl) (by kernel_rfl) (fun _ _ _ h => h) (Or.inl ⟨by kernel_rfl, fun w9 h9 => ?_⟩) (HJU.out _ HU2.out) ?_
    · go_simp
    refine wpAnyH_take (i := 19) (v := undef) rfl (by kernel_rfl) (by kernel_rfl) (by kernel_rfl) (fun _ _ _ h => h) (Or.inr ⟨by kernel_rfl, rfl⟩) (HJU.out _ HU2.out) ?_
    refine wpAnyH_take (i := 20) (v := undef) rfl (by kernel_rfl) (by kernel_rfl) (by kernel_rfl) (fun _ _ _ h => h) (Or.inr ⟨by kernel_rfl, rfl⟩) (HJU.out _ HU2.out) ?_
    refine wpAnyH_take (i := 21) (v := undef) rfl (by kernel_rfl) (by kernel_rfl) (by kernel_rfl) (fun _ _ _ h => h) (Or.inr ⟨by kernel_rfl, rfl⟩) (HJU.out _ HU2.out) ?_
    refine wpAnyH_take (i := 22) (v := undef) rfl (by kernel_rfl) (by kernel_rfl) (by kernel_rfl) (fun _ _ _ h => h) (Or.inr ⟨by kernel_rfl, rfl⟩) (HJU.out _ HU2.out) ?_
    refine wpAnyH_take (i := 23) (v := undef) rfl (by kernel_rfl) (by kernel_rfl) (by kernel_rfl) (fun _ _ _ h => h) (Or.inr ⟨by kernel_rfl, rfl⟩) (HJU.out _ HU2.out) ?_
    refine wpAnyH_take (i := 24) (v := undef) rfl (by kernel_rfl) (by kernel_rfl) (by kernel_rfl) (fun _ _ _ h => h) (Or.inr ⟨by kernel_rfl, rfl⟩) (HJU.out _ HU2.out) ?_
    refine wpAnyH_take (i := 25) (v := undef) rfl (by kernel_rfl) (by kernel_rfl) (by kernel_rfl) (fun _ _ _ h => h) (Or.inr ⟨by kernel_rfl, rfl⟩) (HJU.out _ HU2.out) ?_
    refine wpAnyH_take (i := 26) (v := .bool true) rfl (by kernel_rfl) (by kernel_rfl) (by kernel_rfl) (fun _ _ _ h => h) (Or.inl ⟨by kernel_rfl, fun w9 h9 => ?_⟩) (HJU.out _ HU2.out) ?_
    · go_simp
    refine wpAnyH_done (by kernel_rfl) ?_ _
    go_simp
    go_wp2
    go_ret
    exact ⟨rfl, HU2.out⟩
  | some c =>
  rw [jsB_some hch hf]
  rw [show fdI s.ms s.a = c from by unfold fdI; rw [hf]] at HIA
  have hci : ¬ (c : Int) < 0 := by omega
  have hcd : decide ((c : Int) < 0) = false := decide_eq_false hci
  have hc := fdN_lt hf
  obtain ⟨g, o, cap2, a, hv, hpx⟩ := h.row.elt h.inn hc
  injection hv with hv1 hv2 hv3
  subst hv1 hv3
  have HJR : Hid (∀ u, Below w.heap.size w u → Calls Tryz.prog 69 #[.pointer (some ⟨b, 0, none⟩)] u fun e w' => e = .returned (.bool (jrB s.ms c s.a s.j)) ∧ Below u.heap.size u w') := fun u hu => jJobRight_any (HJ.out.below hu) hL.l (RL.of hch) hf hx
  have HHJ : Hid (∀ u, Below w.heap.size w u → Calls Tryz.prog 68 #[.pointer (some ⟨b, 0, none⟩)] u fun e w' => e = .returned (.bool (hjB s.j)) ∧ w' = u) := fun u hu => jHasJob_any (HJ.out.below hu)
  have hfl := frL_le s.ms s.a
  clear h hL hx hch hlq hf hv2 hpx hc
  generalize frL s.ms s.a = F at *
  generalize jrB s.ms c s.a s.j = G at *
  generalize hjB s.j = H at *
  by_cases hF : F = 0
  case neg =>
    rw [decide_eq_false hF, Bool.false_and]
    have hFi : (0 : Int) < (F : Int) := by omega
    have hFd : decide ((0 : Int) < (F : Int)) = true := decide_eq_true hFi
    clear HJR HHJ
    go_enter Tryz.func34, Tryz.ntmps34
    go_wp2_with fail
    refine wp_region_held (S := fun w9 => JP w9 b s (.slice (some ⟨g, o, none⟩) s.ms.length cap) gs) (by kernel_rfl) ?_
    change wpAnyH _ _ _ _ _ _ _ _ (World.drew _)
    refine wpAnyH_take (i := 0) (v := .pointer (some ⟨b, 0, none⟩)) rfl (by kernel_rfl) (by kernel_rfl) (by kernel_rfl) (fun _ _ _ h => h) (Or.inl ⟨by kernel_rfl, fun w9 h9 => ?_⟩) (HJU.out _ HBD.out) ?_
    · go_simp
    refine wpAnyH_take (i := 1) (v := .pointer (some ⟨b, 0, none⟩)) rfl (by kernel_rfl) (by kernel_rfl) (by kernel_rfl) (fun _ _ _ h => h) (Or.inl ⟨by kernel_rfl, fun w9 h9 => ?_⟩) (HJU.out _ HBD.out) ?_
    · go_simp
    refine wpAnyH_take (i := 2) (v := .pointer (some ⟨b, 0, none⟩)) rfl (by kernel_rfl) (by kernel_rfl) (by kernel_rfl) (fun _ _ _ h => h) (Or.inl ⟨by kernel_rfl, fun w9 h9 => ?_⟩) (HJU.out _ HBD.out) ?_
    · go_simp
    refine wpAnyH_take (i := 3) (v := .slice (some ⟨g, o, none⟩) s.ms.length cap) rfl (by kernel_rfl) (by kernel_rfl) (by kernel_rfl) (fun _ _ _ h => h) (Or.inl ⟨by kernel_rfl, fun w9 h9 => ?_⟩) (HJU.out _ HBD.out) ?_
    · obtain ⟨y9, x0, x1, x2, x3, x4, x5, _, _⟩ := h9; go_simp
    refine held_one 4 (by kernel_rfl) rfl (by kernel_rfl) fun K hK => ?_
    go_simp
    go_wp2_with (go_at_call 65; refine Calls.mono (HCF.out _ HBD.out) ?_; rintro e u1 ⟨rfl, hu⟩; have HU1 : Hid (Below w.heap.size w u1) := HBD.out.trans (hu.mono HBD.out.size); clear hu)
    refine hK _ _ (HJU.out _ HU1.out) ?_
    clear hK K
    refine wpAnyH_take (i := 5) (v := .bool false) rfl (by kernel_rfl) (by kernel_rfl) (by kernel_rfl) (fun _ _ _ h => h) (Or.inl ⟨by kernel_rfl, fun w9 h9 => ?_⟩) (HJU.out _ HU1.out) ?_
    · go_simp
    refine wpAnyH_take (i := 6) (v := .bool false) rfl (by kernel_rfl) (by kernel_rfl) (by kernel_rfl) (fun _ _ _ h => h) (Or.inl ⟨by kernel_rfl, fun w9 h9 => ?_⟩) (HJU.out _ HU1.out) ?_
    · go_simp
    refine wpAnyH_take (i := 7) (v := .pointer (some ⟨b, 0, none⟩)) rfl (by kernel_rfl) (by kernel_rfl) (by kernel_rfl) (fun _ _ _ h => h) (Or.inl ⟨by kernel_rfl, fun w9 h9 => ?_⟩) (HJU.out _ HU1.out) ?_
    · go_simp
    refine wpAnyH_take (i := 8) (v := .pointer (some ⟨b, 0, none⟩)) rfl (by kernel_rfl) (by kernel_rfl) (by kernel_rfl) (fun _ _ _ h => h) (Or.inl ⟨by kernel_rfl, fun w9 h9 => ?_⟩) (HJU.out _ HU1.out) ?_
    · go_simp
    refine wpAnyH_take (i := 9) (v := .pointer (some ⟨b, 0, none⟩)) rfl (by kernel_rfl) (by kernel_rfl) (by kernel_rfl) (fun _ _ _ h => h) (Or.inl ⟨by kernel_rfl, fun w9 h9 => ?_⟩) (HJU.out _ HU1.out) ?_
    · go_simp
    refine wpAnyH_take (i := 10) (v := .slice (some ⟨g, o, none⟩) s.ms.length cap) rfl (by kernel_rfl) (by kernel_rfl) (by kernel_rfl) (fun _ _ _ h => h) (Or.inl ⟨by kernel_rfl, fun w9 h9 => ?_⟩) (HJU.out _ HU1.out) ?_
    · obtain ⟨y9, x0, x1, x2, x3, x4, x5, _, _⟩ := h9; go_simp
    refine wpAnyH_take (i := 11) (v := .pointer (some ⟨b, 0, none⟩)) rfl (by kernel_rfl) (by kernel_rfl) (by kernel_rfl) (fun _ _ _ h => h) (Or.inl ⟨by kernel_rfl, fun w9 h9 => ?_⟩) (HJU.out _ HU1.out) ?_
    · go_simp
    refine wpAnyH_take (i := 12) (v := .pointer (some ⟨b, 0, none⟩)) rfl (by kernel_rfl) (by kernel_rfl) (by kernel_rfl) (fun _ _ _ h => h) (Or.inl ⟨by kernel_rfl, fun w9 h9 => ?_⟩) (HJU.out _ HU1.out) ?_
    · go_simp
    refine wpAnyH_take (i := 13) (v := .pointer (some ⟨b, 1, none⟩)) rfl (by kernel_rfl) (by kernel_rfl) (by kernel_rfl) (fun _ _ _ h => h) (Or.inl ⟨by kernel_rfl, fun w9 h9 => ?_⟩) (HJU.out _ HU1.out) ?_
    · go_simp
    refine wpAnyH_take (i := 14) (v := .string s.a) rfl (by kernel_rfl) (by kernel_rfl) (by kernel_rfl) (fun _ _ _ h => h) (Or.inl ⟨by kernel_rfl, fun w9 h9 => ?_⟩) (HJU.out _ HU1.out) ?_
    · obtain ⟨y9, x0, x1, x2, x3, x4, x5, _, _⟩ := h9; go_simp
    refine held_one 15 (by kernel_rfl) rfl (by kernel_rfl) fun K hK => ?_
    go_simp
    go_wp2_with (go_at_call 66; refine Calls.mono (HIA.out _ HU1.out) ?_; rintro e u2 ⟨rfl, hu⟩; have HU2 : Hid (Below w.heap.size w u2) := HU1.out.trans (hu.mono HU1.out.size); clear hu)
    refine hK _ _ (HJU.out _ HU2.out) ?_
    clear hK K
    refine wpAnyH_take (i := 16) (v := .bool false) rfl (by kernel_rfl) (by kernel_rfl) (by kernel_rfl) (fun _ _ _ h => h) (Or.inl ⟨by kernel_rfl, fun w9 h9 => ?_⟩) (HJU.out _ HU2.out) ?_
    · go_simp; all_goals omega
    refine wpAnyH_take (i := 17) (v := .bool false) rfl (by kernel_rfl) (by kernel_rfl) (by kernel_rfl) (fun _ _ _ h => h) (Or.inl ⟨by kernel_rfl, fun w9 h9 => ?_⟩) (HJU.out _ HU2.out) ?_
    · go_simp
    refine wpAnyH_take (i := 18) (v := .bool false) rfl (by kernel_rfl) (by kernel_rfl) (by kernel_rfl) (fun _ _ _ h => h) (Or.inl ⟨by kernel_rfl, fun w9 h9 => ?_⟩) (HJU.out _ HU2.out) ?_
    · go_simp
    refine wpAnyH_take (i := 19) (v := .pointer (some ⟨b, 0, none⟩)) rfl (by kernel_rfl) (by kernel_rfl) (by kernel_rfl) (fun _ _ _ h => h) (Or.inl ⟨by kernel_rfl, fun w9 h9 => ?_⟩) (HJU.out _ HU2.out) ?_
    · go_simp
    refine wpAnyH_take (i := 20) (v := .pointer (some ⟨b, 0, none⟩)) rfl (by kernel_rfl) (by kernel_rfl) (by kernel_rfl) (fun _ _ _ h => h) (Or.inl ⟨by kernel_rfl, fun w9 h9 => ?_⟩) (HJU.out _ HU2.out) ?_
    · go_simp
    refine wpAnyH_take (i := 21) (v := .pointer (some ⟨b, 0, none⟩)) rfl (by kernel_rfl) (by kernel_rfl) (by kernel_rfl) (fun _ _ _ h => h) (Or.inl ⟨by kernel_rfl, fun w9 h9 => ?_⟩) (HJU.out _ HU2.out) ?_
    · go_simp
    refine wpAnyH_take (i := 22) (v := .pointer (some ⟨b, 1, none⟩)) rfl (by kernel_rfl) (by kernel_rfl) (by kernel_rfl) (fun _ _ _ h => h) (Or.inl ⟨by kernel_rfl, fun w9 h9 => ?_⟩) (HJU.out _ HU2.out) ?_
    · go_simp
    refine wpAnyH_take (i := 23) (v := .string s.a) rfl (by kernel_rfl) (by kernel_rfl) (by kernel_rfl) (fun _ _ _ h => h) (Or.inl ⟨by kernel_rfl, fun w9 h9 => ?_⟩) (HJU.out _ HU2.out) ?_
    · obtain ⟨y9, x0, x1, x2, x3, x4, x5, _, _⟩ := h9; go_simp
    refine held_one 24 (by kernel_rfl) rfl (by kernel_rfl) fun K hK => ?_
    go_simp
    go_wp2_with (go_at_call 67; refine Calls.mono (HFR.out _ HU2.out) ?_; rintro e u3 ⟨rfl, hu⟩; have HU3 : Hid (Below w.heap.size w u3) := HU2.out.trans (hu.mono HU2.out.size); clear hu)
    refine hK _ _ (HJU.out _ HU3.out) ?_
    clear hK K
    refine wpAnyH_take (i := 25) (v := .bool true) rfl (by kernel_rfl) (by kernel_rfl) (by kernel_rfl) (fun _ _ _ h => h) (Or.inl ⟨by kernel_rfl, fun w9 h9 => ?_⟩) (HJU.out _ HU3.out) ?_
    · go_simp; all_goals omega
    refine wpAnyH_take (i := 26) (v := .bool true) rfl (by kernel_rfl) (by kernel_rfl) (by kernel_rfl) (fun _ _ _ h => h) (Or.inl ⟨by kernel_rfl, fun w9 h9 => ?_⟩) (HJU.out _ HU3.out) ?_
    · go_simp
    refine wpAnyH_done (by kernel_rfl) ?_ _
    go_simp
    go_wp2
    go_ret
    exact ⟨rfl, HU3.out⟩
  subst hF
  rw [decide_eq_true rfl, Bool.true_and]
  cases H with
  | false =>
    clear HJR
    go_enter Tryz.func34, Tryz.ntmps34
    go_wp2_with fail
    refine wp_region_held (S := fun w9 => JP w9 b s (.slice (some ⟨g, o, none⟩) s.ms.length cap) gs) (by kernel_rfl) ?_
    change wpAnyH _ _ _ _ _ _ _ _ (World.drew _)
    refine wpAnyH_take (i := 0) (v := .pointer (some ⟨b, 0, none⟩)) rfl (by kernel_rfl) (by kernel_rfl) (by kernel_rfl) (fun _ _ _ h => h) (Or.inl ⟨by kernel_rfl, fun w9 h9 => ?_⟩) (HJU.out _ HBD.out) ?_
    · go_simp
    refine wpAnyH_take (i := 1) (v := .pointer (some ⟨b, 0, none⟩)) rfl (by kernel_rfl) (by kernel_rfl) (by kernel_rfl) (fun _ _ _ h => h) (Or.inl ⟨by kernel_rfl, fun w9 h9 => ?_⟩) (HJU.out _ HBD.out) ?_
    · go_simp
    refine wpAnyH_take (i := 2) (v := .pointer (some ⟨b, 0, none⟩)) rfl (by kernel_rfl) (by kernel_rfl) (by kernel_rfl) (fun _ _ _ h => h) (Or.inl ⟨by kernel_rfl, fun w9 h9 => ?_⟩) (HJU.out _ HBD.out) ?_
    · go_simp
    refine wpAnyH_take (i := 3) (v := .slice (some ⟨g, o, none⟩) s.ms.length cap) rfl (by kernel_rfl) (by kernel_rfl) (by kernel_rfl) (fun _ _ _ h => h) (Or.inl ⟨by kernel_rfl, fun w9 h9 => ?_⟩) (HJU.out _ HBD.out) ?_
    · obtain ⟨y9, x0, x1, x2, x3, x4, x5, _, _⟩ := h9; go_simp
    refine held_one 4 (by kernel_rfl) rfl (by kernel_rfl) fun K hK => ?_
    go_simp
    go_wp2_with (go_at_call 65; refine Calls.mono (HCF.out _ HBD.out) ?_; rintro e u1 ⟨rfl, hu⟩; have HU1 : Hid (Below w.heap.size w u1) := HBD.out.trans (hu.mono HBD.out.size); clear hu)
    refine hK _ _ (HJU.out _ HU1.out) ?_
    clear hK K
    refine wpAnyH_take (i := 5) (v := .bool false) rfl (by kernel_rfl) (by kernel_rfl) (by kernel_rfl) (fun _ _ _ h => h) (Or.inl ⟨by kernel_rfl, fun w9 h9 => ?_⟩) (HJU.out _ HU1.out) ?_
    · go_simp
    refine wpAnyH_take (i := 6) (v := .bool false) rfl (by kernel_rfl) (by kernel_rfl) (by kernel_rfl) (fun _ _ _ h => h) (Or.inl ⟨by kernel_rfl, fun w9 h9 => ?_⟩) (HJU.out _ HU1.out) ?_
    · go_simp
    refine wpAnyH_take (i := 7) (v := .pointer (some ⟨b, 0, none⟩)) rfl (by kernel_rfl) (by kernel_rfl) (by kernel_rfl) (fun _ _ _ h => h) (Or.inl ⟨by kernel_rfl, fun w9 h9 => ?_⟩) (HJU.out _ HU1.out) ?_
    · go_simp
    refine wpAnyH_take (i := 8) (v := .pointer (some ⟨b, 0, none⟩)) rfl (by kernel_rfl) (by kernel_rfl) (by kernel_rfl) (fun _ _ _ h => h) (Or.inl ⟨by kernel_rfl, fun w9 h9 => ?_⟩) (HJU.out _ HU1.out) ?_
    · go_simp
    refine wpAnyH_take (i := 9) (v := .pointer (some ⟨b, 0, none⟩)) rfl (by kernel_rfl) (by kernel_rfl) (by kernel_rfl) (fun _ _ _ h => h) (Or.inl ⟨by kernel_rfl, fun w9 h9 => ?_⟩) (HJU.out _ HU1.out) ?_
    · go_simp
    refine wpAnyH_take (i := 10) (v := .slice (some ⟨g, o, none⟩) s.ms.length cap) rfl (by kernel_rfl) (by kernel_rfl) (by kernel_rfl) (fun _ _ _ h => h) (Or.inl ⟨by kernel_rfl, fun w9 h9 => ?_⟩) (HJU.out _ HU1.out) ?_
    · obtain ⟨y9, x0, x1, x2, x3, x4, x5, _, _⟩ := h9; go_simp
    refine wpAnyH_take (i := 11) (v := .pointer (some ⟨b, 0, none⟩)) rfl (by kernel_rfl) (by kernel_rfl) (by kernel_rfl) (fun _ _ _ h => h) (Or.inl ⟨by kernel_rfl, fun w9 h9 => ?_⟩) (HJU.out _ HU1.out) ?_
    · go_simp
    refine wpAnyH_take (i := 12) (v := .pointer (some ⟨b, 0, none⟩)) rfl (by kernel_rfl) (by kernel_rfl) (by kernel_rfl) (fun _ _ _ h => h) (Or.inl ⟨by kernel_rfl, fun w9 h9 => ?_⟩) (HJU.out _ HU1.out) ?_
    · go_simp
    refine wpAnyH_take (i := 13) (v := .pointer (some ⟨b, 1, none⟩)) rfl (by kernel_rfl) (by kernel_rfl) (by kernel_rfl) (fun _ _ _ h => h) (Or.inl ⟨by kernel_rfl, fun w9 h9 => ?_⟩) (HJU.out _ HU1.out) ?_
    · go_simp
    refine wpAnyH_take (i := 14) (v := .string s.a) rfl (by kernel_rfl) (by kernel_rfl) (by kernel_rfl) (fun _ _ _ h => h) (Or.inl ⟨by kernel_rfl, fun w9 h9 => ?_⟩) (HJU.out _ HU1.out) ?_
    · obtain ⟨y9, x0, x1, x2, x3, x4, x5, _, _⟩ := h9; go_simp
    refine held_one 15 (by kernel_rfl) rfl (by kernel_rfl) fun K hK => ?_
    go_simp
    go_wp2_with (go_at_call 66; refine Calls.mono (HIA.out _ HU1.out) ?_; rintro e u2 ⟨rfl, hu⟩; have HU2 : Hid (Below w.heap.size w u2) := HU1.out.trans (hu.mono HU1.out.size); clear hu)
    refine hK _ _ (HJU.out _ HU2.out) ?_
    clear hK K
    refine wpAnyH_take (i := 16) (v := .bool false) rfl (by kernel_rfl) (by kernel_rfl) (by kernel_rfl) (fun _ _ _ h => h) (Or.inl ⟨by kernel_rfl, fun w9 h9 => ?_⟩) (HJU.out _ HU2.out) ?_
    · go_simp; all_goals omega
    refine wpAnyH_take (i := 17) (v := .bool false) rfl (by kernel_rfl) (by kernel_rfl) (by kernel_rfl) (fun _ _ _ h => h) (Or.inl ⟨by kernel_rfl, fun w9 h9 => ?_⟩) (HJU.out _ HU2.out) ?_
    · go_simp
    refine wpAnyH_take (i := 18) (v := .bool false) rfl (by kernel_rfl) (by kernel_rfl) (by kernel_rfl) (fun _ _ _ h => h) (Or.inl ⟨by kernel_rfl, fun w9 h9 => ?_⟩) (HJU.out _ HU2.out) ?_
    · go_simp
    refine wpAnyH_take (i := 19) (v := .pointer (some ⟨b, 0, none⟩)) rfl (by kernel_rfl) (by kernel_rfl) (by kernel_rfl) (fun _ _ _ h => h) (Or.inl ⟨by kernel_rfl, fun w9 h9 => ?_⟩) (HJU.out _ HU2.out) ?_
    · go_simp
    refine wpAnyH_take (i := 20) (v := .pointer (some ⟨b, 0, none⟩)) rfl (by kernel_rfl) (by kernel_rfl) (by kernel_rfl) (fun _ _ _ h => h) (Or.inl ⟨by kernel_rfl, fun w9 h9 => ?_⟩) (HJU.out _ HU2.out) ?_
    · go_simp
    refine wpAnyH_take (i := 21) (v := .pointer (some ⟨b, 0, none⟩)) rfl (by kernel_rfl) (by kernel_rfl) (by kernel_rfl) (fun _ _ _ h => h) (Or.inl ⟨by kernel_rfl, fun w9 h9 => ?_⟩) (HJU.out _ HU2.out) ?_
    · go_simp
    refine wpAnyH_take (i := 22) (v := .pointer (some ⟨b, 1, none⟩)) rfl (by kernel_rfl) (by kernel_rfl) (by kernel_rfl) (fun _ _ _ h => h) (Or.inl ⟨by kernel_rfl, fun w9 h9 => ?_⟩) (HJU.out _ HU2.out) ?_
    · go_simp
    refine wpAnyH_take (i := 23) (v := .string s.a) rfl (by kernel_rfl) (by kernel_rfl) (by kernel_rfl) (fun _ _ _ h => h) (Or.inl ⟨by kernel_rfl, fun w9 h9 => ?_⟩) (HJU.out _ HU2.out) ?_
    · obtain ⟨y9, x0, x1, x2, x3, x4, x5, _, _⟩ := h9; go_simp
    refine held_one 24 (by kernel_rfl) rfl (by kernel_rfl) fun K hK => ?_
    go_simp
    go_wp2_with (go_at_call 67; refine Calls.mono (HFR.out _ HU2.out) ?_; rintro e u3 ⟨rfl, hu⟩; have HU3 : Hid (Below w.heap.size w u3) := HU2.out.trans (hu.mono HU2.out.size); clear hu)
    refine hK _ _ (HJU.out _ HU3.out) ?_
    clear hK K
    refine wpAnyH_take (i := 25) (v := .bool false) rfl (by kernel_rfl) (by kernel_rfl) (by kernel_rfl) (fun _ _ _ h => h) (Or.inl ⟨by kernel_rfl, fun w9 h9 => ?_⟩) (HJU.out _ HU3.out) ?_
    · go_simp; all_goals omega
    refine wpAnyH_take (i := 26) (v := .bool false) rfl (by kernel_rfl) (by kernel_rfl) (by kernel_rfl) (fun _ _ _ h => h) (Or.inl ⟨by kernel_rfl, fun w9 h9 => ?_⟩) (HJU.out _ HU3.out) ?_
    · go_simp
    refine wpAnyH_done (by kernel_rfl) ?_ _
    go_simp
    go_wp2_with (go_at_call 68; refine Calls.mono (HHJ.out _ HU3.out) ?_; rintro e u4 ⟨rfl, hu⟩; rw [hu]; clear hu)
    go_ret
    exact ⟨rfl, HU3.out⟩
  | true =>
    go_enter Tryz.func34, Tryz.ntmps34
    go_wp2_with fail
    refine wp_region_held (S := fun w9 => JP w9 b s (.slice (some ⟨g, o, none⟩) s.ms.length cap) gs) (by kernel_rfl) ?_
    change wpAnyH _ _ _ _ _ _ _ _ (World.drew _)
    refine wpAnyH_take (i := 0) (v := .pointer (some ⟨b, 0, none⟩)) rfl (by kernel_rfl) (by kernel_rfl) (by kernel_rfl) (fun _ _ _ h => h) (Or.inl ⟨by kernel_rfl, fun w9 h9 => ?_⟩) (HJU.out _ HBD.out) ?_
    · go_simp
    refine wpAnyH_take (i := 1) (v := .pointer (some ⟨b, 0, none⟩)) rfl (by kernel_rfl) (by kernel_rfl) (by kernel_rfl) (fun _ _ _ h => h) (Or.inl ⟨by kernel_rfl, fun w9 h9 => ?_⟩) (HJU.out _ HBD.out) ?_
    · go_simp
    refine wpAnyH_take (i := 2) (v := .pointer (some ⟨b, 0, none⟩)) rfl (by kernel_rfl) (by kernel_rfl) (by kernel_rfl) (fun _ _ _ h => h) (Or.inl ⟨by kernel_rfl, fun w9 h9 => ?_⟩) (HJU.out _ HBD.out) ?_
    · go_simp
    refine wpAnyH_take (i := 3) (v := .slice (some ⟨g, o, none⟩) s.ms.length cap) rfl (by kernel_rfl) (by kernel_rfl) (by kernel_rfl) (fun _ _ _ h => h) (Or.inl ⟨by kernel_rfl, fun w9 h9 => ?_⟩) (HJU.out _ HBD.out) ?_
    · obtain ⟨y9, x0, x1, x2, x3, x4, x5, _, _⟩ := h9; go_simp
    refine held_one 4 (by kernel_rfl) rfl (by kernel_rfl) fun K hK => ?_
    go_simp
    go_wp2_with (go_at_call 65; refine Calls.mono (HCF.out _ HBD.out) ?_; rintro e u1 ⟨rfl, hu⟩; have HU1 : Hid (Below w.heap.size w u1) := HBD.out.trans (hu.mono HBD.out.size); clear hu)
    refine hK _ _ (HJU.out _ HU1.out) ?_
    clear hK K
    refine wpAnyH_take (i := 5) (v := .bool false) rfl (by kernel_rfl) (by kernel_rfl) (by kernel_rfl) (fun _ _ _ h => h) (Or.inl ⟨by kernel_rfl, fun w9 h9 => ?_⟩) (HJU.out _ HU1.out) ?_
    · go_simp
    refine wpAnyH_take (i := 6) (v := .bool false) rfl (by kernel_rfl) (by kernel_rfl) (by kernel_rfl) (fun _ _ _ h => h) (Or.inl ⟨by kernel_rfl, fun w9 h9 => ?_⟩) (HJU.out _ HU1.out) ?_
    · go_simp
    refine wpAnyH_take (i := 7) (v := .pointer (some ⟨b, 0, none⟩)) rfl (by kernel_rfl) (by kernel_rfl) (by kernel_rfl) (fun _ _ _ h => h) (Or.inl ⟨by kernel_rfl, fun w9 h9 => ?_⟩) (HJU.out _ HU1.out) ?_
    · go_simp
    refine wpAnyH_take (i := 8) (v := .pointer (some ⟨b, 0, none⟩)) rfl (by kernel_rfl) (by kernel_rfl) (by kernel_rfl) (fun _ _ _ h => h) (Or.inl ⟨by kernel_rfl, fun w9 h9 => ?_⟩) (HJU.out _ HU1.out) ?_
    · go_simp
    refine wpAnyH_take (i := 9) (v := .pointer (some ⟨b, 0, none⟩)) rfl (by kernel_rfl) (by kernel_rfl) (by kernel_rfl) (fun _ _ _ h => h) (Or.inl ⟨by kernel_rfl, fun w9 h9 => ?_⟩) (HJU.out _ HU1.out) ?_
    · go_simp
    refine wpAnyH_take (i := 10) (v := .slice (some ⟨g, o, none⟩) s.ms.length cap) rfl (by kernel_rfl) (by kernel_rfl) (by kernel_rfl) (fun _ _ _ h => h) (Or.inl ⟨by kernel_rfl, fun w9 h9 => ?_⟩) (HJU.out _ HU1.out) ?_
    · obtain ⟨y9, x0, x1, x2, x3, x4, x5, _, _⟩ := h9; go_simp
    refine wpAnyH_take (i := 11) (v := .pointer (some ⟨b, 0, none⟩)) rfl (by kernel_rfl) (by kernel_rfl) (by kernel_rfl) (fun _ _ _ h => h) (Or.inl ⟨by kernel_rfl, fun w9 h9 => ?_⟩) (HJU.out _ HU1.out) ?_
    · go_simp
    refine wpAnyH_take (i := 12) (v := .pointer (some ⟨b, 0, none⟩)) rfl (by kernel_rfl) (by kernel_rfl) (by kernel_rfl) (fun _ _ _ h => h) (Or.inl ⟨by kernel_rfl, fun w9 h9 => ?_⟩) (HJU.out _ HU1.out) ?_
    · go_simp
    refine wpAnyH_take (i := 13) (v := .pointer (some ⟨b, 1, none⟩)) rfl (by kernel_rfl) (by kernel_rfl) (by kernel_rfl) (fun _ _ _ h => h) (Or.inl ⟨by kernel_rfl, fun w9 h9 => ?_⟩) (HJU.out _ HU1.out) ?_
    · go_simp
    refine wpAnyH_take (i := 14) (v := .string s.a) rfl (by kernel_rfl) (by kernel_rfl) (by kernel_rfl) (fun _ _ _ h => h) (Or.inl ⟨by kernel_rfl, fun w9 h9 => ?_⟩) (HJU.out _ HU1.out) ?_
    · obtain ⟨y9, x0, x1, x2, x3, x4, x5, _, _⟩ := h9; go_simp
    refine held_one 15 (by kernel_rfl) rfl (by kernel_rfl) fun K hK => ?_
    go_simp
    go_wp2_with (go_at_call 66; refine Calls.mono (HIA.out _ HU1.out) ?_; rintro e u2 ⟨rfl, hu⟩; have HU2 : Hid (Below w.heap.size w u2) := HU1.out.trans (hu.mono HU1.out.size); clear hu)
    refine hK _ _ (HJU.out _ HU2.out) ?_
    clear hK K
    refine wpAnyH_take (i := 16) (v := .bool false) rfl (by kernel_rfl) (by kernel_rfl) (by kernel_rfl) (fun _ _ _ h => h) (Or.inl ⟨by kernel_rfl, fun w9 h9 => ?_⟩) (HJU.out _ HU2.out) ?_
    · go_simp; all_goals omega
    refine wpAnyH_take (i := 17) (v := .bool false) rfl (by kernel_rfl) (by kernel_rfl) (by kernel_rfl) (fun _ _ _ h => h) (Or.inl ⟨by kernel_rfl, fun w9 h9 => ?_⟩) (HJU.out _ HU2.out) ?_
    · go_simp
    refine wpAnyH_take (i := 18) (v := .bool false) rfl (by kernel_rfl) (by kernel_rfl) (by kernel_rfl) (fun _ _ _ h => h) (Or.inl ⟨by kernel_rfl, fun w9 h9 => ?_⟩) (HJU.out _ HU2.out) ?_
    · go_simp
    refine wpAnyH_take (i := 19) (v := .pointer (some ⟨b, 0, none⟩)) rfl (by kernel_rfl) (by kernel_rfl) (by kernel_rfl) (fun _ _ _ h => h) (Or.inl ⟨by kernel_rfl, fun w9 h9 => ?_⟩) (HJU.out _ HU2.out) ?_
    · go_simp
    refine wpAnyH_take (i := 20) (v := .pointer (some ⟨b, 0, none⟩)) rfl (by kernel_rfl) (by kernel_rfl) (by kernel_rfl) (fun _ _ _ h => h) (Or.inl ⟨by kernel_rfl, fun w9 h9 => ?_⟩) (HJU.out _ HU2.out) ?_
    · go_simp
    refine wpAnyH_take (i := 21) (v := .pointer (some ⟨b, 0, none⟩)) rfl (by kernel_rfl) (by kernel_rfl) (by kernel_rfl) (fun _ _ _ h => h) (Or.inl ⟨by kernel_rfl, fun w9 h9 => ?_⟩) (HJU.out _ HU2.out) ?_
    · go_simp
    refine wpAnyH_take (i := 22) (v := .pointer (some ⟨b, 1, none⟩)) rfl (by kernel_rfl) (by kernel_rfl) (by kernel_rfl) (fun _ _ _ h => h) (Or.inl ⟨by kernel_rfl, fun w9 h9 => ?_⟩) (HJU.out _ HU2.out) ?_
    · go_simp
    refine wpAnyH_take (i := 23) (v := .string s.a) rfl (by kernel_rfl) (by kernel_rfl) (by kernel_rfl) (fun _ _ _ h => h) (Or.inl ⟨by kernel_rfl, fun w9 h9 => ?_⟩) (HJU.out _ HU2.out) ?_
    · obtain ⟨y9, x0, x1, x2, x3, x4, x5, _, _⟩ := h9; go_simp
    refine held_one 24 (by kernel_rfl) rfl (by kernel_rfl) fun K hK => ?_
    go_simp
    go_wp2_with (go_at_call 67; refine Calls.mono (HFR.out _ HU2.out) ?_; rintro e u3 ⟨rfl, hu⟩; have HU3 : Hid (Below w.heap.size w u3) := HU2.out.trans (hu.mono HU2.out.size); clear hu)
    refine hK _ _ (HJU.out _ HU3.out) ?_
    clear hK K
    refine wpAnyH_take (i := 25) (v := .bool false) rfl (by kernel_rfl) (by kernel_rfl) (by kernel_rfl) (fun _ _ _ h => h) (Or.inl ⟨by kernel_rfl, fun w9 h9 => ?_⟩) (HJU.out _ HU3.out) ?_
    · go_simp; all_goals omega
    refine wpAnyH_take (i := 26) (v := .bool false) rfl (by kernel_rfl) (by kernel_rfl) (by kernel_rfl) (fun _ _ _ h => h) (Or.inl ⟨by kernel_rfl, fun w9 h9 => ?_⟩) (HJU.out _ HU3.out) ?_
    · go_simp
    refine wpAnyH_done (by kernel_rfl) ?_ _
    go_simp
    go_wp2_with (first | (go_at_call 68; refine Calls.mono (HHJ.out _ HU3.out) ?_; rintro e u4 ⟨rfl, hu⟩; rw [hu]; clear hu) | (go_at_call 69; refine Calls.mono (HJR.out _ HU3.out) ?_; rintro e u5 ⟨rfl, hu⟩; have HU5 : Hid (Below w.heap.size w u5) := HU3.out.trans (hu.mono HU3.out.size); clear hu))
    go_ret
    exact ⟨rfl, HU5.out⟩
set_option maxHeartbeats 4000000 in
theorem implJF_any {w : World} {s : JS} {v : Value} {gs : List IG} (h : IGrow w v gs) (hi : IGin w gs s.ms) (hL : JLen s) (hx : s.j.x ≤ 9223372036854775807) : Calls Tryz.prog 9 #[jsA v s.a s.j] w fun e w' => e = .returned (.int .i64 (if jsB s then 0 else 1)) ∧ Below w.heap.size w w' := by
  obtain ⟨ao, cap, rfl⟩ := h.sl
  have HX : Hid _ := jRight_any (JBox.new (t := 32) h hi).jp hL hx
  have HB : Hid (Below w.heap.size w (w.alloc (.cells #[.slice ao gs.length cap, .string s.a, .int .i64 s.j.k, .int .i64 s.j.x, .string s.j.d, .string s.j.g] 32))) := (Below.refl _ _).alloc (Nat.le_refl _) _
  clear h hi hL hx
  unfold jsA
  generalize jsB s = G at *
  cases G
  · rw [if_neg (by decide)]
    go_enter Tryz.func9, Tryz.ntmps9
    go_wp2_with (go_at_call 34; refine Calls.mono HX.out ?_; rintro e u1 ⟨rfl, hu⟩; have HU : Hid (Below w.heap.size w u1) := HB.out.trans (hu.mono HB.out.size); clear hu)
    go_ret
    exact ⟨rfl, HU.out⟩
  · rw [if_pos rfl]
    go_enter Tryz.func9, Tryz.ntmps9
    go_wp2_with (go_at_call 34; refine Calls.mono HX.out ?_; rintro e u1 ⟨rfl, hu⟩; have HU : Hid (Below w.heap.size w u1) := HB.out.trans (hu.mono HB.out.size); clear hu)
    go_ret
    exact ⟨rfl, HU.out⟩
end Go.Proofs.YtomfbiiegcmmlaaGreat
