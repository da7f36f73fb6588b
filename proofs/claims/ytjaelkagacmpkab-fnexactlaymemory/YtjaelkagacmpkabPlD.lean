import Derived.Test.YtjaelkagacmpkabPlB
import Derived.Test.YtjaelkagacmpkabPlC
namespace Go.Proofs.Ytjaelkagacmpkab
open Go.ChangeShapes Go.WideShapes Go.ChangeAt Go.RowKit

/-- What PlaceFault tells. -/
noncomputable def plC (m : ByteArray) (zs : List Int) (s : ByteArray) : Int := if memOk m = true ∧ memOk s = true ∧ zs.length = m.size / 256 ∧ frB (s.size / 256) zs = true then 0 else 1
theorem memC1 {s : ByteArray} (h : memOk s = false) : memC s = 1 := by simp [memC, h]
theorem memC0 {s : ByteArray} (h : memOk s = true) : memC s = 0 := by simp [memC, h]
theorem memOk_b2 {s : ByteArray} (h : memOk s = true) : s.size ≠ 0 ∧ s.size ≤ 65536 ∧ s.size % 256 = 0 := of_decide_eq_true h
set_option maxRecDepth 100000 in
set_option maxHeartbeats 4000000 in
theorem implPlace_any {w : World} {v : Value} {zs : List Int} (m s : ByteArray) (h : Irow w v zs) (hl : zs.length ≤ 1048576) (hm : m.size ≤ 1048576) (hs : s.size ≤ 1048576) :
    Calls Try.prog 8 #[.string m, v, .string s] w fun e w' => e = .returned (.int .i64 (plC m zs s)) ∧ Below w.heap.size w w' := by
  obtain ⟨a1, c1, rfl⟩ := h.sl
  have HR : Hid (Irow w (.slice a1 zs.length c1) zs) := h
  have HM : Hid _ := fun w => implMemFault_any m w (by omega)
  have HS : Hid _ := fun w => implMemFault_any s w (by omega)
  clear h
  cases h1 : memOk m
  · rw [memC1 h1] at HM
    go_enter Try.func8, Try.ntmps8
    go_wp2_with (go_at_call 16; refine Calls.mono (HM.out _) ?_; rintro e u1 ⟨rfl, hu1⟩; subst hu1)
    go_ret
    exact ⟨ret_int (by simp [plC, h1]), Below.refl _ _⟩
  cases h2 : memOk s
  · rw [memC0 h1] at HM
    rw [memC1 h2] at HS
    go_enter Try.func8, Try.ntmps8
    go_wp2_with (first | (go_at_call 16; refine Calls.mono (HM.out _) ?_; rintro e u1 ⟨rfl, hu1⟩; subst hu1; clear HM) | (go_at_call 16; refine Calls.mono (HS.out _) ?_; rintro e u1 ⟨rfl, hu1⟩; subst hu1))
    go_ret
    exact ⟨ret_int (by simp [plC, h1, h2]), Below.refl _ _⟩
  rw [memC0 h1] at HM
  rw [memC0 h2] at HS
  have b2 : Hid _ := memOk_b2 h2
  have E0 : Hid (∀ c, (zs.length = m.size / 256 ∧ frB (s.size / 256) zs = true ↔ c = (0 : Int)) → (c = 0 ∨ c = 1) → plC m zs s = c) := by
    show ∀ c, _
    intro c hc h01
    unfold plC
    rcases h01 with rfl | rfl
    · rw [if_pos ⟨h1, h2, hc.2 rfl⟩]
    · rw [if_neg (fun h => absurd (hc.1 h.2.2) (by decide))]
  clear h1 h2
  have e3 : ((m.size / 256 : Nat) : Int) = (m.size : Int) / 256 := by omega
  by_cases h3 : (zs.length : Int) = (m.size : Int) / 256
  · have HF : Hid _ := areFrames_any s HR.out hl b2.out.2.1
    have E3 : Hid (zs.length = m.size / 256) := (show zs.length = m.size / 256 by omega)
    have H3 : Hid _ := h3
    clear e3
    cases h4 : frB (s.size / 256) zs
    · rw [h4] at HF
      have E4 : Hid (plC m zs s = 1) := E0.out 1 (by rw [h4]; simp) (Or.inr rfl)
      clear E0 h4
      go_enter Try.func8, Try.ntmps8
      go_wp2_with (first | (go_at_call 16; refine Calls.mono (HM.out _) ?_; rintro e u1 ⟨rfl, hu1⟩; subst hu1; clear HM) | (go_at_call 16; refine Calls.mono (HS.out _) ?_; rintro e u1 ⟨rfl, hu1⟩; subst hu1) | (go_at_call 17; refine Calls.mono HF.out ?_; rintro e u2 ⟨rfl, hu2⟩; have HB : Hid _ := hu2; clear hu2 HF))
      go_ret
      exact ⟨ret_int E4.out.symm, HB.out⟩
    · rw [h4] at HF
      have E4 : Hid (plC m zs s = 0) := E0.out 0 (by rw [h4]; simp [E3.out]) (Or.inl rfl)
      clear E0 h4
      go_enter Try.func8, Try.ntmps8
      go_wp2_with (first | (go_at_call 16; refine Calls.mono (HM.out _) ?_; rintro e u1 ⟨rfl, hu1⟩; subst hu1; clear HM) | (go_at_call 16; refine Calls.mono (HS.out _) ?_; rintro e u1 ⟨rfl, hu1⟩; subst hu1) | (go_at_call 17; refine Calls.mono HF.out ?_; rintro e u2 ⟨rfl, hu2⟩; have HB : Hid _ := hu2; clear hu2 HF))
      go_ret
      exact ⟨ret_int E4.out.symm, HB.out⟩
  · have E4 : Hid (plC m zs s = 1) := E0.out 1 (by constructor; intro h; exfalso; have := h.1; omega; intro h; cases h) (Or.inr rfl)
    clear e3 E0
    go_enter Try.func8, Try.ntmps8
    go_wp2_with (first | (go_at_call 16; refine Calls.mono (HM.out _) ?_; rintro e u1 ⟨rfl, hu1⟩; subst hu1; clear HM) | (go_at_call 16; refine Calls.mono (HS.out _) ?_; rintro e u1 ⟨rfl, hu1⟩; subst hu1))
    go_ret
    exact ⟨ret_int E4.out.symm, Below.refl _ _⟩
set_option maxRecDepth 100000 in
set_option maxHeartbeats 4000000 in
theorem specPlace_any {w : World} {v : Value} {zs : List Int} (m s : ByteArray) (h : Irow w v zs) (hl : zs.length ≤ 1048576) (hm : m.size ≤ 1048576) (hs : s.size ≤ 1048576) :
    Calls Try.prog 6 #[.string m, v, .string s] w fun e w' => e = .returned (.int .i64 (plC m zs s)) ∧ Below w.heap.size w w' := by
  obtain ⟨a1, c1, rfl⟩ := h.sl
  have HR : Hid (Irow w (.slice a1 zs.length c1) zs) := h
  have HM : Hid _ := fun w => specMemFault_any m w (by omega)
  have HS : Hid _ := fun w => specMemFault_any s w (by omega)
  clear h
  by_cases hk : 1000 < zs.length
  · have E4 : Hid (plC m zs s = 1) := by
      show plC m zs s = 1
      unfold plC
      rw [if_neg]
      intro h
      have := (memOk_b2 h.1).2.1
      have := h.2.2.1
      omega
    go_enter Try.func6, Try.ntmps6
    go_wp2
    go_ret
    exact ⟨ret_int E4.out.symm, Below.refl _ _⟩
  cases h1 : memOk m
  · rw [memC1 h1] at HM
    go_enter Try.func6, Try.ntmps6
    go_wp2_with (go_at_call 14; refine Calls.mono (HM.out _) ?_; rintro e u1 ⟨rfl, hu1⟩; subst hu1)
    go_ret
    exact ⟨ret_int (by simp [plC, h1]), Below.refl _ _⟩
  cases h2 : memOk s
  · rw [memC0 h1] at HM
    rw [memC1 h2] at HS
    go_enter Try.func6, Try.ntmps6
    go_wp2_with (first | (go_at_call 14; refine Calls.mono (HM.out _) ?_; rintro e u1 ⟨rfl, hu1⟩; subst hu1; clear HM) | (go_at_call 14; refine Calls.mono (HS.out _) ?_; rintro e u1 ⟨rfl, hu1⟩; subst hu1))
    go_ret
    exact ⟨ret_int (by simp [plC, h1, h2]), Below.refl _ _⟩
  rw [memC0 h1] at HM
  rw [memC0 h2] at HS
  have b2 : Hid _ := memOk_b2 h2
  have E0 : Hid (∀ c, (zs.length = m.size / 256 ∧ frB (s.size / 256) zs = true ↔ c = (0 : Int)) → (c = 0 ∨ c = 1) → plC m zs s = c) := by
    show ∀ c, _
    intro c hc h01
    unfold plC
    rcases h01 with rfl | rfl
    · rw [if_pos ⟨h1, h2, hc.2 rfl⟩]
    · rw [if_neg (fun h => absurd (hc.1 h.2.2) (by decide))]
  clear h1 h2
  have e3 : ((m.size / 256 : Nat) : Int) = (m.size : Int) / 256 := by omega
  by_cases h3 : (zs.length : Int) = (m.size : Int) / 256
  · have HF : Hid _ := specFrames_any s HR.out hl (by omega)
    have E3 : Hid (zs.length = m.size / 256) := (show zs.length = m.size / 256 by omega)
    have H3 : Hid _ := h3
    clear e3
    cases h4 : frB (s.size / 256) zs
    · rw [h4] at HF
      have E4 : Hid (plC m zs s = 1) := E0.out 1 (by rw [h4]; simp) (Or.inr rfl)
      clear E0 h4
      go_enter Try.func6, Try.ntmps6
      go_wp2_with (first | (go_at_call 14; refine Calls.mono (HM.out _) ?_; rintro e u1 ⟨rfl, hu1⟩; subst hu1; clear HM) | (go_at_call 14; refine Calls.mono (HS.out _) ?_; rintro e u1 ⟨rfl, hu1⟩; subst hu1) | (go_at_call 15; refine Calls.mono HF.out ?_; rintro e u2 ⟨rfl, _, hu2⟩; have HB : Hid _ := hu2; clear hu2 HF))
      go_ret
      exact ⟨ret_int E4.out.symm, HB.out⟩
    · rw [h4] at HF
      have E4 : Hid (plC m zs s = 0) := E0.out 0 (by rw [h4]; simp [E3.out]) (Or.inl rfl)
      clear E0 h4
      go_enter Try.func6, Try.ntmps6
      go_wp2_with (first | (go_at_call 14; refine Calls.mono (HM.out _) ?_; rintro e u1 ⟨rfl, hu1⟩; subst hu1; clear HM) | (go_at_call 14; refine Calls.mono (HS.out _) ?_; rintro e u1 ⟨rfl, hu1⟩; subst hu1) | (go_at_call 15; refine Calls.mono HF.out ?_; rintro e u2 ⟨rfl, _, hu2⟩; have HB : Hid _ := hu2; clear hu2 HF))
      go_ret
      exact ⟨ret_int E4.out.symm, HB.out⟩
  · have E4 : Hid (plC m zs s = 1) := E0.out 1 (by constructor; intro h; exfalso; have := h.1; omega; intro h; cases h) (Or.inr rfl)
    clear e3 E0
    go_enter Try.func6, Try.ntmps6
    go_wp2_with (first | (go_at_call 14; refine Calls.mono (HM.out _) ?_; rintro e u1 ⟨rfl, hu1⟩; subst hu1; clear HM) | (go_at_call 14; refine Calls.mono (HS.out _) ?_; rintro e u1 ⟨rfl, hu1⟩; subst hu1))
    go_ret
    exact ⟨ret_int E4.out.symm, Below.refl _ _⟩
end Go.Proofs.Ytjaelkagacmpkab
