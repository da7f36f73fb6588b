import Derived.Test.YtomfbiiegcmmlabMh7
import Derived.BigQuiet
namespace Go.Proofs.Ytomfbiiegcmmlab
open Go.ChangeShapes Go.WideShapes Go.ChangeAt Go.RowKit

set_option maxRecDepth 100000
theorem ext_ba {a b : ByteArray} (h : a.data.toList = b.data.toList) : a = b := ByteArray.ext (Array.toList_inj.1 h)
theorem ba_empty {s : ByteArray} (h : s.size = 0) : s = ⟨#[]⟩ := ext_ba (List.length_eq_zero_iff.1 (by simpa using h))
theorem ba_ne {s : ByteArray} (h : ¬ s.size = 0) : s.toList.isEmpty = false ∧ ¬ s.toList = [] := by
  have hie : s.toList.isEmpty = false := by
    rw [ByteArray.toList_eq]
    cases hh : s.data.toList with
    | nil => exact absurd (show s.size = 0 by rw [show s = ⟨#[]⟩ from ext_ba hh]; rfl) h
    | cons => rfl
  exact ⟨hie, fun h => by rw [h] at hie; cases hie⟩
/-- A text of a cell: none, or of the cell's size. -/
def stB (z : ByteArray) : Bool := decide (z.size = 0 ∨ z.size = 16)
def mtB (l : List ByteArray) : Bool := decide (l.length ≤ 64) && l.all stB
theorem all_up {α : Type} {l : List α} {p : α → Bool} {k : Nat} (hk : k < l.length) (ha : ∀ j (hj : j < l.length), j < k → p l[j] = true) (h : p l[k] = true) : ∀ j (hj : j < l.length), j < k + 1 → p l[j] = true := by
  intro j hj hl
  by_cases e : j = k
  · subst e
    exact h
  · exact ha j hj (by omega)
theorem all_yes {α : Type} {l : List α} {p : α → Bool} (ha : ∀ j (hj : j < l.length), p l[j] = true) : l.all p = true := by
  rw [List.all_eq_true]
  intro x hx
  obtain ⟨k, hk, rfl⟩ := List.getElem_of_mem hx
  exact ha k hk
theorem all_no {α : Type} {l : List α} {p : α → Bool} {k : Nat} (hk : k < l.length) (h : p l[k] = false) : l.all p = false := by
  cases e : l.all p with
  | false => rfl
  | true =>
    rw [List.all_eq_true] at e
    rw [e _ (List.getElem_mem hk)] at h
    cases h
set_option maxHeartbeats 4000000 in
theorem l12Texts_any {w : World} {v : Value} {zs : List ByteArray} (h : Srow w v zs) (hl : zs.length ≤ 1048576) : Calls Try.prog 65 #[v] w fun e w' => e = .returned (.bool (mtB zs)) ∧ w' = w := by
  obtain ⟨ao, cap, rfl⟩ := h.sl
  have HR : Hid (Srow w (.slice ao zs.length cap) zs) := h
  clear h
  by_cases h64 : 64 < zs.length
  · have hz : (64 : Int) < (zs.length : Int) := by omega
    have HN : Hid (mtB zs = false) := (show mtB zs = false by unfold mtB; rw [decide_eq_false (by omega)]; rfl)
    go_enter Try.func65, Try.ntmps65
    go_wp2
    go_ret
    exact ⟨ret_bool HN.out.symm, rfl⟩
  · have hz : ¬ (64 : Int) < (zs.length : Int) := by omega
    have HNO : Hid (∀ k (hk : k < zs.length), stB zs[k] = false → mtB zs = false) := fun k hk hs => (by unfold mtB; rw [all_no hk hs, Bool.and_false])
    have HYE : Hid ((∀ j (hj : j < zs.length), stB zs[j] = true) → mtB zs = true) := fun hs => (by unfold mtB; rw [all_yes hs, decide_eq_true (by omega)]; rfl)
    obtain ⟨G, hG⟩ : ∃ G, mtB zs = G := ⟨_, rfl⟩
    rw [hG] at HNO HYE ⊢
    clear hG
    go_enter Try.func65, Try.ntmps65
    go_wp2
    go_loopw [3] (fun i wr => ∃ k : Nat, k ≤ zs.length ∧ i = .int .i64 k ∧ (∀ j (hj : j < zs.length), j < k → stB zs[j] = true) ∧ wr = w) (fun i _ => zs.length - (intOf i).toNat)
    case atStart => exact ⟨0, Nat.zero_le _, rfl, fun j _ h => absurd h (Nat.not_lt_zero _), rfl⟩
    case round =>
      obtain ⟨k, hk, rfl, hal, rfl⟩ := hrel
      have HA : Hid (∀ j (hj : j < zs.length), j < k → stB zs[j] = true) := hal
      clear hal
      by_cases hlt : k < zs.length
      · obtain ⟨g, o, cap2, hv, _, hg, hc⟩ := HR.out.resolve_left (fun h => by rw [h.1] at hlt; simp at hlt)
        injection hv with hv1 hv2 hv3
        subst hv1 hv3
        have d0 := hc k hlt
        have HX : Hid _ := HNO.out k hlt
        have HX2 : Hid (stB zs[k] = true → ∀ j (hj : j < zs.length), j < k + 1 → stB zs[j] = true) := fun h => all_up hlt HA.out h
        generalize zs[k] = y at *
        have hk0 : (0 : Int) ≤ (k : Int) := by omega
        have hk1 : (k : Int) < (zs.length : Int) := by omega
        clear hc hv2 h64
        by_cases y0 : y.size = 0
        · have HG2 : Hid _ := HX2.out (by unfold stB; exact decide_eq_true (.inl y0))
          have ye := ba_empty y0
          clear y0 HX HX2
          subst ye
          go_wp2
          exact ⟨⟨k + 1, hlt, by simp, HG2.out, trivial⟩, by simp [intOf]; omega⟩
        · obtain ⟨yi, yn⟩ := ba_ne y0
          by_cases y16 : y.size = 16
          · have HG2 : Hid _ := HX2.out (by unfold stB; exact decide_eq_true (.inr y16))
            clear y0 HX HX2
            have ys : ((y.size : Nat) : Int) = 16 := by omega
            clear y16
            go_wp2
            exact ⟨⟨k + 1, hlt, by simp, HG2.out, trivial⟩, by simp [intOf]; omega⟩
          · have HG2 : Hid _ := HX.out (by unfold stB; exact decide_eq_false (by omega))
            have ys : ¬ ((y.size : Nat) : Int) = 16 := by omega
            clear y0 y16 HX HX2
            go_wp2
            go_ret
            exact ⟨ret_bool HG2.out.symm, rfl⟩
      · obtain rfl : k = zs.length := by omega
        have hg := HYE.out (fun j hj => HA.out j hj hj)
        clear h64
        go_wp2
        go_ret
        exact ⟨ret_bool hg.symm, rfl⟩
end Go.Proofs.Ytomfbiiegcmmlab
