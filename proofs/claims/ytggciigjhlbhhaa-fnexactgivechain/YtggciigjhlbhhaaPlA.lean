import Derived.Test.YtggciigjhlbhhaaRowI
import Derived.Deep.RegionWith
namespace Go.Proofs.Ytggciigjhlbhhaa
open Go.ChangeShapes Go.WideShapes Go.ChangeAt Go.RowKit

/-- A frame's number that is in a memory of n frames. -/
def inN (n : Nat) (x : Int) : Bool := decide (0 ≤ x) && decide (x < (n : Int))
set_option maxRecDepth 100000 in
set_option maxHeartbeats 4000000 in
theorem inInts_any {w : World} {v : Value} {zs : List Int} (x : Int) (h : Irow w v zs) (hl : zs.length ≤ 1048576) :
    Calls Try.prog 43 #[v, .int .i64 x] w fun e w' => e = .returned (.bool (decide (x ∈ zs))) ∧ w' = w := by
  obtain ⟨a1, c1, rfl⟩ := h.sl
  have HR : Hid (Irow w (.slice a1 zs.length c1) zs) := h
  clear h
  go_enter Try.func43, Try.ntmps43
  go_wp2
  go_loopw [5] (fun i w5 => ∃ k : Nat, k ≤ zs.length ∧ i = .int .i64 k ∧ w5 = w ∧ Hid (x ∉ zs.take k)) (fun i _ => zs.length - (intOf i).toNat)
  case atStart => exact ⟨0, Nat.zero_le _, rfl, rfl, show x ∉ zs.take 0 by simp⟩
  case round =>
    obtain ⟨k, hk, rfl, rfl, hx⟩ := hrel
    by_cases hlt : k < zs.length
    · obtain ⟨g, o, cap2, hv, _, hg, hc⟩ := HR.out.resolve_left (fun h => by rw [h.1] at hlt; simp at hlt)
      injection hv with hv1 hv2 hv3
      subst hv1 hv3
      have d1 := hc k hlt
      have ht : Hid (zs.take (k + 1) = zs.take k ++ [zs[k]]) := (show zs.take (k + 1) = zs.take k ++ [zs[k]] by rw [List.take_succ_eq_append_getElem hlt])
      have hm : Hid (zs[k] ∈ zs) := (show zs[k] ∈ zs from List.getElem_mem hlt)
      clear hc
      generalize zs[k] = z at *
      have hk0 : (0 : Int) ≤ (k : Int) := by omega
      have hk1 : (k : Int) < (zs.length : Int) := by omega
      by_cases hz : z = x
      · subst hz
        go_wp2
        go_ret
        exact ⟨ret_bool (by simp [hm.out]), rfl⟩
      · go_wp2
        go_roundw
        case rel => exact ⟨k + 1, hlt, by go_num, by first | rfl | trivial, show x ∉ zs.take (k + 1) by rw [ht.out]; simp [hx.out]; exact fun e => hz e.symm⟩
        case measure => simp [intOf]; omega
    · obtain rfl : k = zs.length := by omega
      have hx2 : Hid (x ∉ zs) := (show x ∉ zs by have := hx.out; rwa [List.take_length] at this)
      go_wp2
      go_ret
      exact ⟨ret_bool (by simp [hx2.out]), rfl⟩
/-- Frames that are unlike, and all in a memory of n frames. -/
def FrOk (n : Nat) (zs : List Int) : Prop := ∀ (k : Nat) (hk : k < zs.length), inN n zs[k] = true ∧ zs[k] ∉ zs.take k
open Classical in
noncomputable def frB (n : Nat) (zs : List Int) : Bool := decide (FrOk n zs)
theorem frB_true {n : Nat} {zs : List Int} (h : FrOk n zs) : frB n zs = true := by unfold frB; exact @decide_eq_true _ (Classical.propDecidable _) h
theorem frB_false {n : Nat} {zs : List Int} (h : ¬ FrOk n zs) : frB n zs = false := by unfold frB; exact @decide_eq_false _ (Classical.propDecidable _) h
theorem frB_iff {n : Nat} {zs : List Int} : frB n zs = true ↔ FrOk n zs := by
  unfold frB
  exact @decide_eq_true_iff _ (Classical.propDecidable _)
/-- So far they are right. -/
def FrTo (n : Nat) (zs : List Int) (j : Nat) : Prop := ∀ (k : Nat) (hk : k < zs.length), k < j → inN n zs[k] = true ∧ zs[k] ∉ zs.take k
theorem FrTo.all {n : Nat} {zs : List Int} (h : FrTo n zs zs.length) : FrOk n zs := fun k hk => h k hk hk
theorem FrTo.next {n : Nat} {zs : List Int} {j : Nat} (h : FrTo n zs j) (hj : j < zs.length) (h1 : inN n zs[j] = true) (h2 : zs[j] ∉ zs.take j) : FrTo n zs (j + 1) := by
  intro k hk hkj
  by_cases e : k = j
  · subst e
    exact ⟨h1, h2⟩
  · exact h k hk (by omega)
theorem Irow.pre {w : World} {ao : Option Addr} {cap : Nat} {zs : List Int} {k : Nat} (h : Irow w (.slice ao zs.length cap) zs) (hk : k ≤ zs.length) : Irow w (.slice ao k cap) (zs.take k) := by
  have hl : (zs.take k).length = k := by rw [List.length_take]; omega
  rcases h with ⟨rfl, ao', cap', hv⟩ | ⟨g, o, cap', hv, hc, hg, ha⟩
  · injection hv with e1 e2 e3
    subst e1 e3
    obtain rfl : k = 0 := by simpa using hk
    exact .inl ⟨rfl, _, _, rfl⟩
  · injection hv with e1 e2 e3
    subst e1 e3
    refine .inr ⟨g, o, cap, by rw [hl], by omega, hg, fun j hj => ?_⟩
    rw [ha j (by omega), List.getElem_take]
end Go.Proofs.Ytggciigjhlbhhaa
