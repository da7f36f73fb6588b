import Derived.Test.YtmmodmanfoipiaaDoorRowI
import Derived.Deep.RegionWith
namespace Go.Proofs.YtmmodmanfoipiaaDoor
open Go.ChangeShapes Go.WideShapes Go.ChangeAt Go.RowKit

/-- The number of the first that is so, or -1. -/
def ixI (p : Int → Bool) (zs : List Int) : Int := match zs.findIdx? p with | some k => (k : Int) | none => -1
theorem ixI_at {p : Int → Bool} {zs : List Int} {k : Nat} (hk : k < zs.length) (h : p zs[k] = true) (hn : ∀ j (hj : j < k), p (zs[j]'(Nat.lt_trans hj hk)) = false) : ixI p zs = k := by
  have : zs.findIdx? p = some k := List.findIdx?_eq_some_iff_getElem.2 ⟨hk, h, fun j hj => by rw [hn j hj]; decide⟩
  simp [ixI, this]
theorem ixI_none {p : Int → Bool} {zs : List Int} (hn : ∀ j (hj : j < zs.length), p zs[j] = false) : ixI p zs = -1 := by
  have : zs.findIdx? p = none := List.findIdx?_eq_none_iff.2 fun x hx => by
    obtain ⟨j, hj, rfl⟩ := List.getElem_of_mem hx
    exact hn j hj
  simp [ixI, this]
theorem ixI_any (p : Int → Bool) (zs : List Int) : decide (0 ≤ ixI p zs) = zs.any p := by
  unfold ixI
  cases hq : zs.findIdx? p with
  | none =>
    have h2 : zs.any p = false := List.any_eq_false.2 fun x hx => by
      have := List.findIdx?_eq_none_iff.1 hq x hx
      simpa using this
    rw [h2]
    rfl
  | some k =>
    obtain ⟨hk, hp, _⟩ := List.findIdx?_eq_some_iff_getElem.1 hq
    have h2 : zs.any p = true := List.any_eq_true.2 ⟨zs[k], List.getElem_mem hk, hp⟩
    rw [h2]
    simp only [decide_eq_true_eq]
    omega
end Go.Proofs.YtmmodmanfoipiaaDoor
