import Derived.Test.YtjaelkagacmpkabFrM
namespace Go.Proofs.Ytjaelkagacmpkab
open Go.ChangeShapes Go.WideShapes Go.ChangeAt Go.RowKit

theorem nodup_len : ∀ (n : Nat) (l : List Nat), l.Nodup → (∀ x ∈ l, x < n) → l.length ≤ n
  | 0, l, _, h => by
    cases l with
    | nil => exact Nat.le_refl _
    | cons a l => exact absurd (h a (by simp)) (Nat.not_lt_zero _)
  | n + 1, l, hn, h => by
    have h1 := nodup_len n (l.erase n) (hn.erase n) (fun x hx => by
      have h2 := (List.Nodup.mem_erase_iff hn).1 hx
      have h3 := h x h2.2
      have h4 := h2.1
      omega)
    rw [List.length_erase] at h1
    split at h1 <;> omega
/-- Unlike frames of at most 256 are at most 256. -/
theorem FrOk.len {n : Nat} {zs : List Int} (h : FrOk n zs) : zs.length ≤ n := by
  have hp : zs.Pairwise (fun a b => a ≠ b) := by
    rw [List.pairwise_iff_getElem]
    intro i j hi hj hij e
    apply (h j hj).2
    rw [← e]
    exact List.mem_take_iff_getElem.2 ⟨i, by omega, rfl⟩
  have hnd : (zs.map Int.toNat).Nodup := by
    rw [List.Nodup, List.pairwise_map]
    refine hp.imp_of_mem fun {a b} ha hb hab => ?_
    obtain ⟨i, hi, rfl⟩ := List.getElem_of_mem ha
    obtain ⟨j, hj, rfl⟩ := List.getElem_of_mem hb
    have h1 := h.at hi
    have h2 := h.at hj
    omega
  have hsub : (zs.map Int.toNat) ⊆ List.range n := by
    intro x hx
    obtain ⟨z, hz, rfl⟩ := List.mem_map.1 hx
    obtain ⟨i, hi, rfl⟩ := List.getElem_of_mem hz
    have h1 := h.at hi
    exact List.mem_range.2 (by omega)
  have := nodup_len n _ hnd (fun x hx => List.mem_range.1 (hsub hx))
  simpa using this
/-- What TakeMemory may take. -/
noncomputable def tkB (zs : List Int) (s : ByteArray) : Bool := memOk s && decide (zs.length ≠ 0) && frB (s.size / 256) zs
noncomputable def tkV (zs : List Int) (s : ByteArray) : ByteArray := if tkB zs s = true then takN zs s zs.length else ⟨#[]⟩
end Go.Proofs.Ytjaelkagacmpkab
