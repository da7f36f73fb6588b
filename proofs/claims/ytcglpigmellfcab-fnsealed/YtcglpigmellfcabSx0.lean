import Derived.Test.YtcglpigmellfcabSg6
import Derived.Test.YtcglpigmellfcabFc1
namespace Go.Proofs.Ytcglpigmellfcab
open Go.ChangeShapes Go.WideShapes Go.ChangeAt Go.RowKit

theorem kyK_same {root : ByteArray} {zs ys : List Int} {m : Int} : ∀ k, (∀ j, j < k → mkT m j = true → ys.getD j 0 = zs.getD j 0) → kyK root ys m k = kyK root zs m k
  | 0, _ => rfl
  | k + 1, h => by
    have ih := kyK_same (root := root) (zs := zs) (ys := ys) (m := m) k (fun j hj => h j (by omega))
    rw [kyK, kyK, ih]
    split
    · rename_i hm
      rw [h k (by omega) hm]
    · rfl
/-- What was sealed is unsealed under registers that say the same where the mask asks. -/
theorem un_seal {root : ByteArray} {zs ys : List Int} {m : Int} {d : ByteArray} (h : scC root zs m d = 0) (hl : ys.length = zs.length) (hr : rgB ys = true) (hs : ∀ k, k < zs.length → mkT m k = true → ys.getD k 0 = zs.getD k 0) :
    unV root ys (seV root zs m d) = ⟨0, d⟩ := by
  obtain ⟨h1, h2, h3, h4, h5, h6, h7, h8, h9⟩ := scC_ok h
  have e1 : seV root zs m d = ⟨0, m, crV (kyK root zs m zs.length) 1 d, tagV (kyK root zs m zs.length) (crV (kyK root zs m zs.length) 1 d)⟩ := by
    unfold seV
    rw [if_pos h]
  have e2 : kyK root ys m ys.length = kyK root zs m zs.length := by
    rw [hl]
    exact kyK_same _ hs
  rw [e1]
  generalize hk : kyK root zs m zs.length = ky at *
  have e3 : mkB ys m = true := by
    simp only [mkB, Bool.and_eq_true, decide_eq_true_eq]
    exact ⟨⟨hr, h5⟩, by rw [hl]; exact h6⟩
  have e4 : szC root ys (crV ky 1 d) = false := by
    obtain ⟨a1, a2, a3⟩ := szC_no h9
    have a4 : ovB (crV ky 1 d) = ovB d := by unfold ovB; rw [crV_size]
    unfold szC
    rw [a1, hl, a2, a4, a3]
    rfl
  have e5 : scC root ys m (crV ky 1 d) = 0 := by
    unfold scC
    rw [e4, e3]
    rfl
  have e6 : unC root ys ⟨0, m, crV ky 1 d, tagV ky (crV ky 1 d)⟩ = 0 := by
    unfold unC
    simp only
    rw [if_neg (by simp), e5]
  unfold unV
  rw [if_pos e6]
  simp only
  rw [e2, crV_twice]
  simp
end Go.Proofs.Ytcglpigmellfcab
