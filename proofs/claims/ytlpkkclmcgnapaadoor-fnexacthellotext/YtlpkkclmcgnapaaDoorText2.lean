import Derived.Test.YtlpkkclmcgnapaaDoorText
namespace Go.Proofs.YtlpkkclmcgnapaaDoor
open Go.ChangeShapes Go.WideShapes Go.ChangeAt Go.RowKit

theorem own_slice {w : World} {base : Nat} {e : TypeId} {size : Nat} {v : Value} {n : Nat} {xs : List Value} (h : w.ownsRow base e size v n xs) : ∃ q cap, v = .slice q n cap := by
  rcases h.2 with ⟨hv, h0⟩ | ⟨g, cap, cur, hv, _⟩
  · exact ⟨none, 0, by rw [hv, h0]⟩
  · exact ⟨_, cap, hv⟩
theorem strs_opsL (f : ByteArray) (a b c imm : Int) (n j : Nat) (h : j < n) : (strs (opsL f a b c imm n))[j]? = some (.string (opS f a b c imm j)) := by
  simp [strs, opsL, h]

theorem app2_size (X Y : ByteArray) (h : X.size ≤ 6 + 3 * (1048576 + 2)) (h2 : Y.size ≤ 2) : (X ++ Y).size ≤ 5000000 := by
  rw [ByteArray.size_append]
  omega

end Go.Proofs.YtlpkkclmcgnapaaDoor
