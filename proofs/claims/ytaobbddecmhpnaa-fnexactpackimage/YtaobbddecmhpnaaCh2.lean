import Derived.Test.YtaobbddecmhpnaaCh1
namespace Go.Proofs.Ytaobbddecmhpnaa
open Go.ChangeShapes Go.WideShapes Go.ChangeAt Go.RowKit

set_option maxRecDepth 100000
theorem ba_empty {s : ByteArray} (h : s.size = 0) : s = ⟨#[]⟩ := ext_ba (List.length_eq_zero_iff.1 (by simpa using h))
theorem ba_ne {s : ByteArray} (h : ¬ s.size = 0) : s.toList.isEmpty = false ∧ ¬ s.toList = [] := by
  have hie : s.toList.isEmpty = false := by
    rw [ByteArray.toList_eq]
    cases hh : s.data.toList with
    | nil => exact absurd (show s.size = 0 by rw [show s = ⟨#[]⟩ from ext_ba hh]; rfl) h
    | cons => rfl
  exact ⟨hie, fun h => by rw [h] at hie; cases hie⟩
theorem ceI_empty {ms : List IM} {f j : Nat} (h : (bkO ms j).size = 0) : ceI ms (f + 1) j = true := by unfold ceI; rw [if_pos h]
theorem ceI_none {ms : List IM} {f j : Nat} (h : ¬ (bkO ms j).size = 0) (hn : fdN ms (bkO ms j) = none) : ceI ms (f + 1) j = false := by unfold ceI; rw [if_neg h, hn]
theorem ceI_some {ms : List IM} {f j k : Nat} (h : ¬ (bkO ms j).size = 0) (hn : fdN ms (bkO ms j) = some k) : ceI ms (f + 1) j = ceI ms f k := by
  conv => lhs; unfold ceI
  rw [if_neg h, hn]
/-- The box of an image under way. -/
structure CB (w u : World) (ms : List IM) (c : Nat) : Prop where
  bel : Below w.heap.size w u
  box : ∃ n x2 x3 x4 a2 a3 a4 k2 k3 k4, u.heap[w.heap.size]? = some (.cells #[.string n, .string (bkO ms c), .slice a2 x2 k2, .slice a3 x3 k3, .slice a4 x4 k4] 31 (0, 0))
end Go.Proofs.Ytaobbddecmhpnaa
