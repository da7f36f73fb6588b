import Derived.Test.YtdlodflinibaoaaApZ
import Derived.Test.YtdlodflinibaoaaPMem4
namespace Go.Proofs.Ytdlodflinibaoaa
open Go.ChangeShapes Go.WideShapes Go.ChangeAt Go.RowKit

theorem own_conv {w : World} {B : Nat} {v : Value} {L : List UInt8} (h : w.ownsRow B 5 1 v L.length (cells8 L)) : Sem.run Try.prog (convert 47 9 v) w = .ok (.string (tx L)) w := by
  rcases h.2 with ⟨rfl, e⟩ | ⟨g, cap, cur, rfl, hB, hg, rest⟩
  · have e2 : L = [] := List.length_eq_zero_iff.1 e
    subst e2
    have h9 : Sem.run Try.prog (convert 47 9 (.slice none 0 0)) w = .ok (.string ⟨#[]⟩) w := by
      first | kernel_rfl | rfl | (go_simp; done) | simp [convert, go_sem]
    exact h9
  · have h2 : w.ownsRow B 5 1 (.slice (some ⟨g, 0, none⟩) L.length cap) L.length (cells8 L) := h
    refine run_convert_bytes_back (P := Try.prog) w 47 9 5 ⟨g, 0, none⟩ cap L Try.underlying47 Try.underlying5 Try.underlying9 ?_
    intro j hj
    exact h2.cells (g := g) rfl j _ (by simp [cells8, List.getElem?_eq_getElem hj])
end Go.Proofs.Ytdlodflinibaoaa
