import Derived.Test.YtalpcjclahkgnaaGreatCkZ
import Derived.Test.YtalpcjclahkgnaaGreatRowS
import Derived.Laws.AppendOwn
namespace Go.Proofs.YtalpcjclahkgnaaGreat
open Go.ChangeShapes Go.WideShapes Go.ChangeAt Go.RowKit

set_option maxRecDepth 100000
theorem infoStr : (Tryz.prog.info? 9).map (fun i => (i.zero, i.size, i.bytes)) = some (some (.string ⟨#[]⟩), 1, 16) := by kernel_rfl
/-- One text more. -/
theorem app1S {w : World} {B n : Nat} {v : Value} {xs : List Value} (H0 : w.ownsRow B 9 1 v n xs) (x : ByteArray) (hn : n ≤ 1048576) (hB : B ≤ w.heap.size) :
    ∃ v' u', (Builtin.append_ #[51, 51] 51 #[v, .slice (some ⟨w.heap.size, 0, none⟩) 1 1]).run Tryz.prog (w.alloc (.cells #[.string x] 9)) = .ok v' u' ∧ (u'.ownsRow B 9 1 v' (n + 1) (xs ++ [.string x]) ∧ (w.alloc (.cells #[.string x] 9)).grownBy u' v.ownBlock) := by
  obtain ⟨i0, hi0, hz0, hz1, hz2⟩ := info_parts infoStr
  obtain ⟨v', w', hr, h2, h3, _, _⟩ := run_append_own_at (P := Tryz.prog) (w.alloc (.cells #[.string x] 9)) B 51 51 9 i0 (.string ⟨#[]⟩) 1 16 Tryz.underlying51 hi0 hz0 hz1 hz2 rfl (by decide) v n xs (World.ownsRow.alloc H0 _) ⟨w.heap.size, 0, none⟩ 1 1 [.string x] rfl (by
    intro j u hj
    match j, hj with
    | 0, hj =>
      simp at hj
      subst hj
      simp [Addr.add_lit]) (by intro u hu; simp at hu; subst hu; rfl) (by unfold maxLen; omega) (by omega) (by simp; omega)
  exact ⟨v', w', hr, h2, h3⟩
theorem sR_snoc (xs : List ByteArray) (x : ByteArray) : sR (xs ++ [x]) = sR xs ++ [.string x] := by simp [sR]
theorem s_slS {w : World} {B n : Nat} {v : Value} {xs : List Value} (h : w.ownsRow B 9 1 v n xs) : ∃ ao cap, v = .slice ao n cap := by
  rcases h.2 with ⟨rfl, e⟩ | ⟨g, cap, cur, rfl, _⟩
  · exact ⟨none, 0, by rw [e]⟩
  · exact ⟨_, cap, rfl⟩
end Go.Proofs.YtalpcjclahkgnaaGreat
