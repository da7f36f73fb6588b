import Derived.Test.YtaobbddecmhpnaaCh2
namespace Go.Proofs.Ytaobbddecmhpnaa
open Go.ChangeShapes Go.WideShapes Go.ChangeAt Go.RowKit

set_option maxRecDepth 100000
/-- What is asked of each image of a list. -/
structure C1 (ms : List IM) (k : Nat) (hk : k < ms.length) : Prop where
  r : imB ms[k] = true
  f : fdI ms ms[k].n = k
  e : ceI ms ms.length k = true
def c1B (ms : List IM) (k : Nat) (hk : k < ms.length) : Bool := imB ms[k] && decide (fdI ms ms[k].n = k) && ceI ms ms.length k
def chB (ms : List IM) : Bool := decide (ms.length ≤ 12 ∧ ∀ k (hk : k < ms.length), c1B ms k hk = true)
theorem chB_no {ms : List IM} {k : Nat} (hk : k < ms.length) (h : c1B ms k hk = false) : chB ms = false := decide_eq_false (fun h2 => by rw [h2.2 k hk] at h; cases h)
theorem fd_self {ms : List IM} {k : Nat} (hk : k < ms.length) : ∃ j : Nat, fdI ms ms[k].n = j ∧ j ≤ k := by
  cases hq : fdN ms ms[k].n with
  | none =>
    have := List.findIdx?_eq_none_iff.1 hq ms[k].n (List.mem_map.2 ⟨ms[k], List.getElem_mem hk, rfl⟩)
    simp at this
  | some j =>
    refine ⟨j, by unfold fdI; rw [hq], ?_⟩
    obtain ⟨hj, _, hb⟩ := List.findIdx?_eq_some_iff_getElem.1 hq
    rcases Nat.lt_or_ge k j with h | h
    · have := hb k h
      simp at this
    · exact h
theorem PBnew {u : World} {m : IM} {a : IA} (x : IRows u m a) : PB (u.alloc (.cells #[.string m.n, .string m.b, a.vt, a.vd, a.vs] 31)) u.heap.size m a := by
  obtain ⟨c0, c1, c2, c3, c4, _⟩ := cel5 (heap_new u (.cells #[.string m.n, .string m.b, a.vt, a.vd, a.vs] 31))
  exact ⟨by simp, c0, c1, c2, c3, c4, x.below ((Below.refl _ _).alloc (Nat.le_refl _) _)⟩
end Go.Proofs.Ytaobbddecmhpnaa
