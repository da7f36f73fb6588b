import Derived.Test.YtaobbddecmhpnaaJoined
import Derived.Test.YtaobbddecmhpnaaRowS
import Derived.Lib.Repeat
import Derived.Laws.AppendOwn
namespace Go.Proofs.Ytaobbddecmhpnaa
open Go.ChangeShapes Go.WideShapes Go.ChangeAt Go.RowKit

set_option maxRecDepth 100000 in
theorem joined_nil (w : World) : Calls Try.prog 24 #[.slice none 0 0] w fun e w' => e = .returned (.string ⟨#[]⟩) ∧ Below w.heap.size w w' := by
  go_enter Try.func24, Try.ntmps24
  go_wp2
  go_loopw [3, 8] (fun v i wr => v = .slice none 0 0 ∧ i = .int .i64 0 ∧ wr = w) (fun _ _ _ => 0)
  case atStart => exact ⟨rfl, rfl, rfl⟩
  case round =>
    obtain ⟨rfl, rfl, rfl⟩ := hrel
    have hcv := conv_own wr 0 _ 0 [] (World.ownsRow_nil _ _ _ _)
    go_wp2
    go_ret
    exact ⟨rfl, Below.refl _ _⟩
theorem joined_row {w : World} {v : Value} {B : Nat} {ps : List ByteArray} (h : w.ownsRow B 9 1 v ps.length (sR ps)) (hn : ps.length ≤ 1000) (hsz : (catB ps).length ≤ 1099511627776) :
    Calls Try.prog 24 #[v] w fun e w' => e = .returned (.string (⟨(catB ps).toArray⟩)) ∧ Below w.heap.size w w' := by
  rcases h.2 with ⟨hv, e⟩ | ⟨g, cap, cur, hv, h1, h2, _⟩
  · subst hv
    have : ps = [] := List.eq_nil_of_length_eq_zero e
    subst this
    exact joined_nil w
  · subst hv
    refine joined_any g ps.length cap ps w rfl (Array.getElem?_eq_some_iff.1 h2).1 (fun i hi => ?_) hn hsz
    rw [h.cellAt i (by omega)]
    simp [sR, List.getElem?_eq_getElem hi]
/-- Bytes 0. -/
def zerL (M : Nat) : List UInt8 := List.replicate M 0
theorem rep_zerL : ∀ M : Nat, Lib.repeatL [0] M = zerL M
  | 0 => rfl
  | M + 1 => by
    rw [Lib.repeatL, rep_zerL M]
    rfl
/-- A cluster of bytes 0. -/
def z16 : ByteArray := ⟨(zerL 16).toArray⟩
end Go.Proofs.Ytaobbddecmhpnaa
