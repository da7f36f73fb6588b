import Derived.Test.YtegcbghhcidcaaaDoorCr1
import Derived.Test.YtegcbghhcidcaaaDoorSrc2
namespace Go.Proofs.YtegcbghhcidcaaaDoor
open Go.ChangeShapes Go.WideShapes Go.ChangeAt Go.RowKit

set_option maxRecDepth 100000 in
set_option maxHeartbeats 4000000 in
theorem lwAt_any (a : Option Addr) (len cap i : Nat) (w : World) (hi : i ≤ 1) (hl : len ≤ 1048576) {B : Nat} (hc : CodeAt w B a len) : Calls Tryd.prog 6 #[.slice a len cap, .int .i64 (i : Int), .int .i64 256] w fun e w' => ∃ r : Int, e = .returned (.int .i64 r) ∧ 0 ≤ r ∧ r < 256 ∧ w' = w := by
  by_cases h0 : len = 0
  · subst h0
    go_enter Tryd.func6, Tryd.ntmps6
    go_wp2
    go_ret
    exact ⟨0, rfl, by omega, by omega, rfl⟩
  · rcases hc with hc0 | ⟨cb, co, rfl, hcb, hcc⟩
    · exact absurd hc0 h0
    · have hm : i % len < len := Nat.mod_lt _ (by omega)
      obtain ⟨x, hx0, hx1, hx⟩ := hcc (i % len) hm
      have hrem : ((i : Int)).tmod (len : Int) = ((i % len : Nat) : Int) := by
        rw [Int.tmod_eq_emod_of_nonneg (by omega)]
        omega
      generalize i % len = R at *
      have l1 : ¬ (len : Int) = 0 := by omega
      have l2 : (0 : Int) ≤ (R : Int) := by omega
      have l3 : (R : Int) < (len : Int) := by omega
      have l4 : x.tmod 256 = x := by rw [Int.tmod_eq_emod_of_nonneg hx0]; omega
      clear hcc
      go_enter Tryd.func6, Tryd.ntmps6
      go_wp2
      go_ret
      exact ⟨x, rfl, by omega, by omega, rfl⟩
end Go.Proofs.YtegcbghhcidcaaaDoor
