import Derived.Test.YtmmodmanfoipiaaDoorRows
import Derived.Test.YtmmodmanfoipiaaDoorPlain
namespace Go.Proofs.YtmmodmanfoipiaaDoor
open Go.ChangeShapes Go.WideShapes Go.ChangeAt Go.RowKit

theorem l01Mod_any (n m : Int) (w : World) (hm : 0 < m) (hM : m ≤ 9223372036854775807) :
    Calls Tryd.prog 42 #[.int .i64 n, .int .i64 m] w fun e w' => e = .returned (.int .i64 (n % m)) ∧ w' = w := by
  by_cases h : n.tmod m < 0
  · have e := tmod_neg n m hm h
    have h2 := Int.emod_nonneg n (by omega : m ≠ 0)
    have h3 := Int.emod_lt_of_pos n hm
    have E : Hid (n.tmod m + m = n % m) := e
    have g1 : 0 ≤ n.tmod m + m := by omega
    have g2 : n.tmod m + m < m := by omega
    clear e h2 h3
    go_enter Tryd.func42, Tryd.ntmps42
    go_wp2
    go_ret
    exact ⟨ret_int E.out, rfl⟩
  · have E : Hid (n.tmod m = n % m) := tmod_pos n m hm (by omega)
    go_enter Tryd.func42, Tryd.ntmps42
    go_wp2
    go_ret
    exact ⟨ret_int E.out, rfl⟩

end Go.Proofs.YtmmodmanfoipiaaDoor
