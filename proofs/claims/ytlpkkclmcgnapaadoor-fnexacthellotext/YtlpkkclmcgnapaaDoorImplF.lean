import Derived.Test.YtlpkkclmcgnapaaDoorFieldsS
import Derived.Test.YtlpkkclmcgnapaaDoorNums2
namespace Go.Proofs.YtlpkkclmcgnapaaDoor
open Go.ChangeShapes Go.WideShapes Go.ChangeAt Go.RowKit

theorem lowBits_any (b : Int) (w : World) (h0 : 0 ≤ b) (h1 : b ≤ 32) :
    Calls Tryd.prog 57 #[.int .i64 b] w fun e w' => e = .returned (.int .i64 (2 ^ b.toNat - 1)) ∧ w' = w := by
  obtain ⟨p1, p2⟩ := pow_b b h0 h1
  go_enter Tryd.func57, Tryd.ntmps57
  go_wp2
  go_ret
  exact ⟨rfl, rfl⟩

def wfl (n f b v : Int) : Int := n % 4294967296 - n % 4294967296 / 2 ^ f.toNat % 2 ^ b.toNat * 2 ^ f.toNat + v % 2 ^ b.toNat * 2 ^ f.toNat

end Go.Proofs.YtlpkkclmcgnapaaDoor
