import Derived.Test.YtlpkkclmcgnapaaDoorOpsOfA
import Derived.Test.YtlpkkclmcgnapaaDoorOpsOfB
import Derived.Test.YtlpkkclmcgnapaaDoorOpsOfC
namespace Go.Proofs.YtlpkkclmcgnapaaDoor
open Go.ChangeShapes Go.WideShapes Go.ChangeAt Go.RowKit

theorem oL_out (op : Int) (h : op < 1 ∨ 54 < op) : opsOf op = [] := by
  unfold opsOf kd
  rw [if_pos (nm_out op h)]
  rfl
set_option maxRecDepth 100000 in
set_option maxHeartbeats 4000000 in
theorem operandsOf_any (op : Int) (w : World) (h0 : -9223372036854775808 ≤ op) (h1 : op ≤ 9223372036854775807) : OpR op w := by
  by_cases hlo : op < 1
  · unfold OpR
    rw [oL_out op (.inl hlo)]
    have n1 : ¬ op = 1 := by omega
    have n2 : ¬ op = 2 := by omega
    have n3 : ¬ op = 3 := by omega
    have n4 : ¬ op = 4 := by omega
    have n5 : ¬ op = 5 := by omega
    have n6 : ¬ op = 6 := by omega
    have n7 : ¬ op = 7 := by omega
    have n8 : ¬ op = 8 := by omega
    have n9 : ¬ op = 9 := by omega
    have n10 : ¬ op = 10 := by omega
    have n11 : ¬ op = 11 := by omega
    have n12 : ¬ op = 12 := by omega
    have n13 : ¬ op = 13 := by omega
    have n16 : ¬ op = 16 := by omega
    have n17 : ¬ op = 17 := by omega
    have n18 : ¬ op = 18 := by omega
    have n19 : ¬ op = 19 := by omega
    have n20 : ¬ op = 20 := by omega
    have n24 : ¬ op = 24 := by omega
    have n25 : ¬ op = 25 := by omega
    have n26 : ¬ op = 26 := by omega
    have n27 : ¬ op = 27 := by omega
    have n28 : ¬ op = 28 := by omega
    have n29 : ¬ op = 29 := by omega
    have n30 : ¬ op = 30 := by omega
    have n32 : ¬ op = 32 := by omega
    have n33 : ¬ op = 33 := by omega
    have n34 : ¬ op = 34 := by omega
    have n35 : ¬ op = 35 := by omega
    have n36 : ¬ op = 36 := by omega
    have n37 : ¬ op = 37 := by omega
    have n43 : ¬ op = 43 := by omega
    have n44 : ¬ op = 44 := by omega
    have n46 : ¬ op = 46 := by omega
    have n47 : ¬ op = 47 := by omega
    have n48 : ¬ op = 48 := by omega
    have n52 : ¬ op = 52 := by omega
    have n53 : ¬ op = 53 := by omega
    have n54 : ¬ op = 54 := by omega
    go_enter Tryd.func11, Tryd.ntmps11
    go_wp2
    go_ret
    exact ⟨_, rfl, ⟨rfl, .inl ⟨rfl, rfl⟩⟩, Below.refl _ _⟩
  by_cases hhi : 54 < op
  · unfold OpR
    rw [oL_out op (.inr hhi)]
    have n1 : ¬ op = 1 := by omega
    have n2 : ¬ op = 2 := by omega
    have n3 : ¬ op = 3 := by omega
    have n4 : ¬ op = 4 := by omega
    have n5 : ¬ op = 5 := by omega
    have n6 : ¬ op = 6 := by omega
    have n7 : ¬ op = 7 := by omega
    have n8 : ¬ op = 8 := by omega
    have n9 : ¬ op = 9 := by omega
    have n10 : ¬ op = 10 := by omega
    have n11 : ¬ op = 11 := by omega
    have n12 : ¬ op = 12 := by omega
    have n13 : ¬ op = 13 := by omega
    have n16 : ¬ op = 16 := by omega
    have n17 : ¬ op = 17 := by omega
    have n18 : ¬ op = 18 := by omega
    have n19 : ¬ op = 19 := by omega
    have n20 : ¬ op = 20 := by omega
    have n24 : ¬ op = 24 := by omega
    have n25 : ¬ op = 25 := by omega
    have n26 : ¬ op = 26 := by omega
    have n27 : ¬ op = 27 := by omega
    have n28 : ¬ op = 28 := by omega
    have n29 : ¬ op = 29 := by omega
    have n30 : ¬ op = 30 := by omega
    have n32 : ¬ op = 32 := by omega
    have n33 : ¬ op = 33 := by omega
    have n34 : ¬ op = 34 := by omega
    have n35 : ¬ op = 35 := by omega
    have n36 : ¬ op = 36 := by omega
    have n37 : ¬ op = 37 := by omega
    have n43 : ¬ op = 43 := by omega
    have n44 : ¬ op = 44 := by omega
    have n46 : ¬ op = 46 := by omega
    have n47 : ¬ op = 47 := by omega
    have n48 : ¬ op = 48 := by omega
    have n52 : ¬ op = 52 := by omega
    have n53 : ¬ op = 53 := by omega
    have n54 : ¬ op = 54 := by omega
    go_enter Tryd.func11, Tryd.ntmps11
    go_wp2
    go_ret
    exact ⟨_, rfl, ⟨rfl, .inl ⟨rfl, rfl⟩⟩, Below.refl _ _⟩
  obtain ⟨k, rfl⟩ : ∃ k : Nat, op = k := ⟨op.toNat, by omega⟩
  have hk : k = 1 ∨ k = 2 ∨ k = 3 ∨ k = 4 ∨ k = 5 ∨ k = 6 ∨ k = 7 ∨ k = 8 ∨ k = 9 ∨ k = 10 ∨ k = 11 ∨ k = 12 ∨ k = 13 ∨ k = 14 ∨ k = 15 ∨ k = 16 ∨ k = 17 ∨ k = 18 ∨ k = 19 ∨ k = 20 ∨ k = 21 ∨ k = 22 ∨ k = 23 ∨ k = 24 ∨ k = 25 ∨ k = 26 ∨ k = 27 ∨ k = 28 ∨ k = 29 ∨ k = 30 ∨ k = 31 ∨ k = 32 ∨ k = 33 ∨ k = 34 ∨ k = 35 ∨ k = 36 ∨ k = 37 ∨ k = 38 ∨ k = 39 ∨ k = 40 ∨ k = 41 ∨ k = 42 ∨ k = 43 ∨ k = 44 ∨ k = 45 ∨ k = 46 ∨ k = 47 ∨ k = 48 ∨ k = 49 ∨ k = 50 ∨ k = 51 ∨ k = 52 ∨ k = 53 ∨ k = 54 := by omega
  rcases hk with rfl | rfl | rfl | rfl | rfl | rfl | rfl | rfl | rfl | rfl | rfl | rfl | rfl | rfl | rfl | rfl | rfl | rfl | rfl | rfl | rfl | rfl | rfl | rfl | rfl | rfl | rfl | rfl | rfl | rfl | rfl | rfl | rfl | rfl | rfl | rfl | rfl | rfl | rfl | rfl | rfl | rfl | rfl | rfl | rfl | rfl | rfl | rfl | rfl | rfl | rfl | rfl | rfl | rfl
  · exact oW_1 w
  · exact oW_2 w
  · exact oW_3 w
  · exact oW_4 w
  · exact oW_5 w
  · exact oW_6 w
  · exact oW_7 w
  · exact oW_8 w
  · exact oW_9 w
  · exact oW_10 w
  · exact oW_11 w
  · exact oW_12 w
  · exact oW_13 w
  · exact oW_14 w
  · exact oW_15 w
  · exact oW_16 w
  · exact oW_17 w
  · exact oW_18 w
  · exact oW_19 w
  · exact oW_20 w
  · exact oW_21 w
  · exact oW_22 w
  · exact oW_23 w
  · exact oW_24 w
  · exact oW_25 w
  · exact oW_26 w
  · exact oW_27 w
  · exact oW_28 w
  · exact oW_29 w
  · exact oW_30 w
  · exact oW_31 w
  · exact oW_32 w
  · exact oW_33 w
  · exact oW_34 w
  · exact oW_35 w
  · exact oW_36 w
  · exact oW_37 w
  · exact oW_38 w
  · exact oW_39 w
  · exact oW_40 w
  · exact oW_41 w
  · exact oW_42 w
  · exact oW_43 w
  · exact oW_44 w
  · exact oW_45 w
  · exact oW_46 w
  · exact oW_47 w
  · exact oW_48 w
  · exact oW_49 w
  · exact oW_50 w
  · exact oW_51 w
  · exact oW_52 w
  · exact oW_53 w
  · exact oW_54 w
end Go.Proofs.YtlpkkclmcgnapaaDoor
