import Derived.Test.YtodncecnbpldeabPk2
namespace Go.Proofs.Ytodncecnbpldeab
open Go.ChangeShapes Go.WideShapes Go.ChangeAt Go.RowKit

set_option maxRecDepth 100000 in
set_option maxHeartbeats 4000000 in
theorem walkPF (s : ByteArray) (z : PV) (w : World) : Calls Try.prog 6 #[.string s, pA z] w fun e w' => e = .returned (.bool true) ∧ Below w.heap.size w w' := by
  have HL0 : Hid (LBx w (w.alloc (.cells (pC z) 41)) w.heap.size (pC z) 41) := LBx.new w _ _
  by_cases h1 : s.size ≤ 1048576
  · have hd : decide (1048576 < (s.size : Int)) = false := by simp; omega
    have HTO : Hid _ := fun u => toPacked_any z u
    have HSS : Hid _ := fun u => specPackedFault_any s z u h1
    have HSI : Hid _ := fun u => implPackedFault_any s z u h1
    generalize pF s z = V at *
    obtain ⟨sz, rg, ps, wr⟩ := z
    unfold pA at HTO HSS HSI ⊢
    unfold pC at HL0
    clear h1
    go_enter Try.func6, Try.ntmps6
    go_wp2_with fail
    refine Calls.mono (HTO.out _) ?_
    generalize (w.alloc (.cells #[.int .i64 sz, .int .i64 rg, .int .i64 ps, .bool wr] 41)) = u0 at *
    rintro e u1 ⟨rfl, hb⟩
    have HL1 : Hid _ := HL0.out.step hb
    clear hb HL0
    go_wp2_with fail
    refine Calls.mono (HSS.out _) ?_
    rintro e u2 ⟨rfl, hb⟩
    have HL2 : Hid _ := HL1.out.step hb
    clear hb HL1
    have c0 := HL2.out.cel 0 _ rfl
    have c1 := HL2.out.cel 1 _ rfl
    have c2 := HL2.out.cel 2 _ rfl
    have c3 := HL2.out.cel 3 _ rfl
    go_wp2_with fail
    refine Calls.mono (HTO.out _) ?_
    rintro e u3 ⟨rfl, hb⟩
    have HL3 : Hid _ := HL2.out.step hb
    clear hb HL2 c0 c1 c2 c3
    go_wp2_with fail
    refine Calls.mono (HSI.out _) ?_
    rintro e u4 ⟨rfl, hb⟩
    have HL4 : Hid _ := HL3.out.step hb
    clear hb HL3
    go_wp2_with fail
    go_ret
    exact ⟨rfl, HL4.out.bel⟩
  · have hd : decide (1048576 < (s.size : Int)) = true := by simp; omega
    unfold pA
    unfold pC at HL0
    clear h1
    go_enter Try.func6, Try.ntmps6
    go_wp2_with fail
    go_ret
    exact ⟨rfl, HL0.out.bel⟩
end Go.Proofs.Ytodncecnbpldeab
