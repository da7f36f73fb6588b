import Derived.Test.YthncnffnjjclfaaWr4
namespace Go.Proofs.Ythncnffnjjclfaa
open Go.ChangeShapes Go.WideShapes Go.ChangeAt Go.RowKit

set_option maxRecDepth 100000 in
set_option maxHeartbeats 4000000 in
theorem walkWF (x : FR) (hx : x.text.size ≤ maxLen) (k fr tt : Int) (w : World) :
    Calls Try.prog 4 #[frA x, .int .i64 k, .int .i64 fr, .int .i64 tt] w fun e w' => e = .returned (.bool true) ∧ Below w.heap.size w w' := by
  have HSZ : Hid (∀ u, Calls Try.prog 6 #[frA x, .int .i64 1048576] u fun e w' => e = .returned (.int .i64 (szF x.text 1048576)) ∧ Below u.heap.size u w') := fun u => szFrame_any x u 1048576 (by omega) (by omega) hx
  have HTO : Hid (∀ u, Calls Try.prog 8 #[frA x] u fun e w' => e = .returned (frA x) ∧ Below u.heap.size u w') := fun u => toFrame_any x u
  have HSP : Hid (∀ u, Calls Try.prog 10 #[frA x, .int .i64 k, .int .i64 fr, .int .i64 tt] u fun e w' => e = .returned (.string (wfV x k fr tt)) ∧ Below u.heap.size u w') := fun u => specWF_any x k fr tt u
  have HIM : Hid (∀ u, Calls Try.prog 11 #[frA x, .int .i64 k, .int .i64 fr, .int .i64 tt] u fun e w' => e = .returned (.string (wfV x k fr tt)) ∧ Below u.heap.size u w') := fun u => implWF_any x k fr tt u
  clear hx
  generalize szF x.text 1048576 = L at HSZ
  generalize wfV x k fr tt = V at HSP HIM
  obtain ⟨s, d, n, t⟩ := x
  unfold frA frC at HSZ HTO HSP HIM ⊢
  simp only at HSZ HTO HSP HIM ⊢
  have HL0 : Hid (LG w (w.alloc (.cells #[.int .i64 s, .int .i64 d, .int .i64 n, .string t] 23)) w.heap.size #[.int .i64 s, .int .i64 d, .int .i64 n, .string t] 23) := LG.new w _ _
  have hV : (V.toList == V.toList) = true := by simp
  cases hL : decide (L < 0)
  · go_enter Try.func4, Try.ntmps4
    go_wp2_with fail
    generalize (w.alloc (.cells #[.int .i64 s, .int .i64 d, .int .i64 n, .string t] 23)) = u0 at *
    generalize w.heap.size = b0 at *
    refine Calls.mono (HSZ.out _) ?_
    rintro e u1 ⟨rfl, hb1⟩
    have HL1 : Hid (LG w u1 b0 #[.int .i64 s, .int .i64 d, .int .i64 n, .string t] 23) := HL0.out.step hb1
    clear hb1 HL0 HSZ
    have r0 := HL1.out.cel 0 _ rfl
    have r1 := HL1.out.cel 1 _ rfl
    have r2 := HL1.out.cel 2 _ rfl
    have r3 := HL1.out.cel 3 _ rfl
    have rl := HL1.out.lt
    go_wp2_with fail
    refine Calls.mono (HTO.out _) ?_
    rintro e u2 ⟨rfl, hb2⟩
    have HL2 : Hid (LG w u2 b0 #[.int .i64 s, .int .i64 d, .int .i64 n, .string t] 23) := HL1.out.step hb2
    clear hb2 HL1 r0 r1 r2 r3 rl
    go_wp2_with fail
    refine Calls.mono (HSP.out _) ?_
    rintro e u3 ⟨rfl, hb3⟩
    have HL3 : Hid (LG w u3 b0 #[.int .i64 s, .int .i64 d, .int .i64 n, .string t] 23) := HL2.out.step hb3
    clear hb3 HL2
    have r0 := HL3.out.cel 0 _ rfl
    have r1 := HL3.out.cel 1 _ rfl
    have r2 := HL3.out.cel 2 _ rfl
    have r3 := HL3.out.cel 3 _ rfl
    have rl := HL3.out.lt
    go_wp2_with fail
    refine Calls.mono (HTO.out _) ?_
    rintro e u4 ⟨rfl, hb4⟩
    have HL4 : Hid (LG w u4 b0 #[.int .i64 s, .int .i64 d, .int .i64 n, .string t] 23) := HL3.out.step hb4
    clear hb4 HL3 r0 r1 r2 r3 rl
    go_wp2_with fail
    refine Calls.mono (HIM.out _) ?_
    rintro e u5 ⟨rfl, hb5⟩
    have HL5 : Hid (LG w u5 b0 #[.int .i64 s, .int .i64 d, .int .i64 n, .string t] 23) := HL4.out.step hb5
    clear hb5 HL4
    go_wp2
    go_ret
    exact ⟨rfl, HL5.out.bel⟩
  · go_enter Try.func4, Try.ntmps4
    go_wp2_with fail
    generalize (w.alloc (.cells #[.int .i64 s, .int .i64 d, .int .i64 n, .string t] 23)) = u0 at *
    generalize w.heap.size = b0 at *
    refine Calls.mono (HSZ.out _) ?_
    rintro e u1 ⟨rfl, hb1⟩
    have HL1 : Hid (LG w u1 b0 #[.int .i64 s, .int .i64 d, .int .i64 n, .string t] 23) := HL0.out.step hb1
    clear hb1 HL0 HSZ
    go_wp2
    go_ret
    exact ⟨rfl, HL1.out.bel⟩
end Go.Proofs.Ythncnffnjjclfaa
