import Derived.Test.YtmmodmanfoipiaaDoorLG
namespace Go.Proofs.YtmmodmanfoipiaaDoor
open Go.ChangeShapes Go.WideShapes Go.ChangeAt Go.RowKit

/-- A frame. -/
structure FR where
  src : Int
  dst : Int
  net : Int
  text : ByteArray
def frC (f : FR) : Array Value := #[.int .i64 f.src, .int .i64 f.dst, .int .i64 f.net, .string f.text]
def frA (f : FR) : Value := .agg (frC f)
def oaB (a : Int) : Bool := decide (0 ≤ a) && decide (a < 281474976710655)
def ntB (n : Int) : Bool := decide (1 ≤ n) && decide (n ≤ 4095)
def frB (f : FR) : Bool := oaB f.src && (oaB f.dst || f.dst == 281474976710655) && (f.net == 0 || ntB f.net) && decide ((f.text.size : Int) ≤ 1500)
def frV (f : FR) : Int := if frB f = true then 0 else 1
theorem oneAddr_any (a : Int) (w : World) : Calls Tryd.prog 32 #[.int .i64 a] w fun e w' => e = .returned (.bool (oaB a)) ∧ w' = w := by
  cases h : decide (0 ≤ a)
  · have E : Hid (oaB a = false) := (show oaB a = false by unfold oaB; rw [h]; rfl)
    go_enter Tryd.func32, Tryd.ntmps32
    go_wp2
    go_ret
    exact ⟨ret_bool E.out.symm, rfl⟩
  · have E : Hid (oaB a = decide (a < 281474976710655)) := (show oaB a = _ by unfold oaB; rw [h]; rfl)
    go_enter Tryd.func32, Tryd.ntmps32
    go_wp2
    go_ret
    exact ⟨ret_bool E.out.symm, rfl⟩
theorem isNet_any (a : Int) (w : World) : Calls Tryd.prog 33 #[.int .i64 a] w fun e w' => e = .returned (.bool (ntB a)) ∧ w' = w := by
  cases h : decide (1 ≤ a)
  · have E : Hid (ntB a = false) := (show ntB a = false by unfold ntB; rw [h]; rfl)
    go_enter Tryd.func33, Tryd.ntmps33
    go_wp2
    go_ret
    exact ⟨ret_bool E.out.symm, rfl⟩
  · have E : Hid (ntB a = decide (a ≤ 4095)) := (show ntB a = _ by unfold ntB; rw [h]; rfl)
    go_enter Tryd.func33, Tryd.ntmps33
    go_wp2
    go_ret
    exact ⟨ret_bool E.out.symm, rfl⟩
set_option maxRecDepth 100000 in
set_option maxHeartbeats 4000000 in
theorem frRight_any (f : FR) (w : World) : Calls Tryd.prog 14 #[frA f] w fun e w' => e = .returned (.bool (frB f)) ∧ Below w.heap.size w w' := by
  obtain ⟨s, d, n, t⟩ := f
  have HB : Hid (Below w.heap.size w (w.alloc (.cells #[.int .i64 s, .int .i64 d, .int .i64 n, .string t] 24))) := bx1 _ _
  have E : Hid (frB ⟨s, d, n, t⟩ = (oaB s && (oaB d || d == 281474976710655) && (n == 0 || ntB n) && decide ((t.size : Int) ≤ 1500))) := rfl
  unfold frA frC
  simp only
  cases b1 : oaB s
  · have B1 : Hid (oaB s = false) := b1
    go_enter Tryd.func14, Tryd.ntmps14
    go_wp2_with fail
    refine Calls.mono (oneAddr_any s _) ?_
    rw [b1]
    rintro e ub1 ⟨rfl, hw1⟩
    rw [hw1]
    clear hw1
    go_wp2
    go_ret
    exact ⟨ret_bool (by rw [E.out, B1.out]; simp), HB.out⟩
  · have B1 : Hid (oaB s = true) := b1
    cases b2 : oaB d
    · have B2 : Hid (oaB d = false) := b2
      cases h1 : (d == 281474976710655)
      · have h3 : (d != 281474976710655) = true := by unfold bne; rw [h1]; rfl
        have H1 : Hid ((d == 281474976710655) = false) := h1
        go_enter Tryd.func14, Tryd.ntmps14
        go_wp2_with fail
        refine Calls.mono (oneAddr_any s _) ?_
        rw [b1]
        rintro e ub1 ⟨rfl, hw1⟩
        rw [hw1]
        clear hw1
        go_wp2_with fail
        refine Calls.mono (oneAddr_any d _) ?_
        rw [b2]
        rintro e ub2 ⟨rfl, hw1⟩
        rw [hw1]
        clear hw1
        go_wp2
        go_ret
        exact ⟨ret_bool (by rw [E.out, B1.out, B2.out, H1.out]; simp), HB.out⟩
      · have h3 : (d != 281474976710655) = false := by unfold bne; rw [h1]; rfl
        have H1 : Hid ((d == 281474976710655) = true) := h1
        cases h2 : (n == 0)
        · cases b3 : ntB n
          · have H2 : Hid ((n == 0) = false) := h2
            go_enter Tryd.func14, Tryd.ntmps14
            go_wp2_with fail
            refine Calls.mono (oneAddr_any s _) ?_
            rw [b1]
            rintro e ub1 ⟨rfl, hw1⟩
            rw [hw1]
            clear hw1
            go_wp2_with fail
            refine Calls.mono (oneAddr_any d _) ?_
            rw [b2]
            rintro e ub2 ⟨rfl, hw1⟩
            rw [hw1]
            clear hw1
            go_wp2_with fail
            refine Calls.mono (isNet_any n _) ?_
            rw [b3]
            rintro e ub3 ⟨rfl, hw1⟩
            rw [hw1]
            clear hw1
            go_wp2
            go_ret
            exact ⟨ret_bool (by rw [E.out, B1.out, B2.out, H1.out, H2.out, b3]; simp), HB.out⟩
          · have H2 : Hid ((n == 0) = false) := h2
            go_enter Tryd.func14, Tryd.ntmps14
            go_wp2_with fail
            refine Calls.mono (oneAddr_any s _) ?_
            rw [b1]
            rintro e ub1 ⟨rfl, hw1⟩
            rw [hw1]
            clear hw1
            go_wp2_with fail
            refine Calls.mono (oneAddr_any d _) ?_
            rw [b2]
            rintro e ub2 ⟨rfl, hw1⟩
            rw [hw1]
            clear hw1
            go_wp2_with fail
            refine Calls.mono (isNet_any n _) ?_
            rw [b3]
            rintro e ub3 ⟨rfl, hw1⟩
            rw [hw1]
            clear hw1
            go_wp2
            go_ret
            exact ⟨ret_bool (by rw [E.out, B1.out, B2.out, H1.out, H2.out, b3]; simp), HB.out⟩
        · have H2 : Hid ((n == 0) = true) := h2
          go_enter Tryd.func14, Tryd.ntmps14
          go_wp2_with fail
          refine Calls.mono (oneAddr_any s _) ?_
          rw [b1]
          rintro e ub1 ⟨rfl, hw1⟩
          rw [hw1]
          clear hw1
          go_wp2_with fail
          refine Calls.mono (oneAddr_any d _) ?_
          rw [b2]
          rintro e ub2 ⟨rfl, hw1⟩
          rw [hw1]
          clear hw1
          go_wp2
          go_ret
          exact ⟨ret_bool (by rw [E.out, B1.out, B2.out, H1.out, H2.out]; simp), HB.out⟩
    · have B2 : Hid (oaB d = true) := b2
      cases h2 : (n == 0)
      · cases b3 : ntB n
        · have H2 : Hid ((n == 0) = false) := h2
          go_enter Tryd.func14, Tryd.ntmps14
          go_wp2_with fail
          refine Calls.mono (oneAddr_any s _) ?_
          rw [b1]
          rintro e ub1 ⟨rfl, hw1⟩
          rw [hw1]
          clear hw1
          go_wp2_with fail
          refine Calls.mono (oneAddr_any d _) ?_
          rw [b2]
          rintro e ub2 ⟨rfl, hw1⟩
          rw [hw1]
          clear hw1
          go_wp2_with fail
          refine Calls.mono (isNet_any n _) ?_
          rw [b3]
          rintro e ub3 ⟨rfl, hw1⟩
          rw [hw1]
          clear hw1
          go_wp2
          go_ret
          exact ⟨ret_bool (by rw [E.out, B1.out, B2.out, H2.out, b3]; simp), HB.out⟩
        · have H2 : Hid ((n == 0) = false) := h2
          go_enter Tryd.func14, Tryd.ntmps14
          go_wp2_with fail
          refine Calls.mono (oneAddr_any s _) ?_
          rw [b1]
          rintro e ub1 ⟨rfl, hw1⟩
          rw [hw1]
          clear hw1
          go_wp2_with fail
          refine Calls.mono (oneAddr_any d _) ?_
          rw [b2]
          rintro e ub2 ⟨rfl, hw1⟩
          rw [hw1]
          clear hw1
          go_wp2_with fail
          refine Calls.mono (isNet_any n _) ?_
          rw [b3]
          rintro e ub3 ⟨rfl, hw1⟩
          rw [hw1]
          clear hw1
          go_wp2
          go_ret
          exact ⟨ret_bool (by rw [E.out, B1.out, B2.out, H2.out, b3]; simp), HB.out⟩
      · have H2 : Hid ((n == 0) = true) := h2
        go_enter Tryd.func14, Tryd.ntmps14
        go_wp2_with fail
        refine Calls.mono (oneAddr_any s _) ?_
        rw [b1]
        rintro e ub1 ⟨rfl, hw1⟩
        rw [hw1]
        clear hw1
        go_wp2_with fail
        refine Calls.mono (oneAddr_any d _) ?_
        rw [b2]
        rintro e ub2 ⟨rfl, hw1⟩
        rw [hw1]
        clear hw1
        go_wp2
        go_ret
        exact ⟨ret_bool (by rw [E.out, B1.out, B2.out, H2.out]; simp), HB.out⟩
end Go.Proofs.YtmmodmanfoipiaaDoor
