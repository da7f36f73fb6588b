import Derived.Test.YtefeahilamiiaaaLG
namespace Go.Proofs.Ytefeahilamiiaaa
open Go.ChangeShapes Go.WideShapes Go.ChangeAt Go.RowKit

/-- A frame. -/
structure FR where
  src : Int
  dst : Int
  net : Int
  text : ByteArray
def frC (f : FR) : Array Value := #[.int .i64 f.src, .int .i64 f.dst, .int .i64 f.net, .string f.text]
def frA (f : FR) : Value := .agg (frC f)
def oaB (a : Int) : Bool := decide (0 ≤ a) && decide (a < 281474976710655)
def ntB (n : Int) : Bool := decide (1 ≤ n) && decide (n ≤ 4095)
def frB (f : FR) : Bool := oaB f.src && (oaB f.dst || f.dst == 281474976710655) && (f.net == 0 || ntB f.net) && decide ((f.text.size : Int) ≤ 1500)
def frV (f : FR) : Int := if frB f = true then 0 else 1
theorem oneAddr_any (a : Int) (w : World) : Calls Try.prog 75 #[.int .i64 a] w fun e w' => e = .returned (.bool (oaB a)) ∧ w' = w := by
  cases h : decide (0 ≤ a)
  · have E : Hid (oaB a = false) := (show oaB a = false by unfold oaB; rw [h]; rfl)
    go_enter Try.func75, Try.ntmps75
    go_wp2
    go_ret
    exact ⟨ret_bool E.out.symm, rfl⟩
  · have E : Hid (oaB a = decide (a < 281474976710655)) := (show oaB a = _ by unfold oaB; rw [h]; rfl)
    go_enter Try.func75, Try.ntmps75
    go_wp2
    go_ret
    exact ⟨ret_bool E.out.symm, rfl⟩
theorem isNet_any (a : Int) (w : World) : Calls Try.prog 78 #[.int .i64 a] w fun e w' => e = .returned (.bool (ntB a)) ∧ w' = w := by
  cases h : decide (1 ≤ a)
  · have E : Hid (ntB a = false) := (show ntB a = false by unfold ntB; rw [h]; rfl)
    go_enter Try.func78, Try.ntmps78
    go_wp2
    go_ret
    exact ⟨ret_bool E.out.symm, rfl⟩
  · have E : Hid (ntB a = decide (a ≤ 4095)) := (show ntB a = _ by unfold ntB; rw [h]; rfl)
    go_enter Try.func78, Try.ntmps78
    go_wp2
    go_ret
    exact ⟨ret_bool E.out.symm, rfl⟩
theorem l16Net_any (a : Int) (w : World) : Calls Try.prog 32 #[.int .i64 a] w fun e w' => e = .returned (.bool (ntB a)) ∧ w' = w := by
  cases h : decide (1 ≤ a)
  · have E : Hid (ntB a = false) := (show ntB a = false by unfold ntB; rw [h]; rfl)
    go_enter Try.func32, Try.ntmps32
    go_wp2
    go_ret
    exact ⟨ret_bool E.out.symm, rfl⟩
  · have E : Hid (ntB a = decide (a ≤ 4095)) := (show ntB a = _ by unfold ntB; rw [h]; rfl)
    go_enter Try.func32, Try.ntmps32
    go_wp2
    go_ret
    exact ⟨ret_bool E.out.symm, rfl⟩
end Go.Proofs.Ytefeahilamiiaaa
