import Derived.Test.YtfagohdmepnkkaaSTwo2
namespace Go.Proofs.Ytfagohdmepnkkaa
open Go.ChangeShapes Go.WideShapes Go.ChangeAt Go.RowKit

/-- What both sides answer. -/
def AnsT (f : Nat) (args : Array Value) (r : TV) : Prop := ∀ w : World, Calls Try.prog f args w fun e w' => e = .returned (twA r) ∧ Below w.heap.size w w'
set_option maxRecDepth 100000 in
set_option maxHeartbeats 4000000 in
theorem eqTwo_ok (r : TV) (w : World) : Calls Try.prog 10 #[twA r, twA r] w fun e w' => e = .returned (.bool true) ∧ Below w.heap.size w w' := by
  unfold twA
  go_enter Try.func10, Try.ntmps10
  go_wp2
  go_ret
  exact ⟨rfl, ((Below.refl _ _).alloc (Nat.le_refl _) _).alloc (by simp) _⟩
set_option maxRecDepth 100000 in
set_option maxHeartbeats 4000000 in
theorem lawT (s : ByteArray) (host root va acc : Int) (user : Bool) (r : TV) (w : World) (hs : s.size ≤ 1048576)
    (hS : AnsT 8 #[.string s, .int .i64 host, .int .i64 root, .int .i64 va, .int .i64 acc, .bool user] r) (hI : AnsT 9 #[.string s, .int .i64 host, .int .i64 root, .int .i64 va, .int .i64 acc, .bool user] r) :
    Calls Try.prog 3 #[.string s, .int .i64 host, .int .i64 root, .int .i64 va, .int .i64 acc, .bool user] w fun e w' => e = .returned (.bool true) ∧ Below w.heap.size w w' := by
  have HS : Hid (AnsT 8 #[.string s, .int .i64 host, .int .i64 root, .int .i64 va, .int .i64 acc, .bool user] r) := hS
  have HI : Hid (AnsT 9 #[.string s, .int .i64 host, .int .i64 root, .int .i64 va, .int .i64 acc, .bool user] r) := hI
  have hd : decide (1048576 < (s.size : Int)) = false := by
    apply decide_eq_false
    omega
  have HE : Hid _ := fun w' => eqTwo_ok r w'
  unfold twA at HE
  clear hS hI hs
  go_enter Try.func3, Try.ntmps3
  go_wp2_with (first
    | (go_at_call 8; refine Calls.mono (HS.out _) ?_; rintro e u1 ⟨rfl, hb1⟩; have HB1 : Hid (Below w.heap.size w u1) := hb1; clear hb1; simp only [twA])
    | (go_at_call 9; refine Calls.mono (HI.out _) ?_; rintro e u2 ⟨rfl, hb2⟩; have hx1 := (hb2.block u1.heap.size (by simp)).trans (heap_new _ _); obtain ⟨d0, d1, d2, d3, d4, df⟩ := cel5 hx1; have hl12 : u1.heap.size < u2.heap.size := (Array.getElem?_eq_some_iff.1 hx1).1; have HB2 : Hid (Below w.heap.size w u2) := (HB1.out.alloc HB1.out.size _).trans (hb2.mono (by simp; have := HB1.out.size; omega)); clear hb2 hx1; simp only [twA])
    | (go_at_call 10; refine Calls.mono (HE.out _) ?_; rintro e u3 ⟨rfl, hu3⟩; have HB3 : Hid (Below w.heap.size w u3) := (HB2.out.alloc HB2.out.size _).trans (hu3.mono (by simp; have := HB2.out.size; omega)); clear hu3))
  go_ret
  exact ⟨rfl, HB3.out⟩
end Go.Proofs.Ytfagohdmepnkkaa
