import Derived.Test.YtgjcddidfogkhaaLwW
namespace Go.Proofs.Ytgjcddidfogkhaa
open Go.ChangeShapes Go.WideShapes Go.ChangeAt Go.RowKit

/-- What both sides answer. -/
def Ans (f : Nat) (args : Array Value) (r : WV) : Prop := ∀ w : World, Calls Try.prog f args w fun e w' => ∃ v, e = .returned (wkA r v) ∧ w'.ownsRow w.heap.size 2 1 v r.reads.length (r.reads.map (Value.int .i64)) ∧ Below w.heap.size w w'
theorem lt_x {w : World} {b t : Nat} {c : Array Value} (h : w.heap[b]? = some (.cells c t (0, 0))) : b < w.heap.size := (Array.getElem?_eq_some_iff.1 h).1
set_option maxRecDepth 100000 in
set_option maxHeartbeats 4000000 in
theorem lawW (s : ByteArray) (root va acc : Int) (user : Bool) (r : WV) (w : World) (hs : s.size ≤ 1048576) (hl : r.reads.length ≤ 100)
    (hS : Ans 5 #[.string s, .int .i64 root, .int .i64 va, .int .i64 acc, .bool user] r) (hI : Ans 6 #[.string s, .int .i64 root, .int .i64 va, .int .i64 acc, .bool user] r) :
    Calls Try.prog 3 #[.string s, .int .i64 root, .int .i64 va, .int .i64 acc, .bool user] w fun e w' => e = .returned (.bool true) ∧ Below w.heap.size w w' := by
  have HS : Hid (Ans 5 #[.string s, .int .i64 root, .int .i64 va, .int .i64 acc, .bool user] r) := hS
  have HI1 : Hid (Ans 6 #[.string s, .int .i64 root, .int .i64 va, .int .i64 acc, .bool user] r) := hI
  have HI2 : Hid (Ans 6 #[.string s, .int .i64 root, .int .i64 va, .int .i64 acc, .bool user] r) := hI
  have hd : decide (1048576 < (s.size : Int)) = false := by
    apply decide_eq_false
    omega
  have hw : IntKind.i64.wrap (1 + (r.reads.length : Int)) = 1 + (r.reads.length : Int) := by rw [IntKind.wrap_i64]; omega
  have hp : ¬ (1 + (r.reads.length : Int)) < 0 := by omega
  clear hS hI hs
  go_enter Try.func3, Try.ntmps3
  go_wp2_with (first
    | (go_at_call 5; refine Calls.mono (HS.out _) ?_; rintro e u1 ⟨v0, rfl, ho1, hb1⟩; obtain ⟨ao, cap, rfl⟩ := own_sl2 ho1; have HO1 : Hid _ := ho1; have HB1 : Hid _ := hb1; clear ho1 hb1; simp only [wkA])
    | (go_at_call 6; refine Calls.mono (HI1.out _) ?_; rintro e u2 ⟨g, rfl, ho2, hb2⟩; obtain ⟨ao2, cap2, rfl⟩ := own_sl2 ho2; have HL : Hid (LK w u1.heap.size u2.heap.size r (.slice ao r.reads.length cap) (.slice ao2 r.reads.length cap2) r.reads (u2.alloc _)) := LK.new HO1.out HB1.out _ rfl ho2 hb2 _ rfl; have hx1 := (hb2.block u1.heap.size (by simp)).trans (heap_new _ _); have hl12 := lt_x hx1; obtain ⟨d0, d1, d2, d3, d4, d5, df⟩ := cel6 hx1; clear ho2 hb2 hx1 HI1; simp only [wkA])
    | (go_at_call 7; refine Calls.mono (eqWalked_ok r HL.out.o2 HL.out.o1 hl) ?_; rintro e u3 ⟨rfl, hu3⟩; have HL3 : Hid _ := HL.out.step hu3; obtain ⟨e0, e1, e2, e3, e4, e5, ef⟩ := cel6 HL3.out.x1; obtain ⟨f0, f1, f2, f3, f4, f5, ff⟩ := cel6 HL3.out.x2; clear hu3 HL)
    | (go_at_call 8; refine Calls.mono (markWalked_ok r HL3.out.o2 hl) ?_; rintro e u4 ⟨rfl, ho4, hg4⟩; have HL4 : Hid (LK w u1.heap.size u2.heap.size r _ _ (mkL r.reads.length) u4) := HL3.out.mark hg4 ho4; obtain ⟨p0, p1, p2, p3, p4, p5, pf⟩ := cel6 HL4.out.x1; obtain ⟨q0, q1, q2, q3, q4, q5, qf⟩ := cel6 HL4.out.x2; clear ho4 hg4 HL3)
    | (go_at_call 9; refine Calls.mono (heldWalked_ok r HL4.out.o2 hl) ?_; rintro e u5 ⟨rfl, hu5⟩; have HL5 : Hid _ := HL4.out.step hu5; obtain ⟨s0, s1, s2, s3, s4, s5, sf⟩ := cel6 HL5.out.x1; obtain ⟨t0, t1, t2, t3, t4, t5, tf⟩ := cel6 HL5.out.x2; clear hu5 HL4)
    | (go_at_call 6; refine Calls.mono (HI2.out _) ?_; rintro e u6 ⟨hh, rfl, ho6, hb6⟩; obtain ⟨ao6, cap6, rfl⟩ := own_sl2 ho6; have HL6 : Hid _ := HL5.out.step hb6; have HO6 : Hid _ := ho6; obtain ⟨x0, x1, x2, x3, x4, x5, xf⟩ := cel6 HL6.out.x1; obtain ⟨y0, y1, y2, y3, y4, y5, yf⟩ := cel6 HL6.out.x2; have hlt1 := lt_x HL6.out.x1; have hlt2 := lt_x HL6.out.x2; clear ho6 hb6 HI2 HL5; simp only [wkA])
    | (go_at_call 7; refine Calls.mono (eqWalked_ok r (World.ownsRow.alloc HO6.out _) (World.ownsRow.alloc HL6.out.o1 _) hl) ?_; rintro e u7 ⟨rfl, hu7⟩; have HL7 : Hid _ := (HL6.out.step ((Below.refl _ _).alloc (Nat.le_refl _) _)).step hu7; obtain ⟨z0, z1, z2, z3, z4, z5, zf⟩ := cel6 HL7.out.x2; clear hu7 HL6)
    | (go_at_call 9; refine Calls.mono (heldWalked_ok r HL7.out.o2 hl) ?_; rintro e u8 ⟨rfl, hu8⟩; have HL8 : Hid _ := HL7.out.step hu8; clear hu8 HL7))
  go_ret
  exact ⟨rfl, HL8.out.bel⟩
end Go.Proofs.Ytgjcddidfogkhaa
