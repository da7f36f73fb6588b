import Derived.Test.YtgpfjbopekkflaaLwP2
namespace Go.Proofs.Ytgpfjbopekkflaa
open Go.ChangeShapes Go.WideShapes Go.ChangeAt Go.RowKit

/-- What both sides answer. -/
def AnsR (f : Nat) (s : ByteArray) (root : Int) (zs : List PM) : Prop := ∀ w : World, Calls Try.prog f #[.string s, .int .i64 root] w fun e w' => ∃ v, e = .returned v ∧ w'.ownsRow w.heap.size 53 4 v zs.length (pmR zs) ∧ Below w.heap.size w w'
theorem own_sl4 {w : World} {B n : Nat} {v : Value} {xs : List Value} (h : w.ownsRow B 53 4 v n xs) : ∃ ao cap, v = .slice ao n cap := by
  rcases h.2 with ⟨rfl, e⟩ | ⟨g, cap, cur, rfl, _⟩
  · exact ⟨none, 0, by rw [e]⟩
  · exact ⟨_, cap, rfl⟩
theorem own_below4 {w w' : World} {B n : Nat} {v : Value} {xs : List Value} (h : w.ownsRow B 53 4 v n xs) (hb : Below w.heap.size w w') : w'.ownsRow B 53 4 v n xs :=
  h.kept (row := none) ⟨hb.os, hb.tape, hb.output, hb.size, fun k hk _ => hb.block k hk⟩ (by cases v.ownBlock <;> simp)
/-- What the law keeps: the two rows. -/
structure LR (w : World) (b : Nat) (v g : Value) (zs ys : List PM) (wr : World) : Prop where
  bel : Below w.heap.size w wr
  o1 : wr.ownsRow w.heap.size 53 4 v zs.length (pmR zs)
  o2 : wr.ownsRow b 53 4 g zs.length (pmR ys)
  l1 : w.heap.size ≤ b
  n1 : ∀ k, v.ownBlock = some k → k < b
theorem LR.step {w wr u : World} {b : Nat} {v g : Value} {zs ys : List PM} (h : LR w b v g zs ys wr) (hb : Below wr.heap.size wr u) : LR w b v g zs ys u :=
  ⟨h.bel.trans (hb.mono h.bel.size), own_below4 h.o1 hb, own_below4 h.o2 hb, h.l1, h.n1⟩
theorem LR.mark {w wr u : World} {b : Nat} {v g : Value} {zs ys ys2 : List PM} (h : LR w b v g zs ys wr) (hg : wr.grownBy u g.ownBlock) (ho : u.ownsRow b 53 4 g zs.length (pmR ys2)) : LR w b v g zs ys2 u := by
  have hlo : ∀ k, g.ownBlock = some k → b ≤ k := fun k e => (h.o2.lt k e).1
  have hl := h.l1
  refine ⟨⟨hg.os.trans h.bel.os, hg.tape.trans h.bel.tape, hg.output.trans h.bel.output, Nat.le_trans h.bel.size hg.size, fun k hk => (hg.block k (Nat.lt_of_lt_of_le hk h.bel.size) (fun e => by have := hlo _ e.symm; omega)).trans (h.bel.block k hk)⟩, ?_, ho, h.l1, h.n1⟩
  cases hv : v.ownBlock with
  | none => exact h.o1.kept hg (.inl hv)
  | some k => exact h.o1.kept hg (.inr (fun e => by have h1 := hlo k (e.symm.trans hv); have h2 := h.n1 k hv; omega))
set_option maxRecDepth 100000 in
set_option maxHeartbeats 4000000 in
theorem lawR (s : ByteArray) (root : Int) (zs : List PM) (w : World) (hs : s.size ≤ 1048576) (hl : zs.length ≤ 2000) (hS : AnsR 10 s root zs) (hI : AnsR 11 s root zs) :
    Calls Try.prog 4 #[.string s, .int .i64 root] w fun e w' => e = .returned (.bool true) ∧ Below w.heap.size w w' := by
  have HS : Hid (AnsR 10 s root zs) := hS
  have HI1 : Hid (AnsR 11 s root zs) := hI
  have HI2 : Hid (AnsR 11 s root zs) := hI
  have hd : decide (1048576 < (s.size : Int)) = false := by
    apply decide_eq_false
    omega
  have hp : ¬ (1 + 4 * (zs.length : Int)) < 0 := by omega
  clear hS hI hs
  go_enter Try.func4, Try.ntmps4
  go_wp2_with (first
    | (go_at_call 10; refine Calls.mono (HS.out _) ?_; rintro e u1 ⟨v0, rfl, ho1, hb1⟩; obtain ⟨ao, cap, rfl⟩ := own_sl4 ho1; have HO1 : Hid (u1.ownsRow w.heap.size 53 4 (.slice ao zs.length cap) zs.length (pmR zs)) := ho1; have HB1 : Hid (Below w.heap.size w u1) := hb1; clear ho1 hb1 HS)
    | (go_at_call 11; refine Calls.mono (HI1.out _) ?_; rintro e u2 ⟨g, rfl, ho2, hb2⟩; obtain ⟨ao2, cap2, rfl⟩ := own_sl4 ho2; have hL : LR w u1.heap.size (.slice ao zs.length cap) (.slice ao2 zs.length cap2) zs zs u2 := ⟨HB1.out.trans (hb2.mono HB1.out.size), own_below4 HO1.out hb2, ho2, HB1.out.size, fun k e => (HO1.out.lt k e).2⟩; have HL : Hid (LR w u1.heap.size (.slice ao zs.length cap) (.slice ao2 zs.length cap2) zs zs u2) := hL; clear ho2 hb2 hL HI1)
    | (go_at_call 12; have hA := eqPMS_ok HL.out.o2 HL.out.o1 hl; refine Calls.mono hA ?_; clear hA; rintro e u3 ⟨rfl, hu3⟩; have HL3 : Hid (LR w u1.heap.size (.slice ao zs.length cap) (.slice ao2 zs.length cap2) zs zs u3) := HL.out.step hu3; clear hu3 HL)
    | (go_at_call 13; have hA := markPMS_ok HL3.out.o2 hl; refine Calls.mono hA ?_; clear hA; rintro e u4 ⟨rfl, ho4, hg4⟩; have HL4 : Hid (LR w u1.heap.size (.slice ao zs.length cap) (.slice ao2 zs.length cap2) zs (mkPL zs.length) u4) := HL3.out.mark hg4 ho4; clear ho4 hg4 HL3)
    | (go_at_call 14; have hA := heldPMS_ok zs.length HL4.out.o2 hl; refine Calls.mono hA ?_; clear hA; rintro e u5 ⟨rfl, hu5⟩; have HL5 : Hid (LR w u1.heap.size (.slice ao zs.length cap) (.slice ao2 zs.length cap2) zs (mkPL zs.length) u5) := HL4.out.step hu5; clear hu5 HL4)
    | (go_at_call 11; refine Calls.mono (HI2.out _) ?_; rintro e u6 ⟨hh, rfl, ho6, hb6⟩; obtain ⟨ao6, cap6, rfl⟩ := own_sl4 ho6; have HL6 : Hid (LR w u1.heap.size (.slice ao zs.length cap) (.slice ao2 zs.length cap2) zs (mkPL zs.length) u6) := HL5.out.step hb6; have HO6 : Hid (u6.ownsRow u5.heap.size 53 4 (.slice ao6 zs.length cap6) zs.length (pmR zs)) := ho6; clear ho6 hb6 HI2 HL5)
    | (go_at_call 12; have hA := eqPMS_ok HO6.out HL6.out.o1 hl; refine Calls.mono hA ?_; clear hA; rintro e u7 ⟨rfl, hu7⟩; have HL7 : Hid (LR w u1.heap.size (.slice ao zs.length cap) (.slice ao2 zs.length cap2) zs (mkPL zs.length) u7) := HL6.out.step hu7; clear hu7 HL6)
    | (go_at_call 14; have hA := heldPMS_ok zs.length HL7.out.o2 hl; refine Calls.mono hA ?_; clear hA; rintro e u8 ⟨rfl, hu8⟩; have HL8 : Hid (LR w u1.heap.size (.slice ao zs.length cap) (.slice ao2 zs.length cap2) zs (mkPL zs.length) u8) := HL7.out.step hu8; clear hu8 HL7))
  go_ret
  exact ⟨rfl, HL8.out.bel⟩
end Go.Proofs.Ytgpfjbopekkflaa
