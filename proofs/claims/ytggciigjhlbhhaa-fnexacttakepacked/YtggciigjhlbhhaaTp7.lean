import Derived.Test.YtggciigjhlbhhaaBm
import Derived.Test.YtggciigjhlbhhaaTp4
import Derived.Test.YtggciigjhlbhhaaPk2
namespace Go.Proofs.Ytggciigjhlbhhaa
open Go.ChangeShapes Go.WideShapes Go.ChangeAt Go.RowKit

set_option maxRecDepth 100000 in
set_option maxHeartbeats 4000000 in
theorem eqTP_ok {w : World} {B B' : Nat} {v v' : Value} {zs : List BU} (c i k : Int) (h : w.ownsRow B 60 3 v zs.length (buR zs)) (h' : w.ownsRow B' 60 3 v' zs.length (buR zs)) (hl : zs.length ≤ 2000) :
    Calls Try.prog 13 #[tkA c i k v, tkA c i k v'] w fun e w' => e = .returned (.bool true) ∧ Below w.heap.size w w' := by
  obtain ⟨ao, cap, rfl⟩ := bu_sl h
  obtain ⟨ao', cap', rfl⟩ := bu_sl h'
  unfold tkA
  have HB : Hid (Below w.heap.size w ((w.alloc (.cells #[.int .i64 c, .int .i64 i, .int .i64 k, .slice ao zs.length cap] 35)).alloc (.cells #[.int .i64 c, .int .i64 i, .int .i64 k, .slice ao' zs.length cap'] 35))) := (bx1 _ _).alloc (by simp) _
  have hr := (BUrow.of h).below HB.out
  have hr' := (BUrow.of h').below HB.out
  have HE : Hid (Calls Try.prog 34 #[.slice ao zs.length cap, .slice ao' zs.length cap'] ((w.alloc (.cells #[.int .i64 c, .int .i64 i, .int .i64 k, .slice ao zs.length cap] 35)).alloc (.cells #[.int .i64 c, .int .i64 i, .int .i64 k, .slice ao' zs.length cap'] 35)) fun e w' => e = .returned (.bool true) ∧ Below ((w.alloc (.cells #[.int .i64 c, .int .i64 i, .int .i64 k, .slice ao zs.length cap] 35)).alloc (.cells #[.int .i64 c, .int .i64 i, .int .i64 k, .slice ao' zs.length cap'] 35)).heap.size ((w.alloc (.cells #[.int .i64 c, .int .i64 i, .int .i64 k, .slice ao zs.length cap] 35)).alloc (.cells #[.int .i64 c, .int .i64 i, .int .i64 k, .slice ao' zs.length cap'] 35)) w') := eqBUS_ok hr hr' (by omega)
  clear hr hr' h h' hl
  go_enter Try.func13, Try.ntmps13
  go_wp2_with fail
  refine Calls.mono HE.out ?_
  rintro e y1 ⟨rfl, hu⟩
  have HB1 : Hid (Below w.heap.size w y1) := HB.out.trans (hu.mono HB.out.size)
  clear hu HE
  go_wp2_with fail
  go_ret
  exact ⟨rfl, HB1.out⟩
set_option maxRecDepth 100000 in
set_option maxHeartbeats 4000000 in
theorem markTP_ok {w : World} {B : Nat} {v : Value} {zs : List BU} (c i k : Int) (h : w.ownsRow B 60 3 v zs.length (buR zs)) (hl : zs.length ≤ 2000) :
    Calls Try.prog 14 #[tkA c i k v, .int .i64 1] w fun e u => e = .returned (.int .i64 (1 + 3 * (zs.length : Int))) ∧ u.ownsRow B 60 3 v zs.length (buR (mkBL zs.length)) ∧ w.grownBy u v.ownBlock := by
  obtain ⟨ao, cap, rfl⟩ := bu_sl h
  unfold tkA
  have HB : Hid (Below w.heap.size w (w.alloc (.cells #[.int .i64 c, .int .i64 i, .int .i64 k, .slice ao zs.length cap] 35))) := bx1 _ _
  have HM : Hid (Calls Try.prog 35 #[.slice ao zs.length cap, .int .i64 1] (w.alloc (.cells #[.int .i64 c, .int .i64 i, .int .i64 k, .slice ao zs.length cap] 35)) fun e u => e = .returned (.int .i64 (1 + 3 * (zs.length : Int))) ∧ u.ownsRow B 60 3 (.slice ao zs.length cap) zs.length (buR (mkBL zs.length)) ∧ (w.alloc (.cells #[.int .i64 c, .int .i64 i, .int .i64 k, .slice ao zs.length cap] 35)).grownBy u (Value.slice ao zs.length cap).ownBlock) := markBUS_ok (bu_below h HB.out) hl
  clear h hl
  go_enter Try.func14, Try.ntmps14
  go_wp2_with fail
  refine Calls.mono HM.out ?_
  rintro e y1 ⟨rfl, ho, hg⟩
  have HO : Hid (y1.ownsRow B 60 3 (.slice ao zs.length cap) zs.length (buR (mkBL zs.length))) := ho
  have HG : Hid (w.grownBy y1 (Value.slice ao zs.length cap).ownBlock) := ⟨hg.os.trans HB.out.os, hg.tape.trans HB.out.tape, hg.output.trans HB.out.output, Nat.le_trans HB.out.size hg.size, fun k hk hn => (hg.block k (Nat.lt_of_lt_of_le hk HB.out.size) hn).trans (HB.out.block k hk)⟩
  clear ho hg HM
  go_wp2_with fail
  go_ret
  exact ⟨rfl, HO.out, HG.out⟩
set_option maxRecDepth 100000 in
set_option maxHeartbeats 4000000 in
theorem heldTP_ok {w : World} {B : Nat} {v : Value} (n : Nat) (c i k : Int) (h : w.ownsRow B 60 3 v n (buR (mkBL n))) (hl : n ≤ 2000) :
    Calls Try.prog 15 #[tkA c i k v, .int .i64 1] w fun e u => e = .returned (.int .i64 (1 + 3 * (n : Int))) ∧ Below w.heap.size w u := by
  obtain ⟨ao, cap, rfl⟩ := bu_sl h
  unfold tkA
  have HB : Hid (Below w.heap.size w (w.alloc (.cells #[.int .i64 c, .int .i64 i, .int .i64 k, .slice ao n cap] 35))) := bx1 _ _
  have HM : Hid (Calls Try.prog 36 #[.slice ao n cap, .int .i64 1] (w.alloc (.cells #[.int .i64 c, .int .i64 i, .int .i64 k, .slice ao n cap] 35)) fun e u => e = .returned (.int .i64 (1 + 3 * (n : Int))) ∧ Below (w.alloc (.cells #[.int .i64 c, .int .i64 i, .int .i64 k, .slice ao n cap] 35)).heap.size (w.alloc (.cells #[.int .i64 c, .int .i64 i, .int .i64 k, .slice ao n cap] 35)) u) := heldBUS_ok n (bu_below h HB.out) hl
  have hp : ¬ (1 + 3 * (n : Int)) < 0 := by omega
  clear h hl
  go_enter Try.func15, Try.ntmps15
  go_wp2_with fail
  refine Calls.mono HM.out ?_
  rintro e y1 ⟨rfl, hu⟩
  have HB1 : Hid (Below w.heap.size w y1) := HB.out.trans (hu.mono HB.out.size)
  clear hu HM
  go_wp2_with fail
  go_ret
  exact ⟨rfl, HB1.out⟩
/-- What the law keeps. -/
structure LP (w u : World) (cs : Array Value) (c i k : Int) (zs ys : List BU) (b5 : Nat) (v5 : Value) (b6 : Nat) (v6 : Value) (B6 : Nat) : Prop where
  bel : Below w.heap.size w u
  arg : u.heap[w.heap.size]? = some (.cells cs 32 (0, 0))
  x5 : u.heap[b5]? = some (.cells #[.int .i64 c, .int .i64 i, .int .i64 k, v5] 35 (0, 0))
  r5 : u.ownsRow w.heap.size 60 3 v5 zs.length (buR zs)
  x6 : u.heap[b6]? = some (.cells #[.int .i64 c, .int .i64 i, .int .i64 k, v6] 35 (0, 0))
  r6 : u.ownsRow B6 60 3 v6 zs.length (buR ys)
  n5 : ∀ j, v5.ownBlock = some j → j < B6
  lw : w.heap.size ≤ B6
theorem LP.step {w u u' : World} {cs : Array Value} {c i k : Int} {zs ys : List BU} {b5 b6 B6 : Nat} {v5 v6 : Value} (h : LP w u cs c i k zs ys b5 v5 b6 v6 B6) (hb : Below u.heap.size u u') : LP w u' cs c i k zs ys b5 v5 b6 v6 B6 :=
  ⟨h.bel.trans (hb.mono h.bel.size), (hb.block _ (Array.getElem?_eq_some_iff.1 h.arg).1).trans h.arg, (hb.block _ (Array.getElem?_eq_some_iff.1 h.x5).1).trans h.x5, bu_below h.r5 hb, (hb.block _ (Array.getElem?_eq_some_iff.1 h.x6).1).trans h.x6, bu_below h.r6 hb, h.n5, h.lw⟩
theorem row_ne {u : World} {B n b t : Nat} {v : Value} {xs : List Value} {cs : Array Value} (h : u.ownsRow B 60 3 v n xs) (hb : u.heap[b]? = some (.cells cs t (0, 0))) (ht : t ≠ 60) : v.ownBlock ≠ some b := fun e => by
  obtain ⟨_, hr | ⟨g, cap, cur, hv, _, hgg, _⟩⟩ := h
  · rw [hr.1] at e; cases e
  · rw [hv] at e
    have e2 : g = b := by simpa [Value.ownBlock] using e
    subst e2
    rw [hb] at hgg
    injection hgg with hgg
    injection hgg with _ hgg
    exact ht hgg
theorem LP.mark {w u u' : World} {cs : Array Value} {c i k : Int} {zs ys ys2 : List BU} {b5 b6 B6 : Nat} {v5 v6 : Value} (h : LP w u cs c i k zs ys b5 v5 b6 v6 B6) (ho : u'.ownsRow B6 60 3 v6 zs.length (buR ys2)) (hg : u.grownBy u' v6.ownBlock) : LP w u' cs c i k zs ys2 b5 v5 b6 v6 B6 := by
  have keep : ∀ {b t : Nat} {ds : Array Value}, u.heap[b]? = some (.cells ds t (0, 0)) → t ≠ 60 → u'.heap[b]? = some (.cells ds t (0, 0)) := fun hb ht => (hg.block _ (Array.getElem?_eq_some_iff.1 hb).1 (fun e => row_ne h.r6 hb ht e.symm)).trans hb
  have hlw := h.lw
  refine ⟨⟨hg.os.trans h.bel.os, hg.tape.trans h.bel.tape, hg.output.trans h.bel.output, Nat.le_trans h.bel.size hg.size, fun j hj => (hg.block j (Nat.lt_of_lt_of_le hj h.bel.size) (fun e => by have := (h.r6.lt _ e.symm).1; omega)).trans (h.bel.block j hj)⟩, keep h.arg (by decide), keep h.x5 (by decide), ?_, keep h.x6 (by decide), ho, h.n5, h.lw⟩
  cases hv : v5.ownBlock with
  | none => exact h.r5.kept hg (.inl hv)
  | some j => exact h.r5.kept hg (.inr (fun e => by have h1 := (h.r6.lt j (e.symm.trans hv)).1; have h2 := h.n5 j hv; omega))
end Go.Proofs.Ytggciigjhlbhhaa
