import Derived.Test.YtccapapkjikjjaaBm
import Derived.Test.YtccapapkjikjjaaTc3
import Derived.Test.YtccapapkjikjjaaQu5
namespace Go.Proofs.Ytccapapkjikjjaa
open Go.ChangeShapes Go.WideShapes Go.ChangeAt Go.RowKit

set_option maxRecDepth 100000 in
set_option maxHeartbeats 4000000 in
theorem eqTC_ok {w : World} {B B' : Nat} {v v' : Value} {zs : List BU} (c hx m0 m1 m2 m3 m4 m5 : Int) (h : w.ownsRow B 107 3 v zs.length (buR zs)) (h' : w.ownsRow B' 107 3 v' zs.length (buR zs)) (hl : zs.length ≤ 2000) :
    Calls Try.prog 29 #[.agg #[.int .i64 c, .int .i64 hx, v, .int .i64 m0, .int .i64 m1, .int .i64 m2, .int .i64 m3, .int .i64 m4, .int .i64 m5], .agg #[.int .i64 c, .int .i64 hx, v', .int .i64 m0, .int .i64 m1, .int .i64 m2, .int .i64 m3, .int .i64 m4, .int .i64 m5]] w fun e w' => e = .returned (.bool true) ∧ Below w.heap.size w w' := by
  obtain ⟨ao, cap, rfl⟩ := bu_sl h
  obtain ⟨ao', cap', rfl⟩ := bu_sl h'
  have HB : Hid (Below w.heap.size w ((w.alloc (.cells #[.int .i64 c, .int .i64 hx, .slice ao zs.length cap, .int .i64 m0, .int .i64 m1, .int .i64 m2, .int .i64 m3, .int .i64 m4, .int .i64 m5] 60)).alloc (.cells #[.int .i64 c, .int .i64 hx, .slice ao' zs.length cap', .int .i64 m0, .int .i64 m1, .int .i64 m2, .int .i64 m3, .int .i64 m4, .int .i64 m5] 60))) := (bx1 _ _).alloc (by simp) _
  have hr := (BUrow.of h).below HB.out
  have hr' := (BUrow.of h').below HB.out
  have HT : Hid _ := TwoBx.of w #[.int .i64 c, .int .i64 hx, .slice ao zs.length cap, .int .i64 m0, .int .i64 m1, .int .i64 m2, .int .i64 m3, .int .i64 m4, .int .i64 m5] 60 #[.int .i64 c, .int .i64 hx, .slice ao' zs.length cap', .int .i64 m0, .int .i64 m1, .int .i64 m2, .int .i64 m3, .int .i64 m4, .int .i64 m5] 60 (Below.refl _ _)
  have HE : Hid (Calls Try.prog 37 #[.slice ao zs.length cap, .slice ao' zs.length cap'] ((w.alloc (.cells #[.int .i64 c, .int .i64 hx, .slice ao zs.length cap, .int .i64 m0, .int .i64 m1, .int .i64 m2, .int .i64 m3, .int .i64 m4, .int .i64 m5] 60)).alloc (.cells #[.int .i64 c, .int .i64 hx, .slice ao' zs.length cap', .int .i64 m0, .int .i64 m1, .int .i64 m2, .int .i64 m3, .int .i64 m4, .int .i64 m5] 60)) fun e w' => e = .returned (.bool true) ∧ Below ((w.alloc (.cells #[.int .i64 c, .int .i64 hx, .slice ao zs.length cap, .int .i64 m0, .int .i64 m1, .int .i64 m2, .int .i64 m3, .int .i64 m4, .int .i64 m5] 60)).alloc (.cells #[.int .i64 c, .int .i64 hx, .slice ao' zs.length cap', .int .i64 m0, .int .i64 m1, .int .i64 m2, .int .i64 m3, .int .i64 m4, .int .i64 m5] 60)).heap.size ((w.alloc (.cells #[.int .i64 c, .int .i64 hx, .slice ao zs.length cap, .int .i64 m0, .int .i64 m1, .int .i64 m2, .int .i64 m3, .int .i64 m4, .int .i64 m5] 60)).alloc (.cells #[.int .i64 c, .int .i64 hx, .slice ao' zs.length cap', .int .i64 m0, .int .i64 m1, .int .i64 m2, .int .i64 m3, .int .i64 m4, .int .i64 m5] 60)) w') := eqBUS_ok hr hr' (by omega)
  clear hr hr' h h' hl
  go_enter Try.func29, Try.ntmps29
  go_wp2_with fail
  refine Calls.mono HE.out ?_
  rintro e y1 ⟨rfl, hu⟩
  have HB1 : Hid (Below w.heap.size w y1) := HB.out.trans (hu.mono HB.out.size)
  have HT1 : Hid _ := HT.out.step hu
  clear hu HE HT
  have q0 := HT1.out.c1 0 _ rfl
  have p0 := HT1.out.c2 0 _ rfl
  have q1 := HT1.out.c1 1 _ rfl
  have p1 := HT1.out.c2 1 _ rfl
  have q2 := HT1.out.c1 2 _ rfl
  have p2 := HT1.out.c2 2 _ rfl
  have q3 := HT1.out.c1 3 _ rfl
  have p3 := HT1.out.c2 3 _ rfl
  have q4 := HT1.out.c1 4 _ rfl
  have p4 := HT1.out.c2 4 _ rfl
  have q5 := HT1.out.c1 5 _ rfl
  have p5 := HT1.out.c2 5 _ rfl
  have q6 := HT1.out.c1 6 _ rfl
  have p6 := HT1.out.c2 6 _ rfl
  have q7 := HT1.out.c1 7 _ rfl
  have p7 := HT1.out.c2 7 _ rfl
  have q8 := HT1.out.c1 8 _ rfl
  have p8 := HT1.out.c2 8 _ rfl
  have lt1 := HT1.out.lt
  have lt0 : w.heap.size < y1.heap.size := by omega
  go_wp2_with fail
  refine Calls.mono (eqQueue_any ⟨m0, m1, m2, m3, m4, m5⟩ _) ?_
  rintro e y2 ⟨rfl, hu⟩
  have HB2 : Hid (Below w.heap.size w y2) := HB1.out.trans (hu.mono HB1.out.size)
  clear hu
  go_wp2_with fail
  go_ret
  exact ⟨rfl, HB2.out⟩
set_option maxRecDepth 100000 in
set_option maxHeartbeats 4000000 in
theorem markTC_ok {w : World} {B : Nat} {v : Value} {zs : List BU} (c hx m0 m1 m2 m3 m4 m5 : Int) (h : w.ownsRow B 107 3 v zs.length (buR zs)) (hl : zs.length ≤ 2000) :
    Calls Try.prog 30 #[.agg #[.int .i64 c, .int .i64 hx, v, .int .i64 m0, .int .i64 m1, .int .i64 m2, .int .i64 m3, .int .i64 m4, .int .i64 m5], .int .i64 1] w fun e u => e = .returned (.int .i64 (1 + 3 * (zs.length : Int))) ∧ u.ownsRow B 107 3 v zs.length (buR (mkBL zs.length)) ∧ w.grownBy u v.ownBlock := by
  obtain ⟨ao, cap, rfl⟩ := bu_sl h
  have HB : Hid (Below w.heap.size w (w.alloc (.cells #[.int .i64 c, .int .i64 hx, .slice ao zs.length cap, .int .i64 m0, .int .i64 m1, .int .i64 m2, .int .i64 m3, .int .i64 m4, .int .i64 m5] 60))) := bx1 _ _
  have HM : Hid (Calls Try.prog 65 #[.slice ao zs.length cap, .int .i64 1] (w.alloc (.cells #[.int .i64 c, .int .i64 hx, .slice ao zs.length cap, .int .i64 m0, .int .i64 m1, .int .i64 m2, .int .i64 m3, .int .i64 m4, .int .i64 m5] 60)) fun e u => e = .returned (.int .i64 (1 + 3 * (zs.length : Int))) ∧ u.ownsRow B 107 3 (.slice ao zs.length cap) zs.length (buR (mkBL zs.length)) ∧ (w.alloc (.cells #[.int .i64 c, .int .i64 hx, .slice ao zs.length cap, .int .i64 m0, .int .i64 m1, .int .i64 m2, .int .i64 m3, .int .i64 m4, .int .i64 m5] 60)).grownBy u (Value.slice ao zs.length cap).ownBlock) := markBUS_ok (bu_below h HB.out) hl
  clear h hl
  go_enter Try.func30, Try.ntmps30
  go_wp2_with fail
  refine Calls.mono HM.out ?_
  rintro e y1 ⟨rfl, ho, hg⟩
  have HO : Hid (y1.ownsRow B 107 3 (.slice ao zs.length cap) zs.length (buR (mkBL zs.length))) := ho
  have HG : Hid (w.grownBy y1 (Value.slice ao zs.length cap).ownBlock) := ⟨hg.os.trans HB.out.os, hg.tape.trans HB.out.tape, hg.output.trans HB.out.output, Nat.le_trans HB.out.size hg.size, fun k hk hn => (hg.block k (Nat.lt_of_lt_of_le hk HB.out.size) hn).trans (HB.out.block k hk)⟩
  clear ho hg HM
  go_wp2_with fail
  go_ret
  exact ⟨rfl, HO.out, HG.out⟩
set_option maxRecDepth 100000 in
set_option maxHeartbeats 4000000 in
theorem heldTC_ok {w : World} {B : Nat} {v : Value} (n : Nat) (c hx m0 m1 m2 m3 m4 m5 : Int) (h : w.ownsRow B 107 3 v n (buR (mkBL n))) (hl : n ≤ 2000) :
    Calls Try.prog 31 #[.agg #[.int .i64 c, .int .i64 hx, v, .int .i64 m0, .int .i64 m1, .int .i64 m2, .int .i64 m3, .int .i64 m4, .int .i64 m5], .int .i64 1] w fun e u => e = .returned (.int .i64 (1 + 3 * (n : Int))) ∧ Below w.heap.size w u := by
  obtain ⟨ao, cap, rfl⟩ := bu_sl h
  have HB : Hid (Below w.heap.size w (w.alloc (.cells #[.int .i64 c, .int .i64 hx, .slice ao n cap, .int .i64 m0, .int .i64 m1, .int .i64 m2, .int .i64 m3, .int .i64 m4, .int .i64 m5] 60))) := bx1 _ _
  have HM : Hid (Calls Try.prog 66 #[.slice ao n cap, .int .i64 1] (w.alloc (.cells #[.int .i64 c, .int .i64 hx, .slice ao n cap, .int .i64 m0, .int .i64 m1, .int .i64 m2, .int .i64 m3, .int .i64 m4, .int .i64 m5] 60)) fun e u => e = .returned (.int .i64 (1 + 3 * (n : Int))) ∧ Below (w.alloc (.cells #[.int .i64 c, .int .i64 hx, .slice ao n cap, .int .i64 m0, .int .i64 m1, .int .i64 m2, .int .i64 m3, .int .i64 m4, .int .i64 m5] 60)).heap.size (w.alloc (.cells #[.int .i64 c, .int .i64 hx, .slice ao n cap, .int .i64 m0, .int .i64 m1, .int .i64 m2, .int .i64 m3, .int .i64 m4, .int .i64 m5] 60)) u) := heldBUS_ok n (bu_below h HB.out) hl
  have hp : ¬ (1 + 3 * (n : Int)) < 0 := by omega
  clear h hl
  go_enter Try.func31, Try.ntmps31
  go_wp2_with fail
  refine Calls.mono HM.out ?_
  rintro e y1 ⟨rfl, hu⟩
  have HB1 : Hid (Below w.heap.size w y1) := HB.out.trans (hu.mono HB.out.size)
  clear hu HM
  go_wp2_with fail
  go_ret
  exact ⟨rfl, HB1.out⟩
/-- What the law keeps. -/
structure LTC (w u : World) (cs : Array Value) (c hx m0 m1 m2 m3 m4 m5 : Int) (zs ys : List BU) (b5 : Nat) (v5 : Value) (b6 : Nat) (v6 : Value) (B6 : Nat) : Prop where
  bel : Below w.heap.size w u
  arg : u.heap[w.heap.size]? = some (.cells cs 49 (0, 0))
  x5 : u.heap[b5]? = some (.cells #[.int .i64 c, .int .i64 hx, v5, .int .i64 m0, .int .i64 m1, .int .i64 m2, .int .i64 m3, .int .i64 m4, .int .i64 m5] 60 (0, 0))
  r5 : u.ownsRow w.heap.size 107 3 v5 zs.length (buR zs)
  x6 : u.heap[b6]? = some (.cells #[.int .i64 c, .int .i64 hx, v6, .int .i64 m0, .int .i64 m1, .int .i64 m2, .int .i64 m3, .int .i64 m4, .int .i64 m5] 60 (0, 0))
  r6 : u.ownsRow B6 107 3 v6 zs.length (buR ys)
  n5 : ∀ j, v5.ownBlock = some j → j < B6
  lw : w.heap.size ≤ B6
theorem LTC.step {w u u' : World} {cs : Array Value} {c hx m0 m1 m2 m3 m4 m5 : Int} {zs ys : List BU} {b5 b6 B6 : Nat} {v5 v6 : Value} (h : LTC w u cs c hx m0 m1 m2 m3 m4 m5 zs ys b5 v5 b6 v6 B6) (hb : Below u.heap.size u u') : LTC w u' cs c hx m0 m1 m2 m3 m4 m5 zs ys b5 v5 b6 v6 B6 :=
  ⟨h.bel.trans (hb.mono h.bel.size), (hb.block _ (Array.getElem?_eq_some_iff.1 h.arg).1).trans h.arg, (hb.block _ (Array.getElem?_eq_some_iff.1 h.x5).1).trans h.x5, bu_below h.r5 hb, (hb.block _ (Array.getElem?_eq_some_iff.1 h.x6).1).trans h.x6, bu_below h.r6 hb, h.n5, h.lw⟩
theorem row_ne {u : World} {B n b t : Nat} {v : Value} {xs : List Value} {cs : Array Value} (h : u.ownsRow B 107 3 v n xs) (hb : u.heap[b]? = some (.cells cs t (0, 0))) (ht : t ≠ 107) : v.ownBlock ≠ some b := fun e => by
  obtain ⟨_, hr | ⟨g, cap, cur, hv, _, hgg, _⟩⟩ := h
  · rw [hr.1] at e; cases e
  · rw [hv] at e
    have e2 : g = b := by simpa [Value.ownBlock] using e
    subst e2
    rw [hb] at hgg
    injection hgg with hgg
    injection hgg with _ hgg
    exact ht hgg
theorem LTC.mark {w u u' : World} {cs : Array Value} {c hx m0 m1 m2 m3 m4 m5 : Int} {zs ys ys2 : List BU} {b5 b6 B6 : Nat} {v5 v6 : Value} (h : LTC w u cs c hx m0 m1 m2 m3 m4 m5 zs ys b5 v5 b6 v6 B6) (ho : u'.ownsRow B6 107 3 v6 zs.length (buR ys2)) (hg : u.grownBy u' v6.ownBlock) : LTC w u' cs c hx m0 m1 m2 m3 m4 m5 zs ys2 b5 v5 b6 v6 B6 := by
  have keep : ∀ {b t : Nat} {ds : Array Value}, u.heap[b]? = some (.cells ds t (0, 0)) → t ≠ 107 → u'.heap[b]? = some (.cells ds t (0, 0)) := fun hb ht => (hg.block _ (Array.getElem?_eq_some_iff.1 hb).1 (fun e => row_ne h.r6 hb ht e.symm)).trans hb
  have hlw := h.lw
  refine ⟨⟨hg.os.trans h.bel.os, hg.tape.trans h.bel.tape, hg.output.trans h.bel.output, Nat.le_trans h.bel.size hg.size, fun j hj => (hg.block j (Nat.lt_of_lt_of_le hj h.bel.size) (fun e => by have := (h.r6.lt _ e.symm).1; omega)).trans (h.bel.block j hj)⟩, keep h.arg (by decide), keep h.x5 (by decide), ?_, keep h.x6 (by decide), ho, h.n5, h.lw⟩
  cases hv : v5.ownBlock with
  | none => exact h.r5.kept hg (.inl hv)
  | some j => exact h.r5.kept hg (.inr (fun e => by have h1 := (h.r6.lt j (e.symm.trans hv)).1; have h2 := h.n5 j hv; omega))
set_option maxRecDepth 100000 in
set_option maxHeartbeats 4000000 in
theorem walkTC (s : ByteArray) (z : QV) (w : World) : Calls Try.prog 6 #[.string s, qA z] w fun e w' => e = .returned (.bool true) ∧ Below w.heap.size w w' := by
  have HL0 : Hid (LBx w (w.alloc (.cells (qC z) 49)) w.heap.size (qC z) 49) := LBx.new w _ _
  by_cases h1 : s.size ≤ 1048576
  · have hd : decide (1048576 < (s.size : Int)) = false := by simp; omega
    have HTO : Hid _ := fun u => toQueue_any z u
    have HSS : Hid _ := specTC_any s z
    have HSI : Hid _ := implTC_any s z h1
    have hlen := tcT_len s z
    unfold AnsT tcA at HSS HSI
    generalize tcT s z = TT at *
    obtain ⟨c, hx, ⟨m0, m1, m2, m3, m4, m5⟩, zs⟩ := TT
    simp only at HSS HSI hlen
    have HLN : Hid (zs.length ≤ 2000) := (show zs.length ≤ 2000 by omega)
    have hpn : ¬ (1 + 3 * (zs.length : Int)) < 0 := by omega
    obtain ⟨Z1, Z2, Z3, Z4, Z5, Z6⟩ := z
    unfold qA at HTO HSS HSI ⊢
    unfold qC at HL0
    simp only at HTO HSS HSI HL0 ⊢
    clear h1 hlen
    go_enter Try.func6, Try.ntmps6
    go_wp2_with fail
    refine Calls.mono (HTO.out _) ?_
    generalize (w.alloc (.cells #[.int .i64 Z1, .int .i64 Z2, .int .i64 Z3, .int .i64 Z4, .int .i64 Z5, .int .i64 Z6] 49)) = u0 at *
    rintro e y1 ⟨rfl, hb⟩
    have HL1 : Hid _ := HL0.out.step hb
    clear hb HL0
    go_wp2_with fail
    refine Calls.mono (HSS.out _) ?_
    rintro e y2 ⟨v5, rfl, ho5, hb⟩
    obtain ⟨ao5, cap5, rfl⟩ := bu_sl ho5
    have HL2 : Hid _ := HL1.out.step hb
    have HO2 : Hid (y2.ownsRow w.heap.size 107 3 (.slice ao5 zs.length cap5) zs.length (buR zs)) := bu_weak ho5 HL1.out.bel.size
    clear hb ho5 HL1
    have HL2b : Hid _ := HL2.out.step (bx1 y2 (.cells #[.int .i64 c, .int .i64 hx, .slice ao5 zs.length cap5, .int .i64 m0, .int .i64 m1, .int .i64 m2, .int .i64 m3, .int .i64 m4, .int .i64 m5] 60))
    have HX2 : Hid ((y2.alloc (.cells #[.int .i64 c, .int .i64 hx, .slice ao5 zs.length cap5, .int .i64 m0, .int .i64 m1, .int .i64 m2, .int .i64 m3, .int .i64 m4, .int .i64 m5] 60)).heap[y2.heap.size]? = some (.cells #[.int .i64 c, .int .i64 hx, .slice ao5 zs.length cap5, .int .i64 m0, .int .i64 m1, .int .i64 m2, .int .i64 m3, .int .i64 m4, .int .i64 m5] 60 (0, 0))) := heap_new _ _
    have HO2b : Hid ((y2.alloc (.cells #[.int .i64 c, .int .i64 hx, .slice ao5 zs.length cap5, .int .i64 m0, .int .i64 m1, .int .i64 m2, .int .i64 m3, .int .i64 m4, .int .i64 m5] 60)).ownsRow w.heap.size 107 3 (.slice ao5 zs.length cap5) zs.length (buR zs)) := bu_below HO2.out (bx1 _ _)
    have lt2 := HL2.out.lt
    have c0 := HL2.out.cel 0 _ rfl
    have c1 := HL2.out.cel 1 _ rfl
    have c2 := HL2.out.cel 2 _ rfl
    have c3 := HL2.out.cel 3 _ rfl
    have c4 := HL2.out.cel 4 _ rfl
    have c5 := HL2.out.cel 5 _ rfl
    go_upto_region 4 with fail
    generalize (y2.alloc (.cells #[.int .i64 c, .int .i64 hx, .slice ao5 zs.length cap5, .int .i64 m0, .int .i64 m1, .int .i64 m2, .int .i64 m3, .int .i64 m4, .int .i64 m5] 60)) = y3 at *
    generalize y2.heap.size = b5 at *
    clear c0 c1 c2 c3 c4 c5 HL2 HO2 lt2
    have c0 := HL2b.out.cel 0 _ rfl
    have c1 := HL2b.out.cel 1 _ rfl
    have c2 := HL2b.out.cel 2 _ rfl
    have c3 := HL2b.out.cel 3 _ rfl
    have c4 := HL2b.out.cel 4 _ rfl
    have c5 := HL2b.out.cel 5 _ rfl
    go_wp2_with fail
    refine Calls.mono (HTO.out _) ?_
    rintro e y4 ⟨rfl, hb⟩
    have HL4 : Hid _ := HL2b.out.step hb
    have HX4 : Hid (y4.heap[b5]? = some (.cells #[.int .i64 c, .int .i64 hx, .slice ao5 zs.length cap5, .int .i64 m0, .int .i64 m1, .int .i64 m2, .int .i64 m3, .int .i64 m4, .int .i64 m5] 60 (0, 0))) := (hb.block _ (Array.getElem?_eq_some_iff.1 HX2.out).1).trans HX2.out
    have HO4 : Hid (y4.ownsRow w.heap.size 107 3 (.slice ao5 zs.length cap5) zs.length (buR zs)) := bu_below HO2b.out hb
    clear hb c0 c1 c2 c3 c4 c5 HL2b HX2 HO2b
    go_wp2_with fail
    refine Calls.mono (HSI.out _) ?_
    rintro e y5 ⟨v6, rfl, ho6, hb⟩
    obtain ⟨ao6, cap6, rfl⟩ := bu_sl ho6
    have HLP : Hid (LTC w (y5.alloc (.cells #[.int .i64 c, .int .i64 hx, .slice ao6 zs.length cap6, .int .i64 m0, .int .i64 m1, .int .i64 m2, .int .i64 m3, .int .i64 m4, .int .i64 m5] 60)) #[.int .i64 Z1, .int .i64 Z2, .int .i64 Z3, .int .i64 Z4, .int .i64 Z5, .int .i64 Z6] c hx m0 m1 m2 m3 m4 m5 zs zs b5 (.slice ao5 zs.length cap5) y5.heap.size (.slice ao6 zs.length cap6) y4.heap.size) := by
      have hB := bx1 y5 (.cells #[.int .i64 c, .int .i64 hx, .slice ao6 zs.length cap6, .int .i64 m0, .int .i64 m1, .int .i64 m2, .int .i64 m3, .int .i64 m4, .int .i64 m5] 60)
      have hL := (HL4.out.step hb).step hB
      have hx := (hb.block _ (Array.getElem?_eq_some_iff.1 HX4.out).1).trans HX4.out
      exact ⟨hL.bel, hL.box, (hB.block _ (Array.getElem?_eq_some_iff.1 hx).1).trans hx, bu_below (bu_below HO4.out hb) hB, heap_new _ _, bu_below ho6 hB, fun j hj => (HO4.out.lt j hj).2, HL4.out.bel.size⟩
    clear ho6 hb HL4 HX4 HO4
    go_upto_region 5 with fail
    generalize (y5.alloc (.cells #[.int .i64 c, .int .i64 hx, .slice ao6 zs.length cap6, .int .i64 m0, .int .i64 m1, .int .i64 m2, .int .i64 m3, .int .i64 m4, .int .i64 m5] 60)) = y6 at *
    generalize y5.heap.size = b6 at *
    generalize y4.heap.size = B6 at *
    have p0 := bC HLP.out.x5 0 _ rfl
    have p1 := bC HLP.out.x5 1 _ rfl
    have p2 := bC HLP.out.x5 2 _ rfl
    have p3 := bC HLP.out.x5 3 _ rfl
    have p4 := bC HLP.out.x5 4 _ rfl
    have p5 := bC HLP.out.x5 5 _ rfl
    have p6 := bC HLP.out.x5 6 _ rfl
    have p7 := bC HLP.out.x5 7 _ rfl
    have p8 := bC HLP.out.x5 8 _ rfl
    have g0 := bC HLP.out.x6 0 _ rfl
    have g1 := bC HLP.out.x6 1 _ rfl
    have g2 := bC HLP.out.x6 2 _ rfl
    have g3 := bC HLP.out.x6 3 _ rfl
    have g4 := bC HLP.out.x6 4 _ rfl
    have g5 := bC HLP.out.x6 5 _ rfl
    have g6 := bC HLP.out.x6 6 _ rfl
    have g7 := bC HLP.out.x6 7 _ rfl
    have g8 := bC HLP.out.x6 8 _ rfl
    have HE1 : Hid (Calls Try.prog 29 #[.agg #[.int .i64 c, .int .i64 hx, .slice ao6 zs.length cap6, .int .i64 m0, .int .i64 m1, .int .i64 m2, .int .i64 m3, .int .i64 m4, .int .i64 m5], .agg #[.int .i64 c, .int .i64 hx, .slice ao5 zs.length cap5, .int .i64 m0, .int .i64 m1, .int .i64 m2, .int .i64 m3, .int .i64 m4, .int .i64 m5]] y6 fun e w' => e = .returned (.bool true) ∧ Below y6.heap.size y6 w') := eqTC_ok c hx m0 m1 m2 m3 m4 m5 HLP.out.r6 HLP.out.r5 HLN.out
    go_wp2_with fail
    refine Calls.mono HE1.out ?_
    rintro e y7 ⟨rfl, hb⟩
    have HL7 : Hid _ := HLP.out.step hb
    clear hb HLP HE1 p0 p1 p2 p3 p4 p5 p6 p7 p8 g0 g1 g2 g3 g4 g5 g6 g7 g8
    have g0 := bC HL7.out.x6 0 _ rfl
    have g1 := bC HL7.out.x6 1 _ rfl
    have g2 := bC HL7.out.x6 2 _ rfl
    have g3 := bC HL7.out.x6 3 _ rfl
    have g4 := bC HL7.out.x6 4 _ rfl
    have g5 := bC HL7.out.x6 5 _ rfl
    have g6 := bC HL7.out.x6 6 _ rfl
    have g7 := bC HL7.out.x6 7 _ rfl
    have g8 := bC HL7.out.x6 8 _ rfl
    have HE2 : Hid (Calls Try.prog 30 #[.agg #[.int .i64 c, .int .i64 hx, .slice ao6 zs.length cap6, .int .i64 m0, .int .i64 m1, .int .i64 m2, .int .i64 m3, .int .i64 m4, .int .i64 m5], .int .i64 1] y7 fun e u => e = .returned (.int .i64 (1 + 3 * (zs.length : Int))) ∧ u.ownsRow B6 107 3 (.slice ao6 zs.length cap6) zs.length (buR (mkBL zs.length)) ∧ y7.grownBy u (Value.slice ao6 zs.length cap6).ownBlock) := markTC_ok c hx m0 m1 m2 m3 m4 m5 HL7.out.r6 HLN.out
    go_wp2_with fail
    refine Calls.mono HE2.out ?_
    rintro e y8 ⟨rfl, ho, hg⟩
    have HL8 : Hid _ := HL7.out.mark ho hg
    clear ho hg HL7 HE2 g0 g1 g2 g3 g4 g5 g6 g7 g8
    have g0 := bC HL8.out.x6 0 _ rfl
    have g1 := bC HL8.out.x6 1 _ rfl
    have g2 := bC HL8.out.x6 2 _ rfl
    have g3 := bC HL8.out.x6 3 _ rfl
    have g4 := bC HL8.out.x6 4 _ rfl
    have g5 := bC HL8.out.x6 5 _ rfl
    have g6 := bC HL8.out.x6 6 _ rfl
    have g7 := bC HL8.out.x6 7 _ rfl
    have g8 := bC HL8.out.x6 8 _ rfl
    have HE3 : Hid (Calls Try.prog 31 #[.agg #[.int .i64 c, .int .i64 hx, .slice ao6 zs.length cap6, .int .i64 m0, .int .i64 m1, .int .i64 m2, .int .i64 m3, .int .i64 m4, .int .i64 m5], .int .i64 1] y8 fun e u => e = .returned (.int .i64 (1 + 3 * (zs.length : Int))) ∧ Below y8.heap.size y8 u) := heldTC_ok zs.length c hx m0 m1 m2 m3 m4 m5 HL8.out.r6 HLN.out
    go_wp2_with fail
    refine Calls.mono HE3.out ?_
    rintro e y9 ⟨rfl, hb⟩
    have HL9 : Hid _ := HL8.out.step hb
    clear hb HL8 HE3 g0 g1 g2 g3 g4 g5 g6 g7 g8
    have c0 := bC HL9.out.arg 0 _ rfl
    have c1 := bC HL9.out.arg 1 _ rfl
    have c2 := bC HL9.out.arg 2 _ rfl
    have c3 := bC HL9.out.arg 3 _ rfl
    have c4 := bC HL9.out.arg 4 _ rfl
    have c5 := bC HL9.out.arg 5 _ rfl
    go_wp2_with fail
    refine Calls.mono (HTO.out _) ?_
    rintro e yA ⟨rfl, hb⟩
    have HLA : Hid _ := HL9.out.step hb
    clear hb HL9 c0 c1 c2 c3 c4 c5
    go_wp2_with fail
    refine Calls.mono (HSI.out _) ?_
    rintro e yB ⟨v9, rfl, ho9, hb⟩
    obtain ⟨ao9, cap9, rfl⟩ := bu_sl ho9
    have HLB : Hid _ := (HLA.out.step hb).step (bx1 yB (.cells #[.int .i64 c, .int .i64 hx, .slice ao9 zs.length cap9, .int .i64 m0, .int .i64 m1, .int .i64 m2, .int .i64 m3, .int .i64 m4, .int .i64 m5] 60))
    have HXB : Hid ((yB.alloc (.cells #[.int .i64 c, .int .i64 hx, .slice ao9 zs.length cap9, .int .i64 m0, .int .i64 m1, .int .i64 m2, .int .i64 m3, .int .i64 m4, .int .i64 m5] 60)).heap[yB.heap.size]? = some (.cells #[.int .i64 c, .int .i64 hx, .slice ao9 zs.length cap9, .int .i64 m0, .int .i64 m1, .int .i64 m2, .int .i64 m3, .int .i64 m4, .int .i64 m5] 60 (0, 0))) := heap_new _ _
    have HOB : Hid ((yB.alloc (.cells #[.int .i64 c, .int .i64 hx, .slice ao9 zs.length cap9, .int .i64 m0, .int .i64 m1, .int .i64 m2, .int .i64 m3, .int .i64 m4, .int .i64 m5] 60)).ownsRow yA.heap.size 107 3 (.slice ao9 zs.length cap9) zs.length (buR zs)) := bu_below ho9 (bx1 _ _)
    clear hb ho9 HLA
    go_upto_region 16 with fail
    generalize (yB.alloc (.cells #[.int .i64 c, .int .i64 hx, .slice ao9 zs.length cap9, .int .i64 m0, .int .i64 m1, .int .i64 m2, .int .i64 m3, .int .i64 m4, .int .i64 m5] 60)) = yC at *
    generalize yB.heap.size = b9 at *
    have p0 := bC HLB.out.x5 0 _ rfl
    have p1 := bC HLB.out.x5 1 _ rfl
    have p2 := bC HLB.out.x5 2 _ rfl
    have p3 := bC HLB.out.x5 3 _ rfl
    have p4 := bC HLB.out.x5 4 _ rfl
    have p5 := bC HLB.out.x5 5 _ rfl
    have p6 := bC HLB.out.x5 6 _ rfl
    have p7 := bC HLB.out.x5 7 _ rfl
    have p8 := bC HLB.out.x5 8 _ rfl
    have g0 := bC HXB.out 0 _ rfl
    have g1 := bC HXB.out 1 _ rfl
    have g2 := bC HXB.out 2 _ rfl
    have g3 := bC HXB.out 3 _ rfl
    have g4 := bC HXB.out 4 _ rfl
    have g5 := bC HXB.out 5 _ rfl
    have g6 := bC HXB.out 6 _ rfl
    have g7 := bC HXB.out 7 _ rfl
    have g8 := bC HXB.out 8 _ rfl
    have HE4 : Hid (Calls Try.prog 29 #[.agg #[.int .i64 c, .int .i64 hx, .slice ao9 zs.length cap9, .int .i64 m0, .int .i64 m1, .int .i64 m2, .int .i64 m3, .int .i64 m4, .int .i64 m5], .agg #[.int .i64 c, .int .i64 hx, .slice ao5 zs.length cap5, .int .i64 m0, .int .i64 m1, .int .i64 m2, .int .i64 m3, .int .i64 m4, .int .i64 m5]] yC fun e w' => e = .returned (.bool true) ∧ Below yC.heap.size yC w') := eqTC_ok c hx m0 m1 m2 m3 m4 m5 HOB.out HLB.out.r5 HLN.out
    go_wp2_with fail
    refine Calls.mono HE4.out ?_
    rintro e yD ⟨rfl, hb⟩
    have HLD : Hid _ := HLB.out.step hb
    clear hb HLB HE4 HXB HOB p0 p1 p2 p3 p4 p5 p6 p7 p8 g0 g1 g2 g3 g4 g5 g6 g7 g8
    have g0 := bC HLD.out.x6 0 _ rfl
    have g1 := bC HLD.out.x6 1 _ rfl
    have g2 := bC HLD.out.x6 2 _ rfl
    have g3 := bC HLD.out.x6 3 _ rfl
    have g4 := bC HLD.out.x6 4 _ rfl
    have g5 := bC HLD.out.x6 5 _ rfl
    have g6 := bC HLD.out.x6 6 _ rfl
    have g7 := bC HLD.out.x6 7 _ rfl
    have g8 := bC HLD.out.x6 8 _ rfl
    have HE5 : Hid (Calls Try.prog 31 #[.agg #[.int .i64 c, .int .i64 hx, .slice ao6 zs.length cap6, .int .i64 m0, .int .i64 m1, .int .i64 m2, .int .i64 m3, .int .i64 m4, .int .i64 m5], .int .i64 1] yD fun e u => e = .returned (.int .i64 (1 + 3 * (zs.length : Int))) ∧ Below yD.heap.size yD u) := heldTC_ok zs.length c hx m0 m1 m2 m3 m4 m5 HLD.out.r6 HLN.out
    go_wp2_with fail
    refine Calls.mono HE5.out ?_
    rintro e yE ⟨rfl, hb⟩
    have HLE : Hid _ := HLD.out.step hb
    clear hb HLD HE5 g0 g1 g2 g3 g4 g5 g6 g7 g8
    go_wp2_with fail
    go_ret
    exact ⟨rfl, HLE.out.bel⟩
  · have hd : decide (1048576 < (s.size : Int)) = true := by simp; omega
    unfold qA
    unfold qC at HL0
    clear h1
    go_enter Try.func6, Try.ntmps6
    go_wp2_with fail
    go_ret
    exact ⟨rfl, HL0.out.bel⟩
end Go.Proofs.Ytccapapkjikjjaa
