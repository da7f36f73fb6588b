import Derived.Test.YtohmejfpebjlaaaGreatDoorSrcZ
import Derived.Test.YtohmejfpebjlaaaGreatDoorPFault
import Derived.Deep.LoopGhost
namespace Go.Proofs.YtohmejfpebjlaaaGreatDoor
open Go.ChangeShapes Go.WideShapes Go.ChangeAt Go.RowKit

def gd (y : BitVec 64) : Prop := nm (1 + (y.toNat : Int) / 1048576 % 54) ≠ ⟨#[]⟩
theorem reachB (x : BitVec 64) : ∃ k, 1 ≤ k ∧ k ≤ xN ∧ gd (it k x) := by
  have g : ∀ y : BitVec 64, y.toNat / 1048576 = 0 → gd y := by
    intro y hy
    unfold gd
    rw [show (1 + (y.toNat : Int) / 1048576 % 54) = 1 by omega]
    decide +kernel
  by_cases hx : x = 0
  · subst hx
    exact ⟨1, Nat.le_refl _, by decide, g _ (by rw [it_zero]; rfl)⟩
  obtain ⟨k, hk, e⟩ := all_reached x hx
  by_cases h0 : k = 0
  · subst h0
    refine ⟨xN, by decide, Nat.le_refl _, g _ ?_⟩
    rw [it_N, show x = 1 from e]
    rfl
  · exact ⟨k, by omega, by omega, g _ (by rw [e]; rfl)⟩
/-- So many draws at most are still to come. -/
def Few (n len p : Nat) (m : Int) : Prop := ∃ j, n = (len - p) * (xN + 1) + j ∧ j ≤ xN ∧ (p = len → ∃ k, 1 ≤ k ∧ k ≤ j ∧ gd (it k (BitVec.ofInt 64 m)))
theorem few_any (len p : Nat) (m : Int) : Few ((len - p) * (xN + 1) + xN) len p m :=
  ⟨xN, rfl, Nat.le_refl _, fun _ => reachB _⟩
theorem few_next {n len p p' : Nat} {m m' r : Int} (h : Few n len p m)
    (hd : (p < len ∧ p' = p + 1) ∨ (p = len ∧ p' = len ∧ m' = ((xT (BitVec.ofInt 64 m)).toNat : Int) ∧ r = ((xT (BitVec.ofInt 64 m)).toNat : Int) / 1048576 % 54)) :
    ∃ n', n' < n ∧ (nm (1 + r) ≠ ⟨#[]⟩ ∨ Few n' len p' m') := by
  obtain ⟨j, hn, hj, hk⟩ := h
  rcases hd with ⟨hp, rfl⟩ | ⟨hp, rfl, rfl, rfl⟩
  · refine ⟨(len - (p + 1)) * (xN + 1) + xN, ?_, .inr (few_any _ _ _)⟩
    rw [hn, show len - p = len - (p + 1) + 1 by omega, Nat.add_mul]
    omega
  · obtain ⟨k, k1, k2, hg⟩ := hk hp
    subst hp
    by_cases hk1 : k = 1
    · subst hk1
      exact ⟨0, by rw [hn]; omega, .inl hg⟩
    · refine ⟨n - 1, by rw [hn]; omega, .inr ⟨j - 1, by rw [hn]; omega, by omega, fun _ => ⟨k - 1, by omega, by omega, ?_⟩⟩⟩
      rw [ofInt_back]
      have e : it k (BitVec.ofInt 64 m) = it (k - 1) (xT (BitVec.ofInt 64 m)) := by
        conv => lhs; rw [show k = (k - 1) + 1 by omega]
        rfl
      rw [← e]
      exact hg
theorem SP.below {w w' : World} {b : Nat} {a : Option Addr} {len cap p : Nat} {m z : Int} (h : SP w b a len cap p m z) (hb : Below w.heap.size w w') : SP w' b a len cap p m z := by
  have hlt := h.ok.lt
  refine ⟨(hb.block b hlt).trans h.src, ?_, h.le, h.bnd, h.z0, h.z1⟩
  exact h.code.kept ⟨hb.os, hb.tape, hb.output, hb.size, fun k hk _ => hb.block k hk⟩
theorem SP.set {w : World} {b : Nat} {a : Option Addr} {len cap p : Nat} {m z : Int} (h : SP w b a len cap p m z) {I o : Nat} (hI : b < I) (v : Value) : SP (w.setCell ⟨I, o, none⟩ v) b a len cap p m z := by
  refine ⟨(Below.heap_setCell _ _ _ _ (by simp <;> omega)).trans h.src, ?_, h.le, h.bnd, h.z0, h.z1⟩
  rcases h.code with hc | ⟨cb, co, ha, hlt, hcc⟩
  · exact .inl hc
  · refine .inr ⟨cb, co, ha, hlt, fun i hi => ?_⟩
    obtain ⟨x, h0, h1, hx⟩ := hcc i hi
    exact ⟨x, h0, h1, (World.cell?_setCell_other _ _ _ _ (by simp <;> omega)).trans hx⟩
theorem fB_sz (k : Nat) (h : k < 9) : (fB k).size ≤ 3 := by
  obtain rfl | rfl | rfl | rfl | rfl | rfl | rfl | rfl | rfl : k = 0 ∨ k = 1 ∨ k = 2 ∨ k = 3 ∨ k = 4 ∨ k = 5 ∨ k = 6 ∨ k = 7 ∨ k = 8 := by omega
  all_goals decide
theorem SrcOk.set {w : World} {b : Nat} {a : Option Addr} {len cap : Nat} (h : SrcOk w b a len cap) {I o : Nat} (hI : b < I) (v : Value) : SrcOk (w.setCell ⟨I, o, none⟩ v) b a len cap := by
  obtain ⟨p, m, z, hs⟩ := SP.of h
  exact (hs.set hI v).ok
theorem sl4 {u v : World} {b t : Nat} {v0 v1 v2 v3 : Int} (hg : (u.alloc (.cells #[.int .i64 v0, .int .i64 v1, .int .i64 v2, .int .i64 v3] t)).grownBy v (some b)) (hb : b ≠ u.heap.size) (Q : Nat) (hQ : Q < 4)
    (h0 : -1048576 ≤ v0 ∧ v0 ≤ 1048576) (h1 : -1048576 ≤ v1 ∧ v1 ≤ 1048576) (h2 : -1048576 ≤ v2 ∧ v2 ≤ 1048576) (h3 : -1048576 ≤ v3 ∧ v3 ≤ 1048576) : ∃ y : Int, v.cell? ⟨u.heap.size, Q, none⟩ = some (.int .i64 y) ∧ -1048576 ≤ y ∧ y ≤ 1048576 := by
  have hh : v.heap[u.heap.size]? = some (.cells #[.int .i64 v0, .int .i64 v1, .int .i64 v2, .int .i64 v3] t (0, 0)) := (hg.block u.heap.size (by simp) (by simp; omega)).trans (heap_new _ _)
  obtain rfl | rfl | rfl | rfl : Q = 0 ∨ Q = 1 ∨ Q = 2 ∨ Q = 3 := by omega
  · exact ⟨v0, by simp [World.cell?, hh], h0.1, h0.2⟩
  · exact ⟨v1, by simp [World.cell?, hh], h1.1, h1.2⟩
  · exact ⟨v2, by simp [World.cell?, hh], h2.1, h2.2⟩
  · exact ⟨v3, by simp [World.cell?, hh], h3.1, h3.2⟩
theorem sl3 {u v : World} {b t : Nat} {v0 v1 v2 : Int} (hg : (u.alloc (.cells #[.int .i64 v0, .int .i64 v1, .int .i64 v2] t)).grownBy v (some b)) (hb : b ≠ u.heap.size) (Q : Nat) (hQ : Q < 3)
    (h0 : -1048576 ≤ v0 ∧ v0 ≤ 1048576) (h1 : -1048576 ≤ v1 ∧ v1 ≤ 1048576) (h2 : -1048576 ≤ v2 ∧ v2 ≤ 1048576) (_ : True) : ∃ y : Int, v.cell? ⟨u.heap.size, Q, none⟩ = some (.int .i64 y) ∧ -1048576 ≤ y ∧ y ≤ 1048576 := by
  have hh : v.heap[u.heap.size]? = some (.cells #[.int .i64 v0, .int .i64 v1, .int .i64 v2] t (0, 0)) := (hg.block u.heap.size (by simp) (by simp; omega)).trans (heap_new _ _)
  obtain rfl | rfl | rfl : Q = 0 ∨ Q = 1 ∨ Q = 2 := by omega
  · exact ⟨v0, by simp [World.cell?, hh], h0.1, h0.2⟩
  · exact ⟨v1, by simp [World.cell?, hh], h1.1, h1.2⟩
  · exact ⟨v2, by simp [World.cell?, hh], h2.1, h2.2⟩
/-- What the drawing of an instruction keeps. -/
structure DI (w wr : World) (b R I : Nat) : Prop where
  grow : w.grownBy wr (some b)
  res : InsAt wr R 0 (0, 0, 0, 0)
  bR : b < R
  hR : R = w.heap.size
  RI : R < I
  lt : I < wr.heap.size
theorem InsAt.kept {n b : Nat} {x : Int} {f : Int × Int × Int × Int} {w w' : World} (h : InsAt w n x f) (hg : w.grownBy w' (some b)) (hn : n < w.heap.size) (hb : n ≠ b) : InsAt w' n x f :=
  (hg.block n hn (by simp; omega)).trans h
theorem InsAt.setOp {n : Nat} {x : Int} {f : Int × Int × Int × Int} {w : World} (h : InsAt w n x f) (y : Int) : InsAt (w.setCell ⟨n, 0, none⟩ (.int .i64 y)) n y f := by
  unfold InsAt at h ⊢
  simp [World.setCell, Array.getElem?_modify, h]
theorem DI.next {w wr u : World} {b R I : Nat} (h : DI w wr b R I) (hg : wr.grownBy u (some b)) : DI w u b R I :=
  ⟨Lib.grownBy_trans h.grow hg, h.res.kept hg (by have := h.RI; have := h.lt; omega) (by have := h.bR; omega), h.bR, h.hR, h.RI, Nat.lt_of_lt_of_le h.lt hg.size⟩
theorem DI.below {w wr u : World} {b R I : Nat} (h : DI w wr b R I) (hb : Below wr.heap.size wr u) : DI w u b R I :=
  h.next ⟨hb.os, hb.tape, hb.output, hb.size, fun k hk _ => hb.block k hk⟩
theorem DI.set {w wr : World} {b R I : Nat} (h : DI w wr b R I) (o : Nat) (v : Value) : DI w (wr.setCell ⟨I, o, none⟩ v) b R I := by
  refine ⟨?_, h.res.other (by have := h.RI; omega) _ _, h.bR, h.hR, h.RI, by have := h.lt; simpa using this⟩
  refine ⟨h.grow.os, h.grow.tape, h.grow.output, by have := h.grow.size; simpa using this, fun k hk hk2 => ?_⟩
  rw [Below.heap_setCell _ _ _ _ (by have := h.RI; have := h.hR; simp; omega)]
  exact h.grow.block k hk hk2

set_option maxRecDepth 100000 in
set_option maxHeartbeats 8000000 in
theorem src_instr (b : Nat) (a : Option Addr) (len cap : Nat) (w : World) (h : SrcOk w b a len cap) :
    Calls Tryz.prog 39 #[.pointer (some ⟨b, 0, none⟩)] w fun e w' => ∃ op x1 x2 x3 x4 : Int, e = .returned (ins op x1 x2 x3 x4) ∧ (1 ≤ op ∧ op ≤ 54) ∧ (-9223372036854775808 ≤ x1 ∧ x1 ≤ 9223372036854775807) ∧ (-9223372036854775808 ≤ x2 ∧ x2 ≤ 9223372036854775807) ∧ (-9223372036854775808 ≤ x3 ∧ x3 ≤ 9223372036854775807) ∧ (-9223372036854775808 ≤ x4 ∧ x4 ≤ 9223372036854775807) ∧ SrcOk w' b a len cap ∧ w.grownBy w' (some b) := by
  have hlt := h.lt
  obtain ⟨p, m, z, hsp⟩ := SP.of h
  have hsp1 := hsp.below ((Below.refl _ _).alloc (Nat.le_refl _) (.cells #[.int .i64 0, .int .i64 0, .int .i64 0, .int .i64 0, .int .i64 0] 24))
  have HS : Hid (SP (w.alloc (.cells #[.int .i64 0, .int .i64 0, .int .i64 0, .int .i64 0, .int .i64 0] 24)) b a len cap p m z) := hsp1
  clear hsp1 hsp h
  go_enter Tryz.func39, Tryz.ntmps39
  go_wp2_with (go_at_call 40; refine (src_nX b a len cap p m z 54 _ HS.out (by omega) (by omega)).mono ?_; rintro e u1 ⟨r, m1, p1, rfl, r0, r1, hs1, hg1, hd1⟩)
  have hz : w.heap.size < u1.heap.size := by have := hg1.size; simp at this; omega
  have hdi : DI w (u1.alloc (.cells #[.int .i64 (1 + r), .int .i64 0, .int .i64 0, .int .i64 0, .int .i64 0] 24)) b w.heap.size u1.heap.size := by
    refine ⟨Lib.grownBy_trans (Lib.grownBy_trans (World.grownBy_alloc w _ (some b)) hg1) (World.grownBy_alloc _ _ _), ?_, hlt, rfl, hz, by simp⟩
    exact (Below.heap_alloc _ _ _ hz).trans (InsAt.kept (x := 0) (f := (0, 0, 0, 0)) (heap_new _ _) hg1 (by simp) (by omega))
  have hsp := hs1.below ((Below.refl _ _).alloc (Nat.le_refl _) (.cells #[.int .i64 (1 + r), .int .i64 0, .int .i64 0, .int .i64 0, .int .i64 0] 24))
  have hin : InsAt (u1.alloc (.cells #[.int .i64 (1 + r), .int .i64 0, .int .i64 0, .int .i64 0, .int .i64 0] 24)) u1.heap.size (1 + r) (0, 0, 0, 0) := heap_new _ _
  have hlt1 : b < u1.heap.size := by omega
  generalize hI : u1.heap.size = I at *
  clear hI
  clear hg1 hd1 hs1
  go_loopg [11] ((len - p1) * (xN + 1) + xN) (fun g _ wr => ∃ (op : Int) (p : Nat) (m : Int), 1 ≤ op ∧ op ≤ 54 ∧ SP wr b a len cap p m z ∧ InsAt wr I op (0, 0, 0, 0) ∧ DI w wr b w.heap.size I ∧ (nm op ≠ ⟨#[]⟩ ∨ Few g len p m))
  case atStart => exact ⟨1 + r, p1, m1, by omega, by omega, hsp, hin, hdi, .inr (few_any _ _ _)⟩
  case round =>
    obtain ⟨op, p2, m2, o0, o1, hsp2, hin2, hdi2, hfew⟩ := hrel
    have hc0 := hin2.op
    have HS2 : Hid (SP wr b a len cap p2 m2 z) := hsp2
    have HI2 : Hid (InsAt wr I op (0, 0, 0, 0)) := hin2
    have HD2 : Hid (DI w wr b w.heap.size I) := hdi2
    clear hsp2 hin2 hdi2 hsp hin hdi
    by_cases hk : kd op = 0
    · have HK : Hid (kd op = 0) := hk
      have hne : nm op = ⟨#[]⟩ := by
        refine Classical.byContradiction fun hne => ?_
        have h1 : kd op = kd2 op := if_neg hne
        have := kd2_b op
        omega
      have hF : Hid (Few gk len p2 m2) := (hfew.resolve_left (fun h => h hne))
      clear hne hfew hk
      go_wp2_with (first | (go_at_call 18; refine (l02Form_any _ _ (by omega) (by omega)).mono ?_; rintro e u2 ⟨rfl, hw2⟩; rw [HK.out]; unfold fB; replace HS2 := HS2.out.below hw2; replace HI2 := HI2.out.below hw2 HD2.out.lt; replace HD2 := HD2.out.below hw2; replace HS2 : Hid _ := HS2; replace HI2 : Hid (InsAt u2 I op (0, 0, 0, 0)) := HI2; replace HD2 : Hid _ := HD2) | (go_at_call 40; refine (src_nX b a len cap p2 m2 z 54 _ HS2.out (by omega) (by omega)).mono ?_; rintro e u3 ⟨r3, m3, p3, rfl, r30, r31, hs3, hg3, hd3⟩; have hi3 := HI2.out.kept hg3 HD2.out.lt (by have := HD2.out.bR; have := HD2.out.RI; omega); have hD3 := HD2.out.next hg3; have hc3 := hi3.op; have hz3 := hi3.fz 0; have HX : Hid (SP u3 b a len cap p3 m3 z ∧ InsAt u3 I op (0, 0, 0, 0) ∧ DI w u3 b w.heap.size I) := ⟨hs3, hi3, hD3⟩; have HY : Hid _ := few_next hF.out hd3; clear hs3 hi3 hD3 hg3 hd3))
      obtain ⟨n', hn', hor⟩ := HY.out
      obtain ⟨hs3, hi3, hD3⟩ := HX.out
      go_roundg n'
      case measure => exact hn'
      case rel => exact ⟨1 + r3, p3, m3, by omega, by omega, hs3.set (by have := hD3.bR; have := hD3.RI; omega) _, hi3.setOp _, hD3.set _ _, hor⟩
    · have hneq : ((fB (kd op)).toList == [63]) = false := beqL_no (by
        have hk9 := kd_lt op
        generalize kd op = k at *
        obtain rfl | rfl | rfl | rfl | rfl | rfl | rfl | rfl : k = 1 ∨ k = 2 ∨ k = 3 ∨ k = 4 ∨ k = 5 ∨ k = 6 ∨ k = 7 ∨ k = 8 := by omega
        all_goals decide +kernel)
      have hfs := fB_sz (kd op) (kd_lt op)
      have hform := fun u => l02Form_any op u (by omega) (by omega)
      generalize fB (kd op) = f at *
      clear hfew hk
      go_wp2_with (go_at_call 18; refine Calls.mono (hform _) ?_; rintro e u2 ⟨rfl, hw2⟩; replace HS2 := HS2.out.below hw2; replace HI2 := HI2.out.below hw2 HD2.out.lt; replace HD2 := HD2.out.below hw2; replace HS2 : Hid _ := HS2; replace HI2 : Hid (InsAt u2 I op (0, 0, 0, 0)) := HI2; replace HD2 : Hid _ := HD2; have hc0 := InsAt.op HI2.out)
      go_loopw [5] (fun kk wx => ∃ j : Nat, j ≤ f.size ∧ kk = .int .i64 j ∧ ∃ x1 x2 x3 x4 : Int, SrcOk wx b a len cap ∧ InsAt wx I op (x1, x2, x3, x4) ∧ DI w wx b w.heap.size I ∧ -1048576 ≤ x1 ∧ x1 ≤ 1048576 ∧ -1048576 ≤ x2 ∧ x2 ≤ 1048576 ∧ -1048576 ≤ x3 ∧ x3 ≤ 1048576 ∧ -1048576 ≤ x4 ∧ x4 ≤ 1048576) (fun kk _ => f.size - (intOf kk).toNat)
      case atStart => exact ⟨0, Nat.zero_le _, rfl, 0, 0, 0, 0, HS2.out.ok, HI2.out, HD2.out, by decide, by decide, by decide, by decide, by decide, by decide, by decide, by decide⟩
      case round =>
        obtain ⟨j, hj, rfl, x1, x2, x3, x4, hs, hi, hd, b1, b2, b3, b4, b5, b6, b7, b8⟩ := hrel
        have HS : Hid (SrcOk wr b a len cap) := hs
        have HI : Hid (InsAt wr I op (x1, x2, x3, x4)) := hi
        have HD : Hid (DI w wr b w.heap.size I) := hd
        clear hs hi hd HS2 HI2 HD2 hform
        by_cases hjl : j < f.size
        · by_cases hj0 : j = 0
          · subst hj0
            have ix := fun w => idx_str f 0 (by omega) w 0 rfl
            generalize bt f 0 = ch at *
            cases hv : (ch == 118)
            · cases hi5 : (ch == 105)
              · cases hl8 : (ch == 108)
                · go_wp2_with (first | (go_at_call_of 40 (Value.int IntKind.i64 16); refine (src_n b a len cap 16 _ HS.out (by omega)).mono ?_; rintro e v16 ⟨q, rfl, q0, q1, hs, hg⟩; replace HI : Hid (InsAt v16 I op (x1, x2, x3, x4)) := InsAt.kept HI.out hg HD.out.lt (by have := HD.out.bR; have := HD.out.RI; omega); replace HD : Hid _ := HD.out.next hg; replace HS : Hid (SrcOk v16 b a len cap) := hs; clear hg hs; have hcc := InsAt.cell HI.out 1 (by omega) (by omega); have hzz := InsAt.fz HI.out 1))
                  go_roundw
                  case rel => exact ⟨0 + 1, by omega, by go_num, _, x2, x3, x4, SrcOk.set HS.out (by have := HD.out.bR; have := HD.out.RI; omega) _, InsAt.put HI.out 1 (by omega) (by omega) _, HD.out.set _ _, by omega, by omega, by omega, by omega, by omega, by omega, by omega, by omega⟩
                  case measure => simp [intOf]; omega
                · go_wp2_with (first | (go_at_call_of 40 (Value.int IntKind.i64 16); refine (src_n b a len cap 16 _ HS.out (by omega)).mono ?_; rintro e v16 ⟨q, rfl, q0, q1, hs, hg⟩; replace HI : Hid (InsAt v16 I op (x1, x2, x3, x4)) := InsAt.kept HI.out hg HD.out.lt (by have := HD.out.bR; have := HD.out.RI; omega); replace HD : Hid _ := HD.out.next hg; replace HS : Hid (SrcOk v16 b a len cap) := hs; clear hg hs; have hcc := InsAt.cell HI.out 4 (by omega) (by omega); have hzz := InsAt.fz HI.out 4) | (go_at_call_of 40 (Value.int IntKind.i64 64); refine (src_n b a len cap 64 _ HS.out (by omega)).mono ?_; rintro e v64 ⟨q64, rfl, q640, q641, hs, hg⟩; replace HI : Hid (InsAt v64 I op (x1, x2, x3, x4)) := InsAt.kept HI.out hg HD.out.lt (by have := HD.out.bR; have := HD.out.RI; omega); replace HD : Hid _ := HD.out.next hg; replace HS : Hid (SrcOk v64 b a len cap) := hs; clear hg hs; have hcc := InsAt.cell HI.out 4 (by omega) (by omega); have hzz := InsAt.fz HI.out 4) | (go_at_call_of 40 (Value.int IntKind.i64 3); refine (src_n b a len cap 3 _ (HS.out.far (World.grownBy_alloc _ _ none)) (by omega)).mono ?_; rintro e vs ⟨qs, rfl, qs0, qs1, hs, hg⟩; obtain ⟨Q, rfl⟩ := Int.eq_ofNat_of_zero_le qs0; obtain ⟨y, hy, y0, y1⟩ := sl3 hg (by have := HD.out.bR; have := HD.out.RI; have := HD.out.lt; omega) Q (by omega) (by omega) (by omega) (by omega) trivial; replace HI : Hid (InsAt vs I op (x1, x2, x3, x4)) := InsAt.kept ((Below.heap_alloc _ _ _ HD.out.lt).trans HI.out) hg (by have := HD.out.lt; simp; omega) (by have := HD.out.bR; have := HD.out.RI; omega); replace HD : Hid _ := (HD.out.next (World.grownBy_alloc _ _ _)).next hg; replace HS : Hid (SrcOk vs b a len cap) := hs; clear hg hs; have hcc := InsAt.cell HI.out 4 (by omega) (by omega); have hzz := InsAt.fz HI.out 4))
                  go_roundw
                  case rel => exact ⟨0 + 1, by omega, by go_num, x1, x2, x3, _, SrcOk.set HS.out (by have := HD.out.bR; have := HD.out.RI; omega) _, InsAt.put HI.out 4 (by omega) (by omega) _, HD.out.set _ _, by omega, by omega, by omega, by omega, by omega, by omega, by omega, by omega⟩
                  case measure => simp [intOf]; omega
              · go_wp2_with (first | (go_at_call_of 40 (Value.int IntKind.i64 16); refine (src_n b a len cap 16 _ HS.out (by omega)).mono ?_; rintro e v16 ⟨q, rfl, q0, q1, hs, hg⟩; replace HI : Hid (InsAt v16 I op (x1, x2, x3, x4)) := InsAt.kept HI.out hg HD.out.lt (by have := HD.out.bR; have := HD.out.RI; omega); replace HD : Hid _ := HD.out.next hg; replace HS : Hid (SrcOk v16 b a len cap) := hs; clear hg hs; have hcc := InsAt.cell HI.out 4 (by omega) (by omega); have hzz := InsAt.fz HI.out 4) | (go_at_call_of 40 (Value.int IntKind.i64 64); refine (src_n b a len cap 64 _ HS.out (by omega)).mono ?_; rintro e v64 ⟨q64, rfl, q640, q641, hs, hg⟩; replace HI : Hid (InsAt v64 I op (x1, x2, x3, x4)) := InsAt.kept HI.out hg HD.out.lt (by have := HD.out.bR; have := HD.out.RI; omega); replace HD : Hid _ := HD.out.next hg; replace HS : Hid (SrcOk v64 b a len cap) := hs; clear hg hs; have hcc := InsAt.cell HI.out 4 (by omega) (by omega); have hzz := InsAt.fz HI.out 4) | (go_at_call_of 40 (Value.int IntKind.i64 4); refine (src_n b a len cap 4 _ (HS.out.far (World.grownBy_alloc _ _ none)) (by omega)).mono ?_; rintro e vs ⟨qs, rfl, qs0, qs1, hs, hg⟩; obtain ⟨Q, rfl⟩ := Int.eq_ofNat_of_zero_le qs0; obtain ⟨y, hy, y0, y1⟩ := sl4 hg (by have := HD.out.bR; have := HD.out.RI; have := HD.out.lt; omega) Q (by omega) (by omega) (by omega) (by omega) (by omega); replace HI : Hid (InsAt vs I op (x1, x2, x3, x4)) := InsAt.kept ((Below.heap_alloc _ _ _ HD.out.lt).trans HI.out) hg (by have := HD.out.lt; simp; omega) (by have := HD.out.bR; have := HD.out.RI; omega); replace HD : Hid _ := (HD.out.next (World.grownBy_alloc _ _ _)).next hg; replace HS : Hid (SrcOk vs b a len cap) := hs; clear hg hs; have hcc := InsAt.cell HI.out 4 (by omega) (by omega); have hzz := InsAt.fz HI.out 4))
                go_roundw
                case rel => exact ⟨0 + 1, by omega, by go_num, x1, x2, x3, _, SrcOk.set HS.out (by have := HD.out.bR; have := HD.out.RI; omega) _, InsAt.put HI.out 4 (by omega) (by omega) _, HD.out.set _ _, by omega, by omega, by omega, by omega, by omega, by omega, by omega, by omega⟩
                case measure => simp [intOf]; omega
            · have e118 : ch = 118 := by simpa using hv
              subst e118
              go_wp2_with (first | (go_at_call_of 40 (Value.int IntKind.i64 16); refine (src_n b a len cap 16 _ HS.out (by omega)).mono ?_; rintro e v16 ⟨q, rfl, q0, q1, hs, hg⟩; replace HI : Hid (InsAt v16 I op (x1, x2, x3, x4)) := InsAt.kept HI.out hg HD.out.lt (by have := HD.out.bR; have := HD.out.RI; omega); replace HD : Hid _ := HD.out.next hg; replace HS : Hid (SrcOk v16 b a len cap) := hs; clear hg hs; have hcc := InsAt.cell HI.out 1 (by omega) (by omega); have hzz := InsAt.fz HI.out 1) | (go_at_call_of 40 (Value.int IntKind.i64 4); refine (src_n b a len cap 4 _ HS.out (by omega)).mono ?_; rintro e v4 ⟨q4, rfl, q40, q41, hs, hg⟩; replace HI : Hid (InsAt v4 I op (x1, x2, x3, x4)) := InsAt.kept HI.out hg HD.out.lt (by have := HD.out.bR; have := HD.out.RI; omega); replace HD : Hid _ := HD.out.next hg; replace HS : Hid (SrcOk v4 b a len cap) := hs; clear hg hs; have hcc := InsAt.cell HI.out 1 (by omega) (by omega); have hzz := InsAt.fz HI.out 1))
              go_roundw
              case rel => exact ⟨0 + 1, by omega, by go_num, _, x2, x3, x4, SrcOk.set HS.out (by have := HD.out.bR; have := HD.out.RI; omega) _, InsAt.put HI.out 1 (by omega) (by omega) _, HD.out.set _ _, by omega, by omega, by omega, by omega, by omega, by omega, by omega, by omega⟩
              case measure => simp [intOf]; omega
          by_cases hj1 : j = 1
          · subst hj1
            have ix := fun w => idx_str f 1 (by omega) w 1 rfl
            generalize bt f 1 = ch at *
            cases hv : (ch == 118)
            · cases hi5 : (ch == 105)
              · cases hl8 : (ch == 108)
                · go_wp2_with (first | (go_at_call_of 40 (Value.int IntKind.i64 16); refine (src_n b a len cap 16 _ HS.out (by omega)).mono ?_; rintro e v16 ⟨q, rfl, q0, q1, hs, hg⟩; replace HI : Hid (InsAt v16 I op (x1, x2, x3, x4)) := InsAt.kept HI.out hg HD.out.lt (by have := HD.out.bR; have := HD.out.RI; omega); replace HD : Hid _ := HD.out.next hg; replace HS : Hid (SrcOk v16 b a len cap) := hs; clear hg hs; have hcc := InsAt.cell HI.out 2 (by omega) (by omega); have hzz := InsAt.fz HI.out 2))
                  go_roundw
                  case rel => exact ⟨1 + 1, by omega, by go_num, x1, _, x3, x4, SrcOk.set HS.out (by have := HD.out.bR; have := HD.out.RI; omega) _, InsAt.put HI.out 2 (by omega) (by omega) _, HD.out.set _ _, by omega, by omega, by omega, by omega, by omega, by omega, by omega, by omega⟩
                  case measure => simp [intOf]; omega
                · go_wp2_with (first | (go_at_call_of 40 (Value.int IntKind.i64 16); refine (src_n b a len cap 16 _ HS.out (by omega)).mono ?_; rintro e v16 ⟨q, rfl, q0, q1, hs, hg⟩; replace HI : Hid (InsAt v16 I op (x1, x2, x3, x4)) := InsAt.kept HI.out hg HD.out.lt (by have := HD.out.bR; have := HD.out.RI; omega); replace HD : Hid _ := HD.out.next hg; replace HS : Hid (SrcOk v16 b a len cap) := hs; clear hg hs; have hcc := InsAt.cell HI.out 4 (by omega) (by omega); have hzz := InsAt.fz HI.out 4) | (go_at_call_of 40 (Value.int IntKind.i64 64); refine (src_n b a len cap 64 _ HS.out (by omega)).mono ?_; rintro e v64 ⟨q64, rfl, q640, q641, hs, hg⟩; replace HI : Hid (InsAt v64 I op (x1, x2, x3, x4)) := InsAt.kept HI.out hg HD.out.lt (by have := HD.out.bR; have := HD.out.RI; omega); replace HD : Hid _ := HD.out.next hg; replace HS : Hid (SrcOk v64 b a len cap) := hs; clear hg hs; have hcc := InsAt.cell HI.out 4 (by omega) (by omega); have hzz := InsAt.fz HI.out 4) | (go_at_call_of 40 (Value.int IntKind.i64 3); refine (src_n b a len cap 3 _ (HS.out.far (World.grownBy_alloc _ _ none)) (by omega)).mono ?_; rintro e vs ⟨qs, rfl, qs0, qs1, hs, hg⟩; obtain ⟨Q, rfl⟩ := Int.eq_ofNat_of_zero_le qs0; obtain ⟨y, hy, y0, y1⟩ := sl3 hg (by have := HD.out.bR; have := HD.out.RI; have := HD.out.lt; omega) Q (by omega) (by omega) (by omega) (by omega) trivial; replace HI : Hid (InsAt vs I op (x1, x2, x3, x4)) := InsAt.kept ((Below.heap_alloc _ _ _ HD.out.lt).trans HI.out) hg (by have := HD.out.lt; simp; omega) (by have := HD.out.bR; have := HD.out.RI; omega); replace HD : Hid _ := (HD.out.next (World.grownBy_alloc _ _ _)).next hg; replace HS : Hid (SrcOk vs b a len cap) := hs; clear hg hs; have hcc := InsAt.cell HI.out 4 (by omega) (by omega); have hzz := InsAt.fz HI.out 4))
                  go_roundw
                  case rel => exact ⟨1 + 1, by omega, by go_num, x1, x2, x3, _, SrcOk.set HS.out (by have := HD.out.bR; have := HD.out.RI; omega) _, InsAt.put HI.out 4 (by omega) (by omega) _, HD.out.set _ _, by omega, by omega, by omega, by omega, by omega, by omega, by omega, by omega⟩
                  case measure => simp [intOf]; omega
              · go_wp2_with (first | (go_at_call_of 40 (Value.int IntKind.i64 16); refine (src_n b a len cap 16 _ HS.out (by omega)).mono ?_; rintro e v16 ⟨q, rfl, q0, q1, hs, hg⟩; replace HI : Hid (InsAt v16 I op (x1, x2, x3, x4)) := InsAt.kept HI.out hg HD.out.lt (by have := HD.out.bR; have := HD.out.RI; omega); replace HD : Hid _ := HD.out.next hg; replace HS : Hid (SrcOk v16 b a len cap) := hs; clear hg hs; have hcc := InsAt.cell HI.out 4 (by omega) (by omega); have hzz := InsAt.fz HI.out 4) | (go_at_call_of 40 (Value.int IntKind.i64 64); refine (src_n b a len cap 64 _ HS.out (by omega)).mono ?_; rintro e v64 ⟨q64, rfl, q640, q641, hs, hg⟩; replace HI : Hid (InsAt v64 I op (x1, x2, x3, x4)) := InsAt.kept HI.out hg HD.out.lt (by have := HD.out.bR; have := HD.out.RI; omega); replace HD : Hid _ := HD.out.next hg; replace HS : Hid (SrcOk v64 b a len cap) := hs; clear hg hs; have hcc := InsAt.cell HI.out 4 (by omega) (by omega); have hzz := InsAt.fz HI.out 4) | (go_at_call_of 40 (Value.int IntKind.i64 4); refine (src_n b a len cap 4 _ (HS.out.far (World.grownBy_alloc _ _ none)) (by omega)).mono ?_; rintro e vs ⟨qs, rfl, qs0, qs1, hs, hg⟩; obtain ⟨Q, rfl⟩ := Int.eq_ofNat_of_zero_le qs0; obtain ⟨y, hy, y0, y1⟩ := sl4 hg (by have := HD.out.bR; have := HD.out.RI; have := HD.out.lt; omega) Q (by omega) (by omega) (by omega) (by omega) (by omega); replace HI : Hid (InsAt vs I op (x1, x2, x3, x4)) := InsAt.kept ((Below.heap_alloc _ _ _ HD.out.lt).trans HI.out) hg (by have := HD.out.lt; simp; omega) (by have := HD.out.bR; have := HD.out.RI; omega); replace HD : Hid _ := (HD.out.next (World.grownBy_alloc _ _ _)).next hg; replace HS : Hid (SrcOk vs b a len cap) := hs; clear hg hs; have hcc := InsAt.cell HI.out 4 (by omega) (by omega); have hzz := InsAt.fz HI.out 4))
                go_roundw
                case rel => exact ⟨1 + 1, by omega, by go_num, x1, x2, x3, _, SrcOk.set HS.out (by have := HD.out.bR; have := HD.out.RI; omega) _, InsAt.put HI.out 4 (by omega) (by omega) _, HD.out.set _ _, by omega, by omega, by omega, by omega, by omega, by omega, by omega, by omega⟩
                case measure => simp [intOf]; omega
            · have e118 : ch = 118 := by simpa using hv
              subst e118
              go_wp2_with (first | (go_at_call_of 40 (Value.int IntKind.i64 16); refine (src_n b a len cap 16 _ HS.out (by omega)).mono ?_; rintro e v16 ⟨q, rfl, q0, q1, hs, hg⟩; replace HI : Hid (InsAt v16 I op (x1, x2, x3, x4)) := InsAt.kept HI.out hg HD.out.lt (by have := HD.out.bR; have := HD.out.RI; omega); replace HD : Hid _ := HD.out.next hg; replace HS : Hid (SrcOk v16 b a len cap) := hs; clear hg hs; have hcc := InsAt.cell HI.out 2 (by omega) (by omega); have hzz := InsAt.fz HI.out 2) | (go_at_call_of 40 (Value.int IntKind.i64 4); refine (src_n b a len cap 4 _ HS.out (by omega)).mono ?_; rintro e v4 ⟨q4, rfl, q40, q41, hs, hg⟩; replace HI : Hid (InsAt v4 I op (x1, x2, x3, x4)) := InsAt.kept HI.out hg HD.out.lt (by have := HD.out.bR; have := HD.out.RI; omega); replace HD : Hid _ := HD.out.next hg; replace HS : Hid (SrcOk v4 b a len cap) := hs; clear hg hs; have hcc := InsAt.cell HI.out 2 (by omega) (by omega); have hzz := InsAt.fz HI.out 2))
              go_roundw
              case rel => exact ⟨1 + 1, by omega, by go_num, x1, _, x3, x4, SrcOk.set HS.out (by have := HD.out.bR; have := HD.out.RI; omega) _, InsAt.put HI.out 2 (by omega) (by omega) _, HD.out.set _ _, by omega, by omega, by omega, by omega, by omega, by omega, by omega, by omega⟩
              case measure => simp [intOf]; omega
          have ix := fun w => idx_str f j hjl w j rfl
          generalize bt f j = ch at *
          cases hv : (ch == 118)
          · cases hi5 : (ch == 105)
            · cases hl8 : (ch == 108)
              · go_wp2_with (first | (go_at_call_of 40 (Value.int IntKind.i64 16); refine (src_n b a len cap 16 _ HS.out (by omega)).mono ?_; rintro e v16 ⟨q, rfl, q0, q1, hs, hg⟩; replace HI : Hid (InsAt v16 I op (x1, x2, x3, x4)) := InsAt.kept HI.out hg HD.out.lt (by have := HD.out.bR; have := HD.out.RI; omega); replace HD : Hid _ := HD.out.next hg; replace HS : Hid (SrcOk v16 b a len cap) := hs; clear hg hs; have hcc := InsAt.cell HI.out 3 (by omega) (by omega); have hzz := InsAt.fz HI.out 3))
                go_roundw
                case rel => exact ⟨j + 1, by omega, by go_num, x1, x2, _, x4, SrcOk.set HS.out (by have := HD.out.bR; have := HD.out.RI; omega) _, InsAt.put HI.out 3 (by omega) (by omega) _, HD.out.set _ _, by omega, by omega, by omega, by omega, by omega, by omega, by omega, by omega⟩
                case measure => simp [intOf]; omega
              · go_wp2_with (first | (go_at_call_of 40 (Value.int IntKind.i64 16); refine (src_n b a len cap 16 _ HS.out (by omega)).mono ?_; rintro e v16 ⟨q, rfl, q0, q1, hs, hg⟩; replace HI : Hid (InsAt v16 I op (x1, x2, x3, x4)) := InsAt.kept HI.out hg HD.out.lt (by have := HD.out.bR; have := HD.out.RI; omega); replace HD : Hid _ := HD.out.next hg; replace HS : Hid (SrcOk v16 b a len cap) := hs; clear hg hs; have hcc := InsAt.cell HI.out 4 (by omega) (by omega); have hzz := InsAt.fz HI.out 4) | (go_at_call_of 40 (Value.int IntKind.i64 64); refine (src_n b a len cap 64 _ HS.out (by omega)).mono ?_; rintro e v64 ⟨q64, rfl, q640, q641, hs, hg⟩; replace HI : Hid (InsAt v64 I op (x1, x2, x3, x4)) := InsAt.kept HI.out hg HD.out.lt (by have := HD.out.bR; have := HD.out.RI; omega); replace HD : Hid _ := HD.out.next hg; replace HS : Hid (SrcOk v64 b a len cap) := hs; clear hg hs; have hcc := InsAt.cell HI.out 4 (by omega) (by omega); have hzz := InsAt.fz HI.out 4) | (go_at_call_of 40 (Value.int IntKind.i64 3); refine (src_n b a len cap 3 _ (HS.out.far (World.grownBy_alloc _ _ none)) (by omega)).mono ?_; rintro e vs ⟨qs, rfl, qs0, qs1, hs, hg⟩; obtain ⟨Q, rfl⟩ := Int.eq_ofNat_of_zero_le qs0; obtain ⟨y, hy, y0, y1⟩ := sl3 hg (by have := HD.out.bR; have := HD.out.RI; have := HD.out.lt; omega) Q (by omega) (by omega) (by omega) (by omega) trivial; replace HI : Hid (InsAt vs I op (x1, x2, x3, x4)) := InsAt.kept ((Below.heap_alloc _ _ _ HD.out.lt).trans HI.out) hg (by have := HD.out.lt; simp; omega) (by have := HD.out.bR; have := HD.out.RI; omega); replace HD : Hid _ := (HD.out.next (World.grownBy_alloc _ _ _)).next hg; replace HS : Hid (SrcOk vs b a len cap) := hs; clear hg hs; have hcc := InsAt.cell HI.out 4 (by omega) (by omega); have hzz := InsAt.fz HI.out 4))
                go_roundw
                case rel => exact ⟨j + 1, by omega, by go_num, x1, x2, x3, _, SrcOk.set HS.out (by have := HD.out.bR; have := HD.out.RI; omega) _, InsAt.put HI.out 4 (by omega) (by omega) _, HD.out.set _ _, by omega, by omega, by omega, by omega, by omega, by omega, by omega, by omega⟩
                case measure => simp [intOf]; omega
            · go_wp2_with (first | (go_at_call_of 40 (Value.int IntKind.i64 16); refine (src_n b a len cap 16 _ HS.out (by omega)).mono ?_; rintro e v16 ⟨q, rfl, q0, q1, hs, hg⟩; replace HI : Hid (InsAt v16 I op (x1, x2, x3, x4)) := InsAt.kept HI.out hg HD.out.lt (by have := HD.out.bR; have := HD.out.RI; omega); replace HD : Hid _ := HD.out.next hg; replace HS : Hid (SrcOk v16 b a len cap) := hs; clear hg hs; have hcc := InsAt.cell HI.out 4 (by omega) (by omega); have hzz := InsAt.fz HI.out 4) | (go_at_call_of 40 (Value.int IntKind.i64 64); refine (src_n b a len cap 64 _ HS.out (by omega)).mono ?_; rintro e v64 ⟨q64, rfl, q640, q641, hs, hg⟩; replace HI : Hid (InsAt v64 I op (x1, x2, x3, x4)) := InsAt.kept HI.out hg HD.out.lt (by have := HD.out.bR; have := HD.out.RI; omega); replace HD : Hid _ := HD.out.next hg; replace HS : Hid (SrcOk v64 b a len cap) := hs; clear hg hs; have hcc := InsAt.cell HI.out 4 (by omega) (by omega); have hzz := InsAt.fz HI.out 4) | (go_at_call_of 40 (Value.int IntKind.i64 4); refine (src_n b a len cap 4 _ (HS.out.far (World.grownBy_alloc _ _ none)) (by omega)).mono ?_; rintro e vs ⟨qs, rfl, qs0, qs1, hs, hg⟩; obtain ⟨Q, rfl⟩ := Int.eq_ofNat_of_zero_le qs0; obtain ⟨y, hy, y0, y1⟩ := sl4 hg (by have := HD.out.bR; have := HD.out.RI; have := HD.out.lt; omega) Q (by omega) (by omega) (by omega) (by omega) (by omega); replace HI : Hid (InsAt vs I op (x1, x2, x3, x4)) := InsAt.kept ((Below.heap_alloc _ _ _ HD.out.lt).trans HI.out) hg (by have := HD.out.lt; simp; omega) (by have := HD.out.bR; have := HD.out.RI; omega); replace HD : Hid _ := (HD.out.next (World.grownBy_alloc _ _ _)).next hg; replace HS : Hid (SrcOk vs b a len cap) := hs; clear hg hs; have hcc := InsAt.cell HI.out 4 (by omega) (by omega); have hzz := InsAt.fz HI.out 4))
              go_roundw
              case rel => exact ⟨j + 1, by omega, by go_num, x1, x2, x3, _, SrcOk.set HS.out (by have := HD.out.bR; have := HD.out.RI; omega) _, InsAt.put HI.out 4 (by omega) (by omega) _, HD.out.set _ _, by omega, by omega, by omega, by omega, by omega, by omega, by omega, by omega⟩
              case measure => simp [intOf]; omega
          · have e118 : ch = 118 := by simpa using hv
            subst e118
            go_wp2_with (first | (go_at_call_of 40 (Value.int IntKind.i64 16); refine (src_n b a len cap 16 _ HS.out (by omega)).mono ?_; rintro e v16 ⟨q, rfl, q0, q1, hs, hg⟩; replace HI : Hid (InsAt v16 I op (x1, x2, x3, x4)) := InsAt.kept HI.out hg HD.out.lt (by have := HD.out.bR; have := HD.out.RI; omega); replace HD : Hid _ := HD.out.next hg; replace HS : Hid (SrcOk v16 b a len cap) := hs; clear hg hs; have hcc := InsAt.cell HI.out 3 (by omega) (by omega); have hzz := InsAt.fz HI.out 3) | (go_at_call_of 40 (Value.int IntKind.i64 4); refine (src_n b a len cap 4 _ HS.out (by omega)).mono ?_; rintro e v4 ⟨q4, rfl, q40, q41, hs, hg⟩; replace HI : Hid (InsAt v4 I op (x1, x2, x3, x4)) := InsAt.kept HI.out hg HD.out.lt (by have := HD.out.bR; have := HD.out.RI; omega); replace HD : Hid _ := HD.out.next hg; replace HS : Hid (SrcOk v4 b a len cap) := hs; clear hg hs; have hcc := InsAt.cell HI.out 3 (by omega) (by omega); have hzz := InsAt.fz HI.out 3))
            go_roundw
            case rel => exact ⟨j + 1, by omega, by go_num, x1, x2, _, x4, SrcOk.set HS.out (by have := HD.out.bR; have := HD.out.RI; omega) _, InsAt.put HI.out 3 (by omega) (by omega) _, HD.out.set _ _, by omega, by omega, by omega, by omega, by omega, by omega, by omega, by omega⟩
            case measure => simp [intOf]; omega
        · obtain rfl : j = f.size := by omega
          have hI := HI.out
          have hR := HD.out.res
          have i0 := InsAt.op hI
          have i1 := InsAt.cell hI 1 (by omega) (by omega)
          have i2 := InsAt.cell hI 2 (by omega) (by omega)
          have i3 := InsAt.cell hI 3 (by omega) (by omega)
          have i4 := InsAt.cell hI 4 (by omega) (by omega)
          simp [fld] at i1 i2 i3 i4
          have r0' := InsAt.op hR
          have r1' := InsAt.cell hR 1 (by omega) (by omega)
          have r2' := InsAt.cell hR 2 (by omega) (by omega)
          have r3' := InsAt.cell hR 3 (by omega) (by omega)
          have r4' := InsAt.cell hR 4 (by omega) (by omega)
          simp [fld] at r1' r2' r3' r4'
          have hz := InsAt.fz hR
          have HR : Hid (InsAt wr w.heap.size 0 (0, 0, 0, 0)) := hR
          clear hI hR
          go_wp2
          generalize hU : ((((wr.setCell _ _).setCell _ _).setCell _ _).setCell _ _).setCell _ _ = U
          have hfin : InsAt U w.heap.size op (x1, x2, x3, x4) := by
            rw [← hU]
            exact InsAt.put (InsAt.put (InsAt.put (InsAt.put (InsAt.setOp HR.out op) 1 (by omega) (by omega) x1) 2 (by omega) (by omega) x2) 3 (by omega) (by omega) x3) 4 (by omega) (by omega) x4
          have f0 := InsAt.op hfin
          have f1 := InsAt.cell hfin 1 (by omega) (by omega)
          have f2 := InsAt.cell hfin 2 (by omega) (by omega)
          have f3 := InsAt.cell hfin 3 (by omega) (by omega)
          have f4 := InsAt.cell hfin 4 (by omega) (by omega)
          simp [fld] at f1 f2 f3 f4
          refine bodyPost_ret (v := ins op x1 x2 x3 x4) (by simp [results, Tryz.results39, go_sem, ins, f0, f1, f2, f3, f4]) rfl ⟨op, x1, x2, x3, x4, rfl, ⟨o0, o1⟩, by omega, by omega, by omega, by omega, ?_, ?_⟩
          · rw [← hU]
            exact SrcOk.set (SrcOk.set (SrcOk.set (SrcOk.set (SrcOk.set HS.out hlt _) hlt _) hlt _) hlt _) hlt _
          · rw [← hU]
            have hgr := HD.out.grow
            refine ⟨hgr.os, hgr.tape, hgr.output, by have := hgr.size; simpa using this, fun k hk hk2 => ?_⟩
            rw [Below.heap_setCell _ _ _ _ (by simp; omega), Below.heap_setCell _ _ _ _ (by simp; omega), Below.heap_setCell _ _ _ _ (by simp; omega), Below.heap_setCell _ _ _ _ (by simp; omega), Below.heap_setCell _ _ _ _ (by simp; omega)]
            exact hgr.block k hk hk2

theorem sl6 {u v : World} {b t : Nat} {v0 v1 v2 v3 v4 v5 : Int} (hg : (u.alloc (.cells #[.int .i64 v0, .int .i64 v1, .int .i64 v2, .int .i64 v3, .int .i64 v4, .int .i64 v5] t)).grownBy v (some b)) (hb : b ≠ u.heap.size) (Q : Nat) (hQ : Q < 6) :
    ∃ y : Int, v.cell? ⟨u.heap.size, Q, none⟩ = some (.int .i64 y) ∧ (y = v0 ∨ y = v1 ∨ y = v2 ∨ y = v3 ∨ y = v4 ∨ y = v5) := by
  have hh : v.heap[u.heap.size]? = some (.cells #[.int .i64 v0, .int .i64 v1, .int .i64 v2, .int .i64 v3, .int .i64 v4, .int .i64 v5] t (0, 0)) := (hg.block u.heap.size (by simp) (by simp; omega)).trans (heap_new _ _)
  obtain rfl | rfl | rfl | rfl | rfl | rfl : Q = 0 ∨ Q = 1 ∨ Q = 2 ∨ Q = 3 ∨ Q = 4 ∨ Q = 5 := by omega
  · exact ⟨v0, by simp [World.cell?, hh], by simp⟩
  · exact ⟨v1, by simp [World.cell?, hh], by simp⟩
  · exact ⟨v2, by simp [World.cell?, hh], by simp⟩
  · exact ⟨v3, by simp [World.cell?, hh], by simp⟩
  · exact ⟨v4, by simp [World.cell?, hh], by simp⟩
  · exact ⟨v5, by simp [World.cell?, hh], by simp⟩
/-- An instruction whose numbers are of 64 bits. -/
def In64 (op x1 x2 x3 x4 : Int) : Prop := (-9223372036854775808 ≤ op ∧ op ≤ 9223372036854775807) ∧ (-9223372036854775808 ≤ x1 ∧ x1 ≤ 9223372036854775807) ∧ (-9223372036854775808 ≤ x2 ∧ x2 ≤ 9223372036854775807) ∧ (-9223372036854775808 ≤ x3 ∧ x3 ≤ 9223372036854775807) ∧ (-9223372036854775808 ≤ x4 ∧ x4 ≤ 9223372036854775807)
theorem InsAt.all {n : Nat} {x a b c d : Int} {w : World} (h : InsAt w n x (a, b, c, d)) : w.cell? ⟨n, 0, none⟩ = some (.int .i64 x) ∧ w.cell? ⟨n, 1, none⟩ = some (.int .i64 a) ∧ w.cell? ⟨n, 2, none⟩ = some (.int .i64 b) ∧ w.cell? ⟨n, 3, none⟩ = some (.int .i64 c) ∧ w.cell? ⟨n, 4, none⟩ = some (.int .i64 d) ∧ (∀ o, w.frozen? ⟨n, o, none⟩ = false) := by
  unfold InsAt at h
  simp [World.cell?, World.frozen?, h]
set_option maxHeartbeats 4000000 in
/-- What stands at the result's place behind its stores. -/
theorem res_end {w wr U : World} {b I : Nat} {op x1 x2 x3 x4 : Int} {a : Option Addr} {len cap : Nat} (hd : DI w wr b w.heap.size I) (hs : SrcOk wr b a len cap) (hlt : b < w.heap.size)
    (hU : ((((wr.setCell ⟨w.heap.size, 0, none⟩ (.int .i64 op)).setCell ⟨w.heap.size, 1, none⟩ (.int .i64 x1)).setCell ⟨w.heap.size, 2, none⟩ (.int .i64 x2)).setCell ⟨w.heap.size, 3, none⟩ (.int .i64 x3)).setCell ⟨w.heap.size, 4, none⟩ (.int .i64 x4) = U) :
    InsAt U w.heap.size op (x1, x2, x3, x4) ∧ SrcOk U b a len cap ∧ w.grownBy U (some b) := by
  subst hU
  refine ⟨InsAt.put (InsAt.put (InsAt.put (InsAt.put (InsAt.setOp hd.res op) 1 (by omega) (by omega) x1) 2 (by omega) (by omega) x2) 3 (by omega) (by omega) x3) 4 (by omega) (by omega) x4, SrcOk.set (SrcOk.set (SrcOk.set (SrcOk.set (SrcOk.set hs hlt _) hlt _) hlt _) hlt _) hlt _, ?_⟩
  have hgr := hd.grow
  refine ⟨hgr.os, hgr.tape, hgr.output, by have := hgr.size; simpa using this, fun k hk hk2 => ?_⟩
  rw [Below.heap_setCell _ _ _ _ (by simp; omega), Below.heap_setCell _ _ _ _ (by simp; omega), Below.heap_setCell _ _ _ _ (by simp; omega), Below.heap_setCell _ _ _ _ (by simp; omega), Below.heap_setCell _ _ _ _ (by simp; omega)]
  exact hgr.block k hk hk2
set_option maxRecDepth 100000 in
set_option maxHeartbeats 8000000 in
theorem src_any (b : Nat) (a : Option Addr) (len cap : Nat) (w : World) (h : SrcOk w b a len cap) :
    Calls Tryz.prog 17 #[.pointer (some ⟨b, 0, none⟩)] w fun e w' => ∃ op x1 x2 x3 x4 : Int, e = .returned (ins op x1 x2 x3 x4) ∧ In64 op x1 x2 x3 x4 ∧ SrcOk w' b a len cap ∧ w.grownBy w' (some b) := by
  have hlt := h.lt
  have HS : Hid (SrcOk (w.alloc (.cells #[.int .i64 0, .int .i64 0, .int .i64 0, .int .i64 0, .int .i64 0] 24)) b a len cap) := h.far (World.grownBy_alloc w _ none)
  clear h
  go_enter Tryz.func17, Tryz.ntmps17
  go_wp2_with (go_at_call 39; refine (src_instr b a len cap _ HS.out).mono ?_; rintro e u1 ⟨op, x1, x2, x3, x4, rfl, bo, b1, b2, b3, b4, hs1, hg1⟩; unfold ins)
  have hz : w.heap.size < u1.heap.size := by have := hg1.size; simp at this; omega
  have HD : Hid (DI w (u1.alloc (.cells #[.int .i64 op, .int .i64 x1, .int .i64 x2, .int .i64 x3, .int .i64 x4] 24)) b w.heap.size u1.heap.size) := by
    refine ⟨Lib.grownBy_trans (Lib.grownBy_trans (World.grownBy_alloc w _ (some b)) hg1) (World.grownBy_alloc _ _ _), ?_, hlt, rfl, hz, by simp⟩
    exact (Below.heap_alloc _ _ _ hz).trans (InsAt.kept (x := 0) (f := (0, 0, 0, 0)) (heap_new _ _) hg1 (by simp) (by omega))
  have HI : Hid (InsAt (u1.alloc (.cells #[.int .i64 op, .int .i64 x1, .int .i64 x2, .int .i64 x3, .int .i64 x4] 24)) u1.heap.size op (x1, x2, x3, x4)) := heap_new _ _
  clear HS
  have HS : Hid (SrcOk (u1.alloc (.cells #[.int .i64 op, .int .i64 x1, .int .i64 x2, .int .i64 x3, .int .i64 x4] 24)) b a len cap) := hs1.far (World.grownBy_alloc _ _ none)
  clear hs1 hg1
  refine (src_n b a len cap 12 _ HS.out (by omega)).mono ?_
  rintro e u2 ⟨r, rfl, r0, r1, hs, hg⟩
  replace HI : Hid (InsAt u2 u1.heap.size op (x1, x2, x3, x4)) := InsAt.kept HI.out hg HD.out.lt (by have := HD.out.bR; have := HD.out.RI; omega); replace HD : Hid _ := HD.out.next hg; replace HS : Hid (SrcOk u2 b a len cap) := hs; clear hg hs
  clear r1
  by_cases hr0 : r = 0
  · subst hr0
    go_wp2_with (first | (go_at_call_of 40 (Value.int IntKind.i64 260); refine (src_n b a len cap 260 _ HS.out (by omega)).mono ?_; rintro e v ⟨q, rfl, q0, q1, hs, hg⟩; replace HI : Hid (InsAt v u1.heap.size op (x1, x2, x3, x4)) := InsAt.kept HI.out hg HD.out.lt (by have := HD.out.bR; have := HD.out.RI; omega); replace HD : Hid _ := HD.out.next hg; replace HS : Hid (SrcOk v b a len cap) := hs; clear hg hs; obtain ⟨i0, i1, i2, i3, i4, hzI⟩ := InsAt.all HI.out; obtain ⟨s0, s1, s2, s3, s4, hzR⟩ := InsAt.all HD.out.res; have hne : u1.heap.size ≠ w.heap.size := (by omega)))
    generalize hU : (((((v.setCell _ _).setCell _ _).setCell _ _).setCell _ _).setCell _ _).setCell _ _ = U
    obtain ⟨hfin, hs2, hg2⟩ := res_end (HD.out.set 0 _) (SrcOk.set HS.out (by have := HD.out.bR; have := HD.out.RI; omega) _) hlt hU
    obtain ⟨f0, f1, f2, f3, f4, _⟩ := InsAt.all hfin
    exact bodyPost_ret (v := ins (q - 2) (x1) (x2) (x3) (x4)) (by simp [results, Tryz.results17, go_sem, ins, f0, f1, f2, f3, f4]) rfl ⟨_, _, _, _, _, rfl, ⟨by omega, by omega, by omega, by omega, by omega⟩, hs2, hg2⟩
  by_cases hr1 : r = 1
  · subst hr1
    go_wp2_with (first | (go_at_call_of 40 (Value.int IntKind.i64 20); refine (src_n b a len cap 20 _ HS.out (by omega)).mono ?_; rintro e v ⟨q, rfl, q0, q1, hs, hg⟩; replace HI : Hid (InsAt v u1.heap.size op (x1, x2, x3, x4)) := InsAt.kept HI.out hg HD.out.lt (by have := HD.out.bR; have := HD.out.RI; omega); replace HD : Hid _ := HD.out.next hg; replace HS : Hid (SrcOk v b a len cap) := hs; clear hg hs; obtain ⟨i0, i1, i2, i3, i4, hzI⟩ := InsAt.all HI.out; obtain ⟨s0, s1, s2, s3, s4, hzR⟩ := InsAt.all HD.out.res; have hne : u1.heap.size ≠ w.heap.size := (by omega)))
    generalize hU : (((((v.setCell _ _).setCell _ _).setCell _ _).setCell _ _).setCell _ _).setCell _ _ = U
    obtain ⟨hfin, hs2, hg2⟩ := res_end (HD.out.set 1 _) (SrcOk.set HS.out (by have := HD.out.bR; have := HD.out.RI; omega) _) hlt hU
    obtain ⟨f0, f1, f2, f3, f4, _⟩ := InsAt.all hfin
    exact bodyPost_ret (v := ins (op) (q - 2) (x2) (x3) (x4)) (by simp [results, Tryz.results17, go_sem, ins, f0, f1, f2, f3, f4]) rfl ⟨_, _, _, _, _, rfl, ⟨by omega, by omega, by omega, by omega, by omega⟩, hs2, hg2⟩
  by_cases hr2 : r = 2
  · subst hr2
    go_wp2_with (first | (go_at_call_of 40 (Value.int IntKind.i64 20); refine (src_n b a len cap 20 _ HS.out (by omega)).mono ?_; rintro e v ⟨q, rfl, q0, q1, hs, hg⟩; replace HI : Hid (InsAt v u1.heap.size op (x1, x2, x3, x4)) := InsAt.kept HI.out hg HD.out.lt (by have := HD.out.bR; have := HD.out.RI; omega); replace HD : Hid _ := HD.out.next hg; replace HS : Hid (SrcOk v b a len cap) := hs; clear hg hs; obtain ⟨i0, i1, i2, i3, i4, hzI⟩ := InsAt.all HI.out; obtain ⟨s0, s1, s2, s3, s4, hzR⟩ := InsAt.all HD.out.res; have hne : u1.heap.size ≠ w.heap.size := (by omega)))
    generalize hU : (((((v.setCell _ _).setCell _ _).setCell _ _).setCell _ _).setCell _ _).setCell _ _ = U
    obtain ⟨hfin, hs2, hg2⟩ := res_end (HD.out.set 2 _) (SrcOk.set HS.out (by have := HD.out.bR; have := HD.out.RI; omega) _) hlt hU
    obtain ⟨f0, f1, f2, f3, f4, _⟩ := InsAt.all hfin
    exact bodyPost_ret (v := ins (op) (x1) (q - 2) (x3) (x4)) (by simp [results, Tryz.results17, go_sem, ins, f0, f1, f2, f3, f4]) rfl ⟨_, _, _, _, _, rfl, ⟨by omega, by omega, by omega, by omega, by omega⟩, hs2, hg2⟩
  by_cases hr3 : r = 3
  · subst hr3
    go_wp2_with (first | (go_at_call_of 40 (Value.int IntKind.i64 20); refine (src_n b a len cap 20 _ HS.out (by omega)).mono ?_; rintro e v ⟨q, rfl, q0, q1, hs, hg⟩; replace HI : Hid (InsAt v u1.heap.size op (x1, x2, x3, x4)) := InsAt.kept HI.out hg HD.out.lt (by have := HD.out.bR; have := HD.out.RI; omega); replace HD : Hid _ := HD.out.next hg; replace HS : Hid (SrcOk v b a len cap) := hs; clear hg hs; obtain ⟨i0, i1, i2, i3, i4, hzI⟩ := InsAt.all HI.out; obtain ⟨s0, s1, s2, s3, s4, hzR⟩ := InsAt.all HD.out.res; have hne : u1.heap.size ≠ w.heap.size := (by omega)))
    generalize hU : (((((v.setCell _ _).setCell _ _).setCell _ _).setCell _ _).setCell _ _).setCell _ _ = U
    obtain ⟨hfin, hs2, hg2⟩ := res_end (HD.out.set 3 _) (SrcOk.set HS.out (by have := HD.out.bR; have := HD.out.RI; omega) _) hlt hU
    obtain ⟨f0, f1, f2, f3, f4, _⟩ := InsAt.all hfin
    exact bodyPost_ret (v := ins (op) (x1) (x2) (q - 2) (x4)) (by simp [results, Tryz.results17, go_sem, ins, f0, f1, f2, f3, f4]) rfl ⟨_, _, _, _, _, rfl, ⟨by omega, by omega, by omega, by omega, by omega⟩, hs2, hg2⟩
  by_cases hr4 : r = 4
  · subst hr4
    go_wp2_with (first | (go_at_call_of 40 (Value.int IntKind.i64 6); refine (src_n b a len cap 6 _ (HS.out.far (World.grownBy_alloc _ _ none)) (by omega)).mono ?_; rintro e v ⟨qs, rfl, qs0, qs1, hs, hg⟩; obtain ⟨Q, rfl⟩ := Int.eq_ofNat_of_zero_le qs0; obtain ⟨y, hy, y0⟩ := sl6 hg (by have := HD.out.bR; have := HD.out.RI; have := HD.out.lt; omega) Q (by omega); replace HI : Hid (InsAt v u1.heap.size op (x1, x2, x3, x4)) := InsAt.kept ((Below.heap_alloc _ _ _ HD.out.lt).trans HI.out) hg (by have := HD.out.lt; simp; omega) (by have := HD.out.bR; have := HD.out.RI; omega); replace HD : Hid _ := (HD.out.next (World.grownBy_alloc _ _ _)).next hg; replace HS : Hid (SrcOk v b a len cap) := hs; clear hg hs; obtain ⟨i0, i1, i2, i3, i4, hzI⟩ := InsAt.all HI.out; obtain ⟨s0, s1, s2, s3, s4, hzR⟩ := InsAt.all HD.out.res; have hne : u1.heap.size ≠ w.heap.size := (by omega)))
    generalize hU : (((((v.setCell _ _).setCell _ _).setCell _ _).setCell _ _).setCell _ _).setCell _ _ = U
    obtain ⟨hfin, hs2, hg2⟩ := res_end (HD.out.set 4 _) (SrcOk.set HS.out (by have := HD.out.bR; have := HD.out.RI; omega) _) hlt hU
    obtain ⟨f0, f1, f2, f3, f4, _⟩ := InsAt.all hfin
    exact bodyPost_ret (v := ins (op) (x1) (x2) (x3) (y)) (by simp [results, Tryz.results17, go_sem, ins, f0, f1, f2, f3, f4]) rfl ⟨_, _, _, _, _, rfl, ⟨by omega, by omega, by omega, by omega, by omega⟩, hs2, hg2⟩
  obtain ⟨i0, i1, i2, i3, i4, hzI⟩ := InsAt.all HI.out
  obtain ⟨s0, s1, s2, s3, s4, hzR⟩ := InsAt.all HD.out.res
  have hne : u1.heap.size ≠ w.heap.size := (by omega)
  go_wp2
  generalize hU : ((((u2.setCell _ _).setCell _ _).setCell _ _).setCell _ _).setCell _ _ = U
  obtain ⟨hfin, hs2, hg2⟩ := res_end HD.out HS.out hlt hU
  obtain ⟨f0, f1, f2, f3, f4, _⟩ := InsAt.all hfin
  exact bodyPost_ret (v := ins (op) (x1) (x2) (x3) (x4)) (by simp [results, Tryz.results17, go_sem, ins, f0, f1, f2, f3, f4]) rfl ⟨_, _, _, _, _, rfl, ⟨by omega, by omega, by omega, by omega, by omega⟩, hs2, hg2⟩

theorem CodeAt.alloc {w : World} {B : Nat} {a : Option Addr} {len : Nat} (h : CodeAt w w.heap.size a len) (o : Obj) (hB : B = w.heap.size + 1) : CodeAt (w.alloc o) B a len := by
  rcases h with h | ⟨cb, co, ha, hlt, hcc⟩
  · exact .inl h
  · refine .inr ⟨cb, co, ha, by omega, fun i hi => ?_⟩
    obtain ⟨x, h0, h1, hx⟩ := hcc i hi
    exact ⟨x, h0, h1, ((Below.refl w.heap.size w).alloc (Nat.le_refl _) o |>.cell (p := ⟨cb, co + i, none⟩) hlt).trans hx⟩
set_option maxRecDepth 100000 in
set_option maxHeartbeats 600000 in
theorem drawEncode_any (a : Option Addr) (len cap : Nat) (w : World) (hcode : CodeAt w w.heap.size a len) (hl : len ≤ 1048576) :
    Calls Tryz.prog 5 #[.slice a len cap] w fun e w' => ∃ op x1 x2 x3 x4 : Int, e = .returned (ins op x1 x2 x3 x4) ∧ In64 op x1 x2 x3 x4 ∧ Below w.heap.size w w' := by
  have hsrc := l01Source_any a len cap (w.alloc (.cells #[.int .i64 0, .int .i64 0, .int .i64 0, .int .i64 0, .int .i64 0] 24)) (hcode.alloc _ (by simp)) hl
  clear hcode
  go_enter Tryz.func5, Tryz.ntmps5
  go_wp2_with fail
  refine Calls.mono hsrc ?_
  rintro e u1 ⟨rfl, hs1, hb1⟩
  have hz : w.heap.size < u1.heap.size := by have := hb1.size; simp at this; omega
  have hR1 : InsAt u1 w.heap.size 0 (0, 0, 0, 0) := InsAt.below (B := w.heap.size + 1) (heap_new _ _) (hb1.mono (by simp)) (by omega)
  have h1 : Below w.heap.size w u1 := bstep (Below.refl _ _) _ hb1
  have hbk : (w.alloc (.cells #[.int .i64 0, .int .i64 0, .int .i64 0, .int .i64 0, .int .i64 0] 24)).heap.size = w.heap.size + 1 := by simp
  rw [hbk] at hs1 ⊢
  clear hsrc hb1 hbk
  go_wp2_with fail
  refine (src_any (w.heap.size + 1) a len cap u1 hs1).mono ?_
  rintro e u2 ⟨op, x1, x2, x3, x4, rfl, hin, hs2, hg2⟩
  have hR2 : InsAt u2 w.heap.size 0 (0, 0, 0, 0) := InsAt.kept hR1 hg2 hz (by omega)
  have hb2 : Below w.heap.size w u2 := h1.grown hg2 h1.size (fun k hk => by cases hk; omega)
  obtain ⟨s0, s1, s2, s3, s4, hzR⟩ := InsAt.all hR2
  unfold ins
  clear hs1 hs2 hg2 hR1 h1 hz
  have HIN : Hid (In64 op x1 x2 x3 x4) := hin
  have HR2 : Hid (InsAt u2 w.heap.size 0 (0, 0, 0, 0)) := hR2
  have HB2 : Hid (Below w.heap.size w u2) := hb2
  clear hin hR2 hb2
  go_wp2
  generalize hU : ((((u2.setCell _ _).setCell _ _).setCell _ _).setCell _ _).setCell _ _ = U
  have hfin : InsAt U w.heap.size op (x1, x2, x3, x4) := by
    rw [← hU]
    exact InsAt.put (InsAt.put (InsAt.put (InsAt.put (InsAt.setOp HR2.out op) 1 (by omega) (by omega) x1) 2 (by omega) (by omega) x2) 3 (by omega) (by omega) x3) 4 (by omega) (by omega) x4
  obtain ⟨f0, f1, f2, f3, f4, _⟩ := InsAt.all hfin
  refine bodyPost_ret (v := ins op x1 x2 x3 x4) (by simp [results, Tryz.results5, go_sem, ins, f0, f1, f2, f3, f4]) rfl ⟨_, _, _, _, _, rfl, HIN.out, ?_⟩
  rw [← hU]
  iterate 5 (refine Below.setCell ?_ (by simp) _)
  exact HB2.out
end Go.Proofs.YtohmejfpebjlaaaGreatDoor
