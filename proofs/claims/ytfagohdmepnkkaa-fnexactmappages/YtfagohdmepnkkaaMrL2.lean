import Derived.Test.YtfagohdmepnkkaaMrL1
namespace Go.Proofs.Ytfagohdmepnkkaa
open Go.ChangeShapes Go.WideShapes Go.ChangeAt Go.RowKit

/-- The marks of row i. -/
def mkEP (i : Nat) : PM := ⟨1 + 4 * (i : Int), 1 + 4 * (i : Int) + 1, 1 + 4 * (i : Int) + 1 + 1, ((1 + 4 * (i : Int) + 1 + 1 + 1) % 3 == 0)⟩
def mkPLP (n : Nat) : List PM := (List.range n).map mkEP
theorem mkPLP_len (n : Nat) : (mkPLP n).length = n := by simp [mkPLP]
def mkPJP (j : Nat) (zs : List PM) : List PM := mkPLP j ++ zs.drop j
theorem mkPJP_len (j : Nat) (zs : List PM) (h : j ≤ zs.length) : (mkPJP j zs).length = zs.length := by simp [mkPJP, mkPLP_len]; omega
theorem mkPJP_step (j : Nat) (zs : List PM) (h : j < zs.length) : (mkPJP j zs).set j (mkEP j) = mkPJP (j + 1) zs := by
  have e : zs.drop j = zs[j] :: zs.drop (j + 1) := (List.getElem_cons_drop h).symm
  have e2 : mkPLP (j + 1) = mkPLP j ++ [mkEP j] := by simp [mkPLP, List.range_succ]
  unfold mkPJP
  rw [e, e2]
  have hl : (mkPLP j).length = j := mkPLP_len j
  rw [List.set_append_right _ _ (by omega), hl, Nat.sub_self, List.set_cons_zero, List.append_assoc]
  rfl
set_option maxRecDepth 100000 in
set_option maxHeartbeats 4000000 in
theorem markPMS_ok {w : World} {B : Nat} {ao : Option Addr} {cap : Nat} {zs : List PM} (h : w.ownsRow B 101 4 (.slice ao zs.length cap) zs.length (pmR zs)) (hl : zs.length ≤ 1048576) :
    Calls Try.prog 19 #[.slice ao zs.length cap, .int .i64 1] w fun e u => e = .returned (.int .i64 (1 + 4 * (zs.length : Int))) ∧ w.grownBy u (Value.slice ao zs.length cap).ownBlock := by
  by_cases hz : zs = []
  · subst hz
    clear h hl
    simp only [List.length_nil]
    go_enter Try.func19, Try.ntmps19
    go_wp2
    go_loopw [1, 5] (fun kv i w5 => kv = .int .i64 1 ∧ i = .int .i64 0 ∧ w5 = w) (fun _ _ _ => 0)
    case atStart => exact ⟨rfl, rfl, rfl⟩
    case round =>
      obtain ⟨rfl, rfl, rfl⟩ := hrel
      go_wp2
      go_ret
      exact ⟨rfl, ⟨rfl, rfl, rfl, Nat.le_refl _, fun _ _ _ => rfl⟩⟩
  · obtain ⟨g, rfl⟩ : ∃ g, ao = some ⟨g, 0, none⟩ := by
      rcases h.2 with ⟨e, e2⟩ | ⟨g, cap2, cur, hv, _⟩
      · exact absurd (List.length_eq_zero_iff.1 e2) hz
      · injection hv with e1
        exact ⟨g, e1⟩
    have HO : Hid (w.ownsRow B 101 4 (.slice (some ⟨g, 0, none⟩) zs.length cap) zs.length (pmR (mkPJP 0 zs))) := h
    clear h hz
    go_enter Try.func19, Try.ntmps19
    go_wp2
    go_loopw [1, 5] (fun kv i wr => ∃ j : Nat, j ≤ zs.length ∧ i = .int .i64 j ∧ kv = .int .i64 (1 + 4 * (j : Int)) ∧ wr.ownsRow B 101 4 (.slice (some ⟨g, 0, none⟩) zs.length cap) zs.length (pmR (mkPJP j zs)) ∧ w.grownBy wr (some g)) (fun _ i _ => zs.length - (intOf i).toNat)
    case atStart => exact ⟨0, Nat.zero_le _, rfl, rfl, HO.out, ⟨rfl, rfl, rfl, Nat.le_refl _, fun _ _ _ => rfl⟩⟩
    case round =>
      obtain ⟨j, hj, rfl, rfl, hown, hgr⟩ := hrel
      by_cases hlt : j < zs.length
      · have hlen := mkPJP_len j zs hj
        have hown2 : wr.ownsRow B 101 4 (.slice (some ⟨g, 0, none⟩) (mkPJP j zs).length cap) (mkPJP j zs).length (pmR (mkPJP j zs)) := by rw [hlen]; exact hown
        have st := own_setPM hown2 j (by omega) (mkEP j)
        rw [mkPJP_step j zs hlt, hlen] at st
        have hfz := hown.frozenAt
        obtain ⟨z, d0, d1, d2, d3⟩ := pm_cells hown hlen j (by omega)
        have ST : Hid _ := st
        have HG : Hid (w.grownBy wr (some g)) := hgr
        clear st hown hown2 hgr hlen HO
        have hj1 : (j : Int) < (zs.length : Int) := by omega
        have hrm : (1 + 4 * (j : Int) + 1 + 1 + 1).tmod 3 = (1 + 4 * (j : Int) + 1 + 1 + 1) % 3 := Int.tmod_eq_emod_of_nonneg (by omega)
        go_wp2
        refine ⟨⟨j + 1, hlt, by simp, by simp; omega, ST.out.1, gbPM HG.out ST.out.2⟩, ?_⟩
        simp [intOf]
        omega
      · obtain rfl : j = zs.length := by omega
        have HG : Hid (w.grownBy wr (some g)) := hgr
        clear hown hgr HO
        go_wp2
        go_ret
        exact ⟨rfl, HG.out⟩
/-- An answer in its box; its row lies below it. -/
structure BX (u : World) (lo p : Nat) (c at_ : Int) (S : ByteArray) (v : Value) (zs : List Int) : Prop where
  box : u.heap[p]? = some (.cells #[.int .i64 c, .int .i64 at_, .string S, v] 31 (0, 0))
  row : Orow2 u lo p v zs
  le : lo ≤ p
theorem BX.lt {u : World} {lo p : Nat} {c at_ : Int} {S : ByteArray} {v : Value} {zs : List Int} (h : BX u lo p c at_ S v zs) : p < u.heap.size := (Array.getElem?_eq_some_iff.1 h.box).1
theorem BX.gi {u u' : World} {lo p a b : Nat} {c at_ : Int} {S : ByteArray} {v : Value} {zs : List Int} (h : BX u lo p c at_ S v zs) (g : GI a b u u') (hd : p < a ∨ b ≤ lo) : BX u' lo p c at_ S v zs := by
  have h1 := h.le
  exact ⟨(g.block p h.lt (by omega)).trans h.box, h.row.gi g (by omega), h.le⟩
theorem BX.new {u : World} {lo : Nat} {c at_ : Int} {S : ByteArray} {v : Value} {zs : List Int} (h : Orow u lo v zs) (hl : lo ≤ u.heap.size) : BX (u.alloc (.cells #[.int .i64 c, .int .i64 at_, .string S, v] 31)) lo u.heap.size c at_ S v zs :=
  ⟨heap_new _ _, (Orow2.of h (Nat.le_refl _)).gi (GI.of_below (lo := 0) (hi := 0) ((Below.refl _ _).alloc (Nat.le_refl _) _)) (.inr (Nat.zero_le _)), hl⟩
theorem BX.mark {u u' : World} {lo p : Nat} {c at_ : Int} {S : ByteArray} {v : Value} {zs ys : List Int} (h : BX u lo p c at_ S v zs) (g : GI lo p u u') (hr : Orow2 u' lo p v ys) : BX u' lo p c at_ S v ys :=
  ⟨(g.block p h.lt (.inr (Nat.le_refl _))).trans h.box, hr, h.le⟩
theorem BX.step {u u' : World} {lo p : Nat} {c at_ : Int} {S : ByteArray} {v : Value} {zs : List Int} (h : BX u lo p c at_ S v zs) (hb : Below u.heap.size u u') : BX u' lo p c at_ S v zs := h.gi (GI.of_below (lo := 0) (hi := 0) hb) (.inr (Nat.zero_le _))
/-- What the law keeps. -/
structure LM (w : World) (n0 p1 n2 n3 n4 p2 : Nat) (c at_ : Int) (S : ByteArray) (fr : List Int) (v1 v2 x3 : Value) (zs ys : List Int) (u : World) : Prop where
  bel : Below w.heap.size w u
  o : w.heap.size ≤ n0 ∧ p1 < n2 ∧ n2 ≤ n3 ∧ n3 ≤ n4
  a1 : BX u n0 p1 c at_ S v1 fr
  a2 : BX u n4 p2 c at_ S v2 ys
  a3 : Orow2 u n3 n4 x3 zs
theorem below_gi {w u u' : World} {lo hi : Nat} (h : Below w.heap.size w u) (g : GI lo hi u u') (hl : w.heap.size ≤ lo) : Below w.heap.size w u' :=
  ⟨g.os.trans h.os, g.tape.trans h.tape, g.output.trans h.output, Nat.le_trans h.size g.size, fun k hk => (g.block k (Nat.lt_of_lt_of_le hk h.size) (by omega)).trans (h.block k hk)⟩
theorem LM.step {w : World} {n0 p1 n2 n3 n4 p2 : Nat} {c at_ : Int} {S : ByteArray} {fr : List Int} {v1 v2 x3 : Value} {zs ys : List Int} {u u' : World} (h : LM w n0 p1 n2 n3 n4 p2 c at_ S fr v1 v2 x3 zs ys u) (hb : Below u.heap.size u u') : LM w n0 p1 n2 n3 n4 p2 c at_ S fr v1 v2 x3 zs ys u' :=
  ⟨h.bel.trans (hb.mono h.bel.size), h.o, h.a1.step hb, h.a2.step hb, h.a3.gi (GI.of_below (lo := 0) (hi := 0) hb) (.inr (Nat.zero_le _))⟩
theorem LM.mark2 {w : World} {n0 p1 n2 n3 n4 p2 : Nat} {c at_ : Int} {S : ByteArray} {fr : List Int} {v1 v2 x3 : Value} {zs ys : List Int} {u u' : World} (h : LM w n0 p1 n2 n3 n4 p2 c at_ S fr v1 v2 x3 zs ys u) (g : GI n2 n3 u u') : LM w n0 p1 n2 n3 n4 p2 c at_ S fr v1 v2 x3 zs ys u' := by
  have h1 := h.o
  have h2 := h.a1.le
  exact ⟨below_gi h.bel g (by omega), h.o, h.a1.gi g (by omega), h.a2.gi g (by omega), h.a3.gi g (by omega)⟩
theorem LM.mark3 {w : World} {n0 p1 n2 n3 n4 p2 : Nat} {c at_ : Int} {S : ByteArray} {fr : List Int} {v1 v2 x3 : Value} {zs zs' ys : List Int} {u u' : World} (h : LM w n0 p1 n2 n3 n4 p2 c at_ S fr v1 v2 x3 zs ys u) (g : GI n3 n4 u u') (hr : Orow2 u' n3 n4 x3 zs') : LM w n0 p1 n2 n3 n4 p2 c at_ S fr v1 v2 x3 zs' ys u' := by
  have h1 := h.o
  have h2 := h.a1.le
  exact ⟨below_gi h.bel g (by omega), h.o, h.a1.gi g (by omega), h.a2.gi g (by omega), hr⟩
theorem LM.markR {w : World} {n0 p1 n2 n3 n4 p2 : Nat} {c at_ : Int} {S : ByteArray} {fr : List Int} {v1 v2 x3 : Value} {zs ys ys' : List Int} {u u' : World} (h : LM w n0 p1 n2 n3 n4 p2 c at_ S fr v1 v2 x3 zs ys u) (g : GI n4 p2 u u') (hr : Orow2 u' n4 p2 v2 ys') : LM w n0 p1 n2 n3 n4 p2 c at_ S fr v1 v2 x3 zs ys' u' := by
  have h1 := h.o
  have h2 := h.a1.le
  exact ⟨below_gi h.bel g (by omega), h.o, h.a1.gi g (by omega), h.a2.mark g hr, h.a3.gi g (by omega)⟩
/-- A row of maps in an interval of blocks that is written to. -/
theorem gi_of {u u' : World} {lo hi n : Nat} {v : Value} {xs : List Value} (ho : u.ownsRow lo 101 4 v n xs) (hh : ∀ k, v.ownBlock = some k → k < hi) (g : u.grownBy u' v.ownBlock) : GI lo hi u u' :=
  ⟨g.os, g.tape, g.output, g.size, fun k hk h => g.block k hk (fun q => by have h1 := (ho.lt k q.symm).1; have h2 := hh k q.symm; omega)⟩
set_option maxRecDepth 100000 in
set_option maxHeartbeats 4000000 in
theorem eqMR_ok {w : World} {v u : Value} {zs : List Int} (c at_ : Int) (S : ByteArray) (h : Irow w v zs) (h' : Irow w u zs) (hl : zs.length ≤ 1048576) :
    Calls Try.prog 16 #[resA c at_ S v, resA c at_ S u] w fun e w' => e = .returned (.bool true) ∧ Below w.heap.size w w' := by
  obtain ⟨ao, cap, rfl⟩ := h.sl
  obtain ⟨ao2, cap2, rfl⟩ := h'.sl
  have hb : Below w.heap.size w ((w.alloc (.cells #[.int .i64 c, .int .i64 at_, .string S, .slice ao zs.length cap] 31)).alloc (.cells #[.int .i64 c, .int .i64 at_, .string S, .slice ao2 zs.length cap2] 31)) := ((Below.refl _ _).alloc (Nat.le_refl _) _).alloc (by simp) _
  have HB : Hid (Below w.heap.size w ((w.alloc (.cells #[.int .i64 c, .int .i64 at_, .string S, .slice ao zs.length cap] 31)).alloc (.cells #[.int .i64 c, .int .i64 at_, .string S, .slice ao2 zs.length cap2] 31))) := hb
  have HE : Hid _ := eqIS_ok (h.below hb) (h'.below hb) hl
  clear h h' hb
  unfold resA
  go_enter Try.func16, Try.ntmps16
  go_wp2_with (go_at_call 18; refine Calls.mono HE.out ?_; rintro e u1 ⟨rfl, hb⟩; have HB1 : Hid (Below w.heap.size w u1) := HB.out.trans (hb.mono HB.out.size); clear hb HE)
  go_ret
  exact ⟨rfl, HB1.out⟩
set_option maxRecDepth 100000 in
set_option maxHeartbeats 4000000 in
theorem markMR_ok {w : World} {lo hi : Nat} {v : Value} {zs : List Int} (c at_ : Int) (S : ByteArray) (h : Orow2 w lo hi v zs) (hl : zs.length ≤ 1048576) :
    Calls Try.prog 21 #[resA c at_ S v, .int .i64 1] w fun e u => e = .returned (.int .i64 (1 + (zs.length : Int))) ∧ Orow2 u lo hi v (mkK 1 zs.length) ∧ GI lo hi w u := by
  obtain ⟨ao, cap, rfl⟩ := h.irow.sl
  have hb : Below w.heap.size w (w.alloc (.cells #[.int .i64 c, .int .i64 at_, .string S, .slice ao zs.length cap] 31)) := (Below.refl _ _).alloc (Nat.le_refl _) _
  have HB : Hid (GI lo hi w (w.alloc (.cells #[.int .i64 c, .int .i64 at_, .string S, .slice ao zs.length cap] 31))) := GI.of_below hb
  have HM : Hid _ := markO_ok 1 (h.gi (GI.of_below (lo := 0) (hi := 0) hb) (.inr (Nat.zero_le _))) hl (by decide) (by decide)
  clear h hb
  unfold resA
  go_enter Try.func21, Try.ntmps21
  go_wp2_with (go_at_call 20; refine Calls.mono HM.out ?_; rintro e u1 ⟨rfl, hr, hg⟩; have HR : Hid (Orow2 u1 lo hi (.slice ao zs.length cap) (mkK 1 zs.length)) := hr; have HG : Hid (GI lo hi w u1) := HB.out.trans hg; clear hr hg HM)
  go_ret
  exact ⟨rfl, HR.out, HG.out⟩
set_option maxRecDepth 100000 in
set_option maxHeartbeats 4000000 in
theorem heldMR_ok {w : World} {ao : Option Addr} {cap n : Nat} (c at_ : Int) (S : ByteArray) (h : Irow w (.slice ao n cap) (mkK 1 n)) (hl : n ≤ 1048576) :
    Calls Try.prog 22 #[resA c at_ S (.slice ao n cap), .int .i64 1] w fun e u => e = .returned (.int .i64 (1 + (n : Int))) ∧ Below w.heap.size w u := by
  have hb : Below w.heap.size w (w.alloc (.cells #[.int .i64 c, .int .i64 at_, .string S, .slice ao n cap] 31)) := (Below.refl _ _).alloc (Nat.le_refl _) _
  have HB : Hid (Below w.heap.size w (w.alloc (.cells #[.int .i64 c, .int .i64 at_, .string S, .slice ao n cap] 31))) := hb
  have HM : Hid _ := heldO_ok n (h.below hb) hl
  have hp : ¬ (1 + (n : Int)) < 0 := by omega
  clear h hb
  unfold resA
  go_enter Try.func22, Try.ntmps22
  go_wp2_with (go_at_call 63; refine Calls.mono HM.out ?_; rintro e u1 ⟨rfl, hb⟩; have HB1 : Hid (Below w.heap.size w u1) := HB.out.trans (hb.mono HB.out.size); clear hb HM)
  go_ret
  exact ⟨rfl, HB1.out⟩
end Go.Proofs.Ytfagohdmepnkkaa
