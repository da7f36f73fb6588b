import Derived.Test.YtggciigjhlbhhaaTp4
import Derived.Test.YtggciigjhlbhhaaSwS
import Derived.Deep.DeepCutAuto
namespace Go.Proofs.Ytggciigjhlbhhaa
open Go.ChangeShapes Go.WideShapes Go.ChangeAt Go.RowKit

set_option maxRecDepth 100000 in
set_option maxHeartbeats 4000000 in
theorem l10Buf_any {w : World} {B : Nat} {v : Value} {zs : List BU} (s : ByteArray) (z : BU) (h : w.ownsRow B 60 3 v zs.length (buR zs)) (hs : s.size ≤ 1048576) (hl : zs.length ≤ 1000) :
    Calls Try.prog 31 #[.string s, v, buA z] w fun e w' => e = .returned (.int .i64 (adC s zs z)) ∧ Below w.heap.size w w' := by
  have HI : Hid _ := fun u => l10In_any s z.pos z.len u hs
  obtain ⟨ao, cap, rfl⟩ := bu_sl h
  have HB : Hid (Below w.heap.size w (w.alloc (.cells #[.int .i64 z.pos, .int .i64 z.len, .bool z.write] 60))) := bx1 _ _
  have hln : (zs.length : Int) ≤ 1000 := by omega
  obtain ⟨zp, zl, zw⟩ := z
  unfold buA
  simp only at HI HB ⊢
  cases hi : inW s.size zp zl
  · rw [hi] at HI
    have E : Hid (adC s zs ⟨zp, zl, zw⟩ = 2) := (show adC s zs ⟨zp, zl, zw⟩ = 2 by unfold adC; simp only [hi]; rfl)
    clear hi h hs hl
    go_enter Try.func31, Try.ntmps31
    go_wp2_with (go_at_call 44; refine Calls.mono (HI.out _) ?_; rintro e u1 ⟨rfl, hu1⟩; rw [hu1]; clear hu1)
    go_ret
    exact ⟨ret_int E.out.symm, HB.out⟩
  rw [hi] at HI
  by_cases hnil : zs = []
  · have E : Hid (adC s zs ⟨zp, zl, zw⟩ = 0) := (show adC s zs ⟨zp, zl, zw⟩ = 0 by unfold adC; simp only [hi, hnil]; rfl)
    have hl0 : (zs.length : Int) = 0 := by rw [hnil]; rfl
    clear hi hnil h hs hl
    go_enter Try.func31, Try.ntmps31
    go_wp2_with (go_at_call 44; refine Calls.mono (HI.out _) ?_; rintro e u1 ⟨rfl, hu1⟩; rw [hu1]; clear hu1)
    go_ret
    exact ⟨ret_int E.out.symm, HB.out⟩
  have hpos : 0 < zs.length := List.length_pos_iff.2 hnil
  obtain ⟨g, cap', hvv, hlc, hgl⟩ := last_cell (bu_below h HB.out) hnil
  injection hvv with hv1 hv2 hv3
  subst hv1 hv3
  have hl1 : (0 : Int) < (zs.length : Int) := by omega
  have hl2 : (0 : Int) ≤ (zs.length : Int) - 1 := by omega
  have hl3 : ((zs.length : Int) - 1).toNat = zs.length - 1 := by omega
  have hl4 : (zs.length : Int) - 1 < (zs.length : Int) := by omega
  have E : Hid (adC s zs ⟨zp, zl, zw⟩ = if (lastW zs && !zw) = true then 6 else 0) := (show adC s zs ⟨zp, zl, zw⟩ = _ by unfold adC; simp only [hi, if_true])
  clear hnil hi h hs hl
  generalize lastW zs = lw at *
  cases lw
  · have E2 : Hid (adC s zs ⟨zp, zl, zw⟩ = 0) := E.out
    clear E
    go_enter Try.func31, Try.ntmps31
    go_wp2_with (go_at_call 44; refine Calls.mono (HI.out _) ?_; rintro e u1 ⟨rfl, hu1⟩; rw [hu1]; clear hu1)
    go_ret
    exact ⟨ret_int E2.out.symm, HB.out⟩
  cases zw
  · have E2 : Hid (adC s zs ⟨zp, zl, false⟩ = 6) := E.out
    clear E
    go_enter Try.func31, Try.ntmps31
    go_wp2_with (go_at_call 44; refine Calls.mono (HI.out _) ?_; rintro e u1 ⟨rfl, hu1⟩; rw [hu1]; clear hu1)
    go_ret
    exact ⟨ret_int E2.out.symm, HB.out⟩
  · have E2 : Hid (adC s zs ⟨zp, zl, true⟩ = 0) := E.out
    clear E
    go_enter Try.func31, Try.ntmps31
    go_wp2_with (go_at_call 44; refine Calls.mono (HI.out _) ?_; rintro e u1 ⟨rfl, hu1⟩; rw [hu1]; clear hu1)
    go_ret
    exact ⟨ret_int E2.out.symm, HB.out⟩
/-- The specification's TakePacked between two rounds. -/
structure ST (w u : World) (T : Nat) (S R P : Int) (W : Bool) (c i : Int) (v : Value) (zs : List BU) : Prop where
  two : TwoBx w u #[.int .i64 S, .int .i64 R, .int .i64 P, .bool W] 37 #[.int .i64 0, .int .i64 0, .int .i64 0, .slice none 0 0] 35
  box : u.heap[T]? = some (.cells #[.int .i64 0, .int .i64 i, .int .i64 c, v] 35 (0, 0))
  row : u.ownsRow (T + 1) 60 3 v zs.length (buR zs)
  ge : w.heap.size + 2 ≤ T
theorem ST.lt {w u : World} {T : Nat} {S R P c i : Int} {W : Bool} {v : Value} {zs : List BU} (h : ST w u T S R P W c i v zs) : T < u.heap.size := (Array.getElem?_eq_some_iff.1 h.box).1
theorem ST.step {w u u' : World} {T : Nat} {S R P c i : Int} {W : Bool} {v : Value} {zs : List BU} (h : ST w u T S R P W c i v zs) (hb : Below u.heap.size u u') : ST w u' T S R P W c i v zs := ⟨h.two.step hb, (hb.block _ h.lt).trans h.box, bu_below h.row hb, h.ge⟩
theorem ST.dn {w u : World} {T : Nat} {S R P c i : Int} {W : Bool} {v : Value} {zs : List BU} (h : ST w u T S R P W c i v zs) (n : Nat) : ST w (u.drewN n) T S R P W c i v zs := h.step (bdn (Below.refl _ _) n)
theorem ST.put {w u : World} {T : Nat} {S R P c i : Int} {W : Bool} {v : Value} {zs : List BU} (h : ST w u T S R P W c i v zs) (o : Nat) (x : Value) : (u.setCell ⟨T, o, none⟩ x).heap[T]? = some (.cells (#[.int .i64 0, .int .i64 i, .int .i64 c, v].setIfInBounds o x) 35 (0, 0)) ∧ TwoBx w (u.setCell ⟨T, o, none⟩ x) #[.int .i64 S, .int .i64 R, .int .i64 P, .bool W] 37 #[.int .i64 0, .int .i64 0, .int .i64 0, .slice none 0 0] 35 ∧ (u.setCell ⟨T, o, none⟩ x).ownsRow (T + 1) 60 3 v zs.length (buR zs) := by
  refine ⟨by simp [World.setCell, Array.getElem?_modify, h.box], ⟨h.two.bel.setCell (by have := h.ge; simp; omega) _, (Below.heap_setCell _ _ _ _ (by have := h.ge; simp; omega)).trans h.two.b1, (Below.heap_setCell _ _ _ _ (by have := h.ge; simp; omega)).trans h.two.b2⟩, own_set h.row (fun e => ?_)⟩
  have := (h.row.lt _ e).1
  simp at this
  omega
theorem ST.cnt {w u : World} {T : Nat} {S R P c i : Int} {W : Bool} {v : Value} {zs : List BU} (h : ST w u T S R P W c i v zs) (x : Int) : ST w (u.setCell ⟨T, 2, none⟩ (.int .i64 x)) T S R P W x i v zs := by
  obtain ⟨a, b, d⟩ := h.put 2 (.int .i64 x)
  exact ⟨b, a, d, h.ge⟩
theorem ST.idp {w u : World} {T : Nat} {S R P c i : Int} {W : Bool} {v : Value} {zs : List BU} (h : ST w u T S R P W c i v zs) (x : Int) : ST w (u.setCell ⟨T, 1, none⟩ (.int .i64 x)) T S R P W c x v zs := by
  obtain ⟨a, b, d⟩ := h.put 1 (.int .i64 x)
  exact ⟨b, a, d, h.ge⟩
theorem ST.app {w u x : World} {T : Nat} {S R P c i : Int} {W : Bool} {v v' : Value} {zs : List BU} {z : BU} (h : ST w u T S R P W c i v zs) (ho : x.ownsRow (T + 1) 60 3 v' (zs.length + 1) (buR zs ++ buC z)) (hg : u.grownBy x v.ownBlock) : ST w (x.setCell ⟨T, 3, none⟩ v') T S R P W c i v' (zs ++ [z]) := by
  have hne : ∀ k, k < T + 1 → v.ownBlock ≠ some k := fun k hk e => by have := (h.row.lt _ e).1; omega
  have hlt := h.lt
  have hge := h.ge
  have hbx : x.heap[T]? = some (.cells #[.int .i64 0, .int .i64 i, .int .i64 c, v] 35 (0, 0)) := (hg.block _ hlt (fun e => hne _ (by omega) e.symm)).trans h.box
  have hbl : Below w.heap.size w x := ⟨hg.os.trans h.two.bel.os, hg.tape.trans h.two.bel.tape, hg.output.trans h.two.bel.output, Nat.le_trans h.two.bel.size hg.size, fun k hk => (hg.block k (Nat.lt_of_lt_of_le hk h.two.bel.size) (fun e => hne _ (by omega) e.symm)).trans (h.two.bel.block k hk)⟩
  refine ⟨⟨hbl.setCell (by simp; omega) _, (Below.heap_setCell _ _ _ _ (by simp; omega)).trans ((hg.block _ (by omega) (fun e => hne _ (by omega) e.symm)).trans h.two.b1), (Below.heap_setCell _ _ _ _ (by simp; omega)).trans ((hg.block _ (by omega) (fun e => hne _ (by omega) e.symm)).trans h.two.b2)⟩, ?_, ?_, hge⟩
  · simp [World.setCell, Array.getElem?_modify, hbx]
  · have e1 : (zs ++ [z]).length = zs.length + 1 := by simp
    have e2 : buR (zs ++ [z]) = buR zs ++ buC z := by rw [buR_app]; simp [buR]
    rw [e1, e2]
    refine own_set ho (fun e => ?_)
    have h9 := (ho.lt _ e).1
    simp at h9
    omega
/-- The count in a box. -/
def cntAt (u : World) (b : Nat) : Nat := match u.cell? ⟨b, 2, none⟩ with
  | some (.int _ c) => c.toNat
  | _ => 0
theorem ST.count {w u : World} {T : Nat} {S R P c i : Int} {W : Bool} {v : Value} {zs : List BU} (h : ST w u T S R P W c i v zs) : cntAt u (T) = c.toNat := by
  unfold cntAt
  rw [bxC h.box 2 (.int .i64 c) rfl]
theorem ST.cels {w u : World} {T : Nat} {S R P c i : Int} {W : Bool} {v : Value} {zs : List BU} (h : ST w u T S R P W c i v zs) : u.cell? ⟨w.heap.size, 0, none⟩ = some (.int .i64 S) ∧ u.cell? ⟨w.heap.size, 1, none⟩ = some (.int .i64 R) ∧ u.cell? ⟨w.heap.size, 2, none⟩ = some (.int .i64 P) ∧ u.cell? ⟨w.heap.size, 3, none⟩ = some (.bool W) ∧ u.cell? ⟨T, 0, none⟩ = some (.int .i64 0) ∧ u.cell? ⟨T, 1, none⟩ = some (.int .i64 i) ∧ u.cell? ⟨T, 2, none⟩ = some (.int .i64 c) ∧ u.cell? ⟨T, 3, none⟩ = some v ∧ (∀ k, u.frozen? ⟨T, k, none⟩ = false) :=
  ⟨bxC h.two.b1 0 _ rfl, bxC h.two.b1 1 _ rfl, bxC h.two.b1 2 _ rfl, bxC h.two.b1 3 _ rfl, bxC h.box 0 _ rfl, bxC h.box 1 _ rfl, bxC h.box 2 _ rfl, bxC h.box 3 _ rfl, fun k => bxF h.box k⟩
theorem ST.res {w u : World} {T : Nat} {S R P c i : Int} {W : Bool} {v : Value} {zs : List BU} (h : ST w u T S R P W c i v zs) : u.cell? ⟨w.heap.size + 1, 0, none⟩ = some (.int .i64 0) ∧ u.cell? ⟨w.heap.size + 1, 1, none⟩ = some (.int .i64 0) ∧ u.cell? ⟨w.heap.size + 1, 2, none⟩ = some (.int .i64 0) ∧ u.cell? ⟨w.heap.size + 1, 3, none⟩ = some (.slice none 0 0) ∧ (∀ k, u.frozen? ⟨w.heap.size + 1, k, none⟩ = false) :=
  ⟨bxC h.two.b2 0 _ rfl, bxC h.two.b2 1 _ rfl, bxC h.two.b2 2 _ rfl, bxC h.two.b2 3 _ rfl, fun k => bxF h.two.b2 k⟩
end Go.Proofs.Ytggciigjhlbhhaa
