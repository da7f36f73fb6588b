import Derived.RangeFuncNested
import Derived.RangeFuncBound
import Derived.RangeFuncCalls
import Derived.RangeFuncLeaves
import Derived.Shelf.Abstract
import Derived.Shelf.RegionOpen
import Derived.WalkKit
import Derived.OwnWalkIn
import Derived.TacticsInMore
import Derived.LoopNIn
import Derived.LoopIn
import Derived.Test.YtaobbddecmhpnaaIm3
namespace Go.Proofs.Ytaobbddecmhpnaa
open Go.RowKit Go.Shelf
attribute [local go_sem] Oper.semAt_some

/-- An image behind a pointer. -/
structure PB (w : World) (B : Nat) (m : IM) (a : IA) : Prop where
  lt : B < w.heap.size
  c0 : w.cell? ⟨B, 0, none⟩ = some (.string m.n)
  c1 : w.cell? ⟨B, 1, none⟩ = some (.string m.b)
  c2 : w.cell? ⟨B, 2, none⟩ = some a.vt
  c3 : w.cell? ⟨B, 3, none⟩ = some a.vd
  c4 : w.cell? ⟨B, 4, none⟩ = some a.vs
  row : IRows w m a
theorem PB.below {w w' : World} {B : Nat} {m : IM} {a : IA} (h : PB w B m a) (hb : Below w.heap.size w w') : PB w' B m a := by
  have e : ∀ x, w'.cell? ⟨B, x, none⟩ = w.cell? ⟨B, x, none⟩ := fun x => World.cell?_of_block (hb.block B h.lt)
  exact ⟨Nat.lt_of_lt_of_le h.lt hb.size, (e 0).trans h.c0, (e 1).trans h.c1, (e 2).trans h.c2, (e 3).trans h.c3, (e 4).trans h.c4, h.row.below hb⟩
/-- The value and the entries of the table of that number: the image's own, and those of its Snaps. -/
def tvV (a : IA) : Nat → Value
  | 0 => a.vt
  | k + 1 => (a.qs.getD k sn0).t
def tlV (m : IM) : Nat → List Int
  | 0 => m.t
  | k + 1 => (m.s.getD k ⟨⟨#[]⟩, []⟩).t
theorem tv_row {w : World} {m : IM} {a : IA} (h : IRows w m a) (j : Nat) (hj : j < m.s.length + 1) : Irow w (tvV a j) (tlV m j) := by
  cases j with
  | zero => exact h.t
  | succ k =>
    have hk : k < m.s.length := by omega
    have hq : k < a.qs.length := by rw [h.si.len]; exact hk
    have := (h.si.el k hq hk).2
    simp only [tvV, tlV, List.getD_eq_getElem?_getD, List.getElem?_eq_getElem hq, List.getElem?_eq_getElem hk, Option.getD_some]
    exact this
abbrev TI (m : IM) : Type := { j : Nat // j < m.s.length + 1 }
/-- Numbers 0, 1, .. so many. -/
def upT (m : IM) (k : Nat) (ys : List (TI m)) : Prop := ys.map (·.val) = List.range k
theorem upT_snoc {m : IM} {k : Nat} {ys : List (TI m)} (h : upT m k ys) (hk : k < m.s.length + 1) : upT m (k + 1) (ys ++ [⟨k, hk⟩]) := by
  unfold upT at *
  rw [List.map_append, h, List.range_succ]
  rfl
theorem upT_len {m : IM} {k : Nat} {ys : List (TI m)} (h : upT m k ys) : ys.length = k := by
  have := congrArg List.length h
  simpa using this
/-- What a round keeps: all below n0, and the block of what the iterator captured. -/
def Kt (n0 Bm : Nat) (W W' : World) : Prop := Below n0 W W' ∧ W'.heap[Bm]? = W.heap[Bm]?
theorem Kt.trans {n0 Bm : Nat} {A B C : World} (h : Kt n0 Bm A B) (k : Kt n0 Bm B C) : Kt n0 Bm A C := ⟨h.1.trans k.1, k.2.trans h.2⟩
set_option maxRecDepth 100000 in
set_option maxHeartbeats 4000000 in
theorem tables1_in (n : Nat) (hn : 1 ≤ n) (l Bm B : Nat) (m : IM) (a : IA) (w : World) (hP : PB w B m a) (J Jx : List (TI m) → World → Prop)
    (hY : ∀ pre (x : TI m) W, J pre W → pre.length < m.s.length + 1 → YieldAt Fence.wide (n - 1) Try.prog l #[tvV a x.1] W fun e W' =>
      (e = .returned (.bool true) ∧ J (pre ++ [x]) W' ∧ Kt w.heap.size Bm W W') ∨ (e = .returned (.bool false) ∧ Jx (pre ++ [x]) W'))
    (W : World) (hW : Below w.heap.size w W) (hJ : AbidesFrom W.heap.size J) (hBm : W.cell? ⟨Bm, 0, none⟩ = some (.pointer (some ⟨B, 0, none⟩))) (h0 : J [] W) (hl : m.s.length ≤ 1048576) :
    CallsIn Fence.wide n Try.prog 61 #[.func (.yield l) #[] #[], .pointer (some ⟨Bm, 0, none⟩)] W fun e W' => (∃ v, e = .returned v) ∧
      ((∃ ys, upT m (m.s.length + 1) ys ∧ J ys W') ∨ (∃ pre, True ∧ Jx pre W')) := by
  have hP1 := hP.below hW
  have c2 := hP1.c2
  obtain ⟨fn, tmps, assign, body, hy0, hR⟩ := hY [] ⟨0, by omega⟩ W h0 (by simp)
  have hy : (Instr.yield l #[a.vt]).run Try.prog W = .ok (.round l fn tmps assign body) W := hy0
  have HP : Hid (PB w B m a) := hP
  have HLQ : Hid (a.qs.length = m.s.length) := hP.row.si.len
  have HSN : Hid (SNrow w a.vs a.qs) := hP.row.sn
  clear hy0 hP1 h0 hP
  refine callsIn_of_wp Try.func61 rfl trivial ?_ rfl
  simp only [Try.ntmps61, List.size_toArray, List.length_cons, List.length_nil, Nat.reduceAdd, Nat.reduceSub, Array.replicate_succ, Array.replicate_zero, List.push_toArray, List.append_toArray, List.nil_append, List.cons_append]
  gi_wp2
  refine hR.mono ?_
  clear hR hy
  rintro e W1 (⟨rfl, hJ1, hk1⟩ | ⟨rfl, hx⟩)
  · have hB1 : Below w.heap.size w W1 := hW.trans hk1.1
    have hBm1 : W1.cell? ⟨Bm, 0, none⟩ = some (.pointer (some ⟨B, 0, none⟩)) := (World.cell?_of_block hk1.2).trans hBm
    have c4 := (HP.out.below hB1).c4
    obtain ⟨ao, cap, hvs⟩ := HSN.out.sl
    rw [HLQ.out] at hvs
    have HVS : Hid (a.vs = .slice ao m.s.length cap) := hvs
    rw [hvs] at c4
    clear hvs c2
    gi_wp2
    gi_loopw [17] (fun i wr => ∃ (k : Nat) (pre : List (TI m)), k ≤ m.s.length ∧ i = .int .i64 k ∧ upT m (k + 1) pre ∧ J pre wr ∧ Below w.heap.size w wr) (fun i _ => m.s.length - (intOf i).toNat)
    case atStart => exact ⟨0, _, Nat.zero_le _, rfl, upT_snoc (show upT m 0 [] from rfl) (by omega), hJ1, hB1⟩
    case round =>
      obtain ⟨k, pre, hk, rfl, hup, hJk, hbk⟩ := hrel
      by_cases hlt : k < m.s.length
      · have hkq : k < a.qs.length := by rw [HLQ.out]; exact hlt
        obtain ⟨g, o, cap2, hv, _, hg, hc⟩ := HSN.out.resolve_left (fun h => by rw [h.1] at hkq; simp at hkq)
        have hv3 := HVS.out.symm.trans hv
        injection hv3 with hv1 hv2 hv3
        subst hv1 hv3
        clear hv2 hv
        obtain ⟨d0, d1⟩ := hc.below hbk hg k hkq
        obtain ⟨z, hz⟩ : ∃ z, a.qs[k] = z := ⟨_, rfl⟩
        rw [hz] at d0 d1
        obtain ⟨az, kz, hzt⟩ := (HP.out.row.si.el k hkq hlt).2.sl
        rw [hz] at hzt
        have htv : tvV a (k + 1) = z.t := by
          simp only [tvV, List.getD_eq_getElem?_getD, List.getElem?_eq_getElem hkq, Option.getD_some, hz]
        generalize m.s[k].t.length = nz at hzt
        obtain ⟨zn, zt⟩ := z
        simp only at hzt d0 d1 htv
        subst hzt
        clear hz
        obtain ⟨fn2, tmps2, assign2, body2, hy0, hR⟩ := hY pre ⟨k + 1, by omega⟩ (wr.alloc (.cells #[.string zn, .slice az nz kz] 43)) (hJ pre wr _ none hJk (World.grownBy_alloc wr _ none) (fun r e => by cases e)) (by rw [upT_len hup]; omega)
        have hy : (Instr.yield l #[.slice az nz kz]).run Try.prog (wr.alloc (.cells #[.string zn, .slice az nz kz] 43)) = .ok (.round l fn2 tmps2 assign2 body2) (wr.alloc (.cells #[.string zn, .slice az nz kz] 43)) := htv ▸ hy0
        have hk0 : (0 : Int) ≤ (k : Int) := by omega
        have hk1 : (k : Int) < (m.s.length : Int) := by omega
        have hgw : g < wr.heap.size := Nat.lt_of_lt_of_le hg hbk.size
        have HUP : Hid (upT m (k + 1) pre) := hup
        clear hc hy0 hup htv
        gi_wp2
        refine hR.mono ?_
        clear hR hy
        rintro e W3 (⟨rfl, hJ3, hk3⟩ | ⟨rfl, hJx3⟩)
        · gi_wp2
          go_roundw
          case rel => exact ⟨k + 1, _, by omega, by simp, upT_snoc HUP.out (by omega), hJ3, (hbk.alloc hbk.size _).trans hk3.1⟩
          case measure => simp [intOf]; omega
        · gi_wp2
          refine bodyPost_ret (results_none rfl _ _ _) rfl ?_
          exact ⟨⟨_, rfl⟩, .inr ⟨_, trivial, hJx3⟩⟩
      · obtain rfl : k = m.s.length := by omega
        gi_wp2
        go_end0
        exact ⟨⟨_, rfl⟩, .inl ⟨_, hup, hJk⟩⟩
  · gi_wp2
    refine bodyPost_ret (results_none rfl _ _ _) rfl ?_
    exact ⟨⟨_, rfl⟩, .inr ⟨_, trivial, hx⟩⟩
theorem tables_stops (n : Nat) (hn : 1 ≤ n) (Bm B : Nat) (m : IM) (a : IA) (w w1 : World) (hP : PB w B m a) (hw : Below w.heap.size w w1) (hBl : Bm < w1.heap.size) (hBm : w1.cell? ⟨Bm, 0, none⟩ = some (.pointer (some ⟨B, 0, none⟩))) (hl : m.s.length ≤ 1048576) :
    SeqStopsK Fence.wide n Try.prog 61 #[.pointer (some ⟨Bm, 0, none⟩)] (fun x : TI m => #[tvV a x.1]) (Kt w.heap.size Bm) (fun ys => upT m (m.s.length + 1) ys) (fun _ => True) (m.s.length + 1) w1 := fun l J Jx W hW hJ _ hY h0 =>
  tables1_in n hn l Bm B m a w hP J Jx hY W (hw.trans (hW.mono hw.size)) hJ ((hW.cell (p := ⟨Bm, 0, none⟩) hBl).trans hBm) h0 hl
set_option maxHeartbeats 1000000 in
theorem tables_in (p : Addr) (w : World) : Calls Try.prog 52 #[.pointer (some p)] w fun e w' => e = .returned (.func (.func 61) #[] #[.pointer (some ⟨w.heap.size, 0, none⟩)]) ∧ w' = w.alloc (.cells #[.pointer (some p)] 64) := by
  go_enter Try.func52, Try.ntmps52
  go_wp2
  go_ret
  exact ⟨rfl, rfl⟩
end Go.Proofs.Ytaobbddecmhpnaa
