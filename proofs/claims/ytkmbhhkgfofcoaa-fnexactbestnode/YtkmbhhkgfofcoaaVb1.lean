import Derived.RangeFuncNested
import Derived.RangeFuncBound
import Derived.RangeFuncCalls
import Derived.RangeFuncLeaves
import Derived.Shelf.Abstract
import Derived.Shelf.RegionOpen
import Derived.WalkKit
import Derived.OwnWalkIn
import Derived.TacticsInMore
import Derived.LoopNIn
import Derived.LoopIn
import Derived.Test.YtkmbhhkgfofcoaaRowI
namespace Go.Proofs.Ytkmbhhkgfofcoaa
open Go.RowKit Go.Shelf
attribute [local go_sem] Oper.semAt_some

abbrev TV (zs : List Int) : Type := { j : Nat // j < zs.length }
/-- Numbers 0, 1, .. so many. -/
def upV (zs : List Int) (k : Nat) (ys : List (TV zs)) : Prop := ys.map (·.val) = List.range k
theorem upV_snoc {zs : List Int} {k : Nat} {ys : List (TV zs)} (h : upV zs k ys) (hk : k < zs.length) : upV zs (k + 1) (ys ++ [⟨k, hk⟩]) := by
  unfold upV at *
  rw [List.map_append, h, List.range_succ]
  rfl
theorem upV_len {zs : List Int} {k : Nat} {ys : List (TV zs)} (h : upV zs k ys) : ys.length = k := by
  have := congrArg List.length h
  simpa using this
/-- What was yielded. -/
def vlV (zs : List Int) (ys : List (TV zs)) : List Int := ys.map fun x => zs[x.1]'x.2
theorem vlV_snoc (zs : List Int) (ys : List (TV zs)) (x : TV zs) : vlV zs (ys ++ [x]) = vlV zs ys ++ [zs[x.1]'x.2] := by simp [vlV]
theorem vlV_all {zs : List Int} {ys : List (TV zs)} (h : upV zs zs.length ys) : vlV zs ys = zs := by
  have e : vlV zs ys = (ys.map (·.val)).map (fun j => zs.getD j 0) := by
    unfold vlV
    rw [List.map_map]
    apply List.map_congr_left
    intro x _
    simp [List.getElem?_eq_getElem x.2]
  rw [e, h]
  apply List.ext_getElem
  · simp
  · intro i h1 h2
    simp [List.getElem?_eq_getElem h2]
/-- What a round keeps: all below n0, and the block of what the iterator captured. -/
def KtV (n0 Bm : Nat) (W W' : World) : Prop := Below n0 W W' ∧ W'.heap[Bm]? = W.heap[Bm]?
theorem KtV.trans {n0 Bm : Nat} {A B C : World} (h : KtV n0 Bm A B) (k : KtV n0 Bm B C) : KtV n0 Bm A C := ⟨h.1.trans k.1, k.2.trans h.2⟩
set_option maxRecDepth 100000 in
set_option maxHeartbeats 4000000 in
theorem values1_in (n : Nat) (hn : 1 ≤ n) (l Bm : Nat) (v : Value) (zs : List Int) (w : World) (hP : Irow w v zs) (J Jx : List (TV zs) → World → Prop)
    (hY : ∀ pre (x : TV zs) W, J pre W → pre.length < zs.length → YieldAt Fence.wide (n - 1) Try.prog l #[.int .i64 (zs[x.1]'x.2)] W fun e W' =>
      (e = .returned (.bool true) ∧ J (pre ++ [x]) W' ∧ KtV w.heap.size Bm W W') ∨ (e = .returned (.bool false) ∧ Jx (pre ++ [x]) W'))
    (W : World) (hW : Below w.heap.size w W) (hBm : W.cell? ⟨Bm, 0, none⟩ = some v) (h0 : J [] W) (hl : zs.length ≤ 1048576) :
    CallsIn Fence.wide n Try.prog 79 #[.func (.yield l) #[] #[], .pointer (some ⟨Bm, 0, none⟩)] W fun e W' => (∃ v, e = .returned v) ∧
      ((∃ ys, upV zs zs.length ys ∧ J ys W') ∨ (∃ pre, True ∧ Jx pre W')) := by
  obtain ⟨ao, cap, rfl⟩ := hP.sl
  have HR : Hid (Irow w (.slice ao zs.length cap) zs) := hP
  have HJ : Hid (J [] W) := h0
  have HB : Hid (Below w.heap.size w W) := hW
  clear hP h0 hW
  refine callsIn_of_wp Try.func79 rfl trivial ?_ rfl
  simp only [Try.ntmps79, List.size_toArray, List.length_cons, List.length_nil, Nat.reduceAdd, Nat.reduceSub, Array.replicate_succ, Array.replicate_zero, List.push_toArray, List.append_toArray, List.nil_append, List.cons_append]
  gi_wp2
  gi_loopw [7] (fun i wr => ∃ (k : Nat) (pre : List (TV zs)), k ≤ zs.length ∧ i = .int .i64 k ∧ upV zs k pre ∧ J pre wr ∧ Below w.heap.size w wr) (fun i _ => zs.length - (intOf i).toNat)
  case atStart => exact ⟨0, [], Nat.zero_le _, rfl, rfl, HJ.out, HB.out⟩
  case round =>
    obtain ⟨k, pre, hk, rfl, hup, hJk, hbk⟩ := hrel
    by_cases hlt : k < zs.length
    · obtain ⟨g, o, cap2, hv, _, hg, hc⟩ := HR.out.resolve_left (fun h => by rw [h.1] at hlt; simp at hlt)
      injection hv with hv1 hv2 hv3
      subst hv1 hv3
      have d0 := (hbk.cell (p := ⟨g, o + k, none⟩) hg).trans (hc k hlt)
      obtain ⟨fn2, tmps2, assign2, body2, hy, hR⟩ := hY pre ⟨k, hlt⟩ wr hJk (by rw [upV_len hup]; omega)
      have hk0 : (0 : Int) ≤ (k : Int) := by omega
      have hk1 : (k : Int) < (zs.length : Int) := by omega
      have hgw : g < wr.heap.size := Nat.lt_of_lt_of_le hg hbk.size
      have HUP : Hid (upV zs k pre) := hup
      simp only at hy
      generalize hz : zs[k] = z at hy d0
      clear hc hup hBm
      gi_wp2
      refine hR.mono ?_
      clear hR hy
      rintro e W3 (⟨rfl, hJ3, hk3⟩ | ⟨rfl, hJx3⟩)
      · gi_wp2
        go_roundw
        case rel => exact ⟨k + 1, _, by omega, by simp, upV_snoc HUP.out hlt, hJ3, hbk.trans hk3.1⟩
        case measure => simp [intOf]; omega
      · gi_wp2
        refine bodyPost_ret (results_none rfl _ _ _) rfl ?_
        exact ⟨⟨_, rfl⟩, .inr ⟨_, trivial, hJx3⟩⟩
    · obtain rfl : k = zs.length := by omega
      gi_wp2
      go_end0
      exact ⟨⟨_, rfl⟩, .inl ⟨_, hup, hJk⟩⟩
theorem values_stops (n : Nat) (hn : 1 ≤ n) (Bm : Nat) (v : Value) (zs : List Int) (w w1 : World) (hP : Irow w v zs) (hw : Below w.heap.size w w1) (hBl : Bm < w1.heap.size) (hBm : w1.cell? ⟨Bm, 0, none⟩ = some v) (hl : zs.length ≤ 1048576) :
    SeqStopsK Fence.wide n Try.prog 79 #[.pointer (some ⟨Bm, 0, none⟩)] (fun x : TV zs => #[.int .i64 (zs[x.1]'x.2)]) (KtV w.heap.size Bm) (fun ys => upV zs zs.length ys) (fun _ => True) zs.length w1 := fun l J Jx W hW _ _ hY h0 =>
  values1_in n hn l Bm v zs w hP J Jx hY W (hw.trans (hW.mono hw.size)) ((hW.cell (p := ⟨Bm, 0, none⟩) hBl).trans hBm) h0 hl
set_option maxHeartbeats 1000000 in
theorem values_in (ao : Option Addr) (n cap : Nat) (w : World) : Calls Try.prog 66 #[.slice ao n cap] w fun e w' => e = .returned (.func (.func 79) #[] #[.pointer (some ⟨w.heap.size, 0, none⟩)]) ∧ w' = w.alloc (.cells #[.slice ao n cap] 103) := by
  go_enter Try.func66, Try.ntmps66
  go_wp2
  go_ret
  exact ⟨rfl, rfl⟩
end Go.Proofs.Ytkmbhhkgfofcoaa
