import Derived.Test.YthhbfghbpapklabCr2
import Derived.Test.YthhbfghbpapklabSwS
import Derived.Test.YthhbfghbpapklabGAx
import Derived.Deep.DeepCutAuto
namespace Go.Proofs.Ythhbfghbpapklab
open Go.ChangeShapes Go.WideShapes Go.ChangeAt Go.RowKit

set_option maxRecDepth 100000 in
set_option maxHeartbeats 4000000 in
theorem l10Buf_any {w : World} {B : Nat} {v : Value} {zs : List BU} (s : ByteArray) (z : BU) (h : w.ownsRow B 153 3 v zs.length (buR zs)) (hs : s.size ≤ 1048576) (hl : zs.length ≤ 1000) :
    Calls Try.prog 120 #[.string s, v, buA z] w fun e w' => e = .returned (.int .i64 (adC s zs z)) ∧ Below w.heap.size w w' := by
  have HI : Hid _ := fun u => l10In_any s z.pos z.len u hs
  obtain ⟨ao, cap, rfl⟩ := bu_sl h
  have HB : Hid (Below w.heap.size w (w.alloc (.cells #[.int .i64 z.pos, .int .i64 z.len, .bool z.write] 153))) := bx1 _ _
  have hln : (zs.length : Int) ≤ 1000 := by omega
  obtain ⟨zp, zl, zw⟩ := z
  unfold buA
  simp only at HI HB ⊢
  cases hi : inW s.size zp zl
  · rw [hi] at HI
    have E : Hid (adC s zs ⟨zp, zl, zw⟩ = 2) := (show adC s zs ⟨zp, zl, zw⟩ = 2 by unfold adC; simp only [hi]; rfl)
    clear hi h hs hl
    go_enter Try.func120, Try.ntmps120
    go_wp2_with (go_at_call 83; refine Calls.mono (HI.out _) ?_; rintro e u1 ⟨rfl, hu1⟩; rw [hu1]; clear hu1)
    go_ret
    exact ⟨ret_int E.out.symm, HB.out⟩
  rw [hi] at HI
  by_cases hnil : zs = []
  · have E : Hid (adC s zs ⟨zp, zl, zw⟩ = 0) := (show adC s zs ⟨zp, zl, zw⟩ = 0 by unfold adC; simp only [hi, hnil]; rfl)
    have hl0 : (zs.length : Int) = 0 := by rw [hnil]; rfl
    clear hi hnil h hs hl
    go_enter Try.func120, Try.ntmps120
    go_wp2_with (go_at_call 83; refine Calls.mono (HI.out _) ?_; rintro e u1 ⟨rfl, hu1⟩; rw [hu1]; clear hu1)
    go_ret
    exact ⟨ret_int E.out.symm, HB.out⟩
  have hpos : 0 < zs.length := List.length_pos_iff.2 hnil
  obtain ⟨g, cap', hvv, hlc, hgl⟩ := last_cell (bu_below h HB.out) hnil
  injection hvv with hv1 hv2 hv3
  subst hv1 hv3
  have hl1 : (0 : Int) < (zs.length : Int) := by omega
  have hl2 : (0 : Int) ≤ (zs.length : Int) - 1 := by omega
  have hl3 : ((zs.length : Int) - 1).toNat = zs.length - 1 := by omega
  have hl4 : (zs.length : Int) - 1 < (zs.length : Int) := by omega
  have E : Hid (adC s zs ⟨zp, zl, zw⟩ = if (lastW zs && !zw) = true then 6 else 0) := (show adC s zs ⟨zp, zl, zw⟩ = _ by unfold adC; simp only [hi, if_true])
  clear hnil hi h hs hl
  generalize lastW zs = lw at *
  cases lw
  · have E2 : Hid (adC s zs ⟨zp, zl, zw⟩ = 0) := E.out
    clear E
    go_enter Try.func120, Try.ntmps120
    go_wp2_with (go_at_call 83; refine Calls.mono (HI.out _) ?_; rintro e u1 ⟨rfl, hu1⟩; rw [hu1]; clear hu1)
    go_ret
    exact ⟨ret_int E2.out.symm, HB.out⟩
  cases zw
  · have E2 : Hid (adC s zs ⟨zp, zl, false⟩ = 6) := E.out
    clear E
    go_enter Try.func120, Try.ntmps120
    go_wp2_with (go_at_call 83; refine Calls.mono (HI.out _) ?_; rintro e u1 ⟨rfl, hu1⟩; rw [hu1]; clear hu1)
    go_ret
    exact ⟨ret_int E2.out.symm, HB.out⟩
  · have E2 : Hid (adC s zs ⟨zp, zl, true⟩ = 0) := E.out
    clear E
    go_enter Try.func120, Try.ntmps120
    go_wp2_with (go_at_call 83; refine Calls.mono (HI.out _) ?_; rintro e u1 ⟨rfl, hu1⟩; rw [hu1]; clear hu1)
    go_ret
    exact ⟨ret_int E2.out.symm, HB.out⟩
end Go.Proofs.Ythhbfghbpapklab
