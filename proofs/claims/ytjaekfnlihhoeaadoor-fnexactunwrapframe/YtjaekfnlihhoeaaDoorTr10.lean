import Derived.Test.YtjaekfnlihhoeaaDoorTr9
import Derived.Test.YtjaekfnlihhoeaaDoorLG
namespace Go.Proofs.YtjaekfnlihhoeaaDoor
open Go.ChangeShapes Go.WideShapes Go.ChangeAt Go.RowKit

set_option maxRecDepth 100000 in
set_option maxHeartbeats 8000000 in
theorem eqFr_ok (sr ds nt : Int) (tx : ByteArray) (w : World) : Calls Tryd.prog 14 #[.agg #[.int .i64 sr, .int .i64 ds, .int .i64 nt, .string tx], .agg #[.int .i64 sr, .int .i64 ds, .int .i64 nt, .string tx]] w fun e w' => e = .returned (.bool true) ∧ Below w.heap.size w w' := by
  have HB : Hid (Below w.heap.size w ((w.alloc (.cells #[.int .i64 sr, .int .i64 ds, .int .i64 nt, .string tx] 23)).alloc (.cells #[.int .i64 sr, .int .i64 ds, .int .i64 nt, .string tx] 23))) := ((Below.refl _ _).alloc (Nat.le_refl _) _).alloc (by simp) _
  go_enter Tryd.func14, Tryd.ntmps14
  go_wp2
  go_ret
  exact ⟨rfl, HB.out⟩
set_option maxRecDepth 100000 in
set_option maxHeartbeats 8000000 in
theorem eqFrd_ok (c k f t2 sr ds nt : Int) (tx : ByteArray) (w : World) : Calls Tryd.prog 6 #[.agg #[.int .i64 c, .int .i64 k, .int .i64 f, .int .i64 t2, .int .i64 sr, .int .i64 ds, .int .i64 nt, .string tx], .agg #[.int .i64 c, .int .i64 k, .int .i64 f, .int .i64 t2, .int .i64 sr, .int .i64 ds, .int .i64 nt, .string tx]] w fun e w' => e = .returned (.bool true) ∧ Below w.heap.size w w' := by
  have HB : Hid (Below w.heap.size w ((w.alloc (.cells #[.int .i64 c, .int .i64 k, .int .i64 f, .int .i64 t2, .int .i64 sr, .int .i64 ds, .int .i64 nt, .string tx] 25)).alloc (.cells #[.int .i64 c, .int .i64 k, .int .i64 f, .int .i64 t2, .int .i64 sr, .int .i64 ds, .int .i64 nt, .string tx] 25))) := ((Below.refl _ _).alloc (Nat.le_refl _) _).alloc (by simp) _
  have HE : Hid (∀ u, Calls Tryd.prog 14 #[.agg #[.int .i64 sr, .int .i64 ds, .int .i64 nt, .string tx], .agg #[.int .i64 sr, .int .i64 ds, .int .i64 nt, .string tx]] u fun e w' => e = .returned (.bool true) ∧ Below u.heap.size u w') := fun u => eqFr_ok sr ds nt tx u
  go_enter Tryd.func6, Tryd.ntmps6
  go_wp2_with (go_at_call 14; refine Calls.mono (HE.out _) ?_; rintro e u1 ⟨rfl, hb⟩; have HB1 : Hid _ := hb; clear hb)
  go_ret
  exact ⟨rfl, HB.out.trans (HB1.out.mono HB.out.size)⟩
theorem uwA_lit (s : ByteArray) : ∃ (c k f t2 sr ds nt : Int) (tx : ByteArray), uwA s = #[.int .i64 c, .int .i64 k, .int .i64 f, .int .i64 t2, .int .i64 sr, .int .i64 ds, .int .i64 nt, .string tx] := by
  unfold uwA
  split
  · exact ⟨_, _, _, _, _, _, _, _, rfl⟩
  · split
    · exact ⟨_, _, _, _, _, _, _, _, rfl⟩
    · exact ⟨_, _, _, _, _, _, _, _, rfl⟩
set_option maxRecDepth 100000 in
set_option maxHeartbeats 8000000 in
theorem walkUW (t : ByteArray) (w : World) (hT : ErrT w) (hm : t.size ≤ maxLen) : Calls Tryd.prog 3 #[.string t] w fun e w' => e = .returned (.bool true) ∧ Below w.heap.size w w' := by
  have hz0 : (0 : Int) ≤ (t.size : Int) := by omega
  have hz1 : (t.size : Int) ≤ 9223372036854775807 := by unfold maxLen at hm; omega
  cases hb : decide (1048576 < (t.size : Int))
  rotate_left
  · clear hT
    go_enter Tryd.func3, Tryd.ntmps3
    go_wp2
    go_ret
    exact ⟨rfl, Below.refl _ _⟩
  obtain ⟨c, k, f, t2, sr, ds, nt, tx, hA⟩ := uwA_lit t
  have HSP : Hid (∀ u, Calls Tryd.prog 4 #[.string t] u fun e w' => e = .returned (.agg #[.int .i64 c, .int .i64 k, .int .i64 f, .int .i64 t2, .int .i64 sr, .int .i64 ds, .int .i64 nt, .string tx]) ∧ Below u.heap.size u w') := fun u => by have h9 := sw_any t u; rw [uwZ_eq, hA] at h9; exact h9
  have HIM : Hid (∀ u, Below w.heap.size w u → Calls Tryd.prog 5 #[.string t] u fun e w' => e = .returned (.agg #[.int .i64 c, .int .i64 k, .int .i64 f, .int .i64 t2, .int .i64 sr, .int .i64 ds, .int .i64 nt, .string tx]) ∧ Below u.heap.size u w') := fun u hu => by have h9 := unwrap_any t u ((World.cell?_of_block (hu.block _ (World.block_lt_of_cell? w _ hT))).trans hT); rw [hA] at h9; exact h9
  have HEQ : Hid (∀ u, Calls Tryd.prog 6 #[.agg #[.int .i64 c, .int .i64 k, .int .i64 f, .int .i64 t2, .int .i64 sr, .int .i64 ds, .int .i64 nt, .string tx], .agg #[.int .i64 c, .int .i64 k, .int .i64 f, .int .i64 t2, .int .i64 sr, .int .i64 ds, .int .i64 nt, .string tx]] u fun e w' => e = .returned (.bool true) ∧ Below u.heap.size u w') := fun u => eqFrd_ok c k f t2 sr ds nt tx u
  clear hT hm hA
  go_enter Tryd.func3, Tryd.ntmps3
  go_upto_region 4 with (go_at_call 4; refine Calls.mono (HSP.out _) ?_; rintro e u1 ⟨rfl, hb1⟩; have HB1 : Hid (Below w.heap.size w u1) := hb1; clear hb1)
  have HL1 : Hid (LG w (u1.alloc (.cells #[.int .i64 c, .int .i64 k, .int .i64 f, .int .i64 t2, .int .i64 sr, .int .i64 ds, .int .i64 nt, .string tx] 25)) u1.heap.size #[.int .i64 c, .int .i64 k, .int .i64 f, .int .i64 t2, .int .i64 sr, .int .i64 ds, .int .i64 nt, .string tx] 25) := ⟨HB1.out.trans ((bx1 _ _).mono HB1.out.size), heap_new _ _, HB1.out.size⟩
  clear HB1
  generalize (u1.alloc (.cells #[.int .i64 c, .int .i64 k, .int .i64 f, .int .i64 t2, .int .i64 sr, .int .i64 ds, .int .i64 nt, .string tx] 25)) = u2 at *
  generalize u1.heap.size = b1 at *
  go_upto_region 5 with (go_at_call 5; refine Calls.mono (HIM.out _ HL1.out.bel) ?_; rintro e u3 ⟨rfl, hb3⟩; have HL3 : Hid (LG w u3 b1 #[.int .i64 c, .int .i64 k, .int .i64 f, .int .i64 t2, .int .i64 sr, .int .i64 ds, .int .i64 nt, .string tx] 25) := HL1.out.step hb3; clear hb3)
  have HL4 : Hid (LG w (u3.alloc (.cells #[.int .i64 c, .int .i64 k, .int .i64 f, .int .i64 t2, .int .i64 sr, .int .i64 ds, .int .i64 nt, .string tx] 25)) b1 #[.int .i64 c, .int .i64 k, .int .i64 f, .int .i64 t2, .int .i64 sr, .int .i64 ds, .int .i64 nt, .string tx] 25) := HL3.out.step (bx1 _ _)
  have HM4 : Hid (LG w (u3.alloc (.cells #[.int .i64 c, .int .i64 k, .int .i64 f, .int .i64 t2, .int .i64 sr, .int .i64 ds, .int .i64 nt, .string tx] 25)) u3.heap.size #[.int .i64 c, .int .i64 k, .int .i64 f, .int .i64 t2, .int .i64 sr, .int .i64 ds, .int .i64 nt, .string tx] 25) := ⟨HL4.out.bel, heap_new _ _, HL3.out.bel.size⟩
  clear HL1 HL3
  generalize (u3.alloc (.cells #[.int .i64 c, .int .i64 k, .int .i64 f, .int .i64 t2, .int .i64 sr, .int .i64 ds, .int .i64 nt, .string tx] 25)) = u4 at *
  generalize u3.heap.size = b3 at *
  have k0 := HL4.out.cel 0 _ rfl
  have k1 := HL4.out.cel 1 _ rfl
  have k2 := HL4.out.cel 2 _ rfl
  have k3 := HL4.out.cel 3 _ rfl
  have k4 := HL4.out.cel 4 _ rfl
  have k5 := HL4.out.cel 5 _ rfl
  have k6 := HL4.out.cel 6 _ rfl
  have k7 := HL4.out.cel 7 _ rfl
  have kl := HL4.out.lt
  have x0 := HM4.out.cel 0 _ rfl
  have x1 := HM4.out.cel 1 _ rfl
  have x2 := HM4.out.cel 2 _ rfl
  have x3 := HM4.out.cel 3 _ rfl
  have x4 := HM4.out.cel 4 _ rfl
  have x5 := HM4.out.cel 5 _ rfl
  have x6 := HM4.out.cel 6 _ rfl
  have x7 := HM4.out.cel 7 _ rfl
  have xl := HM4.out.lt
  go_wp2_with (go_at_call 6; refine Calls.mono (HEQ.out _) ?_; rintro e u5 ⟨rfl, hb5⟩; have HB5 : Hid _ := hb5; clear hb5)
  go_ret
  exact ⟨rfl, HL4.out.bel.trans (HB5.out.mono HL4.out.bel.size)⟩
end Go.Proofs.YtjaekfnlihhoeaaDoor
