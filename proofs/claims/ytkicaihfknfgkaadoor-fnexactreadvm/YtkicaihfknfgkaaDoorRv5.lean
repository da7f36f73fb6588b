import Derived.Test.YtkicaihfknfgkaaDoorRv4
namespace Go.Proofs.YtkicaihfknfgkaaDoor
open Go.ChangeShapes Go.WideShapes Go.ChangeAt Go.RowKit

set_option maxRecDepth 100000 in
set_option maxHeartbeats 8000000 in
theorem eqVm_ok (v : VMC) (w : World) : Calls Tryd.prog 7 #[.agg #[.string v.name, .int .i64 v.tenant, .int .i64 v.cpu, .int .i64 v.mem, .int .i64 v.zone, .int .i64 v.apart, .string v.node, .int .i64 v.epoch], .agg #[.string v.name, .int .i64 v.tenant, .int .i64 v.cpu, .int .i64 v.mem, .int .i64 v.zone, .int .i64 v.apart, .string v.node, .int .i64 v.epoch]] w fun e w' => e = .returned (.bool true) ∧ Below w.heap.size w w' := by
  have HB : Hid (Below w.heap.size w ((w.alloc (.cells #[.string v.name, .int .i64 v.tenant, .int .i64 v.cpu, .int .i64 v.mem, .int .i64 v.zone, .int .i64 v.apart, .string v.node, .int .i64 v.epoch] 23)).alloc (.cells #[.string v.name, .int .i64 v.tenant, .int .i64 v.cpu, .int .i64 v.mem, .int .i64 v.zone, .int .i64 v.apart, .string v.node, .int .i64 v.epoch] 23))) := ((Below.refl _ _).alloc (Nat.le_refl _) _).alloc (by simp) _
  go_enter Tryd.func7, Tryd.ntmps7
  go_wp2
  go_ret
  exact ⟨rfl, HB.out⟩
set_option maxRecDepth 100000 in
set_option maxHeartbeats 8000000 in
theorem walkRV (t : ByteArray) (w : World) (ht : Tab w) (hw : 0 < w.heap.size) (he : ErrsAt w) (h1 : 1 < w.heap.size) (h2 : 2 < w.heap.size) (hm : t.size ≤ maxLen) : Calls Tryd.prog 3 #[.string t] w fun e w' => e = .returned (.bool true) ∧ Below w.heap.size w w' := by
  have HIM : Hid (∀ u, Aft w u → Calls Tryd.prog 6 #[.string t] u fun e w' => e = .returned (.agg #[.string (rvP t).name, .int .i64 (rvP t).tenant, .int .i64 (rvP t).cpu, .int .i64 (rvP t).mem, .int .i64 (rvP t).zone, .int .i64 (rvP t).apart, .string (rvP t).node, .int .i64 (rvP t).epoch]) ∧ Below u.heap.size u w') := fun u hu => implRV_any t u (ht.below hu.out hw) (Nat.lt_of_lt_of_le hw hu.out.size) (he.below hu.out h1 h2) (Nat.lt_of_lt_of_le h1 hu.out.size) (Nat.lt_of_lt_of_le h2 hu.out.size)
  have hz0 : (0 : Int) ≤ (t.size : Int) := by omega
  have hz1 : (t.size : Int) ≤ 9223372036854775807 := by unfold maxLen at hm; omega
  cases hb : decide (1048576 < (t.size : Int))
  rotate_left
  · clear HIM ht hw he h1 h2
    go_enter Tryd.func3, Tryd.ntmps3
    go_wp2
    go_ret
    exact ⟨rfl, Below.refl _ _⟩
  have hs : t.size ≤ 1048576 := by have := of_decide_eq_false hb; omega
  have HSP : Hid (∀ u, Calls Tryd.prog 5 #[.string t] u fun e w' => e = .returned (.agg #[.string (rvP t).name, .int .i64 (rvP t).tenant, .int .i64 (rvP t).cpu, .int .i64 (rvP t).mem, .int .i64 (rvP t).zone, .int .i64 (rvP t).apart, .string (rvP t).node, .int .i64 (rvP t).epoch]) ∧ Below u.heap.size u w') := fun u => by have h9 := specRV_any t hs u; rw [rv_eq] at h9; exact h9
  clear ht hw he h1 h2 hs hm
  generalize rvP t = v at *
  have HEQ : Hid (∀ u, Calls Tryd.prog 7 #[.agg #[.string v.name, .int .i64 v.tenant, .int .i64 v.cpu, .int .i64 v.mem, .int .i64 v.zone, .int .i64 v.apart, .string v.node, .int .i64 v.epoch], .agg #[.string v.name, .int .i64 v.tenant, .int .i64 v.cpu, .int .i64 v.mem, .int .i64 v.zone, .int .i64 v.apart, .string v.node, .int .i64 v.epoch]] u fun e w' => e = .returned (.bool true) ∧ Below u.heap.size u w') := fun u => eqVm_ok v u
  go_enter Tryd.func3, Tryd.ntmps3
  go_upto_region 4 with (go_at_call 5; refine Calls.mono (HSP.out _) ?_; rintro e u1 ⟨rfl, hb1⟩; have HB1 : Hid (Below w.heap.size w u1) := hb1; clear hb1)
  have HL1 : Hid (LG w (u1.alloc (.cells #[.string v.name, .int .i64 v.tenant, .int .i64 v.cpu, .int .i64 v.mem, .int .i64 v.zone, .int .i64 v.apart, .string v.node, .int .i64 v.epoch] 23)) u1.heap.size #[.string v.name, .int .i64 v.tenant, .int .i64 v.cpu, .int .i64 v.mem, .int .i64 v.zone, .int .i64 v.apart, .string v.node, .int .i64 v.epoch] 23) := ⟨HB1.out.trans ((bx1 _ _).mono HB1.out.size), heap_new _ _, HB1.out.size⟩
  clear HB1
  generalize (u1.alloc (.cells #[.string v.name, .int .i64 v.tenant, .int .i64 v.cpu, .int .i64 v.mem, .int .i64 v.zone, .int .i64 v.apart, .string v.node, .int .i64 v.epoch] 23)) = u2 at *
  generalize u1.heap.size = b1 at *
  go_upto_region 5 with (go_at_call 6; refine Calls.mono (HIM.out _ HL1.out.aft) ?_; rintro e u3 ⟨rfl, hb3⟩; have HL3 : Hid (LG w u3 b1 #[.string v.name, .int .i64 v.tenant, .int .i64 v.cpu, .int .i64 v.mem, .int .i64 v.zone, .int .i64 v.apart, .string v.node, .int .i64 v.epoch] 23) := HL1.out.step hb3; clear hb3)
  have HL4 : Hid (LG w (u3.alloc (.cells #[.string v.name, .int .i64 v.tenant, .int .i64 v.cpu, .int .i64 v.mem, .int .i64 v.zone, .int .i64 v.apart, .string v.node, .int .i64 v.epoch] 23)) b1 #[.string v.name, .int .i64 v.tenant, .int .i64 v.cpu, .int .i64 v.mem, .int .i64 v.zone, .int .i64 v.apart, .string v.node, .int .i64 v.epoch] 23) := HL3.out.step (bx1 _ _)
  have HM4 : Hid (LG w (u3.alloc (.cells #[.string v.name, .int .i64 v.tenant, .int .i64 v.cpu, .int .i64 v.mem, .int .i64 v.zone, .int .i64 v.apart, .string v.node, .int .i64 v.epoch] 23)) u3.heap.size #[.string v.name, .int .i64 v.tenant, .int .i64 v.cpu, .int .i64 v.mem, .int .i64 v.zone, .int .i64 v.apart, .string v.node, .int .i64 v.epoch] 23) := ⟨HL4.out.bel, heap_new _ _, HL3.out.bel.size⟩
  clear HL1 HL3
  generalize (u3.alloc (.cells #[.string v.name, .int .i64 v.tenant, .int .i64 v.cpu, .int .i64 v.mem, .int .i64 v.zone, .int .i64 v.apart, .string v.node, .int .i64 v.epoch] 23)) = u4 at *
  generalize u3.heap.size = b3 at *
  have k0 := HL4.out.cel 0 _ rfl
  have k1 := HL4.out.cel 1 _ rfl
  have k2 := HL4.out.cel 2 _ rfl
  have k3 := HL4.out.cel 3 _ rfl
  have k4 := HL4.out.cel 4 _ rfl
  have k5 := HL4.out.cel 5 _ rfl
  have k6 := HL4.out.cel 6 _ rfl
  have k7 := HL4.out.cel 7 _ rfl
  have kl := HL4.out.lt
  have x0 := HM4.out.cel 0 _ rfl
  have x1 := HM4.out.cel 1 _ rfl
  have x2 := HM4.out.cel 2 _ rfl
  have x3 := HM4.out.cel 3 _ rfl
  have x4 := HM4.out.cel 4 _ rfl
  have x5 := HM4.out.cel 5 _ rfl
  have x6 := HM4.out.cel 6 _ rfl
  have x7 := HM4.out.cel 7 _ rfl
  have xl := HM4.out.lt
  go_wp2_with (go_at_call 7; refine Calls.mono (HEQ.out _) ?_; rintro e u5 ⟨rfl, hb5⟩; have HL5 : Hid (LG w u5 b1 _ _) := HL4.out.step hb5; clear hb5)
  go_ret
  exact ⟨rfl, HL5.out.bel⟩
end Go.Proofs.YtkicaihfknfgkaaDoor
