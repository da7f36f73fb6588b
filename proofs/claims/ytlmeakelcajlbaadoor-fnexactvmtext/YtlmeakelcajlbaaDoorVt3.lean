import Derived.Test.YtlmeakelcajlbaaDoorVt2
import Derived.Test.YtlmeakelcajlbaaDoorSzVMC
namespace Go.Proofs.YtlmeakelcajlbaaDoor
open Go.ChangeShapes Go.WideShapes Go.ChangeAt Go.RowKit

set_option maxRecDepth 100000 in
set_option maxHeartbeats 8000000 in
theorem walkVT {w : World} {v : VMC} (hv : v.name.size ≤ maxLen ∧ v.node.size ≤ maxLen) (ht : Tab w) (hw : 0 < w.heap.size) : Calls Tryd.prog 3 #[.agg #[.string v.name, .int .i64 v.tenant, .int .i64 v.cpu, .int .i64 v.mem, .int .i64 v.zone, .int .i64 v.apart, .string v.node, .int .i64 v.epoch]] w fun e w' => e = .returned (.bool true) ∧ Below w.heap.size w w' := by
  have HTB : Hid (∀ u, Aft w u → Tab u ∧ 0 < u.heap.size) := fun u hu => ⟨ht.below hu.out hw, Nat.lt_of_lt_of_le hw hu.out.size⟩
  have HSV : Hid (∀ u, Calls Tryd.prog 4 #[.agg #[.string v.name, .int .i64 v.tenant, .int .i64 v.cpu, .int .i64 v.mem, .int .i64 v.zone, .int .i64 v.apart, .string v.node, .int .i64 v.epoch], .int .i64 1048576] u fun e w' => ∃ q, e = .returned (.int .i64 q) ∧ -1 ≤ q ∧ q ≤ 1048576 ∧ Below u.heap.size u w') := fun u => Calls.mono (szVMC_w v 1048576 u (by omega) (by omega) hv.1 hv.2) (by rintro e w' ⟨q, rfl, h0, h1, _, hb⟩; exact ⟨q, rfl, h0, h1, hb⟩)
  have HTV : Hid (∀ u, Calls Tryd.prog 6 #[.agg #[.string v.name, .int .i64 v.tenant, .int .i64 v.cpu, .int .i64 v.mem, .int .i64 v.zone, .int .i64 v.apart, .string v.node, .int .i64 v.epoch]] u fun e w' => e = .returned (.agg #[.string v.name, .int .i64 v.tenant, .int .i64 v.cpu, .int .i64 v.mem, .int .i64 v.zone, .int .i64 v.apart, .string v.node, .int .i64 v.epoch]) ∧ Below u.heap.size u w') := fun u => toVMC_any v u
  have HSP : Hid (∀ u, Calls Tryd.prog 5 #[.agg #[.string v.name, .int .i64 v.tenant, .int .i64 v.cpu, .int .i64 v.mem, .int .i64 v.zone, .int .i64 v.apart, .string v.node, .int .i64 v.epoch]] u fun e w' => e = .returned (.string (vtV v)) ∧ Below u.heap.size u w') := fun u => specVT_any v u
  have HIM : Hid (∀ u, Aft w u → Calls Tryd.prog 7 #[.agg #[.string v.name, .int .i64 v.tenant, .int .i64 v.cpu, .int .i64 v.mem, .int .i64 v.zone, .int .i64 v.apart, .string v.node, .int .i64 v.epoch]] u fun e w' => e = .returned (.string (vtV v)) ∧ Below u.heap.size u w') := fun u hu => implVT_any v u (HTB.out u hu).1 (HTB.out u hu).2
  have HL0 : Hid (LG w (w.alloc (.cells #[.string v.name, .int .i64 v.tenant, .int .i64 v.cpu, .int .i64 v.mem, .int .i64 v.zone, .int .i64 v.apart, .string v.node, .int .i64 v.epoch] 23)) w.heap.size #[.string v.name, .int .i64 v.tenant, .int .i64 v.cpu, .int .i64 v.mem, .int .i64 v.zone, .int .i64 v.apart, .string v.node, .int .i64 v.epoch] 23) := LG.new w _ _
  generalize vtV v = G at *
  clear hv ht hw
  go_enter Tryd.func3, Tryd.ntmps3
  go_upto_region 1 with fail
  generalize (w.alloc (.cells #[.string v.name, .int .i64 v.tenant, .int .i64 v.cpu, .int .i64 v.mem, .int .i64 v.zone, .int .i64 v.apart, .string v.node, .int .i64 v.epoch] 23)) = u0 at *
  generalize w.heap.size = b0 at HL0 ⊢
  have k0 := HL0.out.cel 0 _ rfl
  have k1 := HL0.out.cel 1 _ rfl
  have k2 := HL0.out.cel 2 _ rfl
  have k3 := HL0.out.cel 3 _ rfl
  have k4 := HL0.out.cel 4 _ rfl
  have k5 := HL0.out.cel 5 _ rfl
  have k6 := HL0.out.cel 6 _ rfl
  have k7 := HL0.out.cel 7 _ rfl
  have kl := HL0.out.lt
  go_upto_region 3 with (go_at_call 4; refine Calls.mono (HSV.out _) ?_; rintro e u1 ⟨q, rfl, q0, q1, hb⟩; have HL1 : Hid (LG w u1 b0 _ _) := HL0.out.step hb; clear hb)
  cases t1 : decide (q < 0)
  rotate_left
  · go_wp2
    go_ret
    exact ⟨rfl, HL1.out.bel⟩
  clear k0 k1 k2 k3 k4 k5 k6 k7 kl HL0 HSV
  have k0 := HL1.out.cel 0 _ rfl
  have k1 := HL1.out.cel 1 _ rfl
  have k2 := HL1.out.cel 2 _ rfl
  have k3 := HL1.out.cel 3 _ rfl
  have k4 := HL1.out.cel 4 _ rfl
  have k5 := HL1.out.cel 5 _ rfl
  have k6 := HL1.out.cel 6 _ rfl
  have k7 := HL1.out.cel 7 _ rfl
  have kl := HL1.out.lt
  go_upto_region 6 with (first | (go_at_call 6; refine Calls.mono (HTV.out _) ?_; rintro e u2 ⟨rfl, hb⟩; have HL2 : Hid (LG w u2 b0 _ _) := HL1.out.step hb; clear hb) | (go_at_call 5; refine Calls.mono (HSP.out _) ?_; rintro e u3 ⟨rfl, hb⟩; have HL3 : Hid (LG w u3 b0 _ _) := HL2.out.step hb; clear hb))
  clear k0 k1 k2 k3 k4 k5 k6 k7 kl HL1 HL2 HSP q0 q1 t1
  have k0 := HL3.out.cel 0 _ rfl
  have k1 := HL3.out.cel 1 _ rfl
  have k2 := HL3.out.cel 2 _ rfl
  have k3 := HL3.out.cel 3 _ rfl
  have k4 := HL3.out.cel 4 _ rfl
  have k5 := HL3.out.cel 5 _ rfl
  have k6 := HL3.out.cel 6 _ rfl
  have k7 := HL3.out.cel 7 _ rfl
  have kl := HL3.out.lt
  go_wp2_with (first | (go_at_call 6; refine Calls.mono (HTV.out _) ?_; rintro e u4 ⟨rfl, hb⟩; have HL4 : Hid (LG w u4 b0 _ _) := HL3.out.step hb; clear hb) | (go_at_call 7; refine Calls.mono (HIM.out _ HL4.out.aft) ?_; rintro e u5 ⟨rfl, hb⟩; have HL5 : Hid (LG w u5 b0 _ _) := HL4.out.step hb; clear hb))
  go_ret
  exact ⟨rfl, HL5.out.bel⟩
end Go.Proofs.YtlmeakelcajlbaaDoor
