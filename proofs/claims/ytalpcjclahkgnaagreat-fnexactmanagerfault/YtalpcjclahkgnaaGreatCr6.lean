import Derived.Test.YtalpcjclahkgnaaGreatCrZ
import Derived.Test.YtalpcjclahkgnaaGreatCs4
import Derived.Deep.RegionWith
namespace Go.Proofs.YtalpcjclahkgnaaGreat
open Go.ChangeShapes Go.WideShapes Go.ChangeAt Go.RowKit

def msB (s : CL) (cs : List (Int × Int)) (v : VMC) : Bool := noB v || (decide (0 ≤ ndX s v.node) && decide (ftV s cs (ndX s v.node).toNat v = 0))
theorem RX.dr {w : World} {r : Nat} {s : CL} {a : CA} {cb : Nat} {cs : List (Int × Int)} (h : RX w r s a cb cs) : RX w.drew r s a cb cs := h.below ⟨rfl, rfl, rfl, Nat.le_refl _, fun _ _ => rfl⟩
set_option maxRecDepth 100000 in
set_option maxHeartbeats 4000000 in
theorem mayStay_any {w : World} {r : Nat} {s : CL} {a : CA} {cb : Nat} {cs : List (Int × Int)} (h : RX w r s a cb cs) (hn : s.nodes.length ≤ 1048576) (hl : s.vms.length ≤ 1048576) (v : VMC) : Calls Tryz.prog 65 #[.pointer (some ⟨r, 0, none⟩), .agg #[.string v.name, .int .i64 v.tenant, .int .i64 v.cpu, .int .i64 v.mem, .int .i64 v.zone, .int .i64 v.apart, .string v.node, .int .i64 v.epoch]] w fun e w' => e = .returned (.bool (msB s cs v)) ∧ Below w.heap.size w w' := by
  have HE : Hid (msB s cs v = (v.node.toList.isEmpty || (decide (0 ≤ ndX s v.node) && decide (ftV s cs (ndX s v.node).toNat v = 0)))) := by rw [← noB_eq]; rfl
  have HV0 : Hid (LG w (w.alloc (.cells #[.string v.name, .int .i64 v.tenant, .int .i64 v.cpu, .int .i64 v.mem, .int .i64 v.zone, .int .i64 v.apart, .string v.node, .int .i64 v.epoch] 71)) w.heap.size #[.string v.name, .int .i64 v.tenant, .int .i64 v.cpu, .int .i64 v.mem, .int .i64 v.zone, .int .i64 v.apart, .string v.node, .int .i64 v.epoch] 71) := LG.new w _ _
  have HX0 : Hid (RX (w.alloc (.cells #[.string v.name, .int .i64 v.tenant, .int .i64 v.cpu, .int .i64 v.mem, .int .i64 v.zone, .int .i64 v.apart, .string v.node, .int .i64 v.epoch] 71)) r s a cb cs) := h.below HV0.out.bel
  clear h
  have HND : Hid (∀ u, RX u r s a cb cs → Calls Tryz.prog 83 #[.pointer (some ⟨r, 0, none⟩), .string v.node] u fun e w' => e = .returned (.int .i64 (ndX s v.node)) ∧ Below u.heap.size u w') := fun u hu => nodeAt_any hu.cx hn v.node
  have HFT : Hid (∀ u q, RX u r s a cb cs → q < s.nodes.length → Calls Tryz.prog 86 #[.pointer (some ⟨r, 0, none⟩), .int .i64 (q : Nat), .agg #[.string v.name, .int .i64 v.tenant, .int .i64 v.cpu, .int .i64 v.mem, .int .i64 v.zone, .int .i64 v.apart, .string v.node, .int .i64 v.epoch]] u fun e w' => e = .returned (.int .i64 (ftV s cs q v)) ∧ Below u.heap.size u w') := fun u q hu hq => fitCode_any hu hl q hq v
  generalize msB s cs v = V at *
  cases hno : v.node.toList.isEmpty
  rotate_left
  · have E2 : Hid (V = true) := (show V = true by rw [HE.out, hno]; rfl)
    clear HE
    go_enter Tryz.func65, Tryz.ntmps65
    go_upto_region 1 with fail
    generalize (w.alloc (.cells #[.string v.name, .int .i64 v.tenant, .int .i64 v.cpu, .int .i64 v.mem, .int .i64 v.zone, .int .i64 v.apart, .string v.node, .int .i64 v.epoch] 71)) = u0 at *
    generalize w.heap.size = bv at *
    have v6 := HV0.out.cel 6 _ rfl
    have vl := HV0.out.lt
    go_wp2
    go_ret
    exact ⟨ret_bool E2.out.symm, HV0.out.bel⟩
  have HE2 : Hid (V = (decide (0 ≤ ndX s v.node) && decide (ftV s cs (ndX s v.node).toNat v = 0))) := (show V = _ by rw [HE.out, hno, Bool.false_or])
  clear HE
  go_enter Tryz.func65, Tryz.ntmps65
  go_upto_region 1 with fail
  generalize (w.alloc (.cells #[.string v.name, .int .i64 v.tenant, .int .i64 v.cpu, .int .i64 v.mem, .int .i64 v.zone, .int .i64 v.apart, .string v.node, .int .i64 v.epoch] 71)) = u0 at *
  generalize hbv : w.heap.size = bv at HV0 ⊢
  have v6 := HV0.out.cel 6 _ rfl
  have vl := HV0.out.lt
  go_upto_region 3 with fail
  go_region_with ((go_at_call 83; refine Calls.mono (HND.out _ HX0.out.dr) ?_; rintro e u1 ⟨rfl, hb⟩))
  have HV1 : Hid (LG w u1 bv #[.string v.name, .int .i64 v.tenant, .int .i64 v.cpu, .int .i64 v.mem, .int .i64 v.zone, .int .i64 v.apart, .string v.node, .int .i64 v.epoch] 71) := HV0.out.drew.step hb
  have HX1 : Hid (RX u1 r s a cb cs) := HX0.out.dr.below hb
  clear hb HV0 HX0 HND v6 vl
  have v0 := HV1.out.cel 0 _ rfl
  have v1 := HV1.out.cel 1 _ rfl
  have v2 := HV1.out.cel 2 _ rfl
  have v3 := HV1.out.cel 3 _ rfl
  have v4 := HV1.out.cel 4 _ rfl
  have v5 := HV1.out.cel 5 _ rfl
  have v6 := HV1.out.cel 6 _ rfl
  have v7 := HV1.out.cel 7 _ rfl
  have vl := HV1.out.lt
  rcases ndX_or s v.node with ⟨hx, _⟩ | ⟨q, hq, hx, _⟩
  · have E2 : Hid (V = false) := (show V = false by rw [HE2.out, hx]; rfl)
    clear HE2 HFT
    rw [hx]
    clear hx
    go_wp2
    go_ret
    exact ⟨ret_bool E2.out.symm, hbv ▸ HV1.out.bel⟩
  · have HE3 : Hid (V = decide (ftV s cs q v = 0)) := (show V = _ by rw [HE2.out, hx, decide_eq_true (show (0 : Int) ≤ (q : Int) by omega), Bool.true_and]; rfl)
    have HF1 : Hid (∀ u, RX u r s a cb cs → Calls Tryz.prog 86 #[.pointer (some ⟨r, 0, none⟩), .int .i64 (q : Int), .agg #[.string v.name, .int .i64 v.tenant, .int .i64 v.cpu, .int .i64 v.mem, .int .i64 v.zone, .int .i64 v.apart, .string v.node, .int .i64 v.epoch]] u fun e w' => e = .returned (.int .i64 (ftV s cs q v)) ∧ Below u.heap.size u w') := fun u hu => HFT.out u q hu hq
    rw [hx]
    clear hx HE2 HFT
    have hq0 : (0 : Int) ≤ (q : Int) := by omega
    have hq1 : decide ((0 : Int) ≤ (q : Int)) = true := decide_eq_true (by omega)
    have hd : (ftV s cs q v == 0) = decide (ftV s cs q v = 0) := by rw [← Bool.beq_eq_decide_eq]
    generalize hF : ftV s cs q v = FV at *
    have E2 : Hid (V = (FV == 0)) := (show V = _ by rw [HE3.out, hd])
    clear hd HE3
    generalize hfb : (FV == 0) = FB at *
    cases FB
    all_goals (go_wp2_with (go_at_call 86; refine Calls.mono (HF1.out _ HX1.out) ?_; rintro e u2 ⟨rfl, hb⟩; have HV2 : Hid (LG w u2 bv #[.string v.name, .int .i64 v.tenant, .int .i64 v.cpu, .int .i64 v.mem, .int .i64 v.zone, .int .i64 v.apart, .string v.node, .int .i64 v.epoch] 71) := HV1.out.step hb; clear hb))
    all_goals go_ret
    all_goals exact ⟨ret_bool E2.out.symm, hbv ▸ HV2.out.bel⟩
set_option maxRecDepth 100000 in
set_option maxHeartbeats 4000000 in
theorem isRightF_any {w u : World} {p r : Nat} {s : CL} {a : CA} {cb : Nat} {cs : List (Int × Int)} (h : RX u r s a cb cs) (hn : s.nodes.length ≤ 1048576) (hl : s.vms.length ≤ 1048576) (v : VMC) (h1 : LG w u p #[.pointer (some ⟨r, 0, none⟩)] 108) : Calls Tryz.prog 64 #[.agg #[.string v.name, .int .i64 v.tenant, .int .i64 v.cpu, .int .i64 v.mem, .int .i64 v.zone, .int .i64 v.apart, .string v.node, .int .i64 v.epoch], .pointer (some ⟨p, 0, none⟩)] u fun e w' => e = .returned (.bool (!msB s cs v)) ∧ Below u.heap.size u w' := by
  have HB : Hid (Below u.heap.size u (u.alloc (.cells #[.string v.name, .int .i64 v.tenant, .int .i64 v.cpu, .int .i64 v.mem, .int .i64 v.zone, .int .i64 v.apart, .string v.node, .int .i64 v.epoch] 71))) := bx1 _ _
  have HM : Hid (Calls Tryz.prog 65 #[.pointer (some ⟨r, 0, none⟩), .agg #[.string v.name, .int .i64 v.tenant, .int .i64 v.cpu, .int .i64 v.mem, .int .i64 v.zone, .int .i64 v.apart, .string v.node, .int .i64 v.epoch]] (u.alloc (.cells #[.string v.name, .int .i64 v.tenant, .int .i64 v.cpu, .int .i64 v.mem, .int .i64 v.zone, .int .i64 v.apart, .string v.node, .int .i64 v.epoch] 71)) fun e w' => e = .returned (.bool (msB s cs v)) ∧ Below (u.alloc (.cells #[.string v.name, .int .i64 v.tenant, .int .i64 v.cpu, .int .i64 v.mem, .int .i64 v.zone, .int .i64 v.apart, .string v.node, .int .i64 v.epoch] 71)).heap.size (u.alloc (.cells #[.string v.name, .int .i64 v.tenant, .int .i64 v.cpu, .int .i64 v.mem, .int .i64 v.zone, .int .i64 v.apart, .string v.node, .int .i64 v.epoch] 71)) w') := mayStay_any (h.below HB.out) hn hl v
  have e0 := h1.cel 0 _ rfl
  have el := h1.lt
  clear h h1
  generalize msB s cs v = V at *
  go_enter Tryz.func64, Tryz.ntmps64
  go_wp2_with (go_at_call 65; refine Calls.mono HM.out ?_; rintro e u1 ⟨rfl, hu⟩; have HB1 : Hid (Below u.heap.size u u1) := HB.out.trans (hu.mono HB.out.size); clear hu)
  go_ret
  exact ⟨rfl, HB1.out⟩
end Go.Proofs.YtalpcjclahkgnaaGreat
