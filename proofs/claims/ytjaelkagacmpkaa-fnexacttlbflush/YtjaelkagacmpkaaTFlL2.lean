import Derived.Test.YtjaelkagacmpkaaTFlL1
namespace Go.Proofs.Ytjaelkagacmpkaa
open Go.ChangeShapes Go.WideShapes Go.ChangeAt Go.RowKit

set_option maxRecDepth 100000 in
set_option maxHeartbeats 8000000 in
theorem lawF {w : World} {v : Value} {zs : List TE} (h : TErow w v zs) (nx asid va : Int) (L : List TE) (N : Int) (hm : zs.length ≤ 1048576) (hL : L.length ≤ 1048576) (hS : AnsF 37 zs nx asid va L N) (hI : AnsF 38 zs nx asid va L N) :
    Calls Try.prog 7 #[tlA v nx, .int .i64 asid, .int .i64 va] w fun r w' => r = .returned (.bool true) ∧ Below w.heap.size w w' := by
  have HT0 : Hid (TG w (w.alloc (.cells #[v, .int .i64 nx] 51)) v nx zs []) := TG.new h
  have HSZ := szTlb_any HT0.out.rw nx 1048576 (by decide) (by decide) (by unfold maxLen; omega)
  rw [if_neg (by omega)] at HSZ
  obtain ⟨r, hr⟩ : ∃ r, (1048576 : Int) - (zs.length : Int) = r := ⟨_, rfl⟩
  have hr0 : ¬ r < 0 := by omega
  rw [hr] at HSZ
  have HZ : Hid _ := HSZ
  have HL : Hid (zs.length ≤ 1048576) := hm
  have HLL : Hid (L.length ≤ 1048576) := hL
  have HAS : Hid (AnsF 37 zs nx asid va L N) := hS
  have HAI : Hid (AnsF 38 zs nx asid va L N) := hI
  have hp1 : ¬ (1 + 5 * (zs.length : Int)) < 0 := by omega
  have hp2 : ¬ (1 + 5 * (L.length : Int)) < 0 := by omega
  clear HSZ h hm hL hS hI hr
  unfold tlA at HZ ⊢
  go_enter Try.func7, Try.ntmps7
  go_upto_region 6 with (first
    | (go_at_call 29; refine Calls.mono HZ.out ?_; rintro r9 u1 ⟨rfl, hu1⟩; have HU1 : Hid (TG w u1 v nx zs []) := HT0.out.step hu1; obtain ⟨c0, c1⟩ := cel2 HU1.out.b0; clear hu1 HZ HT0)
    | (go_at_call 31; have HA := toTlb_any HU1.out.rw nx HL.out; unfold tlA at HA; refine Calls.mono HA ?_; clear HA; rintro r9 u2 ⟨a1, cc1, rfl, ho, hb⟩; have HU2 : Hid (TG w u2 v nx zs []) := HU1.out.step hb; have HR : Hid (u2.ownsRow u1.heap.size 60 5 (.slice a1 zs.length cc1) zs.length (teR zs)) := ho; clear ho hb HU1)
    | (go_at_call 37; have HA := HAS.out _ _ a1 cc1 HR.out; unfold tlA at HA; refine Calls.mono HA ?_; clear HA; rintro r9 u3 ⟨a6, c6, rfl, ho, hb⟩; have HN : Hid (TG w (u3.alloc (.cells #[.slice a6 L.length c6, .int .i64 N] 57)) v nx zs [⟨u3.heap.size, a6, c6, L.length, L, N⟩]) := ((HU2.out.step hb).step ((Below.refl _ _).alloc (Nat.le_refl _) _)).add HU2.out ⟨u3.heap.size, a6, c6, L.length, L, N⟩ hb.size (te_below ho ((Below.refl _ _).alloc (Nat.le_refl _) _)) (heap_new _ _) (fun q => by have q2 := (ho.lt _ q).2; simp only at q2; omega); clear ho hb HU2 HR))
  generalize u3.alloc (.cells #[.slice a6 L.length c6, .int .i64 N] 57) = wa at *
  generalize u3.heap.size = p6 at *
  have HU3 : Hid (TG w wa v nx zs [⟨p6, a6, c6, L.length, L, N⟩]) := HN.out
  clear HN HAS c0 c1
  obtain ⟨c0, c1⟩ := cel2 HU3.out.b0
  go_upto_region 7 with (go_at_call 31; have HA := toTlb_any HU3.out.rw nx HL.out; unfold tlA at HA; refine Calls.mono HA ?_; clear HA; rintro r9 u4 ⟨a7, c7, rfl, ho, hb⟩; have HN : Hid (TG w (u4.alloc (.cells #[.slice a7 zs.length c7, .int .i64 nx] 57)) v nx zs [⟨u4.heap.size, a7, c7, zs.length, zs, nx⟩, ⟨p6, a6, c6, L.length, L, N⟩]) := ((HU3.out.step hb).step ((Below.refl _ _).alloc (Nat.le_refl _) _)).add HU3.out ⟨u4.heap.size, a7, c7, zs.length, zs, nx⟩ hb.size (te_below ho ((Below.refl _ _).alloc (Nat.le_refl _) _)) (heap_new _ _) (fun q => by have q2 := (ho.lt _ q).2; simp only at q2; omega); clear ho hb HU3)
  generalize u4.alloc (.cells #[.slice a7 zs.length c7, .int .i64 nx] 57) = wb at *
  generalize u4.heap.size = p7 at *
  have HU4 : Hid (TG w wb v nx zs [⟨p7, a7, c7, zs.length, zs, nx⟩, ⟨p6, a6, c6, L.length, L, N⟩]) := HN.out
  clear HN c0 c1
  obtain ⟨y0, y1⟩ := (HU4.out.its ⟨p7, a7, c7, zs.length, zs, nx⟩ (by simp)).cel
  obtain ⟨z0, z1⟩ := (HU4.out.its ⟨p6, a6, c6, L.length, L, N⟩ (by simp)).cel
  simp only at y0 y1 z0 z1
  go_upto_region 8 with (go_at_call 38; have HA := HAI.out _ _ a7 c7 (HU4.out.its ⟨p7, a7, c7, zs.length, zs, nx⟩ (by simp)).row; unfold tlA at HA; refine Calls.mono HA ?_; clear HA; rintro r9 u5 ⟨a8, c8, rfl, ho, hb⟩; have HN : Hid (TG w (u5.alloc (.cells #[.slice a8 L.length c8, .int .i64 N] 57)) v nx zs [⟨u5.heap.size, a8, c8, L.length, L, N⟩, ⟨p7, a7, c7, zs.length, zs, nx⟩, ⟨p6, a6, c6, L.length, L, N⟩]) := ((HU4.out.step hb).step ((Below.refl _ _).alloc (Nat.le_refl _) _)).add HU4.out ⟨u5.heap.size, a8, c8, L.length, L, N⟩ hb.size (te_below ho ((Below.refl _ _).alloc (Nat.le_refl _) _)) (heap_new _ _) (fun q => by have q2 := (ho.lt _ q).2; simp only at q2; omega); clear ho hb HU4)
  generalize u5.alloc (.cells #[.slice a8 L.length c8, .int .i64 N] 57) = wc at *
  generalize u5.heap.size = p8 at *
  have HU5 : Hid (TG w wc v nx zs [⟨p8, a8, c8, L.length, L, N⟩, ⟨p7, a7, c7, zs.length, zs, nx⟩, ⟨p6, a6, c6, L.length, L, N⟩]) := HN.out
  clear HN y0 y1 z0 z1
  obtain ⟨x0, x1⟩ := (HU5.out.its ⟨p8, a8, c8, L.length, L, N⟩ (by simp)).cel
  obtain ⟨y0, y1⟩ := (HU5.out.its ⟨p7, a7, c7, zs.length, zs, nx⟩ (by simp)).cel
  obtain ⟨z0, z1⟩ := (HU5.out.its ⟨p6, a6, c6, L.length, L, N⟩ (by simp)).cel
  simp only at x0 x1 y0 y1 z0 z1
  go_upto_region 10 with (go_at_call 34; have HA := eqTlb_ok N (TErow.of (HU5.out.its ⟨p8, a8, c8, L.length, L, N⟩ (by simp)).row) (TErow.of (HU5.out.its ⟨p6, a6, c6, L.length, L, N⟩ (by simp)).row) HLL.out; unfold tlA at HA; refine Calls.mono HA ?_; clear HA; rintro r9 u6 ⟨rfl, hb⟩; clear x0 x1 y0 y1 z0 z1; have HU : Hid (TG w u6 v nx zs [⟨p8, a8, c8, L.length, L, N⟩, ⟨p7, a7, c7, zs.length, zs, nx⟩, ⟨p6, a6, c6, L.length, L, N⟩]) := HU5.out.step hb; clear hb HU5)
  have HT : Hid (TG w u6.drew v nx zs [⟨p8, a8, c8, L.length, L, N⟩, ⟨p7, a7, c7, zs.length, zs, nx⟩, ⟨p6, a6, c6, L.length, L, N⟩]) := HU.out.step (Below.refl _ _).drew
  have HSB : Hid (∀ w' : World, TG w w' v nx zs [⟨p8, a8, c8, L.length, L, N⟩, ⟨p7, a7, c7, zs.length, zs, nx⟩, ⟨p6, a6, c6, L.length, L, N⟩] → w'.cell? ⟨p7, 0, none⟩ = some (.slice a7 zs.length c7) ∧ w'.cell? ⟨p7, 1, none⟩ = some (.int .i64 nx) ∧ w'.cell? ⟨w.heap.size, 0, none⟩ = some v ∧ w'.cell? ⟨w.heap.size, 1, none⟩ = some (.int .i64 nx)) := fun w' hW => by
    obtain ⟨c0, c1⟩ := (hW.its ⟨p7, a7, c7, zs.length, zs, nx⟩ (by simp)).cel
    obtain ⟨d0, d1⟩ := cel2 hW.b0
    exact ⟨c0, c1, d0, d1⟩
  refine wp_region_held (S := fun w' => w'.cell? ⟨p7, 0, none⟩ = some (.slice a7 zs.length c7) ∧ w'.cell? ⟨p7, 1, none⟩ = some (.int .i64 nx) ∧ w'.cell? ⟨w.heap.size, 0, none⟩ = some v ∧ w'.cell? ⟨w.heap.size, 1, none⟩ = some (.int .i64 nx)) (by kernel_rfl) ?_
  change wpAnyH _ _ _ _ _ _ _ _ (World.drew _)
  clear HU
  generalize World.drew u6 = s at *
  refine wpAnyH_take (i := 0) (v := .agg #[.slice a7 zs.length c7, .int .i64 nx]) rfl (by kernel_rfl) (by kernel_rfl) (by kernel_rfl) (fun _ _ _ h => h) (Or.inl ⟨by rfl, fun w9 h9 => ?_⟩) (HSB.out _ HT.out) ?_
  · have h91 := h9.1
    have h92 := h9.2.1
    go_simp
  refine wpAnyH_take (i := 1) (v := .agg #[v, .int .i64 nx]) rfl (by kernel_rfl) (by kernel_rfl) (by kernel_rfl) (fun _ _ _ h => h) (Or.inl ⟨by rfl, fun w9 h9 => ?_⟩) (HSB.out _ HT.out) ?_
  · have h91 := h9.2.2.1
    have h92 := h9.2.2.2
    go_simp
  refine wpAnyH_all (rs := [2]) (by kernel_rfl) (by simp) (all_one (held_step rfl (by rfl) fun K hK => ?_))
  have HA := toTlb_any HT.out.rw nx HL.out
  have HAH : Hid _ := HA
  clear HA
  unfold tlA at HAH
  go_simp
  refine Calls.mono HAH.out ?_
  clear HAH
  rintro r9 W1 ⟨a1, c1, rfl, ho, hb⟩
  have HT1 : Hid (TG w W1 v nx zs [⟨p8, a8, c8, L.length, L, N⟩, ⟨p7, a7, c7, zs.length, zs, nx⟩, ⟨p6, a6, c6, L.length, L, N⟩]) := HT.out.step hb
  have HR1 : Hid (TErow W1 (.slice a1 zs.length c1) zs) := TErow.of ho
  clear ho hb HT
  refine hK _ _ (HSB.out _ HT1.out) ?_
  clear hK K
  refine wpAnyH_all (rs := [3]) (by kernel_rfl) (by simp) (all_one (held_step rfl (by rfl) fun K hK => ?_))
  have HA := eqTlb_ok nx (TErow.of (HT1.out.its ⟨p7, a7, c7, zs.length, zs, nx⟩ (by simp)).row) HR1.out HL.out
  have HAH : Hid _ := HA
  clear HA
  unfold tlA at HAH
  go_simp
  refine Calls.mono HAH.out ?_
  clear HAH HR1
  rintro r9 W2 ⟨rfl, hb⟩
  have HV4 : Hid (TG w W2 v nx zs [⟨p8, a8, c8, L.length, L, N⟩, ⟨p7, a7, c7, zs.length, zs, nx⟩, ⟨p6, a6, c6, L.length, L, N⟩]) := HT1.out.step hb
  clear hb HT1
  refine hK _ _ (HSB.out _ HV4.out) ?_
  clear hK K
  refine wpAnyH_take (i := 4) (v := .bool false) rfl (by kernel_rfl) (by kernel_rfl) (by kernel_rfl) (fun _ _ _ h => h) (Or.inl ⟨by rfl, fun w9 _ => ?_⟩) (HSB.out _ HV4.out) ?_
  · go_simp
  refine wpAnyH_done (by kernel_rfl) ?_ _
  clear HSB
  go_simp
  obtain ⟨x0, x1⟩ := (HV4.out.its ⟨p8, a8, c8, L.length, L, N⟩ (by simp)).cel
  obtain ⟨y0, y1⟩ := (HV4.out.its ⟨p7, a7, c7, zs.length, zs, nx⟩ (by simp)).cel
  obtain ⟨z0, z1⟩ := (HV4.out.its ⟨p6, a6, c6, L.length, L, N⟩ (by simp)).cel
  simp only at x0 x1 y0 y1 z0 z1
  go_upto_region 25 with (first
    | (go_at_call 35; have HA := markTlb_ok nx (HV4.out.its ⟨p7, a7, c7, zs.length, zs, nx⟩ (by simp)).row HL.out; unfold tlA at HA; refine Calls.mono HA ?_; clear HA; rintro r9 u5 ⟨rfl, ho, hg⟩; clear x0 x1 y0 y1 z0 z1; have HV5 : Hid (TG w u5 v nx zs [⟨p7, a7, c7, zs.length, mkPL zs.length, nx⟩, ⟨p8, a8, c8, L.length, L, N⟩, ⟨p6, a6, c6, L.length, L, N⟩]) := (HV4.out.swap).mark (mkPL zs.length) hg ho; obtain ⟨x0, x1⟩ := (HV5.out.its ⟨p8, a8, c8, L.length, L, N⟩ (by simp)).cel; obtain ⟨y0, y1⟩ := (HV5.out.its ⟨p7, a7, c7, zs.length, mkPL zs.length, nx⟩ (by simp)).cel; obtain ⟨z0, z1⟩ := (HV5.out.its ⟨p6, a6, c6, L.length, L, N⟩ (by simp)).cel; simp only at x0 x1 y0 y1 z0 z1; clear ho hg HV4)
    | (go_at_call 34; have HA := eqTlb_ok N (TErow.of (HV5.out.its ⟨p8, a8, c8, L.length, L, N⟩ (by simp)).row) (TErow.of (HV5.out.its ⟨p6, a6, c6, L.length, L, N⟩ (by simp)).row) HLL.out; unfold tlA at HA; refine Calls.mono HA ?_; clear HA; rintro r9 u6 ⟨rfl, hb⟩; clear x0 x1 y0 y1 z0 z1; have HV6 : Hid (TG w u6 v nx zs [⟨p7, a7, c7, zs.length, mkPL zs.length, nx⟩, ⟨p8, a8, c8, L.length, L, N⟩, ⟨p6, a6, c6, L.length, L, N⟩]) := HV5.out.step hb; obtain ⟨x0, x1⟩ := (HV6.out.its ⟨p8, a8, c8, L.length, L, N⟩ (by simp)).cel; obtain ⟨y0, y1⟩ := (HV6.out.its ⟨p7, a7, c7, zs.length, mkPL zs.length, nx⟩ (by simp)).cel; obtain ⟨z0, z1⟩ := (HV6.out.its ⟨p6, a6, c6, L.length, L, N⟩ (by simp)).cel; simp only at x0 x1 y0 y1 z0 z1; clear hb HV5)
    | (go_at_call 35; have HA := markTlb_ok N (HV6.out.its ⟨p8, a8, c8, L.length, L, N⟩ (by simp)).row HLL.out; unfold tlA at HA; refine Calls.mono HA ?_; clear HA; rintro r9 u7 ⟨rfl, ho, hg⟩; clear x0 x1 y0 y1 z0 z1; have HV7 : Hid (TG w u7 v nx zs [⟨p8, a8, c8, L.length, mkPL L.length, N⟩, ⟨p7, a7, c7, zs.length, mkPL zs.length, nx⟩, ⟨p6, a6, c6, L.length, L, N⟩]) := (HV6.out.swap).mark (mkPL L.length) hg ho; obtain ⟨x0, x1⟩ := (HV7.out.its ⟨p8, a8, c8, L.length, mkPL L.length, N⟩ (by simp)).cel; obtain ⟨y0, y1⟩ := (HV7.out.its ⟨p7, a7, c7, zs.length, mkPL zs.length, nx⟩ (by simp)).cel; obtain ⟨z0, z1⟩ := (HV7.out.its ⟨p6, a6, c6, L.length, L, N⟩ (by simp)).cel; simp only at x0 x1 y0 y1 z0 z1; clear ho hg HV6)
    | (go_at_call 36; have HA := heldTlb_ok L.length N (te_mkP (HV7.out.its ⟨p8, a8, c8, L.length, mkPL L.length, N⟩ (by simp)).row) HLL.out; unfold tlA at HA; refine Calls.mono HA ?_; clear HA; rintro r9 u8 ⟨rfl, hb⟩; clear x0 x1 y0 y1 z0 z1; have HV8 : Hid (TG w u8 v nx zs [⟨p8, a8, c8, L.length, mkPL L.length, N⟩, ⟨p7, a7, c7, zs.length, mkPL zs.length, nx⟩, ⟨p6, a6, c6, L.length, L, N⟩]) := HV7.out.step hb; obtain ⟨c0, c1⟩ := cel2 HV8.out.b0; clear hb HV7)
    | (go_at_call 31; have HA := toTlb_any HV8.out.rw nx HL.out; unfold tlA at HA; refine Calls.mono HA ?_; clear HA; rintro r9 v2 ⟨a1, cc1, rfl, ho, hb⟩; have HV9 : Hid (TG w v2 v nx zs [⟨p8, a8, c8, L.length, mkPL L.length, N⟩, ⟨p7, a7, c7, zs.length, mkPL zs.length, nx⟩, ⟨p6, a6, c6, L.length, L, N⟩]) := HV8.out.step hb; have HR : Hid (v2.ownsRow u8.heap.size 60 5 (.slice a1 zs.length cc1) zs.length (teR zs)) := ho; clear ho hb HV8)
    | (go_at_call 38; have HA := HAI.out _ _ a1 cc1 HR.out; unfold tlA at HA; refine Calls.mono HA ?_; clear HA; rintro r9 v3 ⟨a9, c9, rfl, ho, hb⟩; have HN : Hid (TG w (v3.alloc (.cells #[.slice a9 L.length c9, .int .i64 N] 57)) v nx zs [⟨v3.heap.size, a9, c9, L.length, L, N⟩, ⟨p8, a8, c8, L.length, mkPL L.length, N⟩, ⟨p7, a7, c7, zs.length, mkPL zs.length, nx⟩, ⟨p6, a6, c6, L.length, L, N⟩]) := ((HV9.out.step hb).step ((Below.refl _ _).alloc (Nat.le_refl _) _)).add HV9.out ⟨v3.heap.size, a9, c9, L.length, L, N⟩ hb.size (te_below ho ((Below.refl _ _).alloc (Nat.le_refl _) _)) (heap_new _ _) (fun q => by have q2 := (ho.lt _ q).2; simp only at q2; omega); clear ho hb HV9 HR))
  generalize v3.alloc (.cells #[.slice a9 L.length c9, .int .i64 N] 57) = wd at *
  generalize v3.heap.size = p9 at *
  have HW0 : Hid (TG w wd v nx zs [⟨p9, a9, c9, L.length, L, N⟩, ⟨p8, a8, c8, L.length, mkPL L.length, N⟩, ⟨p7, a7, c7, zs.length, mkPL zs.length, nx⟩, ⟨p6, a6, c6, L.length, L, N⟩]) := HN.out
  clear HN c0 c1
  obtain ⟨x0, x1⟩ := (HW0.out.its ⟨p9, a9, c9, L.length, L, N⟩ (by simp)).cel
  obtain ⟨y0, y1⟩ := (HW0.out.its ⟨p8, a8, c8, L.length, mkPL L.length, N⟩ (by simp)).cel
  obtain ⟨z0, z1⟩ := (HW0.out.its ⟨p6, a6, c6, L.length, L, N⟩ (by simp)).cel
  simp only at x0 x1 y0 y1 z0 z1
  go_wp2_with (first
    | (go_at_call 34; have HA := eqTlb_ok N (TErow.of (HW0.out.its ⟨p9, a9, c9, L.length, L, N⟩ (by simp)).row) (TErow.of (HW0.out.its ⟨p6, a6, c6, L.length, L, N⟩ (by simp)).row) HLL.out; unfold tlA at HA; refine Calls.mono HA ?_; clear HA; rintro r9 t6 ⟨rfl, hb⟩; clear x0 x1 y0 y1 z0 z1; have HW1 : Hid (TG w t6 v nx zs [⟨p9, a9, c9, L.length, L, N⟩, ⟨p8, a8, c8, L.length, mkPL L.length, N⟩, ⟨p7, a7, c7, zs.length, mkPL zs.length, nx⟩, ⟨p6, a6, c6, L.length, L, N⟩]) := HW0.out.step hb; obtain ⟨x0, x1⟩ := (HW1.out.its ⟨p9, a9, c9, L.length, L, N⟩ (by simp)).cel; obtain ⟨y0, y1⟩ := (HW1.out.its ⟨p8, a8, c8, L.length, mkPL L.length, N⟩ (by simp)).cel; obtain ⟨z0, z1⟩ := (HW1.out.its ⟨p6, a6, c6, L.length, L, N⟩ (by simp)).cel; simp only at x0 x1 y0 y1 z0 z1; clear hb HW0)
    | (go_at_call 36; have HA := heldTlb_ok L.length N (te_mkP (HW1.out.its ⟨p8, a8, c8, L.length, mkPL L.length, N⟩ (by simp)).row) HLL.out; unfold tlA at HA; refine Calls.mono HA ?_; clear HA; rintro r9 t7 ⟨rfl, hb⟩; clear x0 x1 y0 y1 z0 z1; have HW2 : Hid (TG w t7 v nx zs [⟨p9, a9, c9, L.length, L, N⟩, ⟨p8, a8, c8, L.length, mkPL L.length, N⟩, ⟨p7, a7, c7, zs.length, mkPL zs.length, nx⟩, ⟨p6, a6, c6, L.length, L, N⟩]) := HW1.out.step hb; clear hb HW1))
  go_ret
  exact ⟨rfl, HW2.out.bel⟩
end Go.Proofs.Ytjaelkagacmpkaa
