import Derived.Test.YtfagohdmepnkkaaMrL2
namespace Go.Proofs.Ytfagohdmepnkkaa
open Go.ChangeShapes Go.WideShapes Go.ChangeAt Go.RowKit

/-- What a side answers. -/
def AnsM (F : Nat) (mem : ByteArray) (root : Int) (ms : List PM) (zs : List Int) (c at_ : Int) (S : ByteArray) (fr : List Int) : Prop := ∀ (U : World) (a2 a3 : Option Addr) (c2 c3 : Nat), PMrow U (.slice a2 ms.length c2) ms → Irow U (.slice a3 zs.length c3) zs → Calls Try.prog F #[.string mem, .int .i64 root, .slice a2 ms.length c2, .slice a3 zs.length c3] U fun r w' => ∃ a4 c4, r = .returned (resA c at_ S (.slice a4 fr.length c4)) ∧ Orow w' U.heap.size (.slice a4 fr.length c4) fr ∧ Below U.heap.size U w'
set_option maxRecDepth 100000 in
set_option maxHeartbeats 8000000 in
theorem lawM {w : World} {mv0 fv : Value} {ms : List PM} {zs : List Int} (mem : ByteArray) (root : Int) (hM : PMrow w mv0 ms) (hF : Irow w fv zs) (c at_ : Int) (S : ByteArray) (fr : List Int) (hm : mem.size ≤ 1048576) (l1 : ms.length ≤ 1048576) (l2 : zs.length ≤ 1048576) (l3 : fr.length ≤ 1048576) (hS : AnsM 12 mem root ms zs c at_ S fr) (hI : AnsM 15 mem root ms zs c at_ S fr) :
    Calls Try.prog 4 #[.string mem, .int .i64 root, mv0, fv] w fun r w' => r = .returned (.bool true) ∧ Below w.heap.size w w' := by
  obtain ⟨am, cm, rfl⟩ := hM.sl
  obtain ⟨af, cf, rfl⟩ := hF.sl
  have HRM : Hid (PMrow w (.slice am ms.length cm) ms) := hM
  have HRF : Hid (Irow w (.slice af zs.length cf) zs) := hF
  have HZ := fun u : World => szPMS_any am ms.length cm 1048576 u (by decide) (by decide) (by unfold maxLen; omega)
  rw [if_neg (by omega)] at HZ
  obtain ⟨r, hr⟩ : ∃ r, (1048576 : Int) - (ms.length : Int) = r := ⟨_, rfl⟩
  have hr0 : ¬ r < 0 := by omega
  rw [hr] at HZ
  have HSZ : Hid _ := HZ
  have HL1 : Hid (ms.length ≤ 1048576) := l1
  have HL2 : Hid (zs.length ≤ 1048576) := l2
  have HLF : Hid (fr.length ≤ 1048576) := l3
  have HAS : Hid (AnsM 12 mem root ms zs c at_ S fr) := hS
  have HAI : Hid (AnsM 15 mem root ms zs c at_ S fr) := hI
  have hd1 : ¬ 1048576 < (mem.size : Int) := by omega
  have hd2 : ¬ 1048576 < (zs.length : Int) := by omega
  have hp1 : ¬ (1 + 4 * (ms.length : Int) + (zs.length : Int)) < 0 := by omega
  have hp2 : ¬ (1 + (fr.length : Int)) < 0 := by omega
  have HK1 : Hid (0 ≤ 1 + 4 * (ms.length : Int) ∧ 1 + 4 * (ms.length : Int) ≤ 1099511627776) := (show _ ∧ _ from ⟨by omega, by omega⟩)
  clear HZ hM hF hm l1 l2 l3 hS hI hr
  go_enter Try.func4, Try.ntmps4
  go_upto_region 10 with (first
    | (go_at_call 11; refine Calls.mono (HSZ.out _) ?_; rintro r9 u0 ⟨rfl, hu0⟩; subst u0)
    | (go_at_call 13; have HA := toPMS_any (HRM.out.below (Below.refl _ _)) HL1.out; refine Calls.mono HA ?_; clear HA; rintro r9 u1 ⟨q9, rfl, ho, hb⟩; obtain ⟨a1, cc1, he9⟩ := pm_sl ho; subst he9; have HB1 : Hid (Below w.heap.size w u1) := hb; have HR1 : Hid (PMrow u1 (.slice a1 ms.length cc1) ms) := PMrow.of ho; clear ho hb)
    | (go_at_call 14; have HA := toIS_any (HRF.out.below HB1.out) HL2.out; refine Calls.mono HA ?_; clear HA; rintro r9 u2 ⟨q9, rfl, ho, hb⟩; obtain ⟨a2, cc2, he9⟩ := i_sl ho; subst he9; have HB2 : Hid (Below w.heap.size w u2) := HB1.out.trans (hb.mono HB1.out.size); have HR2 : Hid (PMrow u2 (.slice a1 ms.length cc1) ms) := HR1.out.below hb; have HI2 : Hid (Irow u2 (.slice a2 zs.length cc2) zs) := Irow.of ho; clear ho hb HB1 HR1)
    | (go_at_call 12; have HA := HAS.out _ _ _ _ _ HR2.out HI2.out; unfold resA at HA; refine Calls.mono HA ?_; clear HA; rintro r9 u3 ⟨a6, c6, rfl, ho, hb⟩; have HB3 : Hid (Below w.heap.size w (u3.alloc (.cells #[.int .i64 c, .int .i64 at_, .string S, .slice a6 fr.length c6] 31))) := (HB2.out.trans (hb.mono HB2.out.size)).alloc (Nat.le_trans HB2.out.size hb.size) _; have HX3 : Hid (BX (u3.alloc (.cells #[.int .i64 c, .int .i64 at_, .string S, .slice a6 fr.length c6] 31)) u2.heap.size u3.heap.size c at_ S (.slice a6 fr.length c6) fr) := BX.new ho hb.size; have HN0 : Hid (w.heap.size ≤ u2.heap.size) := HB2.out.size; clear ho hb HB2 HR2 HI2))
  generalize u3.alloc (.cells #[.int .i64 c, .int .i64 at_, .string S, .slice a6 fr.length c6] 31) = U3 at *
  generalize u3.heap.size = p1 at *
  generalize u2.heap.size = n0 at *
  clear HAS HSZ
  go_upto_region 13 with (first
    | (go_at_call 13; have HA := toPMS_any (HRM.out.below HB3.out) HL1.out; refine Calls.mono HA ?_; clear HA; rintro r9 u4 ⟨q9, rfl, ho, hb⟩; obtain ⟨a5, c5, he9⟩ := pm_sl ho; subst he9; have HB4 : Hid (Below w.heap.size w u4) := HB3.out.trans (hb.mono HB3.out.size); have HX4 : Hid (BX u4 n0 p1 c at_ S (.slice a6 fr.length c6) fr) := HX3.out.step hb; have HR4 : Hid (u4.ownsRow U3.heap.size 101 4 (.slice a5 ms.length c5) ms.length (pmR ms)) := ho; have HP4 : Hid (p1 < U3.heap.size ∧ U3.heap.size ≤ u4.heap.size) := ⟨HX3.out.lt, hb.size⟩; clear ho hb HB3 HX3)
    | (go_at_call 14; have HA := toIS_any (HRF.out.below HB4.out) HL2.out; refine Calls.mono HA ?_; clear HA; rintro r9 u5 ⟨q9, rfl, ho, hb⟩; obtain ⟨a7, c7, he9⟩ := i_sl ho; subst he9; have HB5 : Hid (Below w.heap.size w u5) := HB4.out.trans (hb.mono HB4.out.size); have HX5 : Hid (BX u5 n0 p1 c at_ S (.slice a6 fr.length c6) fr) := HX4.out.step hb; have HR5 : Hid (u5.ownsRow U3.heap.size 101 4 (.slice a5 ms.length c5) ms.length (pmR ms)) := pm_below HR4.out hb; have HQ5 : Hid (∀ k, (Value.slice a5 ms.length c5).ownBlock = some k → k < u4.heap.size) := fun k q => (HR4.out.lt k q).2; have HI5 : Hid (Orow2 u5 u4.heap.size u5.heap.size (.slice a7 zs.length c7) zs) := Orow2.of (Orow.of ho) (Nat.le_refl _); have HP5 : Hid (u4.heap.size ≤ u5.heap.size) := hb.size; clear ho hb HB4 HX4 HR4)
    | (go_at_call 15; have HA := HAI.out _ _ _ _ _ (PMrow.of HR5.out) HI5.out.irow; unfold resA at HA; refine Calls.mono HA ?_; clear HA; rintro r9 u6 ⟨a8, c8, rfl, ho, hb⟩; have hbb : Below u5.heap.size u5 (u6.alloc (.cells #[.int .i64 c, .int .i64 at_, .string S, .slice a8 fr.length c8] 31)) := hb.alloc hb.size _; have HM6 : Hid (LM w n0 p1 U3.heap.size u4.heap.size u5.heap.size u6.heap.size c at_ S fr (.slice a6 fr.length c6) (.slice a8 fr.length c8) (.slice a7 zs.length c7) zs fr (u6.alloc (.cells #[.int .i64 c, .int .i64 at_, .string S, .slice a8 fr.length c8] 31))) := ⟨HB5.out.trans (hbb.mono HB5.out.size), ⟨HN0.out, HP4.out.1, HP4.out.2, HP5.out⟩, HX5.out.step hbb, BX.new ho hb.size, HI5.out.gi (GI.of_below (lo := 0) (hi := 0) hbb) (.inr (Nat.zero_le _))⟩; have HR6 : Hid ((u6.alloc (.cells #[.int .i64 c, .int .i64 at_, .string S, .slice a8 fr.length c8] 31)).ownsRow U3.heap.size 101 4 (.slice a5 ms.length c5) ms.length (pmR ms)) := pm_below HR5.out hbb; clear ho hb hbb HB5 HX5 HR5 HI5))
  generalize u6.alloc (.cells #[.int .i64 c, .int .i64 at_, .string S, .slice a8 fr.length c8] 31) = U6 at *
  clear HP4 HP5 HN0
  generalize u6.heap.size = p2 at *
  generalize u5.heap.size = n4 at *
  generalize u4.heap.size = n3 at *
  generalize U3.heap.size = n2 at *
  obtain ⟨z0, z1, z2, z3⟩ := cel4P HM6.out.a1.box
  obtain ⟨y0, y1, y2, y3⟩ := cel4P HM6.out.a2.box
  go_upto_region 33 with (first
    | (go_at_call 16; have HA := eqMR_ok c at_ S HM6.out.a2.row.irow HM6.out.a1.row.irow HLF.out; unfold resA at HA; refine Calls.mono HA ?_; clear HA; rintro r9 u7 ⟨rfl, hb⟩; clear z0 z1 z2 z3 y0 y1 y2 y3; have HM7 : Hid (LM w n0 p1 n2 n3 n4 p2 c at_ S fr (.slice a6 fr.length c6) (.slice a8 fr.length c8) (.slice a7 zs.length c7) zs fr u7) := HM6.out.step hb; have HR7 : Hid (u7.ownsRow n2 101 4 (.slice a5 ms.length c5) ms.length (pmR ms)) := pm_below HR6.out hb; clear hb HM6 HR6)
    | (go_at_call 13; have HA := toPMS_any (HRM.out.below HM7.out.bel) HL1.out; refine Calls.mono HA ?_; clear HA; rintro r9 u8 ⟨q9, rfl, ho, hb⟩; obtain ⟨a9, c9, he9⟩ := pm_sl ho; subst he9; have HM8 : Hid (LM w n0 p1 n2 n3 n4 p2 c at_ S fr (.slice a6 fr.length c6) (.slice a8 fr.length c8) (.slice a7 zs.length c7) zs fr u8) := HM7.out.step hb; have HR8 : Hid (u8.ownsRow n2 101 4 (.slice a5 ms.length c5) ms.length (pmR ms)) := pm_below HR7.out hb; have HT8 : Hid (PMrow u8 (.slice a9 ms.length c9) ms) := PMrow.of ho; clear ho hb HM7 HR7)
    | (go_at_call 17; have HA := eqPMS_ok (PMrow.of HR8.out) HT8.out HL1.out; refine Calls.mono HA ?_; clear HA; rintro r9 v1 ⟨rfl, hb⟩; have HM9 : Hid (LM w n0 p1 n2 n3 n4 p2 c at_ S fr (.slice a6 fr.length c6) (.slice a8 fr.length c8) (.slice a7 zs.length c7) zs fr v1) := HM8.out.step hb; have HR9 : Hid (v1.ownsRow n2 101 4 (.slice a5 ms.length c5) ms.length (pmR ms)) := pm_below HR8.out hb; clear hb HM8 HR8 HT8)
    | (go_at_call 14; have HA := toIS_any (HRF.out.below HM9.out.bel) HL2.out; refine Calls.mono HA ?_; clear HA; rintro r9 v2 ⟨q9, rfl, ho, hb⟩; obtain ⟨a10, c10, he9⟩ := i_sl ho; subst he9; have HMA : Hid (LM w n0 p1 n2 n3 n4 p2 c at_ S fr (.slice a6 fr.length c6) (.slice a8 fr.length c8) (.slice a7 zs.length c7) zs fr v2) := HM9.out.step hb; have HRA : Hid (v2.ownsRow n2 101 4 (.slice a5 ms.length c5) ms.length (pmR ms)) := pm_below HR9.out hb; have HTA : Hid (Irow v2 (.slice a10 zs.length c10) zs) := Irow.of ho; clear ho hb HM9 HR9)
    | (go_at_call 18; have HA := eqIS_ok HMA.out.a3.irow HTA.out HL2.out; refine Calls.mono HA ?_; clear HA; rintro r9 v3 ⟨rfl, hb⟩; have HMB : Hid (LM w n0 p1 n2 n3 n4 p2 c at_ S fr (.slice a6 fr.length c6) (.slice a8 fr.length c8) (.slice a7 zs.length c7) zs fr v3) := HMA.out.step hb; have HRB : Hid (v3.ownsRow n2 101 4 (.slice a5 ms.length c5) ms.length (pmR ms)) := pm_below HRA.out hb; clear hb HMA HRA HTA)
    | (go_at_call 19; have HA := markPMS_ok HRB.out HL1.out; refine Calls.mono HA ?_; clear HA; rintro r9 v4 ⟨rfl, hg⟩; have HMC : Hid (LM w n0 p1 n2 n3 n4 p2 c at_ S fr (.slice a6 fr.length c6) (.slice a8 fr.length c8) (.slice a7 zs.length c7) zs fr v4) := HMB.out.mark2 (gi_of HRB.out HQ5.out hg); clear hg HMB HRB HQ5)
    | (go_at_call 20; have HA := markO_ok (1 + 4 * (ms.length : Int)) HMC.out.a3 HL2.out HK1.out.1 HK1.out.2; refine Calls.mono HA ?_; clear HA; rintro r9 v5 ⟨rfl, hr5, hg⟩; have HMD : Hid (LM w n0 p1 n2 n3 n4 p2 c at_ S fr (.slice a6 fr.length c6) (.slice a8 fr.length c8) (.slice a7 zs.length c7) (mkK (1 + 4 * (ms.length : Int)) zs.length) fr v5) := HMC.out.mark3 hg hr5; clear hr5 hg HMC; obtain ⟨z0, z1, z2, z3⟩ := cel4P HMD.out.a1.box; obtain ⟨y0, y1, y2, y3⟩ := cel4P HMD.out.a2.box)
    | (go_at_call 16; have HA := eqMR_ok c at_ S HMD.out.a2.row.irow HMD.out.a1.row.irow HLF.out; unfold resA at HA; refine Calls.mono HA ?_; clear HA; rintro r9 v6 ⟨rfl, hb⟩; clear z0 z1 z2 z3 y0 y1 y2 y3; have HME : Hid (LM w n0 p1 n2 n3 n4 p2 c at_ S fr (.slice a6 fr.length c6) (.slice a8 fr.length c8) (.slice a7 zs.length c7) (mkK (1 + 4 * (ms.length : Int)) zs.length) fr v6) := HMD.out.step hb; clear hb HMD; obtain ⟨y0, y1, y2, y3⟩ := cel4P HME.out.a2.box)
    | (go_at_call 21; have HA := markMR_ok c at_ S HME.out.a2.row HLF.out; unfold resA at HA; refine Calls.mono HA ?_; clear HA; rintro r9 v7 ⟨rfl, hr7, hg⟩; clear y0 y1 y2 y3; have HMF : Hid (LM w n0 p1 n2 n3 n4 p2 c at_ S fr (.slice a6 fr.length c6) (.slice a8 fr.length c8) (.slice a7 zs.length c7) (mkK (1 + 4 * (ms.length : Int)) zs.length) (mkK 1 fr.length) v7) := HME.out.markR hg hr7; clear hr7 hg HME; obtain ⟨y0, y1, y2, y3⟩ := cel4P HMF.out.a2.box)
    | (go_at_call 22; have HA := heldMR_ok c at_ S HMF.out.a2.row.irow HLF.out; unfold resA at HA; refine Calls.mono HA ?_; clear HA; rintro r9 v8 ⟨rfl, hb⟩; clear y0 y1 y2 y3; have HMG : Hid (LM w n0 p1 n2 n3 n4 p2 c at_ S fr (.slice a6 fr.length c6) (.slice a8 fr.length c8) (.slice a7 zs.length c7) (mkK (1 + 4 * (ms.length : Int)) zs.length) (mkK 1 fr.length) v8) := HMF.out.step hb; clear hb HMF)
    | (go_at_call 13; have HA := toPMS_any (HRM.out.below HMG.out.bel) HL1.out; refine Calls.mono HA ?_; clear HA; rintro r9 w1 ⟨q9, rfl, ho, hb⟩; obtain ⟨a11, c11, he9⟩ := pm_sl ho; subst he9; have HMH : Hid (LM w n0 p1 n2 n3 n4 p2 c at_ S fr (.slice a6 fr.length c6) (.slice a8 fr.length c8) (.slice a7 zs.length c7) (mkK (1 + 4 * (ms.length : Int)) zs.length) (mkK 1 fr.length) w1) := HMG.out.step hb; have HT1 : Hid (PMrow w1 (.slice a11 ms.length c11) ms) := PMrow.of ho; clear ho hb HMG)
    | (go_at_call 14; have HA := toIS_any (HRF.out.below HMH.out.bel) HL2.out; refine Calls.mono HA ?_; clear HA; rintro r9 w2 ⟨q9, rfl, ho, hb⟩; obtain ⟨a12, c12, he9⟩ := i_sl ho; subst he9; have HMI : Hid (LM w n0 p1 n2 n3 n4 p2 c at_ S fr (.slice a6 fr.length c6) (.slice a8 fr.length c8) (.slice a7 zs.length c7) (mkK (1 + 4 * (ms.length : Int)) zs.length) (mkK 1 fr.length) w2) := HMH.out.step hb; have HT2 : Hid (PMrow w2 (.slice a11 ms.length c11) ms) := HT1.out.below hb; have HI2 : Hid (Irow w2 (.slice a12 zs.length c12) zs) := Irow.of ho; clear ho hb HMH HT1)
    | (go_at_call 15; have HA := HAI.out _ _ _ _ _ HT2.out HI2.out; unfold resA at HA; refine Calls.mono HA ?_; clear HA; rintro r9 w3 ⟨a13, c13, rfl, ho, hb⟩; have hbb : Below w2.heap.size w2 (w3.alloc (.cells #[.int .i64 c, .int .i64 at_, .string S, .slice a13 fr.length c13] 31)) := hb.alloc hb.size _; have HMJ : Hid (LM w n0 p1 n2 n3 n4 p2 c at_ S fr (.slice a6 fr.length c6) (.slice a8 fr.length c8) (.slice a7 zs.length c7) (mkK (1 + 4 * (ms.length : Int)) zs.length) (mkK 1 fr.length) (w3.alloc (.cells #[.int .i64 c, .int .i64 at_, .string S, .slice a13 fr.length c13] 31))) := HMI.out.step hbb; have HXJ : Hid (BX (w3.alloc (.cells #[.int .i64 c, .int .i64 at_, .string S, .slice a13 fr.length c13] 31)) w2.heap.size w3.heap.size c at_ S (.slice a13 fr.length c13) fr) := BX.new ho hb.size; clear ho hb hbb HMI HT2 HI2))
  generalize w3.alloc (.cells #[.int .i64 c, .int .i64 at_, .string S, .slice a13 fr.length c13] 31) = W3 at *
  generalize w3.heap.size = p3 at *
  generalize w2.heap.size = n5 at *
  obtain ⟨z0, z1, z2, z3⟩ := cel4P HMJ.out.a1.box
  obtain ⟨x0, x1, x2, x3⟩ := cel4P HXJ.out.box
  go_wp2_with (first
    | (go_at_call 16; have HA := eqMR_ok c at_ S HXJ.out.row.irow HMJ.out.a1.row.irow HLF.out; unfold resA at HA; refine Calls.mono HA ?_; clear HA; rintro r9 w4 ⟨rfl, hb⟩; clear z0 z1 z2 z3 x0 x1 x2 x3; have HMK : Hid (LM w n0 p1 n2 n3 n4 p2 c at_ S fr (.slice a6 fr.length c6) (.slice a8 fr.length c8) (.slice a7 zs.length c7) (mkK (1 + 4 * (ms.length : Int)) zs.length) (mkK 1 fr.length) w4) := HMJ.out.step hb; clear hb HMJ; obtain ⟨y0, y1, y2, y3⟩ := cel4P HMK.out.a2.box)
    | (go_at_call 22; have HA := heldMR_ok c at_ S HMK.out.a2.row.irow HLF.out; unfold resA at HA; refine Calls.mono HA ?_; clear HA; rintro r9 w5 ⟨rfl, hb⟩; clear y0 y1 y2 y3; have HMN : Hid (Below w.heap.size w w5) := HMK.out.bel.trans (hb.mono HMK.out.bel.size); clear hb HMK))
  go_ret
  exact ⟨rfl, HMN.out⟩
end Go.Proofs.Ytfagohdmepnkkaa
