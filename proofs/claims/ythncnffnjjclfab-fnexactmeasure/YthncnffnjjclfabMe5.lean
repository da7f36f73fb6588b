import Derived.Test.YthncnffnjjclfabMe4
namespace Go.Proofs.Ythncnffnjjclfab
open Go.ChangeShapes Go.WideShapes Go.ChangeAt Go.RowKit

set_option maxRecDepth 100000 in
theorem open_rowIM {H : Type} {enc : TypeId × Value → H} {W : World} {base : Nat} {v : Value} {d : DataW H} {p : List MemPlace} (hv : Value.okWide Try.prog W .any base 38 v)
    (h : DataW.Trod enc Try.prog W 0 (fun _ => true) true 38 v d p) : ∃ zs : List Int, Irow W v zs ∧ zs.length ≤ maxLen := by
  obtain ⟨a, len, cap, rfl⟩ := okWide_slice Try.underlying38 hv
  obtain ⟨fuel, hf⟩ := h
  exact open_iS hf
theorem sg_gi {w u : World} {B a b n : Nat} {v : Value} {xs : List Value} (h : w.ownsRow B 86 2 v n xs) (g : GI a b w u) (hd : b ≤ B) : u.ownsRow B 86 2 v n xs := by
  obtain ⟨h1, h | ⟨j, cap, cur, hv, hB, hj, h2⟩⟩ := h
  · exact ⟨h1, .inl h⟩
  · exact ⟨h1, .inr ⟨j, cap, cur, hv, hB, (g.block j (Array.getElem?_eq_some_iff.1 hj).1 (by omega)).trans hj, h2⟩⟩
set_option maxRecDepth 100000 in
set_option maxHeartbeats 8000000 in
theorem walkMe {w : World} {v sv : Value} {rs : List Int} {zs : List SG} (h : Irow w v rs) (hrm : rs.length ≤ maxLen) (hz : SGrow w sv zs) (hm : zs.length ≤ maxLen) (hzt : ∀ z ∈ zs, z.text.size ≤ maxLen) :
    Calls Try.prog 4 #[v, sv] w fun e w' => e = .returned (.bool true) ∧ Below w.heap.size w w' := by
  have HI : Hid (Irow w v rs) := h
  have HS : Hid (SGrow w sv zs) := hz
  obtain ⟨ao, cap, rfl⟩ := h.sl
  obtain ⟨as1, cs, rfl⟩ := hz.sl
  have hr2 : rs.length ≤ 9223372036854775807 := by unfold maxLen at hrm; omega
  have HSZ : Hid (∀ u, Below w.heap.size w u → Calls Try.prog 16 #[.slice as1 zs.length cs, .int .i64 1048576] u fun e w' => ∃ q, e = .returned (.int .i64 q) ∧ -1 ≤ q ∧ q ≤ 1048576 ∧ (0 ≤ q → zs.length ≤ 1048576) ∧ Below u.heap.size u w') := fun u hu => szSGS_w (HS.out.below hu) hm hzt
  clear h hz hm hzt hrm
  cases hd : decide (1048576 < (rs.length : Int))
  rotate_left
  · go_enter Try.func4, Try.ntmps4
    go_wp2_with fail
    go_ret
    exact ⟨rfl, Below.refl _ _⟩
  have hl : rs.length ≤ 1048576 := by have := of_decide_eq_false hd; omega
  have HTI : Hid (∀ u, Below w.heap.size w u → Calls Try.prog 18 #[.slice ao rs.length cap] u fun e w' => ∃ x, e = .returned x ∧ w'.ownsRow u.heap.size 2 1 x rs.length (iR rs) ∧ Below u.heap.size u w') := fun u hu => toIS_any (HI.out.below hu) hl
  go_enter Try.func4, Try.ntmps4
  have HBL101 : Hid (Below w.heap.size w w) := Below.refl _ _
  go_wp2_with fail
  refine Calls.mono (HSZ.out _ HBL101.out) ?_
  rintro e u102 ⟨q, rfl, q0, q1, hq, hb⟩
  have HBL103 : Hid (Below w.heap.size w u102) := HBL101.out.trans (hb.mono HBL101.out.size)
  clear HBL101
  have HQ : Hid (0 ≤ q → zs.length ≤ 1048576) := hq
  clear hb hq HSZ
  cases h3 : decide (q < 0)
  rotate_left
  · go_wp2
    go_ret
    exact ⟨rfl, HBL103.out⟩
  have hzl : zs.length ≤ 1048576 := HQ.out (by have := of_decide_eq_false h3; omega)
  have HZL : Hid (zs.length ≤ 1048576) := hzl
  have HTS : Hid (∀ u, Below w.heap.size w u → Calls Try.prog 19 #[.slice as1 zs.length cs] u fun e w' => ∃ x, e = .returned x ∧ w'.ownsRow u.heap.size 86 2 x zs.length (sgR zs) ∧ Below u.heap.size u w') := fun u hu => toSGS_any (HS.out.below hu) hzl
  have HSP : Hid (∀ u x y, Irow u x rs → SGrow u y zs → Calls Try.prog 17 #[x, y] u fun e w' => ∃ r, e = .returned r ∧ Orow w' u.heap.size r (meV rs zs) ∧ Below u.heap.size u w') := fun u x y hx hy => specMe_any hx hl hy hzl
  have HIM : Hid (∀ u x y, Irow u x rs → SGrow u y zs → Calls Try.prog 20 #[x, y] u fun e w' => ∃ r, e = .returned r ∧ Orow w' u.heap.size r (meV rs zs) ∧ Below u.heap.size u w') := fun u x y hx hy => implMe_any hx hl hy hzl
  have hvl := meV_len rs zs
  generalize meV rs zs = V at *
  have HVL : Hid (V.length ≤ 8) := hvl
  have HRL : Hid (rs.length ≤ 1048576) := hl
  clear hvl hzl HQ q0 q1
  go_wp2_with fail
  refine Calls.mono (HTI.out _ HBL103.out) ?_
  rintro e u104 ⟨xx, rfl, ho, hb⟩
  obtain ⟨ai, ci, rfl⟩ := i_sl ho
  have HBL105 : Hid (Below w.heap.size w u104) := HBL103.out.trans (hb.mono HBL103.out.size)
  clear HBL103
  have HT1 : Hid (Irow u104 (.slice ai rs.length ci) rs) := Irow.of ho
  clear ho hb
  go_wp2_with fail
  refine Calls.mono (HTS.out _ HBL105.out) ?_
  rintro e u106 ⟨xx, rfl, ho, hb⟩
  obtain ⟨aj, cj, rfl⟩ := sg_sl ho
  have HT2 : Hid (Irow u106 (.slice ai rs.length ci) rs) := HT1.out.below hb
  have HBL107 : Hid (Below w.heap.size w u106) := HBL105.out.trans (hb.mono HBL105.out.size)
  clear HBL105
  have HT3 : Hid (SGrow u106 (.slice aj zs.length cj) zs) := SGrow.of ho
  clear ho hb HT1
  obtain ⟨N0, hN0⟩ : ∃ n, u106.heap.size = n := ⟨_, rfl⟩
  have HN0 : Hid (w.heap.size ≤ N0) := (show _ ≤ _ by have := HBL107.out.size; omega)
  go_wp2_with fail
  refine Calls.mono (HSP.out _ _ _ HT2.out HT3.out) ?_
  rintro e u108 ⟨r, rfl, ho, hb⟩
  rw [hN0] at ho
  have hs1 := hb.size
  rw [hN0] at hs1
  have HBL109 : Hid (Below w.heap.size w u108) := HBL107.out.trans (hb.mono HBL107.out.size)
  clear HBL107
  obtain ⟨aw, cw, rfl⟩ := ho.irow.sl
  obtain ⟨N1, hN1⟩ : ∃ n, u108.heap.size = n := ⟨_, rfl⟩
  rw [hN1] at hs1
  have HN1 : Hid (w.heap.size ≤ N0 ∧ N0 ≤ N1) := ⟨HN0.out, hs1⟩
  have HW0110 : Hid (Orow2 u108 N0 N1 (.slice aw V.length cw) V) := Orow2.of ho (by omega)
  clear ho hb hs1 hN0 HT2 HT3 HN0
  go_wp2_with fail
  refine Calls.mono (HTI.out _ HBL109.out) ?_
  rintro e u111 ⟨xx, rfl, ho, hb⟩
  obtain ⟨ax, cx, rfl⟩ := i_sl ho
  have ho2 := Orow.of ho
  rw [hN1] at ho2
  have hs1 := hb.size
  rw [hN1] at hs1
  have HBL112 : Hid (Below w.heap.size w u111) := HBL109.out.trans (hb.mono HBL109.out.size)
  clear HBL109
  have HW0113 : Hid (Orow2 u111 N0 N1 (.slice aw V.length cw) V) := HW0110.out.gi (GI.of_below (lo := 0) (hi := 0) hb) (Or.inr (Nat.zero_le _))
  clear HW0110
  obtain ⟨N2, hN2⟩ : ∃ n, u111.heap.size = n := ⟨_, rfl⟩
  rw [hN2] at hs1
  have HN2 : Hid (w.heap.size ≤ N0 ∧ N0 ≤ N1 ∧ N1 ≤ N2) := ⟨HN1.out.1, HN1.out.2, hs1⟩
  have HX0114 : Hid (Orow2 u111 N1 N2 (.slice ax rs.length cx) rs) := Orow2.of ho2 (by omega)
  clear ho ho2 hb hs1 hN1 HN1
  go_wp2_with fail
  refine Calls.mono (HTS.out _ HBL112.out) ?_
  rintro e u115 ⟨xx, rfl, ho, hb⟩
  obtain ⟨ay, cy, rfl⟩ := sg_sl ho
  rw [hN2] at ho
  have hs1 := hb.size
  rw [hN2] at hs1
  have HBL116 : Hid (Below w.heap.size w u115) := HBL112.out.trans (hb.mono HBL112.out.size)
  clear HBL112
  have HW0117 : Hid (Orow2 u115 N0 N1 (.slice aw V.length cw) V) := HW0113.out.gi (GI.of_below (lo := 0) (hi := 0) hb) (Or.inr (Nat.zero_le _))
  clear HW0113
  have HX0118 : Hid (Orow2 u115 N1 N2 (.slice ax rs.length cx) rs) := HX0114.out.gi (GI.of_below (lo := 0) (hi := 0) hb) (Or.inr (Nat.zero_le _))
  clear HX0114
  obtain ⟨N3, hN3⟩ : ∃ n, u115.heap.size = n := ⟨_, rfl⟩
  rw [hN3] at hs1
  have HN3 : Hid (w.heap.size ≤ N0 ∧ N0 ≤ N1 ∧ N1 ≤ N2 ∧ N2 ≤ N3) := ⟨HN2.out.1, HN2.out.2.1, HN2.out.2.2, hs1⟩
  have HX1119 : Hid (u115.ownsRow N2 86 2 (.slice ay zs.length cy) zs.length (sgR zs)) := ho
  have HKX : Hid (∀ k, (Value.slice ay zs.length cy).ownBlock = some k → k < N3) := (fun k hk => by have := (ho.lt k hk).2; omega)
  clear ho hb hs1 hN2 HN2
  go_wp2_with fail
  refine Calls.mono (HIM.out _ _ _ HX0118.out.irow (SGrow.of HX1119.out)) ?_
  rintro e u120 ⟨r, rfl, ho, hb⟩
  rw [hN3] at ho
  have hs1 := hb.size
  rw [hN3] at hs1
  have HBL121 : Hid (Below w.heap.size w u120) := HBL116.out.trans (hb.mono HBL116.out.size)
  clear HBL116
  have HW0122 : Hid (Orow2 u120 N0 N1 (.slice aw V.length cw) V) := HW0117.out.gi (GI.of_below (lo := 0) (hi := 0) hb) (Or.inr (Nat.zero_le _))
  clear HW0117
  have HX0123 : Hid (Orow2 u120 N1 N2 (.slice ax rs.length cx) rs) := HX0118.out.gi (GI.of_below (lo := 0) (hi := 0) hb) (Or.inr (Nat.zero_le _))
  clear HX0118
  have HX1124 : Hid (u120.ownsRow N2 86 2 (.slice ay zs.length cy) zs.length (sgR zs)) := sg_below HX1119.out hb
  clear HX1119
  obtain ⟨ag, cg, rfl⟩ := ho.irow.sl
  obtain ⟨N4, hN4⟩ : ∃ n, u120.heap.size = n := ⟨_, rfl⟩
  rw [hN4] at hs1
  have HN : Hid (w.heap.size ≤ N0 ∧ N0 ≤ N1 ∧ N1 ≤ N2 ∧ N2 ≤ N3 ∧ N3 ≤ N4) := ⟨HN3.out.1, HN3.out.2.1, HN3.out.2.2.1, HN3.out.2.2.2, hs1⟩
  have HG0125 : Hid (Orow2 u120 N3 N4 (.slice ag V.length cg) V) := Orow2.of ho (by omega)
  clear ho hb hs1 hN3 hN4 HN3
  go_wp2_with fail
  refine Calls.mono (eqIS_ok HG0125.out.irow HW0122.out.irow (by have := HVL.out; omega)) ?_
  rintro e u126 ⟨rfl, hb⟩
  have HBL127 : Hid (Below w.heap.size w u126) := HBL121.out.trans (hb.mono HBL121.out.size)
  clear HBL121
  have HW0128 : Hid (Orow2 u126 N0 N1 (.slice aw V.length cw) V) := HW0122.out.gi (GI.of_below (lo := 0) (hi := 0) hb) (Or.inr (Nat.zero_le _))
  clear HW0122
  have HX0129 : Hid (Orow2 u126 N1 N2 (.slice ax rs.length cx) rs) := HX0123.out.gi (GI.of_below (lo := 0) (hi := 0) hb) (Or.inr (Nat.zero_le _))
  clear HX0123
  have HX1130 : Hid (u126.ownsRow N2 86 2 (.slice ay zs.length cy) zs.length (sgR zs)) := sg_below HX1124.out hb
  clear HX1124
  have HG0131 : Hid (Orow2 u126 N3 N4 (.slice ag V.length cg) V) := HG0125.out.gi (GI.of_below (lo := 0) (hi := 0) hb) (Or.inr (Nat.zero_le _))
  clear HG0125
  clear hb
  go_wp2_with fail
  refine Calls.mono (HTI.out _ HBL127.out) ?_
  rintro e u132 ⟨xx, rfl, ho, hb⟩
  obtain ⟨ak, ck, rfl⟩ := i_sl ho
  have HBL133 : Hid (Below w.heap.size w u132) := HBL127.out.trans (hb.mono HBL127.out.size)
  clear HBL127
  have HW0134 : Hid (Orow2 u132 N0 N1 (.slice aw V.length cw) V) := HW0128.out.gi (GI.of_below (lo := 0) (hi := 0) hb) (Or.inr (Nat.zero_le _))
  clear HW0128
  have HX0135 : Hid (Orow2 u132 N1 N2 (.slice ax rs.length cx) rs) := HX0129.out.gi (GI.of_below (lo := 0) (hi := 0) hb) (Or.inr (Nat.zero_le _))
  clear HX0129
  have HX1136 : Hid (u132.ownsRow N2 86 2 (.slice ay zs.length cy) zs.length (sgR zs)) := sg_below HX1130.out hb
  clear HX1130
  have HG0137 : Hid (Orow2 u132 N3 N4 (.slice ag V.length cg) V) := HG0131.out.gi (GI.of_below (lo := 0) (hi := 0) hb) (Or.inr (Nat.zero_le _))
  clear HG0131
  have HK1 : Hid (Irow u132 (.slice ak rs.length ck) rs) := Irow.of ho
  clear ho hb
  go_wp2_with fail
  refine Calls.mono (eqIS_ok HX0135.out.irow HK1.out (HRL.out)) ?_
  rintro e u138 ⟨rfl, hb⟩
  have HBL139 : Hid (Below w.heap.size w u138) := HBL133.out.trans (hb.mono HBL133.out.size)
  clear HBL133
  have HW0140 : Hid (Orow2 u138 N0 N1 (.slice aw V.length cw) V) := HW0134.out.gi (GI.of_below (lo := 0) (hi := 0) hb) (Or.inr (Nat.zero_le _))
  clear HW0134
  have HX0141 : Hid (Orow2 u138 N1 N2 (.slice ax rs.length cx) rs) := HX0135.out.gi (GI.of_below (lo := 0) (hi := 0) hb) (Or.inr (Nat.zero_le _))
  clear HX0135
  have HX1142 : Hid (u138.ownsRow N2 86 2 (.slice ay zs.length cy) zs.length (sgR zs)) := sg_below HX1136.out hb
  clear HX1136
  have HG0143 : Hid (Orow2 u138 N3 N4 (.slice ag V.length cg) V) := HG0137.out.gi (GI.of_below (lo := 0) (hi := 0) hb) (Or.inr (Nat.zero_le _))
  clear HG0137
  clear hb
  clear HK1
  go_wp2_with fail
  refine Calls.mono (HTS.out _ HBL139.out) ?_
  rintro e u144 ⟨xx, rfl, ho, hb⟩
  obtain ⟨al, cl, rfl⟩ := sg_sl ho
  have HBL145 : Hid (Below w.heap.size w u144) := HBL139.out.trans (hb.mono HBL139.out.size)
  clear HBL139
  have HW0146 : Hid (Orow2 u144 N0 N1 (.slice aw V.length cw) V) := HW0140.out.gi (GI.of_below (lo := 0) (hi := 0) hb) (Or.inr (Nat.zero_le _))
  clear HW0140
  have HX0147 : Hid (Orow2 u144 N1 N2 (.slice ax rs.length cx) rs) := HX0141.out.gi (GI.of_below (lo := 0) (hi := 0) hb) (Or.inr (Nat.zero_le _))
  clear HX0141
  have HX1148 : Hid (u144.ownsRow N2 86 2 (.slice ay zs.length cy) zs.length (sgR zs)) := sg_below HX1142.out hb
  clear HX1142
  have HG0149 : Hid (Orow2 u144 N3 N4 (.slice ag V.length cg) V) := HG0143.out.gi (GI.of_below (lo := 0) (hi := 0) hb) (Or.inr (Nat.zero_le _))
  clear HG0143
  have HK1 : Hid (SGrow u144 (.slice al zs.length cl) zs) := SGrow.of ho
  clear ho hb
  go_wp2_with fail
  refine Calls.mono (eqSGS_ok (SGrow.of HX1148.out) HK1.out HZL.out) ?_
  rintro e u150 ⟨rfl, hb⟩
  have HBL151 : Hid (Below w.heap.size w u150) := HBL145.out.trans (hb.mono HBL145.out.size)
  clear HBL145
  have HW0152 : Hid (Orow2 u150 N0 N1 (.slice aw V.length cw) V) := HW0146.out.gi (GI.of_below (lo := 0) (hi := 0) hb) (Or.inr (Nat.zero_le _))
  clear HW0146
  have HX0153 : Hid (Orow2 u150 N1 N2 (.slice ax rs.length cx) rs) := HX0147.out.gi (GI.of_below (lo := 0) (hi := 0) hb) (Or.inr (Nat.zero_le _))
  clear HX0147
  have HX1154 : Hid (u150.ownsRow N2 86 2 (.slice ay zs.length cy) zs.length (sgR zs)) := sg_below HX1148.out hb
  clear HX1148
  have HG0155 : Hid (Orow2 u150 N3 N4 (.slice ag V.length cg) V) := HG0149.out.gi (GI.of_below (lo := 0) (hi := 0) hb) (Or.inr (Nat.zero_le _))
  clear HG0149
  clear hb HK1
  obtain ⟨K1, hK1⟩ : ∃ K : Nat, 1 + rs.length = K := ⟨_, rfl⟩
  have hK1i : (1 : Int) + (rs.length : Int) = (K1 : Int) := by omega
  have hK1b : K1 ≤ 1048577 := by have := HRL.out; omega
  go_wp2_with fail
  refine Calls.mono (markO_ok 1 HX0153.out HRL.out (by omega) (by omega)) ?_
  rintro e u156 ⟨rfl, _, hg⟩
  rw [hK1i]
  clear hK1i
  have hn := HN.out
  have HBL157 : Hid (Below w.heap.size w u156) := HBL151.out.trans (hg.below (by omega) HBL151.out.size)
  clear HBL151
  have HW0158 : Hid (Orow2 u156 N0 N1 (.slice aw V.length cw) V) := HW0152.out.gi hg (by omega)
  clear HW0152
  have HX1159 : Hid (u156.ownsRow N2 86 2 (.slice ay zs.length cy) zs.length (sgR zs)) := sg_gi HX1154.out hg (by omega)
  clear HX1154
  have HG0160 : Hid (Orow2 u156 N3 N4 (.slice ag V.length cg) V) := HG0155.out.gi hg (by omega)
  clear HG0155
  clear hn
  clear hg HX0153
  obtain ⟨K2, hK2⟩ : ∃ K : Nat, K1 + 2 * zs.length = K := ⟨_, rfl⟩
  have HK2 : Hid (K1 + 2 * zs.length = K2) := hK2
  clear hK2
  go_wp2_with fail
  refine Calls.mono (markSG_ok (hi := N3) K1 HX1159.out HKX.out HZL.out (by omega) (by omega)) ?_
  rintro e u161 ⟨rfl, hg⟩
  rw [HK2.out]
  have hn := HN.out
  have HBL162 : Hid (Below w.heap.size w u161) := HBL157.out.trans (hg.below (by omega) HBL157.out.size)
  clear HBL157
  have HW0163 : Hid (Orow2 u161 N0 N1 (.slice aw V.length cw) V) := HW0158.out.gi hg (by omega)
  clear HW0158
  have HG0164 : Hid (Orow2 u161 N3 N4 (.slice ag V.length cg) V) := HG0160.out.gi hg (by omega)
  clear HG0160
  clear hn
  clear hg HX1159 HKX
  have hk2 : decide ((K2 : Int) < 0) = false := decide_eq_false (by omega)
  go_wp2_with fail
  refine Calls.mono (eqIS_ok HG0164.out.irow HW0163.out.irow (by have := HVL.out; omega)) ?_
  rintro e u165 ⟨rfl, hb⟩
  have HBL166 : Hid (Below w.heap.size w u165) := HBL162.out.trans (hb.mono HBL162.out.size)
  clear HBL162
  have HW0167 : Hid (Orow2 u165 N0 N1 (.slice aw V.length cw) V) := HW0163.out.gi (GI.of_below (lo := 0) (hi := 0) hb) (Or.inr (Nat.zero_le _))
  clear HW0163
  have HG0168 : Hid (Orow2 u165 N3 N4 (.slice ag V.length cg) V) := HG0164.out.gi (GI.of_below (lo := 0) (hi := 0) hb) (Or.inr (Nat.zero_le _))
  clear HG0164
  clear hb
  obtain ⟨M, hM⟩ : ∃ M : Int, (1 : Int) + (V.length : Int) = M := ⟨_, rfl⟩
  have hM0 : decide (M < 0) = false := decide_eq_false (by omega)
  have hMM : (M != M) = false := by simp
  have HM : Hid ((1 : Int) + (V.length : Int) = M) := hM
  clear hM
  go_wp2_with fail
  refine Calls.mono (markO_ok 1 HG0168.out (by have := HVL.out; omega) (by omega) (by omega)) ?_
  rintro e u169 ⟨rfl, ho, hg⟩
  rw [HM.out]
  have hn := HN.out
  have HBL170 : Hid (Below w.heap.size w u169) := HBL166.out.trans (hg.below (by omega) HBL166.out.size)
  clear HBL166
  have HW0171 : Hid (Orow2 u169 N0 N1 (.slice aw V.length cw) V) := HW0167.out.gi hg (by omega)
  clear HW0167
  clear hn
  have HY0172 : Hid (Orow2 u169 N3 N4 (.slice ag V.length cg) (mkK 1 V.length)) := ho
  clear hg ho HG0168
  go_wp2_with fail
  refine Calls.mono (heldO_ok V.length HY0172.out.irow (by have := HVL.out; omega)) ?_
  rintro e u173 ⟨rfl, hb⟩
  rw [HM.out]
  have HBL174 : Hid (Below w.heap.size w u173) := HBL170.out.trans (hb.mono HBL170.out.size)
  clear HBL170
  have HW0175 : Hid (Orow2 u173 N0 N1 (.slice aw V.length cw) V) := HW0171.out.gi (GI.of_below (lo := 0) (hi := 0) hb) (Or.inr (Nat.zero_le _))
  clear HW0171
  have HY0176 : Hid (Orow2 u173 N3 N4 (.slice ag V.length cg) (mkK 1 V.length)) := HY0172.out.gi (GI.of_below (lo := 0) (hi := 0) hb) (Or.inr (Nat.zero_le _))
  clear HY0172
  clear hb
  go_wp2_with fail
  refine Calls.mono (HTI.out _ HBL174.out) ?_
  rintro e u177 ⟨xx, rfl, ho, hb⟩
  obtain ⟨am, cm, rfl⟩ := i_sl ho
  have HBL178 : Hid (Below w.heap.size w u177) := HBL174.out.trans (hb.mono HBL174.out.size)
  clear HBL174
  have HW0179 : Hid (Orow2 u177 N0 N1 (.slice aw V.length cw) V) := HW0175.out.gi (GI.of_below (lo := 0) (hi := 0) hb) (Or.inr (Nat.zero_le _))
  clear HW0175
  have HY0180 : Hid (Orow2 u177 N3 N4 (.slice ag V.length cg) (mkK 1 V.length)) := HY0176.out.gi (GI.of_below (lo := 0) (hi := 0) hb) (Or.inr (Nat.zero_le _))
  clear HY0176
  have HT1 : Hid (Irow u177 (.slice am rs.length cm) rs) := Irow.of ho
  clear ho hb
  go_wp2_with fail
  refine Calls.mono (HTS.out _ HBL178.out) ?_
  rintro e u181 ⟨xx, rfl, ho, hb⟩
  obtain ⟨an, cn, rfl⟩ := sg_sl ho
  have HT2 : Hid (Irow u181 (.slice am rs.length cm) rs) := HT1.out.below hb
  have HBL182 : Hid (Below w.heap.size w u181) := HBL178.out.trans (hb.mono HBL178.out.size)
  clear HBL178
  have HW0183 : Hid (Orow2 u181 N0 N1 (.slice aw V.length cw) V) := HW0179.out.gi (GI.of_below (lo := 0) (hi := 0) hb) (Or.inr (Nat.zero_le _))
  clear HW0179
  have HY0184 : Hid (Orow2 u181 N3 N4 (.slice ag V.length cg) (mkK 1 V.length)) := HY0180.out.gi (GI.of_below (lo := 0) (hi := 0) hb) (Or.inr (Nat.zero_le _))
  clear HY0180
  have HT3 : Hid (SGrow u181 (.slice an zs.length cn) zs) := SGrow.of ho
  clear ho hb HT1
  go_wp2_with fail
  refine Calls.mono (HIM.out _ _ _ HT2.out HT3.out) ?_
  rintro e u185 ⟨r, rfl, ho, hb⟩
  have HBL186 : Hid (Below w.heap.size w u185) := HBL182.out.trans (hb.mono HBL182.out.size)
  clear HBL182
  have HW0187 : Hid (Orow2 u185 N0 N1 (.slice aw V.length cw) V) := HW0183.out.gi (GI.of_below (lo := 0) (hi := 0) hb) (Or.inr (Nat.zero_le _))
  clear HW0183
  have HY0188 : Hid (Orow2 u185 N3 N4 (.slice ag V.length cg) (mkK 1 V.length)) := HY0184.out.gi (GI.of_below (lo := 0) (hi := 0) hb) (Or.inr (Nat.zero_le _))
  clear HY0184
  obtain ⟨ah, ch, rfl⟩ := ho.irow.sl
  have HH : Hid (Irow u185 (.slice ah V.length ch) V) := ho.irow
  clear ho hb HT2 HT3
  go_wp2_with fail
  refine Calls.mono (eqIS_ok HH.out HW0187.out.irow (by have := HVL.out; omega)) ?_
  rintro e u189 ⟨rfl, hb⟩
  have HBL190 : Hid (Below w.heap.size w u189) := HBL186.out.trans (hb.mono HBL186.out.size)
  clear HBL186
  have HW0191 : Hid (Orow2 u189 N0 N1 (.slice aw V.length cw) V) := HW0187.out.gi (GI.of_below (lo := 0) (hi := 0) hb) (Or.inr (Nat.zero_le _))
  clear HW0187
  have HY0192 : Hid (Orow2 u189 N3 N4 (.slice ag V.length cg) (mkK 1 V.length)) := HY0188.out.gi (GI.of_below (lo := 0) (hi := 0) hb) (Or.inr (Nat.zero_le _))
  clear HY0188
  clear hb
  clear HH
  go_wp2_with fail
  refine Calls.mono (heldO_ok V.length HY0192.out.irow (by have := HVL.out; omega)) ?_
  rintro e u193 ⟨rfl, hb⟩
  rw [HM.out]
  have HBL194 : Hid (Below w.heap.size w u193) := HBL190.out.trans (hb.mono HBL190.out.size)
  clear HBL190
  have HW0195 : Hid (Orow2 u193 N0 N1 (.slice aw V.length cw) V) := HW0191.out.gi (GI.of_below (lo := 0) (hi := 0) hb) (Or.inr (Nat.zero_le _))
  clear HW0191
  have HY0196 : Hid (Orow2 u193 N3 N4 (.slice ag V.length cg) (mkK 1 V.length)) := HY0192.out.gi (GI.of_below (lo := 0) (hi := 0) hb) (Or.inr (Nat.zero_le _))
  clear HY0192
  clear hb
  go_wp2
  go_ret
  exact ⟨rfl, HBL194.out⟩
end Go.Proofs.Ythncnffnjjclfab
