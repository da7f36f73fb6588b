import Derived.Test.YtcglpigmellfcaaEa9
namespace Go.Proofs.Ytcglpigmellfcaa
open Go.ChangeShapes Go.WideShapes Go.ChangeAt Go.RowKit

theorem bxc {u : World} {b t : Nat} {cs : Array Value} (h : u.heap[b]? = some (.cells cs t (0, 0))) (k : Nat) (v : Value) (hv : cs[k]? = some v) : u.cell? ⟨b, k, none⟩ = some v := by
  simp [World.cell?, h, hv]
set_option maxRecDepth 100000 in
set_option maxHeartbeats 16000000 in
theorem walkRD {w : World} {v : Value} {zs : List RK} (h : RKrow w v zs) (hm : zs.length ≤ maxLen) (q : Int) :
    Calls Try.prog 5 #[v, .int .i64 q] w fun e w' => e = .returned (.bool true) ∧ Below w.heap.size w w' := by
  have HR : Hid (RKrow w v zs) := h
  obtain ⟨ao, cap, rfl⟩ := h.sl
  clear h
  by_cases hs : (1048576 : Int) < (zs.length : Int)
  · have hS := szRKS_any ao zs.length cap 1048576 w (by omega) (by omega) hm
    rw [if_pos hs] at hS
    have HS : Hid _ := hS
    clear hS hs hm
    go_enter Try.func5, Try.ntmps5
    go_wp2_with fail
    refine Calls.mono HS.out ?_
    rintro e u1 ⟨rfl, rfl⟩
    go_wp2
    go_ret
    exact ⟨rfl, Below.refl _ _⟩
  have hS := szRKS_any ao zs.length cap 1048576 w (by omega) (by omega) hm
  rw [if_neg hs] at hS
  have HSZ : Hid _ := hS
  have HLN : Hid (zs.length ≤ 1048576) := (show zs.length ≤ 1048576 by omega)
  have hq9 : ¬ (1048576 : Int) - (zs.length : Int) < 0 := by omega
  clear hS hs hm
  generalize (1048576 : Int) - (zs.length : Int) = q9 at *
  have HTS : Hid (∀ u, Below w.heap.size w u → Calls Try.prog 16 #[.slice ao zs.length cap] u fun e w' => ∃ x, e = .returned x ∧ w'.ownsRow u.heap.size 69 3 x zs.length (rkR zs) ∧ Below u.heap.size u w') := fun u hu => toRKS_any (HR.out.below hu) HLN.out
  have HSP : Hid (∀ u x, RKrow u x zs → Calls Try.prog 19 #[x, .int .i64 q] u fun e w' => ∃ r, e = .returned r ∧ RtAns w' u.heap.size zs q r ∧ Below u.heap.size u w') := fun u x hx => specRD_any hx HLN.out q
  have HIM : Hid (∀ u x, RKrow u x zs → Calls Try.prog 20 #[x, .int .i64 q] u fun e w' => ∃ r, e = .returned r ∧ RtAns w' u.heap.size zs q r ∧ Below u.heap.size u w') := fun u x hx => implRD_any hx HLN.out q
  have hSl := rtS_len zs q
  have hMl := rtM_len zs q
  obtain ⟨S, hSe⟩ : ∃ S, rtS zs q = S := ⟨_, rfl⟩
  obtain ⟨M, hMe⟩ : ∃ M, rtM zs q = M := ⟨_, rfl⟩
  obtain ⟨C, hCe⟩ : ∃ C, rtC zs q = C := ⟨_, rfl⟩
  have HANS : Hid (∀ (w : World) (B N : Nat) (r : Value), RtAns w B zs q r → w.heap.size ≤ N → B ≤ N → ∃ sa ca ma cm l1 h1 l2 h2, r = .agg #[.int .i64 C, .slice sa S.length ca, .slice ma M.length cm] ∧ Orow2 w l1 h1 (.slice sa S.length ca) S ∧ Orow2 w l2 h2 (.slice ma M.length cm) M ∧ (h1 ≤ l2 ∨ h2 ≤ l1) ∧ B ≤ l1 ∧ l1 ≤ h1 ∧ h1 ≤ N ∧ B ≤ l2 ∧ l2 ≤ h2 ∧ h2 ≤ N) := fun w B N r h1 h2 h3 => (by
    have h9 := h1.rows h2 h3
    rw [hSe, hMe, hCe] at h9
    exact h9)
  rw [hSe] at hSl
  rw [hMe] at hMl
  have HSL : Hid (S.length ≤ 1000) := hSl
  have HML : Hid (M.length ≤ 1000) := hMl
  clear hSe hMe hCe hSl hMl HR
  go_enter Try.func5, Try.ntmps5
  have HBL101 : Hid (Below w.heap.size w w) := Below.refl _ _
  go_wp2_with fail
  refine Calls.mono HSZ.out ?_
  rintro e u1 ⟨rfl, rfl⟩
  go_wp2_with fail
  refine Calls.mono (HTS.out _ HBL101.out) ?_
  rintro e u102 ⟨xx, rfl, ho, hb⟩
  obtain ⟨aj, cj, rfl⟩ := rk_sl ho
  have HBL103 : Hid (Below u1.heap.size u1 u102) := HBL101.out.trans (hb.mono HBL101.out.size)
  clear HBL101
  have HT3 : Hid (RKrow u102 (.slice aj zs.length cj) zs) := RKrow.of ho
  clear ho hb
  obtain ⟨N0, hN0⟩ : ∃ n, u102.heap.size = n := ⟨_, rfl⟩
  have HN0 : Hid (u1.heap.size ≤ N0) := (show u1.heap.size ≤ N0 by have := HBL103.out.size; omega)
  go_wp2_with fail
  refine Calls.mono (HSP.out _ _ HT3.out) ?_
  rintro e u104 ⟨r, rfl, ho, hb⟩
  rw [hN0] at ho
  have hs1 := hb.size
  rw [hN0] at hs1
  have HBL105 : Hid (Below u1.heap.size u1 u104) := HBL103.out.trans (hb.mono HBL103.out.size)
  clear HBL103
  obtain ⟨N1, hN1⟩ : ∃ n, u104.heap.size = n := ⟨_, rfl⟩
  rw [hN1] at hs1
  obtain ⟨wsa, wca, wma, wcm, wl1, wh1, wl2, wh2, rfl, hw1, hw2, hwd, hwb⟩ := HANS.out _ _ _ _ ho (by omega) hs1
  have HN1 : Hid (u1.heap.size ≤ N0 ∧ N0 ≤ N1 ∧ N0 ≤ wl1 ∧ wl1 ≤ wh1 ∧ wh1 ≤ N1 ∧ N0 ≤ wl2 ∧ wl2 ≤ wh2 ∧ wh2 ≤ N1) := ⟨HN0.out, hs1, hwb⟩
  have HW1106 : Hid (Orow2 u104 wl1 wh1 (.slice wsa S.length wca) S) := hw1
  have HW2107 : Hid (Orow2 u104 wl2 wh2 (.slice wma M.length wcm) M) := hw2
  clear ho hb hs1 hN0 HT3 HN0 hw1 hw2 hwb hwd
  have HBL108 : Hid (Below u1.heap.size u1 (u104.alloc (.cells #[.int .i64 C, .slice wsa S.length wca, .slice wma M.length wcm] 38))) := HBL105.out.alloc HBL105.out.size _
  clear HBL105
  have HW1109 : Hid (Orow2 (u104.alloc (.cells #[.int .i64 C, .slice wsa S.length wca, .slice wma M.length wcm] 38)) wl1 wh1 (.slice wsa S.length wca) S) := HW1106.out.gi (GI.of_below (lo := 0) (hi := 0) (bx1 _ _)) (Or.inr (Nat.zero_le _))
  clear HW1106
  have HW2110 : Hid (Orow2 (u104.alloc (.cells #[.int .i64 C, .slice wsa S.length wca, .slice wma M.length wcm] 38)) wl2 wh2 (.slice wma M.length wcm) M) := HW2107.out.gi (GI.of_below (lo := 0) (hi := 0) (bx1 _ _)) (Or.inr (Nat.zero_le _))
  clear HW2107
  have HB6111 : Hid ((u104.alloc (.cells #[.int .i64 C, .slice wsa S.length wca, .slice wma M.length wcm] 38)).heap[N1]? = some (.cells #[.int .i64 C, .slice wsa S.length wca, .slice wma M.length wcm] 38 (0, 0))) := (by have h9 := heap_new u104 (.cells #[.int .i64 C, .slice wsa S.length wca, .slice wma M.length wcm] 38); rw [hN1] at h9; exact h9)
  have hz112 : (u104.alloc (.cells #[.int .i64 C, .slice wsa S.length wca, .slice wma M.length wcm] 38)).heap.size = N1 + 1 := by simp [hN1]
  go_upto_region 6 with fail
  try rw [hN1]
  generalize (u104.alloc (.cells #[.int .i64 C, .slice wsa S.length wca, .slice wma M.length wcm] 38)) = u113 at *
  go_wp2_with fail
  refine Calls.mono (HTS.out _ HBL108.out) ?_
  rintro e u114 ⟨xx, rfl, ho, hb⟩
  obtain ⟨ax, cx, rfl⟩ := rk_sl ho
  have hs1 := hb.size
  rw [hz112] at hs1
  rw [hz112] at ho
  have HBL115 : Hid (Below u1.heap.size u1 u114) := HBL108.out.trans (hb.mono HBL108.out.size)
  clear HBL108
  have HW1116 : Hid (Orow2 u114 wl1 wh1 (.slice wsa S.length wca) S) := HW1109.out.gi (GI.of_below (lo := 0) (hi := 0) hb) (Or.inr (Nat.zero_le _))
  clear HW1109
  have HW2117 : Hid (Orow2 u114 wl2 wh2 (.slice wma M.length wcm) M) := HW2110.out.gi (GI.of_below (lo := 0) (hi := 0) hb) (Or.inr (Nat.zero_le _))
  clear HW2110
  have HB6118 : Hid (u114.heap[N1]? = some (.cells #[.int .i64 C, .slice wsa S.length wca, .slice wma M.length wcm] 38 (0, 0))) := (hb.block _ (Array.getElem?_eq_some_iff.1 HB6111.out).1).trans HB6111.out
  clear HB6111
  obtain ⟨N2, hN2⟩ : ∃ n, u114.heap.size = n := ⟨_, rfl⟩
  rw [hN2] at hs1
  have HN2 : Hid (u1.heap.size ≤ N0 ∧ N0 ≤ N1 ∧ N0 ≤ wl1 ∧ wl1 ≤ wh1 ∧ wh1 ≤ N1 ∧ N0 ≤ wl2 ∧ wl2 ≤ wh2 ∧ wh2 ≤ N1 ∧ N1 + 1 ≤ N2) := ⟨HN1.out.1, HN1.out.2.1, HN1.out.2.2.1, HN1.out.2.2.2.1, HN1.out.2.2.2.2.1, HN1.out.2.2.2.2.2.1, HN1.out.2.2.2.2.2.2.1, HN1.out.2.2.2.2.2.2.2, hs1⟩
  have HX0119 : Hid (u114.ownsRow (N1 + 1) 69 3 (.slice ax zs.length cx) zs.length (rkR zs)) := ho
  have HKX : Hid (∀ k, (Value.slice ax zs.length cx).ownBlock = some k → k < N2) := (fun k hk => by have := (ho.lt k hk).2; omega)
  clear ho hb hs1 hN1 HN1 hz112
  go_wp2_with fail
  refine Calls.mono (HIM.out _ _ (RKrow.of HX0119.out)) ?_
  rintro e u120 ⟨r, rfl, ho, hb⟩
  rw [hN2] at ho
  have hs1 := hb.size
  rw [hN2] at hs1
  have HBL121 : Hid (Below u1.heap.size u1 u120) := HBL115.out.trans (hb.mono HBL115.out.size)
  clear HBL115
  have HW1122 : Hid (Orow2 u120 wl1 wh1 (.slice wsa S.length wca) S) := HW1116.out.gi (GI.of_below (lo := 0) (hi := 0) hb) (Or.inr (Nat.zero_le _))
  clear HW1116
  have HW2123 : Hid (Orow2 u120 wl2 wh2 (.slice wma M.length wcm) M) := HW2117.out.gi (GI.of_below (lo := 0) (hi := 0) hb) (Or.inr (Nat.zero_le _))
  clear HW2117
  have HB6124 : Hid (u120.heap[N1]? = some (.cells #[.int .i64 C, .slice wsa S.length wca, .slice wma M.length wcm] 38 (0, 0))) := (hb.block _ (Array.getElem?_eq_some_iff.1 HB6118.out).1).trans HB6118.out
  clear HB6118
  have HX0125 : Hid (u120.ownsRow (N1 + 1) 69 3 (.slice ax zs.length cx) zs.length (rkR zs)) := own_below HX0119.out hb
  clear HX0119
  obtain ⟨N3, hN3⟩ : ∃ n, u120.heap.size = n := ⟨_, rfl⟩
  rw [hN3] at hs1
  obtain ⟨gsa, gca, gma, gcm, gl1, gh1, gl2, gh2, rfl, hw1, hw2, hwd, hwb⟩ := HANS.out _ _ _ _ ho (by omega) hs1
  have HN : Hid (u1.heap.size ≤ N0 ∧ N0 ≤ N1 ∧ N0 ≤ wl1 ∧ wl1 ≤ wh1 ∧ wh1 ≤ N1 ∧ N0 ≤ wl2 ∧ wl2 ≤ wh2 ∧ wh2 ≤ N1 ∧ N1 + 1 ≤ N2 ∧ N2 ≤ N3 ∧ N2 ≤ gl1 ∧ gl1 ≤ gh1 ∧ gh1 ≤ N3 ∧ N2 ≤ gl2 ∧ gl2 ≤ gh2 ∧ gh2 ≤ N3) := (by have hn := HN2.out; show _ ∧ _; omega)
  have HGD : Hid (gh1 ≤ gl2 ∨ gh2 ≤ gl1) := hwd
  have HG1126 : Hid (Orow2 u120 gl1 gh1 (.slice gsa S.length gca) S) := hw1
  have HG2127 : Hid (Orow2 u120 gl2 gh2 (.slice gma M.length gcm) M) := hw2
  clear ho hb hs1 hN2 HN2 hw1 hw2 hwb hwd
  have HBL128 : Hid (Below u1.heap.size u1 (u120.alloc (.cells #[.int .i64 C, .slice gsa S.length gca, .slice gma M.length gcm] 38))) := HBL121.out.alloc HBL121.out.size _
  clear HBL121
  have HW1129 : Hid (Orow2 (u120.alloc (.cells #[.int .i64 C, .slice gsa S.length gca, .slice gma M.length gcm] 38)) wl1 wh1 (.slice wsa S.length wca) S) := HW1122.out.gi (GI.of_below (lo := 0) (hi := 0) (bx1 _ _)) (Or.inr (Nat.zero_le _))
  clear HW1122
  have HW2130 : Hid (Orow2 (u120.alloc (.cells #[.int .i64 C, .slice gsa S.length gca, .slice gma M.length gcm] 38)) wl2 wh2 (.slice wma M.length wcm) M) := HW2123.out.gi (GI.of_below (lo := 0) (hi := 0) (bx1 _ _)) (Or.inr (Nat.zero_le _))
  clear HW2123
  have HB6131 : Hid ((u120.alloc (.cells #[.int .i64 C, .slice gsa S.length gca, .slice gma M.length gcm] 38)).heap[N1]? = some (.cells #[.int .i64 C, .slice wsa S.length wca, .slice wma M.length wcm] 38 (0, 0))) := ((bx1 _ _).block _ (Array.getElem?_eq_some_iff.1 HB6124.out).1).trans HB6124.out
  clear HB6124
  have HX0132 : Hid ((u120.alloc (.cells #[.int .i64 C, .slice gsa S.length gca, .slice gma M.length gcm] 38)).ownsRow (N1 + 1) 69 3 (.slice ax zs.length cx) zs.length (rkR zs)) := own_below HX0125.out (bx1 _ _)
  clear HX0125
  have HG1133 : Hid (Orow2 (u120.alloc (.cells #[.int .i64 C, .slice gsa S.length gca, .slice gma M.length gcm] 38)) gl1 gh1 (.slice gsa S.length gca) S) := HG1126.out.gi (GI.of_below (lo := 0) (hi := 0) (bx1 _ _)) (Or.inr (Nat.zero_le _))
  clear HG1126
  have HG2134 : Hid (Orow2 (u120.alloc (.cells #[.int .i64 C, .slice gsa S.length gca, .slice gma M.length gcm] 38)) gl2 gh2 (.slice gma M.length gcm) M) := HG2127.out.gi (GI.of_below (lo := 0) (hi := 0) (bx1 _ _)) (Or.inr (Nat.zero_le _))
  clear HG2127
  have HB8135 : Hid ((u120.alloc (.cells #[.int .i64 C, .slice gsa S.length gca, .slice gma M.length gcm] 38)).heap[N3]? = some (.cells #[.int .i64 C, .slice gsa S.length gca, .slice gma M.length gcm] 38 (0, 0))) := (by have h9 := heap_new u120 (.cells #[.int .i64 C, .slice gsa S.length gca, .slice gma M.length gcm] 38); rw [hN3] at h9; exact h9)
  have hz136 : (u120.alloc (.cells #[.int .i64 C, .slice gsa S.length gca, .slice gma M.length gcm] 38)).heap.size = N3 + 1 := by simp [hN3]
  go_upto_region 8 with fail
  try rw [hN3]
  generalize (u120.alloc (.cells #[.int .i64 C, .slice gsa S.length gca, .slice gma M.length gcm] 38)) = u137 at *
  have HS3 : Hid (N3 < u137.heap.size) := (show N3 < u137.heap.size by omega)
  clear hz136 hN3
  have p0 := bxc HB8135.out 0 _ rfl
  have p1 := bxc HB8135.out 1 _ rfl
  have p2 := bxc HB8135.out 2 _ rfl
  have pl := (Array.getElem?_eq_some_iff.1 HB8135.out).1
  have q0 := bxc HB6131.out 0 _ rfl
  have q1 := bxc HB6131.out 1 _ rfl
  have q2 := bxc HB6131.out 2 _ rfl
  have ql := (Array.getElem?_eq_some_iff.1 HB6131.out).1
  go_wp2_with fail
  refine Calls.mono (eqRR_ok C HG1133.out.irow HG2134.out.irow HW1129.out.irow HW2130.out.irow HSL.out HML.out) ?_
  rintro e u138 ⟨rfl, hb⟩
  have HBL139 : Hid (Below u1.heap.size u1 u138) := HBL128.out.trans (hb.mono HBL128.out.size)
  clear HBL128
  have HW1140 : Hid (Orow2 u138 wl1 wh1 (.slice wsa S.length wca) S) := HW1129.out.gi (GI.of_below (lo := 0) (hi := 0) hb) (Or.inr (Nat.zero_le _))
  clear HW1129
  have HW2141 : Hid (Orow2 u138 wl2 wh2 (.slice wma M.length wcm) M) := HW2130.out.gi (GI.of_below (lo := 0) (hi := 0) hb) (Or.inr (Nat.zero_le _))
  clear HW2130
  have HB6142 : Hid (u138.heap[N1]? = some (.cells #[.int .i64 C, .slice wsa S.length wca, .slice wma M.length wcm] 38 (0, 0))) := (hb.block _ (Array.getElem?_eq_some_iff.1 HB6131.out).1).trans HB6131.out
  clear HB6131
  have HX0143 : Hid (u138.ownsRow (N1 + 1) 69 3 (.slice ax zs.length cx) zs.length (rkR zs)) := own_below HX0132.out hb
  clear HX0132
  have HG1144 : Hid (Orow2 u138 gl1 gh1 (.slice gsa S.length gca) S) := HG1133.out.gi (GI.of_below (lo := 0) (hi := 0) hb) (Or.inr (Nat.zero_le _))
  clear HG1133
  have HG2145 : Hid (Orow2 u138 gl2 gh2 (.slice gma M.length gcm) M) := HG2134.out.gi (GI.of_below (lo := 0) (hi := 0) hb) (Or.inr (Nat.zero_le _))
  clear HG2134
  have HB8146 : Hid (u138.heap[N3]? = some (.cells #[.int .i64 C, .slice gsa S.length gca, .slice gma M.length gcm] 38 (0, 0))) := (hb.block _ (Array.getElem?_eq_some_iff.1 HB8135.out).1).trans HB8135.out
  clear HB8135
  clear p0 p1 p2 pl
  clear q0 q1 q2 ql
  clear hb
  go_wp2_with fail
  refine Calls.mono (HTS.out _ HBL139.out) ?_
  rintro e u147 ⟨xx, rfl, ho, hb⟩
  obtain ⟨al, cl, rfl⟩ := rk_sl ho
  have HBL148 : Hid (Below u1.heap.size u1 u147) := HBL139.out.trans (hb.mono HBL139.out.size)
  clear HBL139
  have HW1149 : Hid (Orow2 u147 wl1 wh1 (.slice wsa S.length wca) S) := HW1140.out.gi (GI.of_below (lo := 0) (hi := 0) hb) (Or.inr (Nat.zero_le _))
  clear HW1140
  have HW2150 : Hid (Orow2 u147 wl2 wh2 (.slice wma M.length wcm) M) := HW2141.out.gi (GI.of_below (lo := 0) (hi := 0) hb) (Or.inr (Nat.zero_le _))
  clear HW2141
  have HB6151 : Hid (u147.heap[N1]? = some (.cells #[.int .i64 C, .slice wsa S.length wca, .slice wma M.length wcm] 38 (0, 0))) := (hb.block _ (Array.getElem?_eq_some_iff.1 HB6142.out).1).trans HB6142.out
  clear HB6142
  have HX0152 : Hid (u147.ownsRow (N1 + 1) 69 3 (.slice ax zs.length cx) zs.length (rkR zs)) := own_below HX0143.out hb
  clear HX0143
  have HG1153 : Hid (Orow2 u147 gl1 gh1 (.slice gsa S.length gca) S) := HG1144.out.gi (GI.of_below (lo := 0) (hi := 0) hb) (Or.inr (Nat.zero_le _))
  clear HG1144
  have HG2154 : Hid (Orow2 u147 gl2 gh2 (.slice gma M.length gcm) M) := HG2145.out.gi (GI.of_below (lo := 0) (hi := 0) hb) (Or.inr (Nat.zero_le _))
  clear HG2145
  have HB8155 : Hid (u147.heap[N3]? = some (.cells #[.int .i64 C, .slice gsa S.length gca, .slice gma M.length gcm] 38 (0, 0))) := (hb.block _ (Array.getElem?_eq_some_iff.1 HB8146.out).1).trans HB8146.out
  clear HB8146
  have HK1 : Hid (RKrow u147 (.slice al zs.length cl) zs) := RKrow.of ho
  clear ho hb
  go_wp2_with fail
  refine Calls.mono (eqRKS_ok (RKrow.of HX0152.out) HK1.out HLN.out) ?_
  rintro e u156 ⟨rfl, hb⟩
  have HBL157 : Hid (Below u1.heap.size u1 u156) := HBL148.out.trans (hb.mono HBL148.out.size)
  clear HBL148
  have HW1158 : Hid (Orow2 u156 wl1 wh1 (.slice wsa S.length wca) S) := HW1149.out.gi (GI.of_below (lo := 0) (hi := 0) hb) (Or.inr (Nat.zero_le _))
  clear HW1149
  have HW2159 : Hid (Orow2 u156 wl2 wh2 (.slice wma M.length wcm) M) := HW2150.out.gi (GI.of_below (lo := 0) (hi := 0) hb) (Or.inr (Nat.zero_le _))
  clear HW2150
  have HB6160 : Hid (u156.heap[N1]? = some (.cells #[.int .i64 C, .slice wsa S.length wca, .slice wma M.length wcm] 38 (0, 0))) := (hb.block _ (Array.getElem?_eq_some_iff.1 HB6151.out).1).trans HB6151.out
  clear HB6151
  have HX0161 : Hid (u156.ownsRow (N1 + 1) 69 3 (.slice ax zs.length cx) zs.length (rkR zs)) := own_below HX0152.out hb
  clear HX0152
  have HG1162 : Hid (Orow2 u156 gl1 gh1 (.slice gsa S.length gca) S) := HG1153.out.gi (GI.of_below (lo := 0) (hi := 0) hb) (Or.inr (Nat.zero_le _))
  clear HG1153
  have HG2163 : Hid (Orow2 u156 gl2 gh2 (.slice gma M.length gcm) M) := HG2154.out.gi (GI.of_below (lo := 0) (hi := 0) hb) (Or.inr (Nat.zero_le _))
  clear HG2154
  have HB8164 : Hid (u156.heap[N3]? = some (.cells #[.int .i64 C, .slice gsa S.length gca, .slice gma M.length gcm] 38 (0, 0))) := (hb.block _ (Array.getElem?_eq_some_iff.1 HB8155.out).1).trans HB8155.out
  clear HB8155
  clear hb HK1
  go_wp2_with fail
  refine Calls.mono (markRK_ok (hi := N2) HX0161.out HKX.out HLN.out) ?_
  rintro e u165 ⟨K2, rfl, hk2, hg⟩
  have hn := HN.out
  have HBL166 : Hid (Below u1.heap.size u1 u165) := HBL157.out.trans (hg.below (by omega) HBL157.out.size)
  clear HBL157
  have HW1167 : Hid (Orow2 u165 wl1 wh1 (.slice wsa S.length wca) S) := HW1158.out.gi hg (by omega)
  clear HW1158
  have HW2168 : Hid (Orow2 u165 wl2 wh2 (.slice wma M.length wcm) M) := HW2159.out.gi hg (by omega)
  clear HW2159
  have HB6169 : Hid (u165.heap[N1]? = some (.cells #[.int .i64 C, .slice wsa S.length wca, .slice wma M.length wcm] 38 (0, 0))) := (hg.block _ (Array.getElem?_eq_some_iff.1 HB6160.out).1 (by omega)).trans HB6160.out
  clear HB6160
  have HG1170 : Hid (Orow2 u165 gl1 gh1 (.slice gsa S.length gca) S) := HG1162.out.gi hg (by omega)
  clear HG1162
  have HG2171 : Hid (Orow2 u165 gl2 gh2 (.slice gma M.length gcm) M) := HG2163.out.gi hg (by omega)
  clear HG2163
  have HB8172 : Hid (u165.heap[N3]? = some (.cells #[.int .i64 C, .slice gsa S.length gca, .slice gma M.length gcm] 38 (0, 0))) := (hg.block _ (Array.getElem?_eq_some_iff.1 HB8164.out).1 (by omega)).trans HB8164.out
  clear HB8164
  clear hn
  clear hg HX0161 HKX
  have hkd : decide (K2 < 0) = false := decide_eq_false (by omega)
  have p0 := bxc HB8172.out 0 _ rfl
  have p1 := bxc HB8172.out 1 _ rfl
  have p2 := bxc HB8172.out 2 _ rfl
  have pl := (Array.getElem?_eq_some_iff.1 HB8172.out).1
  have q0 := bxc HB6169.out 0 _ rfl
  have q1 := bxc HB6169.out 1 _ rfl
  have q2 := bxc HB6169.out 2 _ rfl
  have ql := (Array.getElem?_eq_some_iff.1 HB6169.out).1
  go_wp2_with fail
  refine Calls.mono (eqRR_ok C HG1170.out.irow HG2171.out.irow HW1167.out.irow HW2168.out.irow HSL.out HML.out) ?_
  rintro e u173 ⟨rfl, hb⟩
  have HBL174 : Hid (Below u1.heap.size u1 u173) := HBL166.out.trans (hb.mono HBL166.out.size)
  clear HBL166
  have HW1175 : Hid (Orow2 u173 wl1 wh1 (.slice wsa S.length wca) S) := HW1167.out.gi (GI.of_below (lo := 0) (hi := 0) hb) (Or.inr (Nat.zero_le _))
  clear HW1167
  have HW2176 : Hid (Orow2 u173 wl2 wh2 (.slice wma M.length wcm) M) := HW2168.out.gi (GI.of_below (lo := 0) (hi := 0) hb) (Or.inr (Nat.zero_le _))
  clear HW2168
  have HB6177 : Hid (u173.heap[N1]? = some (.cells #[.int .i64 C, .slice wsa S.length wca, .slice wma M.length wcm] 38 (0, 0))) := (hb.block _ (Array.getElem?_eq_some_iff.1 HB6169.out).1).trans HB6169.out
  clear HB6169
  have HG1178 : Hid (Orow2 u173 gl1 gh1 (.slice gsa S.length gca) S) := HG1170.out.gi (GI.of_below (lo := 0) (hi := 0) hb) (Or.inr (Nat.zero_le _))
  clear HG1170
  have HG2179 : Hid (Orow2 u173 gl2 gh2 (.slice gma M.length gcm) M) := HG2171.out.gi (GI.of_below (lo := 0) (hi := 0) hb) (Or.inr (Nat.zero_le _))
  clear HG2171
  have HB8180 : Hid (u173.heap[N3]? = some (.cells #[.int .i64 C, .slice gsa S.length gca, .slice gma M.length gcm] 38 (0, 0))) := (hb.block _ (Array.getElem?_eq_some_iff.1 HB8172.out).1).trans HB8172.out
  clear HB8172
  clear p0 p1 p2 pl
  clear q0 q1 q2 ql
  clear hb
  obtain ⟨Z, hZ⟩ : ∃ Z : Int, (1 : Int) + (S.length : Int) + (M.length : Int) = Z := ⟨_, rfl⟩
  have hZ0 : decide (Z < 0) = false := decide_eq_false (by omega)
  have hZZ : (Z != Z) = false := by simp
  have HZ : Hid ((1 : Int) + (S.length : Int) + (M.length : Int) = Z) := hZ
  clear hZ
  have p0 := bxc HB8180.out 0 _ rfl
  have p1 := bxc HB8180.out 1 _ rfl
  have p2 := bxc HB8180.out 2 _ rfl
  have pl := (Array.getElem?_eq_some_iff.1 HB8180.out).1
  have HSG : Hid (N3 ≤ u173.heap.size) := Nat.le_of_lt (Array.getElem?_eq_some_iff.1 HB8180.out).1
  go_wp2_with fail
  refine Calls.mono (markRR_ok (lo := N2) (hi := N3) C HG1178.out HG2179.out HGD.out (by have hn := HN.out; have h9 := HSG.out; omega) HSL.out HML.out) ?_
  rintro e u181 ⟨rfl, ho1, ho2, hg⟩
  rw [HZ.out]
  clear p0 p1 p2 pl
  have hn := HN.out
  have HBL182 : Hid (Below u1.heap.size u1 u181) := HBL174.out.trans (hg.below (by omega) HBL174.out.size)
  clear HBL174
  have HW1183 : Hid (Orow2 u181 wl1 wh1 (.slice wsa S.length wca) S) := HW1175.out.gi hg (by omega)
  clear HW1175
  have HW2184 : Hid (Orow2 u181 wl2 wh2 (.slice wma M.length wcm) M) := HW2176.out.gi hg (by omega)
  clear HW2176
  have HB6185 : Hid (u181.heap[N1]? = some (.cells #[.int .i64 C, .slice wsa S.length wca, .slice wma M.length wcm] 38 (0, 0))) := (hg.block _ (Array.getElem?_eq_some_iff.1 HB6177.out).1 (by omega)).trans HB6177.out
  clear HB6177
  have HB8186 : Hid (u181.heap[N3]? = some (.cells #[.int .i64 C, .slice gsa S.length gca, .slice gma M.length gcm] 38 (0, 0))) := (hg.block _ (Array.getElem?_eq_some_iff.1 HB8180.out).1 (by omega)).trans HB8180.out
  clear HB8180
  clear hn
  have HY1187 : Hid (Orow2 u181 gl1 gh1 (.slice gsa S.length gca) (mkK 1 S.length)) := ho1
  have HY2188 : Hid (Orow2 u181 gl2 gh2 (.slice gma M.length gcm) (mkK (1 + (S.length : Int)) M.length)) := ho2
  clear hg ho1 ho2 HG1178 HG2179 HSG
  have p0 := bxc HB8186.out 0 _ rfl
  have p1 := bxc HB8186.out 1 _ rfl
  have p2 := bxc HB8186.out 2 _ rfl
  have pl := (Array.getElem?_eq_some_iff.1 HB8186.out).1
  go_wp2_with fail
  refine Calls.mono (heldRR_ok C HY1187.out.irow HY2188.out.irow HSL.out HML.out) ?_
  rintro e u189 ⟨rfl, hb⟩
  rw [HZ.out]
  have HBL190 : Hid (Below u1.heap.size u1 u189) := HBL182.out.trans (hb.mono HBL182.out.size)
  clear HBL182
  have HW1191 : Hid (Orow2 u189 wl1 wh1 (.slice wsa S.length wca) S) := HW1183.out.gi (GI.of_below (lo := 0) (hi := 0) hb) (Or.inr (Nat.zero_le _))
  clear HW1183
  have HW2192 : Hid (Orow2 u189 wl2 wh2 (.slice wma M.length wcm) M) := HW2184.out.gi (GI.of_below (lo := 0) (hi := 0) hb) (Or.inr (Nat.zero_le _))
  clear HW2184
  have HB6193 : Hid (u189.heap[N1]? = some (.cells #[.int .i64 C, .slice wsa S.length wca, .slice wma M.length wcm] 38 (0, 0))) := (hb.block _ (Array.getElem?_eq_some_iff.1 HB6185.out).1).trans HB6185.out
  clear HB6185
  have HB8194 : Hid (u189.heap[N3]? = some (.cells #[.int .i64 C, .slice gsa S.length gca, .slice gma M.length gcm] 38 (0, 0))) := (hb.block _ (Array.getElem?_eq_some_iff.1 HB8186.out).1).trans HB8186.out
  clear HB8186
  have HY1195 : Hid (Orow2 u189 gl1 gh1 (.slice gsa S.length gca) (mkK 1 S.length)) := HY1187.out.gi (GI.of_below (lo := 0) (hi := 0) hb) (Or.inr (Nat.zero_le _))
  clear HY1187
  have HY2196 : Hid (Orow2 u189 gl2 gh2 (.slice gma M.length gcm) (mkK (1 + (S.length : Int)) M.length)) := HY2188.out.gi (GI.of_below (lo := 0) (hi := 0) hb) (Or.inr (Nat.zero_le _))
  clear HY2188
  clear p0 p1 p2 pl
  clear hb
  go_wp2_with fail
  refine Calls.mono (HTS.out _ HBL190.out) ?_
  rintro e u197 ⟨xx, rfl, ho, hb⟩
  obtain ⟨an, cn, rfl⟩ := rk_sl ho
  have HBL198 : Hid (Below u1.heap.size u1 u197) := HBL190.out.trans (hb.mono HBL190.out.size)
  clear HBL190
  have HW1199 : Hid (Orow2 u197 wl1 wh1 (.slice wsa S.length wca) S) := HW1191.out.gi (GI.of_below (lo := 0) (hi := 0) hb) (Or.inr (Nat.zero_le _))
  clear HW1191
  have HW2200 : Hid (Orow2 u197 wl2 wh2 (.slice wma M.length wcm) M) := HW2192.out.gi (GI.of_below (lo := 0) (hi := 0) hb) (Or.inr (Nat.zero_le _))
  clear HW2192
  have HB6201 : Hid (u197.heap[N1]? = some (.cells #[.int .i64 C, .slice wsa S.length wca, .slice wma M.length wcm] 38 (0, 0))) := (hb.block _ (Array.getElem?_eq_some_iff.1 HB6193.out).1).trans HB6193.out
  clear HB6193
  have HB8202 : Hid (u197.heap[N3]? = some (.cells #[.int .i64 C, .slice gsa S.length gca, .slice gma M.length gcm] 38 (0, 0))) := (hb.block _ (Array.getElem?_eq_some_iff.1 HB8194.out).1).trans HB8194.out
  clear HB8194
  have HY1203 : Hid (Orow2 u197 gl1 gh1 (.slice gsa S.length gca) (mkK 1 S.length)) := HY1195.out.gi (GI.of_below (lo := 0) (hi := 0) hb) (Or.inr (Nat.zero_le _))
  clear HY1195
  have HY2204 : Hid (Orow2 u197 gl2 gh2 (.slice gma M.length gcm) (mkK (1 + (S.length : Int)) M.length)) := HY2196.out.gi (GI.of_below (lo := 0) (hi := 0) hb) (Or.inr (Nat.zero_le _))
  clear HY2196
  have HT3 : Hid (RKrow u197 (.slice an zs.length cn) zs) := RKrow.of ho
  clear ho hb
  go_wp2_with fail
  refine Calls.mono (HIM.out _ _ HT3.out) ?_
  rintro e u205 ⟨r, rfl, ho, hb⟩
  have hs1 := hb.size
  have HBL206 : Hid (Below u1.heap.size u1 u205) := HBL198.out.trans (hb.mono HBL198.out.size)
  clear HBL198
  have HW1207 : Hid (Orow2 u205 wl1 wh1 (.slice wsa S.length wca) S) := HW1199.out.gi (GI.of_below (lo := 0) (hi := 0) hb) (Or.inr (Nat.zero_le _))
  clear HW1199
  have HW2208 : Hid (Orow2 u205 wl2 wh2 (.slice wma M.length wcm) M) := HW2200.out.gi (GI.of_below (lo := 0) (hi := 0) hb) (Or.inr (Nat.zero_le _))
  clear HW2200
  have HB6209 : Hid (u205.heap[N1]? = some (.cells #[.int .i64 C, .slice wsa S.length wca, .slice wma M.length wcm] 38 (0, 0))) := (hb.block _ (Array.getElem?_eq_some_iff.1 HB6201.out).1).trans HB6201.out
  clear HB6201
  have HB8210 : Hid (u205.heap[N3]? = some (.cells #[.int .i64 C, .slice gsa S.length gca, .slice gma M.length gcm] 38 (0, 0))) := (hb.block _ (Array.getElem?_eq_some_iff.1 HB8202.out).1).trans HB8202.out
  clear HB8202
  have HY1211 : Hid (Orow2 u205 gl1 gh1 (.slice gsa S.length gca) (mkK 1 S.length)) := HY1203.out.gi (GI.of_below (lo := 0) (hi := 0) hb) (Or.inr (Nat.zero_le _))
  clear HY1203
  have HY2212 : Hid (Orow2 u205 gl2 gh2 (.slice gma M.length gcm) (mkK (1 + (S.length : Int)) M.length)) := HY2204.out.gi (GI.of_below (lo := 0) (hi := 0) hb) (Or.inr (Nat.zero_le _))
  clear HY2204
  obtain ⟨N4, hN4⟩ : ∃ n, u205.heap.size = n := ⟨_, rfl⟩
  obtain ⟨hsa, hca, hma, hcm, hl1, hh1, hl2, hh2, rfl, hw1, hw2, -, -⟩ := HANS.out _ _ N4 _ ho (by omega) (by omega)
  have HV1213 : Hid (Orow2 u205 hl1 hh1 (.slice hsa S.length hca) S) := hw1
  have HV2214 : Hid (Orow2 u205 hl2 hh2 (.slice hma M.length hcm) M) := hw2
  clear ho hb hs1 hw1 hw2 HT3
  have HBL215 : Hid (Below u1.heap.size u1 (u205.alloc (.cells #[.int .i64 C, .slice hsa S.length hca, .slice hma M.length hcm] 38))) := HBL206.out.alloc HBL206.out.size _
  clear HBL206
  have HW1216 : Hid (Orow2 (u205.alloc (.cells #[.int .i64 C, .slice hsa S.length hca, .slice hma M.length hcm] 38)) wl1 wh1 (.slice wsa S.length wca) S) := HW1207.out.gi (GI.of_below (lo := 0) (hi := 0) (bx1 _ _)) (Or.inr (Nat.zero_le _))
  clear HW1207
  have HW2217 : Hid (Orow2 (u205.alloc (.cells #[.int .i64 C, .slice hsa S.length hca, .slice hma M.length hcm] 38)) wl2 wh2 (.slice wma M.length wcm) M) := HW2208.out.gi (GI.of_below (lo := 0) (hi := 0) (bx1 _ _)) (Or.inr (Nat.zero_le _))
  clear HW2208
  have HB6218 : Hid ((u205.alloc (.cells #[.int .i64 C, .slice hsa S.length hca, .slice hma M.length hcm] 38)).heap[N1]? = some (.cells #[.int .i64 C, .slice wsa S.length wca, .slice wma M.length wcm] 38 (0, 0))) := ((bx1 _ _).block _ (Array.getElem?_eq_some_iff.1 HB6209.out).1).trans HB6209.out
  clear HB6209
  have HB8219 : Hid ((u205.alloc (.cells #[.int .i64 C, .slice hsa S.length hca, .slice hma M.length hcm] 38)).heap[N3]? = some (.cells #[.int .i64 C, .slice gsa S.length gca, .slice gma M.length gcm] 38 (0, 0))) := ((bx1 _ _).block _ (Array.getElem?_eq_some_iff.1 HB8210.out).1).trans HB8210.out
  clear HB8210
  have HY1220 : Hid (Orow2 (u205.alloc (.cells #[.int .i64 C, .slice hsa S.length hca, .slice hma M.length hcm] 38)) gl1 gh1 (.slice gsa S.length gca) (mkK 1 S.length)) := HY1211.out.gi (GI.of_below (lo := 0) (hi := 0) (bx1 _ _)) (Or.inr (Nat.zero_le _))
  clear HY1211
  have HY2221 : Hid (Orow2 (u205.alloc (.cells #[.int .i64 C, .slice hsa S.length hca, .slice hma M.length hcm] 38)) gl2 gh2 (.slice gma M.length gcm) (mkK (1 + (S.length : Int)) M.length)) := HY2212.out.gi (GI.of_below (lo := 0) (hi := 0) (bx1 _ _)) (Or.inr (Nat.zero_le _))
  clear HY2212
  have HV1222 : Hid (Orow2 (u205.alloc (.cells #[.int .i64 C, .slice hsa S.length hca, .slice hma M.length hcm] 38)) hl1 hh1 (.slice hsa S.length hca) S) := HV1213.out.gi (GI.of_below (lo := 0) (hi := 0) (bx1 _ _)) (Or.inr (Nat.zero_le _))
  clear HV1213
  have HV2223 : Hid (Orow2 (u205.alloc (.cells #[.int .i64 C, .slice hsa S.length hca, .slice hma M.length hcm] 38)) hl2 hh2 (.slice hma M.length hcm) M) := HV2214.out.gi (GI.of_below (lo := 0) (hi := 0) (bx1 _ _)) (Or.inr (Nat.zero_le _))
  clear HV2214
  have HB12224 : Hid ((u205.alloc (.cells #[.int .i64 C, .slice hsa S.length hca, .slice hma M.length hcm] 38)).heap[N4]? = some (.cells #[.int .i64 C, .slice hsa S.length hca, .slice hma M.length hcm] 38 (0, 0))) := (by have h9 := heap_new u205 (.cells #[.int .i64 C, .slice hsa S.length hca, .slice hma M.length hcm] 38); rw [hN4] at h9; exact h9)
  have hz225 : (u205.alloc (.cells #[.int .i64 C, .slice hsa S.length hca, .slice hma M.length hcm] 38)).heap.size = N4 + 1 := by simp [hN4]
  go_upto_region 25 with fail
  try rw [hN4]
  generalize (u205.alloc (.cells #[.int .i64 C, .slice hsa S.length hca, .slice hma M.length hcm] 38)) = u226 at *
  clear hz225 hN4
  have p0 := bxc HB12224.out 0 _ rfl
  have p1 := bxc HB12224.out 1 _ rfl
  have p2 := bxc HB12224.out 2 _ rfl
  have pl := (Array.getElem?_eq_some_iff.1 HB12224.out).1
  have q0 := bxc HB6218.out 0 _ rfl
  have q1 := bxc HB6218.out 1 _ rfl
  have q2 := bxc HB6218.out 2 _ rfl
  have ql := (Array.getElem?_eq_some_iff.1 HB6218.out).1
  go_wp2_with fail
  refine Calls.mono (eqRR_ok C HV1222.out.irow HV2223.out.irow HW1216.out.irow HW2217.out.irow HSL.out HML.out) ?_
  rintro e u227 ⟨rfl, hb⟩
  have HBL228 : Hid (Below u1.heap.size u1 u227) := HBL215.out.trans (hb.mono HBL215.out.size)
  clear HBL215
  have HW1229 : Hid (Orow2 u227 wl1 wh1 (.slice wsa S.length wca) S) := HW1216.out.gi (GI.of_below (lo := 0) (hi := 0) hb) (Or.inr (Nat.zero_le _))
  clear HW1216
  have HW2230 : Hid (Orow2 u227 wl2 wh2 (.slice wma M.length wcm) M) := HW2217.out.gi (GI.of_below (lo := 0) (hi := 0) hb) (Or.inr (Nat.zero_le _))
  clear HW2217
  have HB6231 : Hid (u227.heap[N1]? = some (.cells #[.int .i64 C, .slice wsa S.length wca, .slice wma M.length wcm] 38 (0, 0))) := (hb.block _ (Array.getElem?_eq_some_iff.1 HB6218.out).1).trans HB6218.out
  clear HB6218
  have HB8232 : Hid (u227.heap[N3]? = some (.cells #[.int .i64 C, .slice gsa S.length gca, .slice gma M.length gcm] 38 (0, 0))) := (hb.block _ (Array.getElem?_eq_some_iff.1 HB8219.out).1).trans HB8219.out
  clear HB8219
  have HY1233 : Hid (Orow2 u227 gl1 gh1 (.slice gsa S.length gca) (mkK 1 S.length)) := HY1220.out.gi (GI.of_below (lo := 0) (hi := 0) hb) (Or.inr (Nat.zero_le _))
  clear HY1220
  have HY2234 : Hid (Orow2 u227 gl2 gh2 (.slice gma M.length gcm) (mkK (1 + (S.length : Int)) M.length)) := HY2221.out.gi (GI.of_below (lo := 0) (hi := 0) hb) (Or.inr (Nat.zero_le _))
  clear HY2221
  have HV1235 : Hid (Orow2 u227 hl1 hh1 (.slice hsa S.length hca) S) := HV1222.out.gi (GI.of_below (lo := 0) (hi := 0) hb) (Or.inr (Nat.zero_le _))
  clear HV1222
  have HV2236 : Hid (Orow2 u227 hl2 hh2 (.slice hma M.length hcm) M) := HV2223.out.gi (GI.of_below (lo := 0) (hi := 0) hb) (Or.inr (Nat.zero_le _))
  clear HV2223
  have HB12237 : Hid (u227.heap[N4]? = some (.cells #[.int .i64 C, .slice hsa S.length hca, .slice hma M.length hcm] 38 (0, 0))) := (hb.block _ (Array.getElem?_eq_some_iff.1 HB12224.out).1).trans HB12224.out
  clear HB12224
  clear p0 p1 p2 pl
  clear q0 q1 q2 ql
  clear hb
  have p0 := bxc HB8232.out 0 _ rfl
  have p1 := bxc HB8232.out 1 _ rfl
  have p2 := bxc HB8232.out 2 _ rfl
  have pl := (Array.getElem?_eq_some_iff.1 HB8232.out).1
  go_wp2_with fail
  refine Calls.mono (heldRR_ok C HY1233.out.irow HY2234.out.irow HSL.out HML.out) ?_
  rintro e u238 ⟨rfl, hb⟩
  rw [HZ.out]
  have HBL239 : Hid (Below u1.heap.size u1 u238) := HBL228.out.trans (hb.mono HBL228.out.size)
  clear HBL228
  have HW1240 : Hid (Orow2 u238 wl1 wh1 (.slice wsa S.length wca) S) := HW1229.out.gi (GI.of_below (lo := 0) (hi := 0) hb) (Or.inr (Nat.zero_le _))
  clear HW1229
  have HW2241 : Hid (Orow2 u238 wl2 wh2 (.slice wma M.length wcm) M) := HW2230.out.gi (GI.of_below (lo := 0) (hi := 0) hb) (Or.inr (Nat.zero_le _))
  clear HW2230
  have HB6242 : Hid (u238.heap[N1]? = some (.cells #[.int .i64 C, .slice wsa S.length wca, .slice wma M.length wcm] 38 (0, 0))) := (hb.block _ (Array.getElem?_eq_some_iff.1 HB6231.out).1).trans HB6231.out
  clear HB6231
  have HB8243 : Hid (u238.heap[N3]? = some (.cells #[.int .i64 C, .slice gsa S.length gca, .slice gma M.length gcm] 38 (0, 0))) := (hb.block _ (Array.getElem?_eq_some_iff.1 HB8232.out).1).trans HB8232.out
  clear HB8232
  have HY1244 : Hid (Orow2 u238 gl1 gh1 (.slice gsa S.length gca) (mkK 1 S.length)) := HY1233.out.gi (GI.of_below (lo := 0) (hi := 0) hb) (Or.inr (Nat.zero_le _))
  clear HY1233
  have HY2245 : Hid (Orow2 u238 gl2 gh2 (.slice gma M.length gcm) (mkK (1 + (S.length : Int)) M.length)) := HY2234.out.gi (GI.of_below (lo := 0) (hi := 0) hb) (Or.inr (Nat.zero_le _))
  clear HY2234
  have HV1246 : Hid (Orow2 u238 hl1 hh1 (.slice hsa S.length hca) S) := HV1235.out.gi (GI.of_below (lo := 0) (hi := 0) hb) (Or.inr (Nat.zero_le _))
  clear HV1235
  have HV2247 : Hid (Orow2 u238 hl2 hh2 (.slice hma M.length hcm) M) := HV2236.out.gi (GI.of_below (lo := 0) (hi := 0) hb) (Or.inr (Nat.zero_le _))
  clear HV2236
  have HB12248 : Hid (u238.heap[N4]? = some (.cells #[.int .i64 C, .slice hsa S.length hca, .slice hma M.length hcm] 38 (0, 0))) := (hb.block _ (Array.getElem?_eq_some_iff.1 HB12237.out).1).trans HB12237.out
  clear HB12237
  clear p0 p1 p2 pl
  clear hb
  go_wp2
  go_ret
  exact ⟨rfl, HBL239.out⟩
end Go.Proofs.Ytcglpigmellfcaa
