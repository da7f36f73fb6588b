import Derived.Test.YtggciigjhlbhhaaTp6
import Derived.Test.YtggciigjhlbhhaaTp7
namespace Go.Proofs.Ytggciigjhlbhhaa
open Go.ChangeShapes Go.WideShapes Go.ChangeAt Go.RowKit

theorem specTP_any (s : ByteArray) (p : PV) : AnsP 10 s p (tpT s p) := by
  unfold tpT
  by_cases h : 65536 < s.size
  · rw [if_pos h]
    exact specTP_long s p h
  rw [if_neg h]
  cases hp : pOk s p
  · exact specTP_form s p h hp
  · obtain ⟨sz, rg, ps, wr⟩ := p
    obtain ⟨_, b1, _, b3, _, _, b6, _⟩ := pOk_b hp
    simp only at b1 b3 b6
    obtain ⟨S, rfl⟩ := Int.eq_ofNat_of_zero_le (show 0 ≤ sz by omega)
    obtain ⟨R, rfl⟩ := Int.eq_ofNat_of_zero_le b6
    obtain ⟨P, rfl⟩ := Int.eq_ofNat_of_zero_le b3
    exact specTP_good s S R P wr hp
theorem tpR_len (s : ByteArray) (R S P : Nat) (W : Bool) : (tpR s R S P W).2.2.length ≤ S := by
  have := rgR_len s R S P S 0 []
  unfold tpR
  split
  · split
    · simpa using this
    · exact Nat.zero_le _
  · exact Nat.zero_le _
theorem tpT_len (s : ByteArray) (p : PV) : (tpT s p).2.2.length ≤ 16 := by
  unfold tpT
  split
  · exact Nat.zero_le _
  · split
    · rename_i hp
      obtain ⟨_, b1, b2, _⟩ := pOk_b hp
      have := tpR_len s p.ring.toNat p.size.toNat p.pos.toNat p.wrap
      omega
    · exact Nat.zero_le _
set_option maxRecDepth 100000 in
set_option maxHeartbeats 4000000 in
theorem walkTP (s : ByteArray) (z : PV) (w : World) : Calls Try.prog 4 #[.string s, pA z] w fun e w' => e = .returned (.bool true) ∧ Below w.heap.size w w' := by
  have HL0 : Hid (LBx w (w.alloc (.cells (pC z) 32)) w.heap.size (pC z) 32) := LBx.new w _ _
  by_cases h1 : s.size ≤ 1048576
  · have hd : decide (1048576 < (s.size : Int)) = false := by simp; omega
    have HTO : Hid _ := fun u => toPacked_any z u
    have HSS : Hid (AnsP 10 s z (tpT s z)) := specTP_any s z
    have HSI : Hid (AnsP 12 s z (tpT s z)) := implTP_any s z h1
    have hlen := tpT_len s z
    generalize tpT s z = TT at *
    obtain ⟨c, i, zs⟩ := TT
    unfold AnsP at HSS HSI
    simp only at HSS HSI hlen
    have HLN : Hid (zs.length ≤ 2000) := (show zs.length ≤ 2000 by omega)
    have hpn : ¬ (1 + 3 * (zs.length : Int)) < 0 := by omega
    obtain ⟨S, R, P, W⟩ := z
    unfold pA at HTO HSS HSI ⊢
    unfold pC at HL0
    simp only at HTO HSS HSI HL0 ⊢
    clear h1 hlen
    go_enter Try.func4, Try.ntmps4
    go_wp2_with fail
    refine Calls.mono (HTO.out _) ?_
    generalize (w.alloc (.cells #[.int .i64 S, .int .i64 R, .int .i64 P, .bool W] 32)) = u0 at *
    rintro e y1 ⟨rfl, hb⟩
    have HL1 : Hid _ := HL0.out.step hb
    clear hb HL0
    go_wp2_with fail
    refine Calls.mono (HSS.out _) ?_
    rintro e y2 ⟨v5, rfl, ho5, hb⟩
    obtain ⟨ao5, cap5, rfl⟩ := bu_sl ho5
    have HL2 : Hid _ := HL1.out.step hb
    have HO2 : Hid (y2.ownsRow w.heap.size 60 3 (.slice ao5 zs.length cap5) zs.length (buR zs)) := bu_weak ho5 HL1.out.bel.size
    clear hb ho5 HL1
    unfold tkA at *
    have HL2b : Hid _ := HL2.out.step (bx1 y2 (.cells #[.int .i64 c, .int .i64 i, .int .i64 (zs.length : Nat), .slice ao5 zs.length cap5] 35))
    have HX2 : Hid ((y2.alloc (.cells #[.int .i64 c, .int .i64 i, .int .i64 (zs.length : Nat), .slice ao5 zs.length cap5] 35)).heap[y2.heap.size]? = some (.cells #[.int .i64 c, .int .i64 i, .int .i64 (zs.length : Nat), .slice ao5 zs.length cap5] 35 (0, 0))) := heap_new _ _
    have HO2b : Hid ((y2.alloc (.cells #[.int .i64 c, .int .i64 i, .int .i64 (zs.length : Nat), .slice ao5 zs.length cap5] 35)).ownsRow w.heap.size 60 3 (.slice ao5 zs.length cap5) zs.length (buR zs)) := bu_below HO2.out (bx1 _ _)
    have lt2 := HL2.out.lt
    have c0 := HL2.out.cel 0 _ rfl
    have c1 := HL2.out.cel 1 _ rfl
    have c2 := HL2.out.cel 2 _ rfl
    have c3 := HL2.out.cel 3 _ rfl
    go_upto_region 4 with fail
    generalize (y2.alloc (.cells #[.int .i64 c, .int .i64 i, .int .i64 (zs.length : Nat), .slice ao5 zs.length cap5] 35)) = y3 at *
    generalize y2.heap.size = b5 at *
    clear c0 c1 c2 c3 HL2 HO2 lt2
    have c0 := HL2b.out.cel 0 _ rfl
    have c1 := HL2b.out.cel 1 _ rfl
    have c2 := HL2b.out.cel 2 _ rfl
    have c3 := HL2b.out.cel 3 _ rfl
    go_wp2_with fail
    refine Calls.mono (HTO.out _) ?_
    rintro e y4 ⟨rfl, hb⟩
    have HL4 : Hid _ := HL2b.out.step hb
    have HX4 : Hid (y4.heap[b5]? = some (.cells #[.int .i64 c, .int .i64 i, .int .i64 (zs.length : Nat), .slice ao5 zs.length cap5] 35 (0, 0))) := (hb.block _ (Array.getElem?_eq_some_iff.1 HX2.out).1).trans HX2.out
    have HO4 : Hid (y4.ownsRow w.heap.size 60 3 (.slice ao5 zs.length cap5) zs.length (buR zs)) := bu_below HO2b.out hb
    clear hb c0 c1 c2 c3 HL2b HX2 HO2b
    go_wp2_with fail
    refine Calls.mono (HSI.out _) ?_
    rintro e y5 ⟨v6, rfl, ho6, hb⟩
    obtain ⟨ao6, cap6, rfl⟩ := bu_sl ho6
    have HLP : Hid (LP w (y5.alloc (.cells #[.int .i64 c, .int .i64 i, .int .i64 (zs.length : Nat), .slice ao6 zs.length cap6] 35)) #[.int .i64 S, .int .i64 R, .int .i64 P, .bool W] c i (zs.length : Nat) zs zs b5 (.slice ao5 zs.length cap5) y5.heap.size (.slice ao6 zs.length cap6) y4.heap.size) := by
      have hB := bx1 y5 (.cells #[.int .i64 c, .int .i64 i, .int .i64 (zs.length : Nat), .slice ao6 zs.length cap6] 35)
      have hL := (HL4.out.step hb).step hB
      have hx := (hb.block _ (Array.getElem?_eq_some_iff.1 HX4.out).1).trans HX4.out
      exact ⟨hL.bel, hL.box, (hB.block _ (Array.getElem?_eq_some_iff.1 hx).1).trans hx, bu_below (bu_below HO4.out hb) hB, heap_new _ _, bu_below ho6 hB, fun j hj => (HO4.out.lt j hj).2, HL4.out.bel.size⟩
    clear ho6 hb HL4 HX4 HO4
    go_upto_region 5 with fail
    generalize (y5.alloc (.cells #[.int .i64 c, .int .i64 i, .int .i64 (zs.length : Nat), .slice ao6 zs.length cap6] 35)) = y6 at *
    generalize y5.heap.size = b6 at *
    generalize y4.heap.size = B6 at *
    have p0 := bxC HLP.out.x5 0 _ rfl
    have p1 := bxC HLP.out.x5 1 _ rfl
    have p2 := bxC HLP.out.x5 2 _ rfl
    have p3 := bxC HLP.out.x5 3 _ rfl
    have g0 := bxC HLP.out.x6 0 _ rfl
    have g1 := bxC HLP.out.x6 1 _ rfl
    have g2 := bxC HLP.out.x6 2 _ rfl
    have g3 := bxC HLP.out.x6 3 _ rfl
    have HE1 : Hid (Calls Try.prog 13 #[.agg #[.int .i64 c, .int .i64 i, .int .i64 (zs.length : Nat), .slice ao6 zs.length cap6], .agg #[.int .i64 c, .int .i64 i, .int .i64 (zs.length : Nat), .slice ao5 zs.length cap5]] y6 fun e w' => e = .returned (.bool true) ∧ Below y6.heap.size y6 w') := eqTP_ok c i _ HLP.out.r6 HLP.out.r5 HLN.out
    go_wp2_with fail
    refine Calls.mono HE1.out ?_
    rintro e y7 ⟨rfl, hb⟩
    have HL7 : Hid _ := HLP.out.step hb
    clear hb HLP HE1 p0 p1 p2 p3 g0 g1 g2 g3
    have g0 := bxC HL7.out.x6 0 _ rfl
    have g1 := bxC HL7.out.x6 1 _ rfl
    have g2 := bxC HL7.out.x6 2 _ rfl
    have g3 := bxC HL7.out.x6 3 _ rfl
    have HE2 : Hid (Calls Try.prog 14 #[.agg #[.int .i64 c, .int .i64 i, .int .i64 (zs.length : Nat), .slice ao6 zs.length cap6], .int .i64 1] y7 fun e u => e = .returned (.int .i64 (1 + 3 * (zs.length : Int))) ∧ u.ownsRow B6 60 3 (.slice ao6 zs.length cap6) zs.length (buR (mkBL zs.length)) ∧ y7.grownBy u (Value.slice ao6 zs.length cap6).ownBlock) := markTP_ok c i _ HL7.out.r6 HLN.out
    go_wp2_with fail
    refine Calls.mono HE2.out ?_
    rintro e y8 ⟨rfl, ho, hg⟩
    have HL8 : Hid _ := HL7.out.mark ho hg
    clear ho hg HL7 HE2 g0 g1 g2 g3
    have g0 := bxC HL8.out.x6 0 _ rfl
    have g1 := bxC HL8.out.x6 1 _ rfl
    have g2 := bxC HL8.out.x6 2 _ rfl
    have g3 := bxC HL8.out.x6 3 _ rfl
    have HE3 : Hid (Calls Try.prog 15 #[.agg #[.int .i64 c, .int .i64 i, .int .i64 (zs.length : Nat), .slice ao6 zs.length cap6], .int .i64 1] y8 fun e u => e = .returned (.int .i64 (1 + 3 * (zs.length : Int))) ∧ Below y8.heap.size y8 u) := heldTP_ok zs.length c i _ HL8.out.r6 HLN.out
    go_wp2_with fail
    refine Calls.mono HE3.out ?_
    rintro e y9 ⟨rfl, hb⟩
    have HL9 : Hid _ := HL8.out.step hb
    clear hb HL8 HE3 g0 g1 g2 g3
    have c0 := bxC HL9.out.arg 0 _ rfl
    have c1 := bxC HL9.out.arg 1 _ rfl
    have c2 := bxC HL9.out.arg 2 _ rfl
    have c3 := bxC HL9.out.arg 3 _ rfl
    go_wp2_with fail
    refine Calls.mono (HTO.out _) ?_
    rintro e yA ⟨rfl, hb⟩
    have HLA : Hid _ := HL9.out.step hb
    clear hb HL9 c0 c1 c2 c3
    go_wp2_with fail
    refine Calls.mono (HSI.out _) ?_
    rintro e yB ⟨v9, rfl, ho9, hb⟩
    obtain ⟨ao9, cap9, rfl⟩ := bu_sl ho9
    have HLB : Hid _ := (HLA.out.step hb).step (bx1 yB (.cells #[.int .i64 c, .int .i64 i, .int .i64 (zs.length : Nat), .slice ao9 zs.length cap9] 35))
    have HXB : Hid ((yB.alloc (.cells #[.int .i64 c, .int .i64 i, .int .i64 (zs.length : Nat), .slice ao9 zs.length cap9] 35)).heap[yB.heap.size]? = some (.cells #[.int .i64 c, .int .i64 i, .int .i64 (zs.length : Nat), .slice ao9 zs.length cap9] 35 (0, 0))) := heap_new _ _
    have HOB : Hid ((yB.alloc (.cells #[.int .i64 c, .int .i64 i, .int .i64 (zs.length : Nat), .slice ao9 zs.length cap9] 35)).ownsRow yA.heap.size 60 3 (.slice ao9 zs.length cap9) zs.length (buR zs)) := bu_below ho9 (bx1 _ _)
    clear hb ho9 HLA
    go_upto_region 16 with fail
    generalize (yB.alloc (.cells #[.int .i64 c, .int .i64 i, .int .i64 (zs.length : Nat), .slice ao9 zs.length cap9] 35)) = yC at *
    generalize yB.heap.size = b9 at *
    have p0 := bxC HLB.out.x5 0 _ rfl
    have p1 := bxC HLB.out.x5 1 _ rfl
    have p2 := bxC HLB.out.x5 2 _ rfl
    have p3 := bxC HLB.out.x5 3 _ rfl
    have g0 := bxC HXB.out 0 _ rfl
    have g1 := bxC HXB.out 1 _ rfl
    have g2 := bxC HXB.out 2 _ rfl
    have g3 := bxC HXB.out 3 _ rfl
    have HE4 : Hid (Calls Try.prog 13 #[.agg #[.int .i64 c, .int .i64 i, .int .i64 (zs.length : Nat), .slice ao9 zs.length cap9], .agg #[.int .i64 c, .int .i64 i, .int .i64 (zs.length : Nat), .slice ao5 zs.length cap5]] yC fun e w' => e = .returned (.bool true) ∧ Below yC.heap.size yC w') := eqTP_ok c i _ HOB.out HLB.out.r5 HLN.out
    go_wp2_with fail
    refine Calls.mono HE4.out ?_
    rintro e yD ⟨rfl, hb⟩
    have HLD : Hid _ := HLB.out.step hb
    clear hb HLB HE4 HXB HOB p0 p1 p2 p3 g0 g1 g2 g3
    have g0 := bxC HLD.out.x6 0 _ rfl
    have g1 := bxC HLD.out.x6 1 _ rfl
    have g2 := bxC HLD.out.x6 2 _ rfl
    have g3 := bxC HLD.out.x6 3 _ rfl
    have HE5 : Hid (Calls Try.prog 15 #[.agg #[.int .i64 c, .int .i64 i, .int .i64 (zs.length : Nat), .slice ao6 zs.length cap6], .int .i64 1] yD fun e u => e = .returned (.int .i64 (1 + 3 * (zs.length : Int))) ∧ Below yD.heap.size yD u) := heldTP_ok zs.length c i _ HLD.out.r6 HLN.out
    go_wp2_with fail
    refine Calls.mono HE5.out ?_
    rintro e yE ⟨rfl, hb⟩
    have HLE : Hid _ := HLD.out.step hb
    clear hb HLD HE5 g0 g1 g2 g3
    go_wp2_with fail
    go_ret
    exact ⟨rfl, HLE.out.bel⟩
  · have hd : decide (1048576 < (s.size : Int)) = true := by simp; omega
    unfold pA
    unfold pC at HL0
    clear h1
    go_enter Try.func4, Try.ntmps4
    go_wp2_with fail
    go_ret
    exact ⟨rfl, HL0.out.bel⟩
end Go.Proofs.Ytggciigjhlbhhaa
