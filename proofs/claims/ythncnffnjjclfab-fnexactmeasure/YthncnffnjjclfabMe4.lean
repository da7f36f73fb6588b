import Derived.Test.YthncnffnjjclfabMe3
namespace Go.Proofs.Ythncnffnjjclfab
open Go.ChangeShapes Go.WideShapes Go.ChangeAt Go.RowKit

set_option maxRecDepth 100000 in
set_option maxHeartbeats 8000000 in
theorem specMe_any {w : World} {v sv : Value} {rs : List Int} {zs : List SG} (h : Irow w v rs) (hl : rs.length ≤ 1048576) (hz : SGrow w sv zs) (hzl : zs.length ≤ 1048576) :
    Calls Try.prog 17 #[v, sv] w fun e w' => ∃ u, e = .returned u ∧ Orow w' w.heap.size u (meV rs zs) ∧ Below w.heap.size w w' := by
  have HR : Hid (Irow w v rs) := h
  have HZ : Hid (SGrow w sv zs) := hz
  obtain ⟨ao, cap, rfl⟩ := h.sl
  obtain ⟨as1, cs, rfl⟩ := hz.sl
  clear h hz
  have HRG : Hid (∀ u, Aft w u → Calls Try.prog 50 #[.slice ao rs.length cap] u fun e w' => e = .returned (.bool (rgB rs)) ∧ Below u.heap.size u w') := fun u hu => l15Regs_any (HR.out.below hu.out) hl
  have HCL : Hid (∀ u, Aft w u → Calls Try.prog 51 #[.slice ao rs.length cap] u fun e w' => ∃ x, e = .returned x ∧ Orow w' u.heap.size x rs ∧ Below u.heap.size u w') := fun u hu => l01Ints_any (HR.out.below hu.out) hl
  have hE : meV rs zs = if meB rs zs = true then msF rs zs else [] := rfl
  generalize meV rs zs = V at *
  unfold meB at hE
  cases h1 : rgB rs
  · have E : Hid (V = []) := (show V = [] by rw [hE, h1]; rfl)
    rw [h1] at HRG
    clear h1 hE
    go_enter Try.func17, Try.ntmps17
    go_wp2_with fail
    refine Calls.mono (HRG.out _ ⟨Below.refl _ _⟩) ?_
    rintro e u1 ⟨rfl, hb1⟩
    have HB1 : Hid (Below w.heap.size w u1) := hb1
    clear hb1
    go_wp2
    go_ret
    exact ⟨_, rfl, .inl ⟨E.out, _, _, rfl⟩, HB1.out.trans ((bx1 _ _).mono HB1.out.size)⟩
  · have HRL : Hid (1 ≤ rs.length ∧ rs.length ≤ 8) := rgB_len h1
    rw [h1] at HRG hE
    cases h2 : decide (1000 < (zs.length : Int))
    · have h2n : decide (zs.length ≤ 1000) = true := decide_eq_true (by have := of_decide_eq_false h2; omega)
      rw [h2n] at hE
      have HE : Hid (V = if zs.all (sgOk rs.length) = true then msF rs zs else []) := (show V = _ by rw [hE]; rfl)
      have hzn : zs.length ≤ 1000 := of_decide_eq_true h2n
      clear h1 h2n hE
      go_enter Try.func17, Try.ntmps17
      go_wp2_with fail
      refine Calls.mono (HRG.out _ ⟨Below.refl _ _⟩) ?_
      rintro e u1 ⟨rfl, hb1⟩
      have HB1 : Hid (Below w.heap.size w u1) := hb1
      clear hb1
      go_wp2_with fail
      refine Calls.mono (HCL.out _ ⟨HB1.out⟩) ?_
      rintro e u3 ⟨x, rfl, ho, hb3⟩
      obtain ⟨g, o, cp, rfl, hcp, hmr⟩ := MR.of ho HRL.out.1
      have HMR : Hid (MR w.heap.size u3 g o rs) := ⟨hmr.ex, Nat.le_trans HB1.out.size hmr.ge⟩
      have HB3 : Hid (Below w.heap.size w u3) := HB1.out.trans (hb3.mono HB1.out.size)
      have HCP : Hid (rs.length ≤ cp) := hcp
      clear ho hb3 hmr HB1 HRG HCL hcp
      go_wp2
      go_loopw [6] (fun i wr => ∃ k : Nat, k ≤ zs.length ∧ i = .int .i64 k ∧ (zs.take k).all (sgOk rs.length) = true ∧ MR w.heap.size wr g o (msF rs (zs.take k)) ∧ Below w.heap.size w wr) (fun i _ => zs.length - (intOf i).toNat)
      case atStart => exact ⟨0, Nat.zero_le _, rfl, rfl, HMR.out, HB3.out⟩
      case round =>
        obtain ⟨k, hk, rfl, hall, hmr, hbl⟩ := hrel
        have HALL : Hid ((zs.take k).all (sgOk rs.length) = true) := hall
        have HM : Hid (MR w.heap.size wr g o (msF rs (zs.take k))) := hmr
        have HB : Hid (Below w.heap.size w wr) := hbl
        have HLN : Hid ((msF rs (zs.take k)).length = rs.length) := msF_len _ _
        clear HMR HB3 hall
        by_cases hlt : k < zs.length
        · obtain ⟨g2, o2, cap2, hv, _, hg, hc⟩ := HZ.out.resolve_left (fun h => by rw [h.1] at hlt; simp at hlt)
          injection hv with hv1 hv2 hv3
          subst hv1 hv3
          obtain ⟨d0, d1⟩ := hc.below hbl hg k hlt
          have hgw : g2 < wr.heap.size := Nat.lt_of_lt_of_le hg hbl.size
          have HS : Hid (msF rs (zs.take (k + 1)) = msS (msF rs (zs.take k)) zs[k]) := msF_succ rs zs k hlt
          have HT : Hid ((zs.take (k + 1)).all (sgOk rs.length) = ((zs.take k).all (sgOk rs.length) && sgOk rs.length zs[k])) := all_take hlt
          have HBAD : Hid (sgOk rs.length zs[k] = false → zs.all (sgOk rs.length) = false) := fun hh => all_bad hlt hh
          generalize zs[k] = z at *
          obtain ⟨zr, tx⟩ := z
          simp only at d0 d1
          have hk0 : (0 : Int) ≤ (k : Int) := by omega
          have hk1 : (k : Int) < (zs.length : Int) := by omega
          clear hc hmr
          cases h3 : decide (zr < 0)
          · cases h4 : decide ((rs.length : Int) ≤ zr)
            · cases h5 : decide (4096 < (tx.size : Int))
              · have g3 := of_decide_eq_false h3
                have g4 := of_decide_eq_false h4
                have g5 := of_decide_eq_false h5
                have hok : sgOk rs.length ⟨zr, tx⟩ = true := by unfold sgOk inW ovB; simp only; rw [h5, decide_eq_true (by omega)]; rfl
                have HT2 : Hid ((zs.take (k + 1)).all (sgOk rs.length) = true) := (show _ = true by rw [HT.out, HALL.out, hok]; rfl)
                obtain ⟨R, rfl⟩ : ∃ R : Nat, zr = (R : Int) := ⟨zr.toNat, by omega⟩
                have HR2 : Hid (R < rs.length) := (show R < rs.length by omega)
                have HRG2 : Hid (msS (msF rs (zs.take k)) ⟨(R : Int), tx⟩ = (msF rs (zs.take k)).set R (mixv (pw ((msF rs (zs.take k)).getD R 0) ++ tx) 31)) := (show msS _ _ = _ by unfold msS; simp only; rw [Int.toNat_natCast])
                have h4n : decide (rs.length ≤ R) = false := decide_eq_false (by omega)
                have hts : tx.size ≤ 4096 := by omega
                clear hok g3 g4 g5 HT HBAD
                obtain ⟨c0, f0⟩ := HM.out.cel R (by rw [HLN.out]; exact HR2.out)
                have gl := HM.out.lt
                have hr0 : (0 : Int) ≤ (R : Int) := by omega
                have hr1 : (R : Int) < (rs.length : Int) := by have := HR2.out; omega
                go_upto_region 10 with fail
                have HD1 : Hid (∀ u, Below w.heap.size w u → u.cell? ⟨g2, o2 + k * 2 + 1, none⟩ = some (.string tx)) := fun u hu => (hu.cell (p := ⟨g2, o2 + k * 2 + 1, none⟩) hg).trans ((HB.out.cell (p := ⟨g2, o2 + k * 2 + 1, none⟩) hg).symm.trans d1)
                have HGW : Hid (g2 < w.heap.size) := hg
                generalize msF rs (zs.take k) = ms at *
                obtain ⟨was, hwas⟩ : ∃ x, ms.getD R 0 = x := ⟨_, rfl⟩
                have HWAS : Hid (ms.getD R 0 = was) := hwas
                rw [hwas] at HRG2
                clear hwas
                clear c0 f0 d0 d1 gl hgw hbl hg
                refine wp_region_held (S := fun w9 => Below w.heap.size w w9) (by kernel_rfl) ?_
                change wpAnyH _ _ _ _ _ _ _ _ (World.drew _)
                have HS0 : Hid (Below w.heap.size w wr.drew) := HB.out.drew
                have HM2 : Hid (MR w.heap.size wr.drew g o ms) := HM.out.drew
                generalize wr.drew = v2 at *
                refine wpAnyH_take (i := 0) (v := .slice (some ⟨g, o, none⟩) rs.length cp) rfl (by kernel_rfl) (by kernel_rfl) (by kernel_rfl) (fun _ _ _ h => h) (Or.inl ⟨by kernel_rfl, fun w9 h9 => ?_⟩) HS0.out ?_
                · clear h9; go_simp
                refine wpAnyH_take (i := 1) (v := .int .i64 (R : Int)) rfl (by kernel_rfl) (by kernel_rfl) (by kernel_rfl) (fun _ _ _ h => h) (Or.inl ⟨by kernel_rfl, fun w9 h9 => ?_⟩) HS0.out ?_
                · clear h9; go_simp
                refine wpAnyH_take (i := 2) (v := .slice (some ⟨g, o, none⟩) rs.length cp) rfl (by kernel_rfl) (by kernel_rfl) (by kernel_rfl) (fun _ _ _ h => h) (Or.inl ⟨by kernel_rfl, fun w9 h9 => ?_⟩) HS0.out ?_
                · clear h9; go_simp
                refine wpAnyH_take (i := 3) (v := .int .i64 (R : Int)) rfl (by kernel_rfl) (by kernel_rfl) (by kernel_rfl) (fun _ _ _ h => h) (Or.inl ⟨by kernel_rfl, fun w9 h9 => ?_⟩) HS0.out ?_
                · clear h9; go_simp
                refine wpAnyH_take (i := 4) (v := .pointer (some ⟨g, o + R, none⟩)) rfl (by kernel_rfl) (by kernel_rfl) (by kernel_rfl) (fun _ _ _ h => h) (Or.inl ⟨by kernel_rfl, fun w9 h9 => ?_⟩) HS0.out ?_
                · clear h9; go_simp
                refine wpAnyH_take (i := 7) (v := .slice (some ⟨g2, o2, none⟩) zs.length cs) rfl (by kernel_rfl) (by kernel_rfl) (by kernel_rfl) (fun _ _ _ h => h) (Or.inl ⟨by kernel_rfl, fun w9 h9 => ?_⟩) HS0.out ?_
                · clear h9; go_simp
                refine wpAnyH_take (i := 8) (v := .int .i64 (k : Int)) rfl (by kernel_rfl) (by kernel_rfl) (by kernel_rfl) (fun _ _ _ h => h) (Or.inl ⟨by kernel_rfl, fun w9 h9 => ?_⟩) HS0.out ?_
                · clear h9; go_simp
                refine wpAnyH_take (i := 9) (v := .pointer (some ⟨g2, o2 + k * 2, none⟩)) rfl (by kernel_rfl) (by kernel_rfl) (by kernel_rfl) (fun _ _ _ h => h) (Or.inl ⟨by kernel_rfl, fun w9 h9 => ?_⟩) HS0.out ?_
                · clear h9; go_simp
                refine wpAnyH_take (i := 10) (v := .pointer (some ⟨g2, o2 + k * 2 + 1, none⟩)) rfl (by kernel_rfl) (by kernel_rfl) (by kernel_rfl) (fun _ _ _ h => h) (Or.inl ⟨by kernel_rfl, fun w9 h9 => ?_⟩) HS0.out ?_
                · clear h9; go_simp
                refine wpAnyH_take (i := 11) (v := .string tx) rfl (by kernel_rfl) (by kernel_rfl) (by kernel_rfl) (fun _ _ _ h => h) (Or.inl ⟨by kernel_rfl, fun w9 h9 => ?_⟩) HS0.out ?_
                · have d9 := HD1.out _ h9; have dl := Nat.lt_of_lt_of_le HGW.out h9.size; clear h9; go_simp
                refine held_one 5 (by kernel_rfl) rfl (by kernel_rfl) fun K hK => ?_
                have c0 := (HM2.out.cel R (by rw [HLN.out]; exact HR2.out)).1
                rw [HWAS.out] at c0
                have gl := HM2.out.lt
                go_simp
                refine hK _ _ HS0.out ?_
                clear hK K c0 gl
                refine held_one 6 (by kernel_rfl) rfl (by kernel_rfl) fun K hK => ?_
                go_simp
                go_wp2_with (go_at_call 53; refine Calls.mono (specPutWord_any was _) ?_; rintro e9 v3 ⟨rfl, hu⟩; have HS3 : Hid (Below w.heap.size w v3) := HS0.out.trans (hu.mono HS0.out.size); have HM3 : Hid (MR w.heap.size v3 g o ms) := HM2.out.below hu; clear hu HS0 HM2)
                refine hK _ _ HS3.out ?_
                clear hK K
                have hmx : (pw was ++ tx).size ≤ 1048576 := by rw [ByteArray.size_append, pw_size]; omega
                have HADD : Hid (∀ w, (Op.stringOp .add (pw was) tx).run Try.prog w = .ok (.string (pw was ++ tx)) w) := fun w => run_string_add_sum (P := Try.prog) w (pw was) tx (by rw [pw_size]; omega)
                refine wpAnyH_take (i := 12) (v := .string (pw was ++ tx)) rfl (by kernel_rfl) (by kernel_rfl) (by kernel_rfl) (fun _ _ _ h => h) (Or.inl ⟨by kernel_rfl, fun w9 h9 => ?_⟩) HS3.out ?_
                · clear h9; have e1 := HADD.out; go_simp
                refine held_one 13 (by kernel_rfl) rfl (by kernel_rfl) fun K hK => ?_
                go_simp
                go_wp2_with (go_at_call 52; refine Calls.mono (specMix_any _ _ _ hmx) ?_; rintro e9 v6 ⟨rfl, hw6⟩; rw [hw6]; clear hw6)
                refine hK _ _ HS3.out ?_
                clear hK K
                refine wpAnyH_take (i := 14) (v := .pointer (some ⟨g, o + R, none⟩)) rfl (by kernel_rfl) (by kernel_rfl) (by kernel_rfl) (fun _ _ _ h => h) (Or.inl ⟨by kernel_rfl, fun w9 h9 => ?_⟩) HS3.out ?_
                · clear h9; go_simp
                obtain ⟨c0, f0⟩ := HM3.out.cel R (by rw [HLN.out]; exact HR2.out)
                have gl := HM3.out.lt
                have HM6 : Hid (MR w.heap.size (v3.setCell ⟨g, o + R, none⟩ (.int .i64 (mixv (pw was ++ tx) 31))) g o (msF rs (zs.take (k + 1)))) := (by rw [HS.out, HRG2.out]; exact HM3.out.set R (by rw [HLN.out]; exact HR2.out) _)
                have HB6 : Hid (Below w.heap.size w (v3.setCell ⟨g, o + R, none⟩ (.int .i64 (mixv (pw was ++ tx) 31)))) := HS3.out.setCell HM3.out.ge _
                refine held_one 15 (by kernel_rfl) rfl (by kernel_rfl) fun K hK => ?_
                go_simp
                refine hK _ _ HB6.out ?_
                clear hK K
                refine wpAnyH_done (by kernel_rfl) ?_ _
                go_simp
                go_wp2
                exact ⟨⟨k + 1, hlt, by go_num, HT2.out, HM6.out, HB6.out⟩, by simp [intOf]; omega⟩
              · have E : Hid (V = []) := (show V = _ by rw [HE.out, HBAD.out (by unfold sgOk inW ovB; simp only; rw [h5]; simp)]; rfl)
                clear HT HBAD HS
                go_wp2
                go_ret
                exact ⟨_, rfl, .inl ⟨E.out, _, _, rfl⟩, HB.out.trans ((bx1 _ _).mono HB.out.size)⟩
            · have E : Hid (V = []) := (show V = _ by rw [HE.out, HBAD.out (by unfold sgOk inW ovB; simp only; rw [decide_eq_false (by have := of_decide_eq_true h4; omega)]; rfl)]; rfl)
              clear HT HBAD HS
              go_wp2
              go_ret
              exact ⟨_, rfl, .inl ⟨E.out, _, _, rfl⟩, HB.out.trans ((bx1 _ _).mono HB.out.size)⟩
          · have E : Hid (V = []) := (show V = _ by rw [HE.out, HBAD.out (by unfold sgOk inW ovB; simp only; rw [decide_eq_false (by have := of_decide_eq_true h3; omega)]; rfl)]; rfl)
            clear HT HBAD HS
            go_wp2
            go_ret
            exact ⟨_, rfl, .inl ⟨E.out, _, _, rfl⟩, HB.out.trans ((bx1 _ _).mono HB.out.size)⟩
        · obtain rfl : k = zs.length := by omega
          rw [List.take_length] at HM HLN HALL
          go_wp2
          go_ret
          refine ⟨_, rfl, ?_, HB.out⟩
          rw [HE.out, HALL.out, if_pos rfl, ← HLN.out]
          exact HM.out.orow (by rw [HLN.out]; exact HCP.out)
    · have h2n : decide (zs.length ≤ 1000) = false := decide_eq_false (by have := of_decide_eq_true h2; omega)
      have E : Hid (V = []) := (show V = _ by rw [hE, h2n]; rfl)
      clear h1 h2n hE
      go_enter Try.func17, Try.ntmps17
      go_wp2_with fail
      refine Calls.mono (HRG.out _ ⟨Below.refl _ _⟩) ?_
      rintro e u1 ⟨rfl, hb1⟩
      have HB1 : Hid (Below w.heap.size w u1) := hb1
      clear hb1
      go_wp2
      go_ret
      exact ⟨_, rfl, .inl ⟨E.out, _, _, rfl⟩, HB1.out.trans ((bx1 _ _).mono HB1.out.size)⟩
end Go.Proofs.Ythncnffnjjclfab
