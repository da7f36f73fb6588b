import Derived.Test.YthncnffnjjclfabMe2
namespace Go.Proofs.Ythncnffnjjclfab
open Go.ChangeShapes Go.WideShapes Go.ChangeAt Go.RowKit

theorem mr_ne {B : Nat} {u : World} {g o b k : Nat} {rs : List Int} {cs : Array Value} (h : MR B u g o rs) (hb : u.heap[b]? = some (.cells cs 86 (0, 0))) : b ≠ (⟨g, k, none⟩ : Addr).block := by
  obtain ⟨cur, h1, _⟩ := h.ex
  intro e
  subst e
  rw [h1] at hb
  injection hb with e1
  injection e1 with _ e2
  exact absurd e2 (by decide)
set_option maxRecDepth 100000 in
set_option maxHeartbeats 8000000 in
theorem implMe_any {w : World} {v sv : Value} {rs : List Int} {zs : List SG} (h : Irow w v rs) (hl : rs.length ≤ 1048576) (hz : SGrow w sv zs) (hzl : zs.length ≤ 1048576) :
    Calls Try.prog 20 #[v, sv] w fun e w' => ∃ u, e = .returned u ∧ Orow w' w.heap.size u (meV rs zs) ∧ Below w.heap.size w w' := by
  have HR : Hid (Irow w v rs) := h
  have HZ : Hid (SGrow w sv zs) := hz
  obtain ⟨ao, cap, rfl⟩ := h.sl
  obtain ⟨as1, cs, rfl⟩ := hz.sl
  clear h hz
  have HL0 : Hid (LG w (w.alloc (.cells #[.slice ao rs.length cap] 38)) w.heap.size #[.slice ao rs.length cap] 38) := LG.new w _ _
  have HRG : Hid (∀ u, Aft w u → Calls Try.prog 57 #[.slice ao rs.length cap] u fun e w' => e = .returned (.bool (rgB rs)) ∧ Below u.heap.size u w') := fun u hu => areRegs_any (HR.out.below hu.out) hl
  have HCL : Hid (∀ u, Aft w u → Calls Try.prog 59 #[.slice ao rs.length cap] u fun e w' => ∃ x, e = .returned x ∧ Orow w' u.heap.size x rs ∧ Below u.heap.size u w') := fun u hu => cloneI_any (HR.out.below hu.out) hl
  have HCF : Hid (∀ u b, LG w u b #[.slice ao rs.length cap] 38 → Calls Try.prog 58 #[.slice as1 zs.length cs, .func (.func 55) #[] #[.pointer (some ⟨b, 0, none⟩)]] u fun e w' => e = .returned (.bool (zs.any fun x => !sgOk rs.length x)) ∧ Below u.heap.size u w') := fun u b hu => containsSG_any (HZ.out.below hu.bel) hzl _ #[.pointer (some ⟨b, 0, none⟩)] (fun x => !sgOk rs.length x) cfM (fun x w' hb => wrong_any ((hb.cell (p := ⟨b, 0, none⟩) hu.lt).trans (hu.cel 0 _ rfl)) (Nat.lt_of_lt_of_le hu.lt hb.size) hl x)
  have hE : meV rs zs = if meB rs zs = true then msF rs zs else [] := rfl
  generalize meV rs zs = V at *
  unfold meB at hE
  cases h1 : rgB rs
  · have E : Hid (V = []) := (show V = [] by rw [hE, h1]; rfl)
    rw [h1] at HRG
    clear h1 hE
    go_enter Try.func20, Try.ntmps20
    go_upto_region 2 with fail
    generalize (w.alloc (.cells #[.slice ao rs.length cap] 38)) = u0 at *
    generalize w.heap.size = b0 at *
    have k0 := HL0.out.cel 0 _ rfl
    have kl := HL0.out.lt
    go_wp2_with fail
    refine Calls.mono (HRG.out _ HL0.out.aft) ?_
    rintro e u1 ⟨rfl, hb1⟩
    have HL1 : Hid (LG w u1 b0 #[.slice ao rs.length cap] 38) := HL0.out.step hb1
    clear hb1 k0 kl HL0
    go_wp2
    go_ret
    exact ⟨_, rfl, .inl ⟨E.out, _, _, rfl⟩, HL1.out.bel⟩
  · have HRL : Hid (1 ≤ rs.length ∧ rs.length ≤ 8) := rgB_len h1
    rw [h1] at HRG hE
    cases h2 : decide (1000 < (zs.length : Int))
    · have h2n : decide (zs.length ≤ 1000) = true := decide_eq_true (by have := of_decide_eq_false h2; omega)
      rw [h2n] at hE
      cases h3 : (zs.any fun x => !sgOk rs.length x)
      · have hall : zs.all (sgOk rs.length) = true := by rw [← any_not, h3]; rfl
        have E : Hid (V = msF rs zs) := (show V = _ by rw [hE, hall]; rfl)
        have HALL : Hid (zs.all (sgOk rs.length) = true) := hall
        rw [h3] at HCF
        have HZ1 : Hid (zs.length ≤ 1000) := (show zs.length ≤ 1000 from of_decide_eq_true h2n)
        clear h1 h2n h3 hE hall
        go_enter Try.func20, Try.ntmps20
        go_upto_region 2 with fail
        generalize (w.alloc (.cells #[.slice ao rs.length cap] 38)) = u0 at *
        generalize w.heap.size = b0 at *
        have k0 := HL0.out.cel 0 _ rfl
        have kl := HL0.out.lt
        go_wp2_with fail
        refine Calls.mono (HRG.out _ HL0.out.aft) ?_
        rintro e u1 ⟨rfl, hb1⟩
        have HL1 : Hid (LG w u1 b0 #[.slice ao rs.length cap] 38) := HL0.out.step hb1
        clear hb1 k0 kl HL0
        go_wp2_with fail
        refine Calls.mono (HCF.out _ _ HL1.out) ?_
        rintro e u2 ⟨rfl, hb2⟩
        have HL2 : Hid (LG w u2 b0 #[.slice ao rs.length cap] 38) := HL1.out.step hb2
        clear hb2 HL1
        have k0 := HL2.out.cel 0 _ rfl
        have kl := HL2.out.lt
        go_wp2_with fail
        refine Calls.mono (HCL.out _ HL2.out.aft) ?_
        rintro e u3 ⟨x, rfl, ho, hb3⟩
        obtain ⟨g, o, cp, rfl, hcp, hmr⟩ := MR.of ho HRL.out.1
        have HMR : Hid (MR w.heap.size u3 g o rs) := ⟨hmr.ex, Nat.le_trans HL2.out.bel.size hmr.ge⟩
        have HB3 : Hid (Below w.heap.size w u3) := HL2.out.bel.trans (hb3.mono HL2.out.bel.size)
        have HCP : Hid (rs.length ≤ cp) := hcp
        clear ho hb3 hmr k0 kl HL2 HRG HCL HCF hcp
        go_wp2
        go_loopw [28] (fun i wr => ∃ k : Nat, k ≤ zs.length ∧ i = .int .i64 k ∧ MR w.heap.size wr g o (msF rs (zs.take k)) ∧ Below w.heap.size w wr) (fun i _ => zs.length - (intOf i).toNat)
        case atStart => exact ⟨0, Nat.zero_le _, rfl, HMR.out, HB3.out⟩
        case round =>
          obtain ⟨k, hk, rfl, hmr, hbl⟩ := hrel
          have HM : Hid (MR w.heap.size wr g o (msF rs (zs.take k))) := hmr
          have HB : Hid (Below w.heap.size w wr) := hbl
          have HLN : Hid ((msF rs (zs.take k)).length = rs.length) := msF_len _ _
          clear HMR HB3
          by_cases hlt : k < zs.length
          · obtain ⟨g2, o2, cap2, hv, _, hg, hc⟩ := HZ.out.resolve_left (fun h => by rw [h.1] at hlt; simp at hlt)
            injection hv with hv1 hv2 hv3
            subst hv1 hv3
            obtain ⟨d0, d1⟩ := hc.below hbl hg k hlt
            have hgw : g2 < wr.heap.size := Nat.lt_of_lt_of_le hg hbl.size
            have hok := List.all_eq_true.1 HALL.out _ (List.getElem_mem hlt)
            have HS : Hid (msF rs (zs.take (k + 1)) = msS (msF rs (zs.take k)) zs[k]) := msF_succ rs zs k hlt
            generalize zs[k] = z at *
            have hw2 : 0 ≤ z.reg ∧ 0 ≤ (1 : Int) ∧ z.reg + 1 ≤ (rs.length : Int) := by unfold sgOk at hok; rw [Bool.and_eq_true] at hok; exact of_decide_eq_true hok.1
            have hov : ovB z.text = false := by unfold sgOk at hok; rw [Bool.and_eq_true] at hok; simpa using hok.2
            have hts := ovB_le hov
            obtain ⟨R, hR⟩ : ∃ R : Nat, z.reg = (R : Int) := ⟨z.reg.toNat, by omega⟩
            have HR2 : Hid (R < rs.length) := (show R < rs.length by omega)
            have HRG2 : Hid (msS (msF rs (zs.take k)) z = (msF rs (zs.take k)).set R (mixv (pw ((msF rs (zs.take k)).getD R 0) ++ z.text) 31)) := (show msS _ z = _ by unfold msS; rw [hR, Int.toNat_natCast])
            rw [hR] at d0
            have HX1 : Hid (LG w (wr.alloc (.cells #[.int .i64 (R : Int), .string z.text] 86)) wr.heap.size #[.int .i64 (R : Int), .string z.text] 86) := ⟨hbl.trans ((bx1 _ _).mono hbl.size), heap_new _ _, hbl.size⟩
            have HM1 : Hid (MR w.heap.size (wr.alloc (.cells #[.int .i64 (R : Int), .string z.text] 86)) g o (msF rs (zs.take k))) := hmr.below (bx1 _ _)
            have hk0 : (0 : Int) ≤ (k : Int) := by omega
            have hk1 : (k : Int) < (zs.length : Int) := by omega
            clear hc hok hw2 hov hmr hbl HM HB
            generalize z.text = tx at *
            clear hR
            generalize msF rs (zs.take k) = ms at *
            go_upto_region 8 with fail
            generalize (wr.alloc (.cells #[.int .i64 (R : Int), .string tx] 86)) = v1 at *
            generalize wr.heap.size = bn at *
            clear d0 d1 hgw hk0 hk1
            obtain ⟨c0, f0⟩ := HM1.out.cel R (by rw [HLN.out]; exact HR2.out)
            have q0 := HX1.out.cel 0 _ rfl
            have ql := HX1.out.lt
            have gl := HM1.out.lt
            have hr0 : (0 : Int) ≤ (R : Int) := by omega
            have hr1 : (R : Int) < (rs.length : Int) := by have := HR2.out; omega
            generalize ms.getD R 0 = was at *
            go_upto_region 9 with fail
            clear c0 f0 q0 ql gl
            refine wp_region_held (S := fun w9 => LG w w9 bn #[.int .i64 (R : Int), .string tx] 86) (by kernel_rfl) ?_
            change wpAnyH _ _ _ _ _ _ _ _ (World.drew _)
            have HS0 : Hid (LG w v1.drew bn #[.int .i64 (R : Int), .string tx] 86) := HX1.out.drew
            have HM2 : Hid (MR w.heap.size v1.drew g o ms) := HM1.out.drew
            generalize v1.drew = v2 at *
            clear HX1 HM1
            refine wpAnyH_take (i := 0) (v := .slice (some ⟨g, o, none⟩) rs.length cp) rfl (by kernel_rfl) (by kernel_rfl) (by kernel_rfl) (fun _ _ _ h => h) (Or.inl ⟨by kernel_rfl, fun w9 h9 => ?_⟩) HS0.out ?_
            · clear h9; go_simp
            refine wpAnyH_take (i := 1) (v := .pointer (some ⟨bn, 0, none⟩)) rfl (by kernel_rfl) (by kernel_rfl) (by kernel_rfl) (fun _ _ _ h => h) (Or.inl ⟨by kernel_rfl, fun w9 h9 => ?_⟩) HS0.out ?_
            · clear h9; go_simp
            refine wpAnyH_take (i := 2) (v := .int .i64 (R : Int)) rfl (by kernel_rfl) (by kernel_rfl) (by kernel_rfl) (fun _ _ _ h => h) (Or.inl ⟨by kernel_rfl, fun w9 h9 => ?_⟩) HS0.out ?_
            · have d0 := h9.cel 0 _ rfl; have dl := h9.lt; clear h9; go_simp
            refine wpAnyH_take (i := 3) (v := .int .i64 was) rfl (by kernel_rfl) (by kernel_rfl) (by kernel_rfl) (fun _ _ _ h => h) (Or.inl ⟨by kernel_rfl, fun w9 h9 => ?_⟩) HS0.out ?_
            · clear h9; go_simp
            refine wpAnyH_take (i := 5) (v := .pointer (some ⟨bn, 1, none⟩)) rfl (by kernel_rfl) (by kernel_rfl) (by kernel_rfl) (fun _ _ _ h => h) (Or.inl ⟨by kernel_rfl, fun w9 h9 => ?_⟩) HS0.out ?_
            · clear h9; go_simp
            refine wpAnyH_take (i := 6) (v := .string tx) rfl (by kernel_rfl) (by kernel_rfl) (by kernel_rfl) (fun _ _ _ h => h) (Or.inl ⟨by kernel_rfl, fun w9 h9 => ?_⟩) HS0.out ?_
            · have d0 := h9.cel 1 _ rfl; have dl := h9.lt; clear h9; go_simp
            refine held_one 4 (by kernel_rfl) rfl (by kernel_rfl) fun K hK => ?_
            go_simp
            go_wp2_with (go_at_call 62; refine Calls.mono (implPutWord_any was _) ?_; rintro e9 v3 ⟨rfl, hu⟩; have HS3 : Hid (LG w v3 bn #[.int .i64 (R : Int), .string tx] 86) := HS0.out.step hu; have HM3 : Hid (MR w.heap.size v3 g o ms) := HM2.out.below hu; clear hu HS0 HM2)
            refine hK _ _ HS3.out ?_
            clear hK K
            have HJZ : Hid ((pw was).size + tx.size ≤ 1099511627776) := (show _ ≤ _ by rw [pw_size]; omega)
            have hmx : (pw was ++ tx).size ≤ 1048576 := by rw [ByteArray.size_append, pw_size]; omega
            refine held_one 7 (by kernel_rfl) rfl (by kernel_rfl) fun K hK => ?_
            have HS4 : Hid (LG w (v3.alloc (.cells #[.string (pw was), .string tx] 9)) bn #[.int .i64 (R : Int), .string tx] 86) := HS3.out.step (bx1 _ _)
            have HJC : Hid _ := join2_any v3 (pw was) tx HJZ.out
            go_simp
            refine hK _ _ HS4.out ?_
            clear hK K HS4
            refine held_one 8 (by kernel_rfl) rfl (by kernel_rfl) fun K hK => ?_
            go_simp
            go_wp2_with (go_at_call 61; refine Calls.mono (HJC.out) ?_; rintro e9 v5 ⟨rfl, hu⟩; have HS5 : Hid (LG w v5 bn #[.int .i64 (R : Int), .string tx] 86) := HS3.out.step hu; have HM5 : Hid (MR w.heap.size v5 g o ms) := HM3.out.below hu; clear hu HS3 HM3)
            refine hK _ _ HS5.out ?_
            clear hK K
            refine held_one 9 (by kernel_rfl) rfl (by kernel_rfl) fun K hK => ?_
            go_simp
            go_wp2_with (go_at_call 60; refine Calls.mono (implMix_any _ _ _ hmx) ?_; rintro e9 v6 ⟨rfl, hw6⟩; rw [hw6]; clear hw6)
            refine hK _ _ HS5.out ?_
            clear hK K
            refine wpAnyH_take (i := 10) (v := .pointer (some ⟨g, o + R, none⟩)) rfl (by kernel_rfl) (by kernel_rfl) (by kernel_rfl) (fun _ _ _ h => h) (Or.inl ⟨by kernel_rfl, fun w9 h9 => ?_⟩) HS5.out ?_
            · clear h9; go_simp
            obtain ⟨c0, f0⟩ := HM5.out.cel R (by rw [HLN.out]; exact HR2.out)
            have gl := HM5.out.lt
            have HM6 : Hid (MR w.heap.size (v5.setCell ⟨g, o + R, none⟩ (.int .i64 (mixv (pw was ++ tx) 31))) g o (msF rs (zs.take (k + 1)))) := (by rw [HS.out, HRG2.out]; exact HM5.out.set R (by rw [HLN.out]; exact HR2.out) _)
            have HS6 : Hid (LG w (v5.setCell ⟨g, o + R, none⟩ (.int .i64 (mixv (pw was ++ tx) 31))) bn #[.int .i64 (R : Int), .string tx] 86) := ⟨HS5.out.bel.setCell HM5.out.ge _, (Below.heap_setCell _ _ _ _ (mr_ne HM5.out HS5.out.box)).trans HS5.out.box, HS5.out.ge⟩
            refine held_one 11 (by kernel_rfl) rfl (by kernel_rfl) fun K hK => ?_
            go_simp
            refine hK _ _ HS6.out ?_
            clear hK K
            refine wpAnyH_done (by kernel_rfl) ?_ _
            go_simp
            go_wp2
            exact ⟨⟨k + 1, hlt, by go_num, HM6.out, HS6.out.bel⟩, by simp [intOf]; omega⟩
          · obtain rfl : k = zs.length := by omega
            rw [List.take_length] at HM HLN
            go_wp2
            go_ret
            refine ⟨_, rfl, ?_, HB.out⟩
            rw [E.out, ← HLN.out]
            exact HM.out.orow (by rw [HLN.out]; exact HCP.out)
      · have hall : zs.all (sgOk rs.length) = false := by rw [← any_not, h3]; rfl
        have E : Hid (V = []) := (show V = _ by rw [hE, hall]; rfl)
        rw [h3] at HCF
        clear h1 h2n h3 hE hall
        go_enter Try.func20, Try.ntmps20
        go_upto_region 2 with fail
        generalize (w.alloc (.cells #[.slice ao rs.length cap] 38)) = u0 at *
        generalize w.heap.size = b0 at *
        have k0 := HL0.out.cel 0 _ rfl
        have kl := HL0.out.lt
        go_wp2_with fail
        refine Calls.mono (HRG.out _ HL0.out.aft) ?_
        rintro e u1 ⟨rfl, hb1⟩
        have HL1 : Hid (LG w u1 b0 #[.slice ao rs.length cap] 38) := HL0.out.step hb1
        clear hb1 k0 kl HL0
        go_wp2_with fail
        refine Calls.mono (HCF.out _ _ HL1.out) ?_
        rintro e u2 ⟨rfl, hb2⟩
        have HL2 : Hid (LG w u2 b0 #[.slice ao rs.length cap] 38) := HL1.out.step hb2
        clear hb2 HL1
        go_wp2
        go_ret
        exact ⟨_, rfl, .inl ⟨E.out, _, _, rfl⟩, HL2.out.bel⟩
    · have h2n : decide (zs.length ≤ 1000) = false := decide_eq_false (by have := of_decide_eq_true h2; omega)
      have E : Hid (V = []) := (show V = _ by rw [hE, h2n]; rfl)
      clear h1 h2n hE
      go_enter Try.func20, Try.ntmps20
      go_upto_region 2 with fail
      generalize (w.alloc (.cells #[.slice ao rs.length cap] 38)) = u0 at *
      generalize w.heap.size = b0 at *
      have k0 := HL0.out.cel 0 _ rfl
      have kl := HL0.out.lt
      go_wp2_with fail
      refine Calls.mono (HRG.out _ HL0.out.aft) ?_
      rintro e u1 ⟨rfl, hb1⟩
      have HL1 : Hid (LG w u1 b0 #[.slice ao rs.length cap] 38) := HL0.out.step hb1
      clear hb1 k0 kl HL0
      go_wp2
      go_ret
      exact ⟨_, rfl, .inl ⟨E.out, _, _, rfl⟩, HL1.out.bel⟩
end Go.Proofs.Ythncnffnjjclfab
