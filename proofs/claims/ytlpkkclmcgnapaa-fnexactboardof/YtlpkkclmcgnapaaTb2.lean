import Derived.Test.YtlpkkclmcgnapaaTb1
import Derived.Test.YtlpkkclmcgnapaaHl
namespace Go.Proofs.Ytlpkkclmcgnapaa
open Go.ChangeShapes Go.WideShapes Go.ChangeAt Go.RowKit

theorem held_two21 {P : Program} {md : Region.Mode} {ops : Array Oper} {Q : Exit → Act → World → Prop} {S : World → Prop} {fuel : Nat} {listed : Array Bool} {a : Act} {w : World} (i j : Nat) {o o2 : Oper} (hr : Region.ready md ops listed = [i, j]) (ho : ops[i]? = some o) (ho2 : ops[j]? = some o2)
    (hw : Region.wanted o (yielded ops a.tmps) = true) (hw2 : Region.wanted o2 (yielded ops a.tmps) = true) (h : ∀ K : Act → World → Prop, (∀ a' w', S w' → wpAnyH P md ops Q S fuel (listed.setIfInBounds i true) a' w' → K a' w') → o.wp P a w K Q) (h2 : ∀ K : Act → World → Prop, (∀ a' w', S w' → wpAnyH P md ops Q S fuel (listed.setIfInBounds j true) a' w' → K a' w') → o2.wp P a w K Q) : wpAnyH P md ops Q S (fuel + 1) listed a w :=
  wpAnyH_all hr (by simp) (all_two (held_step ho hw h) (held_step ho2 hw2 h2))
set_option maxRecDepth 100000 in
set_option maxHeartbeats 4000000 in
theorem implTO_any {w : World} {f c : Int} {ao : Option Addr} {cap : Nat} {zs : List DV} (h : DVrow w (.slice ao zs.length cap) zs) : Calls Try.prog 12 #[.agg #[.int .i64 f, .int .i64 c, .slice ao zs.length cap]] w fun e w' => ∃ v, e = .returned v ∧ w'.ownsRow w.heap.size 56 3 v (tbV f c zs).length (ftR (tbV f c zs)) ∧ Below w.heap.size w w' := by
  have HR : Hid (DVrow w (.slice ao zs.length cap) zs) := h
  have HBF : Hid (∀ u, Aft w u → Calls Try.prog 9 #[.agg #[.int .i64 f, .int .i64 c, .slice ao zs.length cap]] u fun e w' => e = .returned (.int .i64 (bfV f c zs)) ∧ Below u.heap.size u w') := fun u hu => implBF_any (h.below hu.out)
  have HL0 : Hid (LG w (w.alloc (.cells #[.int .i64 f, .int .i64 c, .slice ao zs.length cap] 29)) w.heap.size #[.int .i64 f, .int .i64 c, .slice ao zs.length cap] 29) := LG.new w _ _
  clear h
  cases hq : bfB f c zs
  · have E : Hid (tbV f c zs = []) := (show tbV f c zs = [] by unfold tbV; rw [hq]; rfl)
    have e1 : bfV f c zs = 1 := by unfold bfV; rw [hq]; rfl
    rw [e1] at HBF
    go_enter Try.func12, Try.ntmps12
    go_upto_region 1 with fail
    generalize (w.alloc (.cells #[.int .i64 f, .int .i64 c, .slice ao zs.length cap] 29)) = u0 at *
    generalize hb0 : w.heap.size = b0 at HL0 ⊢
    have k0 := HL0.out.cel 0 _ rfl
    have k1 := HL0.out.cel 1 _ rfl
    have k2 := HL0.out.cel 2 _ rfl
    have kl := HL0.out.lt
    go_wp2_with (go_at_call 9; refine Calls.mono (HBF.out _ HL0.out.aft) ?_; rintro e u1 ⟨rfl, hb1⟩; have HL1 : Hid (LG w u1 b0 _ _) := HL0.out.step hb1; clear hb1)
    go_ret
    exact ⟨_, rfl, by rw [E.out]; exact World.ownsRow_nil _ _ _ _, hb0 ▸ HL1.out.bel⟩
  have E : Hid (tbV f c zs = tbL f c zs) := (show tbV f c zs = _ by unfold tbV; rw [hq]; rfl)
  have e1 : bfV f c zs = 0 := by unfold bfV; rw [hq]; rfl
  rw [e1] at HBF
  have hlen := bf_len hq
  have HDV : Hid (∀ k (hk : k < zs.length), dvB zs[k] = true) := fun k hk => bf_dv hq k hk
  clear e1 hq
  go_enter Try.func12, Try.ntmps12
  go_upto_region 1 with fail
  generalize (w.alloc (.cells #[.int .i64 f, .int .i64 c, .slice ao zs.length cap] 29)) = u0 at *
  generalize hb0 : w.heap.size = b0 at HL0 ⊢
  have HB0 : Hid (w.heap.size = b0) := hb0
  clear hb0
  have k0 := HL0.out.cel 0 _ rfl
  have k1 := HL0.out.cel 1 _ rfl
  have k2 := HL0.out.cel 2 _ rfl
  have kl := HL0.out.lt
  go_wp2_with fail
  refine Calls.mono (HBF.out _ HL0.out.aft) ?_
  rintro e u1 ⟨rfl, hb1⟩
  have HL1 : Hid (LG w u1 b0 #[.int .i64 f, .int .i64 c, .slice ao zs.length cap] 29) := HL0.out.step hb1
  clear hb1 HL0 k0 k1 k2 kl HBF
  have k0 := HL1.out.cel 0 _ rfl
  have k1 := HL1.out.cel 1 _ rfl
  have k2 := HL1.out.cel 2 _ rfl
  have kl := HL1.out.lt
  go_wp2
  clear k0 k1 k2 kl
  obtain ⟨q1, hq1⟩ : ∃ q, u1.heap.size = q := ⟨_, rfl⟩
  have HQ1 : Hid (u1.heap.size = q1) := hq1
  clear hq1
  go_loopw [3, 12] (fun st i wr => ∃ k : Nat, k ≤ zs.length ∧ i = .int .i64 k ∧ wr.ownsRow q1 2 1 st k (iR ((zs.map dwW).take k)) ∧ Below u1.heap.size u1 wr) (fun _ i _ => zs.length - (intOf i).toNat)
  case atStart => exact ⟨0, Nat.zero_le _, rfl, World.ownsRow_nil _ _ _ _, Below.refl _ _⟩
  case round =>
    obtain ⟨k, hk, rfl, hown, hb⟩ := hrel
    obtain ⟨a3, c3, hst⟩ := i_sl hown
    subst hst
    have HB : Hid (Below u1.heap.size u1 wr) := hb
    have HO : Hid (wr.ownsRow q1 2 1 (.slice a3 k c3) k (iR ((zs.map dwW).take k))) := hown
    have HLX : Hid (LG w wr b0 #[.int .i64 f, .int .i64 c, .slice ao zs.length cap] 29) := HL1.out.step hb
    clear hown hb
    by_cases hlt : k < zs.length
    · obtain ⟨g, o, cap2, hv, _, hg, hc⟩ := HR.out.resolve_left (fun h => by rw [h.1] at hlt; simp at hlt)
      injection hv with hv1 hv2 hv3
      subst hv1 hv3
      have hgw : g < wr.heap.size := Nat.lt_of_lt_of_le hg HLX.out.bel.size
      have hk0 : (0 : Int) ≤ (k : Int) := by omega
      have hk1 : (k : Int) < (zs.length : Int) := by omega
      have hk9 : (k : Int) ≤ 16 := by omega
      obtain ⟨d0, d1, d2⟩ := hc.below HLX.out.bel hg k hlt
      have HMP : Hid ((zs.map dwW).take (k + 1) = (zs.map dwW).take k ++ [dwW zs[k]]) := tb_map zs k hlt
      have HW : Hid (∀ u, Calls Try.prog 29 #[.agg #[.int .i64 zs[k].kind, .int .i64 zs[k].port, .int .i64 zs[k].line]] u fun e w' => e = .returned (.int .i64 (dwW zs[k])) ∧ Below u.heap.size u w') := fun u => devWord_any zs[k] (HDV.out k hlt) u
      generalize zs[k] = z at *
      generalize dwW z = V at *
      have HE : Hid (Below wr.heap.size wr (wr.alloc (.cells #[.int .i64 z.kind, .int .i64 z.port, .int .i64 z.line] 49))) := bx1 _ _
      have HEB : Hid (LG wr (wr.alloc (.cells #[.int .i64 z.kind, .int .i64 z.port, .int .i64 z.line] 49)) wr.heap.size #[.int .i64 z.kind, .int .i64 z.port, .int .i64 z.line] 49) := LG.new _ _ _
      clear hc
      go_upto_region 7 with fail
      clear d0 d1 d2 hgw
      generalize (wr.alloc (.cells #[.int .i64 z.kind, .int .i64 z.port, .int .i64 z.line] 49)) = u2 at *
      generalize wr.heap.size = q2 at HEB ⊢
      have k0 := HEB.out.cel 0 _ rfl
      have k1 := HEB.out.cel 1 _ rfl
      have k2 := HEB.out.cel 2 _ rfl
      have kl := HEB.out.lt
      go_wp2_with fail
      refine Calls.mono (HW.out _) ?_
      rintro e u3 ⟨rfl, hb⟩
      have HB3 : Hid (Below wr.heap.size wr u3) := HE.out.trans (hb.mono HE.out.size)
      have HO3 : Hid (u3.ownsRow q1 2 1 (.slice a3 k c3) k (iR ((zs.map dwW).take k))) := own_belowN HO.out HB3.out
      have HC3 : Hid (Below u1.heap.size u1 u3) := HB.out.trans (HB3.out.mono HB.out.size)
      clear hb HE HEB HO HB HB3 HW k0 k1 k2 kl
      have HAP : Hid _ := appN HO3.out (by omega) (by have := HC3.out.size; have := HQ1.out; omega) V
      go_wp2_with (at_builtin; (refine wl_append_exB rfl _ _ 57 rfl _ _ rfl rfl HAP.out ?_; rintro v' u' ⟨ho, hg9⟩; obtain ⟨a5, c5, rfl⟩ := i_sl ho; have HO2 : Hid (u'.ownsRow q1 2 1 (.slice a5 (k + 1) c5) (k + 1) (iR ((zs.map dwW).take (k + 1)))) := (by rw [HMP.out]; exact ho); have HB2 : Hid (Below u1.heap.size u1 u') := ((HC3.out.alloc HC3.out.size _).grown hg9 (by have := HC3.out.size; simp; omega) (fun j hj => by have := (HO3.out.lt j hj).1; have := HQ1.out; omega)); clear ho hg9))
      exact ⟨⟨k + 1, hlt, by go_num, HO2.out, HB2.out⟩, by simp [intOf]; omega⟩
    · obtain rfl : k = zs.length := by omega
      have hnl : ¬ ((zs.length : Nat) : Int) < (zs.length : Int) := by omega
      have HI : Hid (Irow wr (.slice a3 zs.length c3) (zs.map dwW)) := Irow.of (B := q1) (by have h9 := HO.out; rw [List.take_of_length_le (by simp)] at h9; simpa using h9)
      have HT : Hid (∀ u v t n, Irow u v t → t.length ≤ 1000 → Calls Try.prog 30 #[.string n, v] u fun e w' => e = .returned (.agg #[.string n, .int .i64 1, .string (pwT t)]) ∧ Below u.heap.size u w') := fun u v t n h1 h2 => boardTable_any h1 h2 n
      clear HO HB HDV HL1 HR HQ1
      go_upto_region 9 with fail
      have HS0 : Hid (LG w wr.drew b0 #[.int .i64 f, .int .i64 c, .slice ao zs.length cap] 29) := HLX.out.drew
      have HI0 : Hid (Irow wr.drew (.slice a3 zs.length c3) (zs.map dwW)) := HI.out.below (Below.refl _ _).drew
      clear HLX HI
      refine wp_region_held (S := fun w9 => LG w w9 b0 #[.int .i64 f, .int .i64 c, .slice ao zs.length cap] 29) (by kernel_rfl) ?_
      change wpAnyH _ _ _ _ _ _ _ _ (World.drew _)
      generalize wr.drew = x0 at *
      refine wpAnyH_take (i := 0) (v := .pointer (some ⟨b0, 0, none⟩)) rfl (by kernel_rfl) (by kernel_rfl) (by kernel_rfl) (fun _ _ _ h => h) (Or.inl ⟨by kernel_rfl, fun w9 h9 => ?_⟩) HS0.out ?_
      · go_simp
      refine wpAnyH_take (i := 1) (v := .int .i64 f) rfl (by kernel_rfl) (by kernel_rfl) (by kernel_rfl) (fun _ _ _ h => h) (Or.inl ⟨by kernel_rfl, fun w9 h9 => ?_⟩) HS0.out ?_
      · have k0 := h9.cel 0 _ rfl; have k1 := h9.cel 1 _ rfl; have kl := h9.lt; go_simp
      refine wpAnyH_take (i := 4) (v := .pointer (some ⟨b0, 1, none⟩)) rfl (by kernel_rfl) (by kernel_rfl) (by kernel_rfl) (fun _ _ _ h => h) (Or.inl ⟨by kernel_rfl, fun w9 h9 => ?_⟩) HS0.out ?_
      · go_simp
      refine wpAnyH_take (i := 5) (v := .int .i64 c) rfl (by kernel_rfl) (by kernel_rfl) (by kernel_rfl) (fun _ _ _ h => h) (Or.inl ⟨by kernel_rfl, fun w9 h9 => ?_⟩) HS0.out ?_
      · have k0 := h9.cel 0 _ rfl; have k1 := h9.cel 1 _ rfl; have kl := h9.lt; go_simp
      refine wpAnyH_take (i := 8) (v := .slice a3 zs.length c3) rfl (by kernel_rfl) (by kernel_rfl) (by kernel_rfl) (fun _ _ _ h => h) (Or.inl ⟨by kernel_rfl, fun w9 h9 => ?_⟩) HS0.out ?_
      · go_simp
      refine held_two21 2 6 (by kernel_rfl) rfl rfl (by kernel_rfl) (by kernel_rfl) (fun K hK => ?_) (fun K hK => ?_)
      · skip
        have hb : Below x0.heap.size x0 (x0.alloc (.cells #[.int .i64 f] 2)) := bx1 _ _
        have HS1 : Hid (LG w (x0.alloc (.cells #[.int .i64 f] 2)) b0 #[.int .i64 f, .int .i64 c, .slice ao zs.length cap] 29) := HS0.out.step hb
        have HI1 : Hid (Irow (x0.alloc (.cells #[.int .i64 f] 2)) (.slice a3 zs.length c3) (zs.map dwW)) := HI0.out.below hb
        have HF1 : Hid (Irow (x0.alloc (.cells #[.int .i64 f] 2)) (.slice (some ⟨x0.heap.size, 0, none⟩) 1 1) [f]) := i_one _ _
        clear hb HS0 HI0
        go_simp
        refine hK _ _ HS1.out ?_
        clear hK K
        generalize (x0.alloc (.cells #[.int .i64 f] 2)) = x1 at *
        generalize x0.heap.size = pf at *
        refine held_two21 3 6 (by kernel_rfl) rfl rfl (by kernel_rfl) (by kernel_rfl) (fun K hK => ?_) (fun K hK => ?_)
        · skip
          go_simp
          go_wp2_with (go_at_call 30; refine Calls.mono (HT.out _ _ [f] _ HF1.out (by simp; try omega)) ?_; rintro e x2 ⟨rfl, hb⟩; have HS2 : Hid (LG w x2 b0 #[.int .i64 f, .int .i64 c, .slice ao zs.length cap] 29) := HS1.out.step hb; have HI2 : Hid (Irow x2 (.slice a3 zs.length c3) (zs.map dwW)) := HI1.out.below hb; clear hb HS1 HI1 HF1)
          refine hK _ _ HS2.out ?_
          clear hK K
          refine held_one 6 (by kernel_rfl) rfl (by kernel_rfl) fun K hK => ?_
          have hb : Below x2.heap.size x2 (x2.alloc (.cells #[.int .i64 c] 2)) := bx1 _ _
          have HS3 : Hid (LG w (x2.alloc (.cells #[.int .i64 c] 2)) b0 #[.int .i64 f, .int .i64 c, .slice ao zs.length cap] 29) := HS2.out.step hb
          have HI3 : Hid (Irow (x2.alloc (.cells #[.int .i64 c] 2)) (.slice a3 zs.length c3) (zs.map dwW)) := HI2.out.below hb
          have HC3 : Hid (Irow (x2.alloc (.cells #[.int .i64 c] 2)) (.slice (some ⟨x2.heap.size, 0, none⟩) 1 1) [c]) := i_one _ _
          clear hb HS2 HI2
          go_simp
          refine hK _ _ HS3.out ?_
          clear hK K
          generalize (x2.alloc (.cells #[.int .i64 c] 2)) = x3 at *
          generalize x2.heap.size = pc at *
          refine held_one 7 (by kernel_rfl) rfl (by kernel_rfl) fun K hK => ?_
          go_simp
          go_wp2_with (go_at_call 30; refine Calls.mono (HT.out _ _ [c] _ HC3.out (by simp; try omega)) ?_; rintro e x4 ⟨rfl, hb⟩; have HS4 : Hid (LG w x4 b0 #[.int .i64 f, .int .i64 c, .slice ao zs.length cap] 29) := HS3.out.step hb; have HI4 : Hid (Irow x4 (.slice a3 zs.length c3) (zs.map dwW)) := HI3.out.below hb; clear hb HS3 HI3 HC3)
          refine hK _ _ HS4.out ?_
          clear hK K
          refine held_one 9 (by kernel_rfl) rfl (by kernel_rfl) fun K hK => ?_
          go_simp
          go_wp2_with (go_at_call 30; refine Calls.mono (HT.out _ _ (zs.map dwW) _ HI4.out (by simp; try omega)) ?_; rintro e x5 ⟨rfl, hb⟩; have HS5 : Hid (LG w x5 b0 #[.int .i64 f, .int .i64 c, .slice ao zs.length cap] 29) := HS4.out.step hb; have HI5 : Hid (Irow x5 (.slice a3 zs.length c3) (zs.map dwW)) := HI4.out.below hb; clear hb HS4 HI4)
          refine hK _ _ HS5.out ?_
          clear hK K
          have HZ : Hid (Below w.heap.size w x5) := HS5.out.bel
          have HO9 : Hid ((x5.alloc (.cells #[.string ⟨#[77, 69, 77, 79]⟩, .int .i64 1, .string (pwT [f]), .string ⟨#[67, 80, 85, 83]⟩, .int .i64 1, .string (pwT [c]), .string ⟨#[68, 69, 86, 83]⟩, .int .i64 1, .string (pwT (zs.map dwW))] 56)).ownsRow w.heap.size 56 3 (.slice (some ⟨x5.heap.size, 0, none⟩) 3 3) 3 (ftR (tbL f c zs))) := ft_three x5 ⟨nmM, 1, pwT [f]⟩ ⟨nmC, 1, pwT [c]⟩ ⟨nmD, 1, pwT (zs.map dwW)⟩ _ HZ.out.size
          have HB9 : Hid (Below w.heap.size w (x5.alloc (.cells #[.string ⟨#[77, 69, 77, 79]⟩, .int .i64 1, .string (pwT [f]), .string ⟨#[67, 80, 85, 83]⟩, .int .i64 1, .string (pwT [c]), .string ⟨#[68, 69, 86, 83]⟩, .int .i64 1, .string (pwT (zs.map dwW))] 56))) := HZ.out.trans ((bx1 _ _).mono HZ.out.size)
          have HS9 : Hid (LG w (x5.alloc (.cells #[.string ⟨#[77, 69, 77, 79]⟩, .int .i64 1, .string (pwT [f]), .string ⟨#[67, 80, 85, 83]⟩, .int .i64 1, .string (pwT [c]), .string ⟨#[68, 69, 86, 83]⟩, .int .i64 1, .string (pwT (zs.map dwW))] 56)) b0 #[.int .i64 f, .int .i64 c, .slice ao zs.length cap] 29) := HS5.out.step (bx1 _ _)
          refine held_one 10 (by kernel_rfl) rfl (by kernel_rfl) fun K hK => ?_
          go_simp
          refine hK _ _ HS9.out ?_
          clear hK K
          generalize (x5.alloc (.cells #[.string ⟨#[77, 69, 77, 79]⟩, .int .i64 1, .string (pwT [f]), .string ⟨#[67, 80, 85, 83]⟩, .int .i64 1, .string (pwT [c]), .string ⟨#[68, 69, 86, 83]⟩, .int .i64 1, .string (pwT (zs.map dwW))] 56)) = y9 at *
          generalize x5.heap.size = p9 at *
          refine wpAnyH_take (i := 11) (v := .slice (some ⟨p9, 0, none⟩) 3 3) rfl (by kernel_rfl) (by kernel_rfl) (by kernel_rfl) (fun _ _ _ h => h) (Or.inl ⟨by kernel_rfl, fun w9 h9 => ?_⟩) HS9.out ?_
          · go_simp
          refine wpAnyH_done (by kernel_rfl) ?_ _
          go_simp
          go_wp2
          go_ret
          exact ⟨_, rfl, by rw [E.out, ← HB0.out]; exact HO9.out, HB0.out ▸ HB9.out⟩
        · skip
          have hb : Below x1.heap.size x1 (x1.alloc (.cells #[.int .i64 c] 2)) := bx1 _ _
          have HS2 : Hid (LG w (x1.alloc (.cells #[.int .i64 c] 2)) b0 #[.int .i64 f, .int .i64 c, .slice ao zs.length cap] 29) := HS1.out.step hb
          have HI2 : Hid (Irow (x1.alloc (.cells #[.int .i64 c] 2)) (.slice a3 zs.length c3) (zs.map dwW)) := HI1.out.below hb
          have HF2 : Hid (Irow (x1.alloc (.cells #[.int .i64 c] 2)) (.slice (some ⟨pf, 0, none⟩) 1 1) [f]) := HF1.out.below hb
          have HC2 : Hid (Irow (x1.alloc (.cells #[.int .i64 c] 2)) (.slice (some ⟨x1.heap.size, 0, none⟩) 1 1) [c]) := i_one _ _
          clear hb HS1 HI1 HF1
          go_simp
          refine hK _ _ HS2.out ?_
          clear hK K
          generalize (x1.alloc (.cells #[.int .i64 c] 2)) = x2 at *
          generalize x1.heap.size = pc at *
          refine held_one 3 (by kernel_rfl) rfl (by kernel_rfl) fun K hK => ?_
          go_simp
          go_wp2_with (go_at_call 30; refine Calls.mono (HT.out _ _ [f] _ HF2.out (by simp; try omega)) ?_; rintro e x3 ⟨rfl, hb⟩; have HS3 : Hid (LG w x3 b0 #[.int .i64 f, .int .i64 c, .slice ao zs.length cap] 29) := HS2.out.step hb; have HI3 : Hid (Irow x3 (.slice a3 zs.length c3) (zs.map dwW)) := HI2.out.below hb; have HC3 : Hid (Irow x3 (.slice (some ⟨pc, 0, none⟩) 1 1) [c]) := HC2.out.below hb; clear hb HS2 HI2 HF2 HC2)
          refine hK _ _ HS3.out ?_
          clear hK K
          refine held_one 7 (by kernel_rfl) rfl (by kernel_rfl) fun K hK => ?_
          go_simp
          go_wp2_with (go_at_call 30; refine Calls.mono (HT.out _ _ [c] _ HC3.out (by simp; try omega)) ?_; rintro e x4 ⟨rfl, hb⟩; have HS4 : Hid (LG w x4 b0 #[.int .i64 f, .int .i64 c, .slice ao zs.length cap] 29) := HS3.out.step hb; have HI4 : Hid (Irow x4 (.slice a3 zs.length c3) (zs.map dwW)) := HI3.out.below hb; clear hb HS3 HI3 HC3)
          refine hK _ _ HS4.out ?_
          clear hK K
          refine held_one 9 (by kernel_rfl) rfl (by kernel_rfl) fun K hK => ?_
          go_simp
          go_wp2_with (go_at_call 30; refine Calls.mono (HT.out _ _ (zs.map dwW) _ HI4.out (by simp; try omega)) ?_; rintro e x5 ⟨rfl, hb⟩; have HS5 : Hid (LG w x5 b0 #[.int .i64 f, .int .i64 c, .slice ao zs.length cap] 29) := HS4.out.step hb; have HI5 : Hid (Irow x5 (.slice a3 zs.length c3) (zs.map dwW)) := HI4.out.below hb; clear hb HS4 HI4)
          refine hK _ _ HS5.out ?_
          clear hK K
          have HZ : Hid (Below w.heap.size w x5) := HS5.out.bel
          have HO9 : Hid ((x5.alloc (.cells #[.string ⟨#[77, 69, 77, 79]⟩, .int .i64 1, .string (pwT [f]), .string ⟨#[67, 80, 85, 83]⟩, .int .i64 1, .string (pwT [c]), .string ⟨#[68, 69, 86, 83]⟩, .int .i64 1, .string (pwT (zs.map dwW))] 56)).ownsRow w.heap.size 56 3 (.slice (some ⟨x5.heap.size, 0, none⟩) 3 3) 3 (ftR (tbL f c zs))) := ft_three x5 ⟨nmM, 1, pwT [f]⟩ ⟨nmC, 1, pwT [c]⟩ ⟨nmD, 1, pwT (zs.map dwW)⟩ _ HZ.out.size
          have HB9 : Hid (Below w.heap.size w (x5.alloc (.cells #[.string ⟨#[77, 69, 77, 79]⟩, .int .i64 1, .string (pwT [f]), .string ⟨#[67, 80, 85, 83]⟩, .int .i64 1, .string (pwT [c]), .string ⟨#[68, 69, 86, 83]⟩, .int .i64 1, .string (pwT (zs.map dwW))] 56))) := HZ.out.trans ((bx1 _ _).mono HZ.out.size)
          have HS9 : Hid (LG w (x5.alloc (.cells #[.string ⟨#[77, 69, 77, 79]⟩, .int .i64 1, .string (pwT [f]), .string ⟨#[67, 80, 85, 83]⟩, .int .i64 1, .string (pwT [c]), .string ⟨#[68, 69, 86, 83]⟩, .int .i64 1, .string (pwT (zs.map dwW))] 56)) b0 #[.int .i64 f, .int .i64 c, .slice ao zs.length cap] 29) := HS5.out.step (bx1 _ _)
          refine held_one 10 (by kernel_rfl) rfl (by kernel_rfl) fun K hK => ?_
          go_simp
          refine hK _ _ HS9.out ?_
          clear hK K
          generalize (x5.alloc (.cells #[.string ⟨#[77, 69, 77, 79]⟩, .int .i64 1, .string (pwT [f]), .string ⟨#[67, 80, 85, 83]⟩, .int .i64 1, .string (pwT [c]), .string ⟨#[68, 69, 86, 83]⟩, .int .i64 1, .string (pwT (zs.map dwW))] 56)) = y9 at *
          generalize x5.heap.size = p9 at *
          refine wpAnyH_take (i := 11) (v := .slice (some ⟨p9, 0, none⟩) 3 3) rfl (by kernel_rfl) (by kernel_rfl) (by kernel_rfl) (fun _ _ _ h => h) (Or.inl ⟨by kernel_rfl, fun w9 h9 => ?_⟩) HS9.out ?_
          · go_simp
          refine wpAnyH_done (by kernel_rfl) ?_ _
          go_simp
          go_wp2
          go_ret
          exact ⟨_, rfl, by rw [E.out, ← HB0.out]; exact HO9.out, HB0.out ▸ HB9.out⟩
      · skip
        have hb : Below x0.heap.size x0 (x0.alloc (.cells #[.int .i64 c] 2)) := bx1 _ _
        have HS1 : Hid (LG w (x0.alloc (.cells #[.int .i64 c] 2)) b0 #[.int .i64 f, .int .i64 c, .slice ao zs.length cap] 29) := HS0.out.step hb
        have HI1 : Hid (Irow (x0.alloc (.cells #[.int .i64 c] 2)) (.slice a3 zs.length c3) (zs.map dwW)) := HI0.out.below hb
        have HC1 : Hid (Irow (x0.alloc (.cells #[.int .i64 c] 2)) (.slice (some ⟨x0.heap.size, 0, none⟩) 1 1) [c]) := i_one _ _
        clear hb HS0 HI0
        go_simp
        refine hK _ _ HS1.out ?_
        clear hK K
        generalize (x0.alloc (.cells #[.int .i64 c] 2)) = x1 at *
        generalize x0.heap.size = pc at *
        refine held_one 2 (by kernel_rfl) rfl (by kernel_rfl) fun K hK => ?_
        have hb : Below x1.heap.size x1 (x1.alloc (.cells #[.int .i64 f] 2)) := bx1 _ _
        have HS2 : Hid (LG w (x1.alloc (.cells #[.int .i64 f] 2)) b0 #[.int .i64 f, .int .i64 c, .slice ao zs.length cap] 29) := HS1.out.step hb
        have HI2 : Hid (Irow (x1.alloc (.cells #[.int .i64 f] 2)) (.slice a3 zs.length c3) (zs.map dwW)) := HI1.out.below hb
        have HC2 : Hid (Irow (x1.alloc (.cells #[.int .i64 f] 2)) (.slice (some ⟨pc, 0, none⟩) 1 1) [c]) := HC1.out.below hb
        have HF2 : Hid (Irow (x1.alloc (.cells #[.int .i64 f] 2)) (.slice (some ⟨x1.heap.size, 0, none⟩) 1 1) [f]) := i_one _ _
        clear hb HS1 HI1 HC1
        go_simp
        refine hK _ _ HS2.out ?_
        clear hK K
        generalize (x1.alloc (.cells #[.int .i64 f] 2)) = x2 at *
        generalize x1.heap.size = pf at *
        refine held_one 3 (by kernel_rfl) rfl (by kernel_rfl) fun K hK => ?_
        go_simp
        go_wp2_with (go_at_call 30; refine Calls.mono (HT.out _ _ [f] _ HF2.out (by simp; try omega)) ?_; rintro e x3 ⟨rfl, hb⟩; have HS3 : Hid (LG w x3 b0 #[.int .i64 f, .int .i64 c, .slice ao zs.length cap] 29) := HS2.out.step hb; have HI3 : Hid (Irow x3 (.slice a3 zs.length c3) (zs.map dwW)) := HI2.out.below hb; have HC3 : Hid (Irow x3 (.slice (some ⟨pc, 0, none⟩) 1 1) [c]) := HC2.out.below hb; clear hb HS2 HI2 HF2 HC2)
        refine hK _ _ HS3.out ?_
        clear hK K
        refine held_one 7 (by kernel_rfl) rfl (by kernel_rfl) fun K hK => ?_
        go_simp
        go_wp2_with (go_at_call 30; refine Calls.mono (HT.out _ _ [c] _ HC3.out (by simp; try omega)) ?_; rintro e x4 ⟨rfl, hb⟩; have HS4 : Hid (LG w x4 b0 #[.int .i64 f, .int .i64 c, .slice ao zs.length cap] 29) := HS3.out.step hb; have HI4 : Hid (Irow x4 (.slice a3 zs.length c3) (zs.map dwW)) := HI3.out.below hb; clear hb HS3 HI3 HC3)
        refine hK _ _ HS4.out ?_
        clear hK K
        refine held_one 9 (by kernel_rfl) rfl (by kernel_rfl) fun K hK => ?_
        go_simp
        go_wp2_with (go_at_call 30; refine Calls.mono (HT.out _ _ (zs.map dwW) _ HI4.out (by simp; try omega)) ?_; rintro e x5 ⟨rfl, hb⟩; have HS5 : Hid (LG w x5 b0 #[.int .i64 f, .int .i64 c, .slice ao zs.length cap] 29) := HS4.out.step hb; have HI5 : Hid (Irow x5 (.slice a3 zs.length c3) (zs.map dwW)) := HI4.out.below hb; clear hb HS4 HI4)
        refine hK _ _ HS5.out ?_
        clear hK K
        have HZ : Hid (Below w.heap.size w x5) := HS5.out.bel
        have HO9 : Hid ((x5.alloc (.cells #[.string ⟨#[77, 69, 77, 79]⟩, .int .i64 1, .string (pwT [f]), .string ⟨#[67, 80, 85, 83]⟩, .int .i64 1, .string (pwT [c]), .string ⟨#[68, 69, 86, 83]⟩, .int .i64 1, .string (pwT (zs.map dwW))] 56)).ownsRow w.heap.size 56 3 (.slice (some ⟨x5.heap.size, 0, none⟩) 3 3) 3 (ftR (tbL f c zs))) := ft_three x5 ⟨nmM, 1, pwT [f]⟩ ⟨nmC, 1, pwT [c]⟩ ⟨nmD, 1, pwT (zs.map dwW)⟩ _ HZ.out.size
        have HB9 : Hid (Below w.heap.size w (x5.alloc (.cells #[.string ⟨#[77, 69, 77, 79]⟩, .int .i64 1, .string (pwT [f]), .string ⟨#[67, 80, 85, 83]⟩, .int .i64 1, .string (pwT [c]), .string ⟨#[68, 69, 86, 83]⟩, .int .i64 1, .string (pwT (zs.map dwW))] 56))) := HZ.out.trans ((bx1 _ _).mono HZ.out.size)
        have HS9 : Hid (LG w (x5.alloc (.cells #[.string ⟨#[77, 69, 77, 79]⟩, .int .i64 1, .string (pwT [f]), .string ⟨#[67, 80, 85, 83]⟩, .int .i64 1, .string (pwT [c]), .string ⟨#[68, 69, 86, 83]⟩, .int .i64 1, .string (pwT (zs.map dwW))] 56)) b0 #[.int .i64 f, .int .i64 c, .slice ao zs.length cap] 29) := HS5.out.step (bx1 _ _)
        refine held_one 10 (by kernel_rfl) rfl (by kernel_rfl) fun K hK => ?_
        go_simp
        refine hK _ _ HS9.out ?_
        clear hK K
        generalize (x5.alloc (.cells #[.string ⟨#[77, 69, 77, 79]⟩, .int .i64 1, .string (pwT [f]), .string ⟨#[67, 80, 85, 83]⟩, .int .i64 1, .string (pwT [c]), .string ⟨#[68, 69, 86, 83]⟩, .int .i64 1, .string (pwT (zs.map dwW))] 56)) = y9 at *
        generalize x5.heap.size = p9 at *
        refine wpAnyH_take (i := 11) (v := .slice (some ⟨p9, 0, none⟩) 3 3) rfl (by kernel_rfl) (by kernel_rfl) (by kernel_rfl) (fun _ _ _ h => h) (Or.inl ⟨by kernel_rfl, fun w9 h9 => ?_⟩) HS9.out ?_
        · go_simp
        refine wpAnyH_done (by kernel_rfl) ?_ _
        go_simp
        go_wp2
        go_ret
        exact ⟨_, rfl, by rw [E.out, ← HB0.out]; exact HO9.out, HB0.out ▸ HB9.out⟩
end Go.Proofs.Ytlpkkclmcgnapaa
