import Derived.Test.YtlpkkclmcgnapaaTb1
import Derived.Test.YtlpkkclmcgnapaaHl
namespace Go.Proofs.Ytlpkkclmcgnapaa
open Go.ChangeShapes Go.WideShapes Go.ChangeAt Go.RowKit

set_option maxRecDepth 100000 in
set_option maxHeartbeats 4000000 in
theorem specTO_any {w : World} {f c : Int} {ao : Option Addr} {cap : Nat} {zs : List DV} (h : DVrow w (.slice ao zs.length cap) zs) : Calls Try.prog 11 #[.agg #[.int .i64 f, .int .i64 c, .slice ao zs.length cap]] w fun e w' => ∃ v, e = .returned v ∧ w'.ownsRow w.heap.size 56 3 v (tbV f c zs).length (ftR (tbV f c zs)) ∧ Below w.heap.size w w' := by
  have HR : Hid (DVrow w (.slice ao zs.length cap) zs) := h
  have HBF : Hid (∀ u, Aft w u → Calls Try.prog 7 #[.agg #[.int .i64 f, .int .i64 c, .slice ao zs.length cap]] u fun e w' => e = .returned (.int .i64 (bfV f c zs)) ∧ Below u.heap.size u w') := fun u hu => specBF_any (h.below hu.out)
  have HL0 : Hid (LG w (w.alloc (.cells #[.int .i64 f, .int .i64 c, .slice ao zs.length cap] 29)) w.heap.size #[.int .i64 f, .int .i64 c, .slice ao zs.length cap] 29) := LG.new w _ _
  clear h
  cases hq : bfB f c zs
  · have E : Hid (tbV f c zs = []) := (show tbV f c zs = [] by unfold tbV; rw [hq]; rfl)
    have e1 : bfV f c zs = 1 := by unfold bfV; rw [hq]; rfl
    rw [e1] at HBF
    go_enter Try.func11, Try.ntmps11
    go_upto_region 1 with fail
    generalize (w.alloc (.cells #[.int .i64 f, .int .i64 c, .slice ao zs.length cap] 29)) = u0 at *
    generalize hb0 : w.heap.size = b0 at HL0 ⊢
    have k0 := HL0.out.cel 0 _ rfl
    have k1 := HL0.out.cel 1 _ rfl
    have k2 := HL0.out.cel 2 _ rfl
    have kl := HL0.out.lt
    go_wp2_with (go_at_call 7; refine Calls.mono (HBF.out _ HL0.out.aft) ?_; rintro e u1 ⟨rfl, hb1⟩; have HL1 : Hid (LG w u1 b0 _ _) := HL0.out.step hb1; clear hb1)
    go_ret
    have hz := HL1.out.bel
    exact ⟨_, rfl, by rw [E.out]; exact ⟨rfl, .inr ⟨u1.heap.size, 0, _, rfl, by first | exact hz.size | (rw [← hb0]; exact hz.size), heap_new _ _, Nat.le_refl _, by unfold maxLen; omega, rfl, rfl⟩⟩, by first | exact hz.trans ((bx1 _ _).mono hz.size) | exact hb0 ▸ hz.trans ((bx1 _ _).mono hz.size)⟩
  have E : Hid (tbV f c zs = tbL f c zs) := (show tbV f c zs = _ by unfold tbV; rw [hq]; rfl)
  have e1 : bfV f c zs = 0 := by unfold bfV; rw [hq]; rfl
  rw [e1] at HBF
  have hlen := bf_len hq
  have HDV : Hid (∀ k (hk : k < zs.length), dvB zs[k] = true) := fun k hk => bf_dv hq k hk
  clear e1 hq
  go_enter Try.func11, Try.ntmps11
  go_upto_region 1 with fail
  generalize (w.alloc (.cells #[.int .i64 f, .int .i64 c, .slice ao zs.length cap] 29)) = u0 at *
  generalize hb0 : w.heap.size = b0 at HL0 ⊢
  have HB0 : Hid (w.heap.size = b0) := hb0
  clear hb0
  have k0 := HL0.out.cel 0 _ rfl
  have k1 := HL0.out.cel 1 _ rfl
  have k2 := HL0.out.cel 2 _ rfl
  have kl := HL0.out.lt
  go_wp2_with fail
  refine Calls.mono (HBF.out _ HL0.out.aft) ?_
  rintro e u1 ⟨rfl, hb1⟩
  have HL1 : Hid (LG w u1 b0 #[.int .i64 f, .int .i64 c, .slice ao zs.length cap] 29) := HL0.out.step hb1
  clear hb1 HL0 k0 k1 k2 kl HBF
  go_wp2
  go_loopw [3, 4] (fun st i wr => ∃ k : Nat, k ≤ zs.length ∧ i = .int .i64 k ∧ st = .string (⟨(catB (pwL ((zs.map dwW).take k))).toArray⟩ : ByteArray) ∧ LG w wr b0 #[.int .i64 f, .int .i64 c, .slice ao zs.length cap] 29) (fun _ i _ => zs.length - (intOf i).toNat)
  case atStart => exact ⟨0, Nat.zero_le _, rfl, by simp [pwL, catB], HL1.out⟩
  case round =>
    obtain ⟨k, hk, rfl, rfl, hb⟩ := hrel
    have HLX : Hid (LG w wr b0 #[.int .i64 f, .int .i64 c, .slice ao zs.length cap] 29) := hb
    clear hb HL1
    have k2 := HLX.out.cel 2 _ rfl
    have kl := HLX.out.lt
    by_cases hlt : k < zs.length
    · obtain ⟨g, o, cap2, hv, _, hg, hc⟩ := HR.out.resolve_left (fun h => by rw [h.1] at hlt; simp at hlt)
      injection hv with hv1 hv2 hv3
      subst hv1 hv3
      have hgw : g < wr.heap.size := Nat.lt_of_lt_of_le hg HLX.out.bel.size
      have hk0 : (0 : Int) ≤ (k : Int) := by omega
      have hk1 : (k : Int) < (zs.length : Int) := by omega
      have hk9 : (k : Int) ≤ 16 := by omega
      obtain ⟨d0, d1, d2⟩ := hc.below HLX.out.bel hg k hlt
      have HS : Hid ((⟨(catB (pwL ((zs.map dwW).take k))).toArray⟩ : ByteArray) ++ pw (dwW zs[k]) = ⟨(catB (pwL ((zs.map dwW).take (k + 1)))).toArray⟩) := (show _ = _ by rw [tb_map zs k hlt, show pwL ((zs.map dwW).take k ++ [dwW zs[k]]) = pwL ((zs.map dwW).take k) ++ [pw (dwW zs[k])] by simp [pwL], catB_snoc, tx_add])
      have hbs : (⟨(catB (pwL ((zs.map dwW).take k))).toArray⟩ : ByteArray).size ≤ 4000 := by
        have := pwL_size ((zs.map dwW).take k)
        rw [List.length_take] at this
        show (catB (pwL ((zs.map dwW).take k))).toArray.size ≤ 4000
        rw [List.size_toArray]
        omega
      have hps := pw_sz (dwW zs[k])
      have hdv := dv_b (HDV.out k hlt)
      have HP : Hid (∀ x u, x = dwW zs[k] → Calls Try.prog 28 #[.int .i64 x] u fun e w' => e = .returned (.string (pw (dwW zs[k]))) ∧ Below u.heap.size u w') := fun x u hx => by rw [hx]; exact specPutWord_any _ u
      have HDW : Hid (dwW zs[k] = zs[k].kind * 16777216 + zs[k].line * 65536 + zs[k].port) := rfl
      generalize zs[k] = z at *
      generalize dwW z = V at *
      generalize pw V = p at *
      generalize (⟨(catB (pwL ((zs.map dwW).take k))).toArray⟩ : ByteArray) = x at *
      have hadd := fun w => run_string_add_sum (P := Try.prog) w x p (by omega)
      have HE : Hid (LG w (wr.alloc (.cells #[.int .i64 z.kind, .int .i64 z.port, .int .i64 z.line] 49)) wr.heap.size #[.int .i64 z.kind, .int .i64 z.port, .int .i64 z.line] 49) := ⟨HLX.out.bel.trans ((bx1 wr _).mono HLX.out.bel.size), heap_new _ _, HLX.out.bel.size⟩
      have HLY : Hid (LG w (wr.alloc (.cells #[.int .i64 z.kind, .int .i64 z.port, .int .i64 z.line] 49)) b0 #[.int .i64 f, .int .i64 c, .slice (some ⟨g, o, none⟩) zs.length cap] 29) := HLX.out.step (bx1 _ _)
      clear hc hv2 hbs hps
      go_upto_region 8 with fail
      clear d0 d1 d2 hgw k2 kl
      generalize (wr.alloc (.cells #[.int .i64 z.kind, .int .i64 z.port, .int .i64 z.line] 49)) = u2 at *
      generalize wr.heap.size = q2 at HE ⊢
      have k0 := HE.out.cel 0 _ rfl
      have k1 := HE.out.cel 1 _ rfl
      have k2 := HE.out.cel 2 _ rfl
      have kl := HE.out.lt
      obtain ⟨b1, b2, b3, b4, b5, b6⟩ := hdv
      go_wp2_with fail
      refine Calls.mono (HP.out _ _ (by have := HDW.out; omega)) ?_
      rintro e u3 ⟨rfl, hb⟩
      have HL3 : Hid (LG w u3 b0 #[.int .i64 f, .int .i64 c, .slice (some ⟨g, o, none⟩) zs.length cap] 29) := HLY.out.step hb
      clear hb HE HLY k0 k1 k2 kl
      go_wp2
      exact ⟨⟨k + 1, hlt, by go_num, by rw [HS.out], HL3.out⟩, by simp [intOf]; omega⟩
    · obtain rfl : k = zs.length := by omega
      have hnl : ¬ ((zs.length : Nat) : Int) < (zs.length : Int) := by omega
      have HX9 : Hid ((⟨(catB (pwL ((zs.map dwW).take zs.length))).toArray⟩ : ByteArray) = pwT (zs.map dwW)) := (show _ = _ by rw [List.take_of_length_le (by simp)]; rfl)
      rw [HX9.out]
      have HP : Hid (∀ x u, Calls Try.prog 28 #[.int .i64 x] u fun e w' => e = .returned (.string (pwT [x])) ∧ Below u.heap.size u w') := fun x u => by rw [pwT_one]; exact specPutWord_any _ u
      clear HDV HR HX9
      go_upto_region 9 with fail
      clear k2 kl
      have HS0 : Hid (LG w wr.drew b0 #[.int .i64 f, .int .i64 c, .slice ao zs.length cap] 29) := HLX.out.drew
      clear HLX
      refine wp_region_held (S := fun w9 => LG w w9 b0 #[.int .i64 f, .int .i64 c, .slice ao zs.length cap] 29) (by kernel_rfl) ?_
      change wpAnyH _ _ _ _ _ _ _ _ (World.drew _)
      generalize wr.drew = x0 at *
      refine wpAnyH_take (i := 0) (v := .pointer (some ⟨b0, 0, none⟩)) rfl (by kernel_rfl) (by kernel_rfl) (by kernel_rfl) (fun _ _ _ h => h) (Or.inl ⟨by kernel_rfl, fun w9 h9 => ?_⟩) HS0.out ?_
      · go_simp
      refine wpAnyH_take (i := 1) (v := .int .i64 f) rfl (by kernel_rfl) (by kernel_rfl) (by kernel_rfl) (fun _ _ _ h => h) (Or.inl ⟨by kernel_rfl, fun w9 h9 => ?_⟩) HS0.out ?_
      · have k0 := h9.cel 0 _ rfl; have k1 := h9.cel 1 _ rfl; have kl := h9.lt; go_simp
      refine wpAnyH_take (i := 4) (v := .pointer (some ⟨b0, 1, none⟩)) rfl (by kernel_rfl) (by kernel_rfl) (by kernel_rfl) (fun _ _ _ h => h) (Or.inl ⟨by kernel_rfl, fun w9 h9 => ?_⟩) HS0.out ?_
      · go_simp
      refine wpAnyH_take (i := 5) (v := .int .i64 c) rfl (by kernel_rfl) (by kernel_rfl) (by kernel_rfl) (fun _ _ _ h => h) (Or.inl ⟨by kernel_rfl, fun w9 h9 => ?_⟩) HS0.out ?_
      · have k0 := h9.cel 0 _ rfl; have k1 := h9.cel 1 _ rfl; have kl := h9.lt; go_simp
      refine wpAnyH_take (i := 8) (v := .string (pwT (zs.map dwW))) rfl (by kernel_rfl) (by kernel_rfl) (by kernel_rfl) (fun _ _ _ h => h) (Or.inl ⟨by kernel_rfl, fun w9 h9 => ?_⟩) HS0.out ?_
      · go_simp
      refine wpAnyH_take (i := 9) (v := .agg #[.string ⟨#[68, 69, 86, 83]⟩, .int .i64 1, .string (pwT (zs.map dwW))]) rfl (by kernel_rfl) (by kernel_rfl) (by kernel_rfl) (fun _ _ _ h => h) (Or.inl ⟨by kernel_rfl, fun w9 h9 => ?_⟩) HS0.out ?_
      · go_simp
      refine held_one 2 (by kernel_rfl) rfl (by kernel_rfl) fun K hK => ?_
      go_simp
      go_wp2_with (go_at_call 28; refine Calls.mono (HP.out _ _) ?_; rintro e x1 ⟨rfl, hb⟩; have HS1 : Hid (LG w x1 b0 #[.int .i64 f, .int .i64 c, .slice ao zs.length cap] 29) := HS0.out.step hb; clear hb HS0)
      refine hK _ _ HS1.out ?_
      clear hK K
      refine wpAnyH_take (i := 3) (v := .agg #[.string ⟨#[77, 69, 77, 79]⟩, .int .i64 1, .string (pwT [f])]) rfl (by kernel_rfl) (by kernel_rfl) (by kernel_rfl) (fun _ _ _ h => h) (Or.inl ⟨by kernel_rfl, fun w9 h9 => ?_⟩) HS1.out ?_
      · go_simp
      refine held_one 6 (by kernel_rfl) rfl (by kernel_rfl) fun K hK => ?_
      go_simp
      go_wp2_with (go_at_call 28; refine Calls.mono (HP.out _ _) ?_; rintro e x2 ⟨rfl, hb⟩; have HS2 : Hid (LG w x2 b0 #[.int .i64 f, .int .i64 c, .slice ao zs.length cap] 29) := HS1.out.step hb; clear hb HS1)
      refine hK _ _ HS2.out ?_
      clear hK K
      refine wpAnyH_take (i := 7) (v := .agg #[.string ⟨#[67, 80, 85, 83]⟩, .int .i64 1, .string (pwT [c])]) rfl (by kernel_rfl) (by kernel_rfl) (by kernel_rfl) (fun _ _ _ h => h) (Or.inl ⟨by kernel_rfl, fun w9 h9 => ?_⟩) HS2.out ?_
      · go_simp
      have HZ : Hid (Below w.heap.size w x2) := HS2.out.bel
      have HO9 : Hid ((x2.alloc (.cells #[.string ⟨#[77, 69, 77, 79]⟩, .int .i64 1, .string (pwT [f]), .string ⟨#[67, 80, 85, 83]⟩, .int .i64 1, .string (pwT [c]), .string ⟨#[68, 69, 86, 83]⟩, .int .i64 1, .string (pwT (zs.map dwW))] 56)).ownsRow w.heap.size 56 3 (.slice (some ⟨x2.heap.size, 0, none⟩) 3 3) 3 (ftR (tbL f c zs))) := ft_three x2 ⟨nmM, 1, pwT [f]⟩ ⟨nmC, 1, pwT [c]⟩ ⟨nmD, 1, pwT (zs.map dwW)⟩ _ HZ.out.size
      have HB9 : Hid (Below w.heap.size w (x2.alloc (.cells #[.string ⟨#[77, 69, 77, 79]⟩, .int .i64 1, .string (pwT [f]), .string ⟨#[67, 80, 85, 83]⟩, .int .i64 1, .string (pwT [c]), .string ⟨#[68, 69, 86, 83]⟩, .int .i64 1, .string (pwT (zs.map dwW))] 56))) := HZ.out.trans ((bx1 _ _).mono HZ.out.size)
      have HS9 : Hid (LG w (x2.alloc (.cells #[.string ⟨#[77, 69, 77, 79]⟩, .int .i64 1, .string (pwT [f]), .string ⟨#[67, 80, 85, 83]⟩, .int .i64 1, .string (pwT [c]), .string ⟨#[68, 69, 86, 83]⟩, .int .i64 1, .string (pwT (zs.map dwW))] 56)) b0 #[.int .i64 f, .int .i64 c, .slice ao zs.length cap] 29) := HS2.out.step (bx1 _ _)
      refine held_one 10 (by kernel_rfl) rfl (by kernel_rfl) fun K hK => ?_
      go_simp
      refine hK _ _ HS9.out ?_
      clear hK K
      generalize (x2.alloc (.cells #[.string ⟨#[77, 69, 77, 79]⟩, .int .i64 1, .string (pwT [f]), .string ⟨#[67, 80, 85, 83]⟩, .int .i64 1, .string (pwT [c]), .string ⟨#[68, 69, 86, 83]⟩, .int .i64 1, .string (pwT (zs.map dwW))] 56)) = y9 at *
      generalize x2.heap.size = p9 at *
      refine wpAnyH_take (i := 11) (v := .slice (some ⟨p9, 0, none⟩) 3 3) rfl (by kernel_rfl) (by kernel_rfl) (by kernel_rfl) (fun _ _ _ h => h) (Or.inl ⟨by kernel_rfl, fun w9 h9 => ?_⟩) HS9.out ?_
      · go_simp
      refine wpAnyH_done (by kernel_rfl) ?_ _
      go_simp
      go_wp2
      go_ret
      exact ⟨_, rfl, by rw [E.out, ← HB0.out]; exact HO9.out, HB0.out ▸ HB9.out⟩
end Go.Proofs.Ytlpkkclmcgnapaa
