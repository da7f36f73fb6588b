import Derived.Test.YtmmodmanfoipiaaDoorWr3
import Derived.Test.YtmmodmanfoipiaaDoorMFa
import Derived.Laws.Concat
namespace Go.Proofs.YtmmodmanfoipiaaDoor
open Go.ChangeShapes Go.WideShapes Go.ChangeAt Go.RowKit

theorem cat2_eqW (a b : ByteArray) : (⟨(catB [a, b]).toArray⟩ : ByteArray) = a ++ b := by
  apply ByteArray.ext
  simp [catB]
theorem join2W (u : World) (a b : ByteArray) (hsz : a.size + b.size ≤ 1099511627776) :
    Calls Tryd.prog 16 #[.slice (some ⟨u.heap.size, 0, none⟩) 2 2] (u.alloc (.cells #[.string a, .string b] 9)) fun e w' => e = .returned (.string (a ++ b)) ∧ Below u.heap.size u w' := by
  refine (joined_any u.heap.size 2 2 [a, b] _ rfl (by simp) ?_ (by omega) ?_).mono ?_
  · intro i hi
    match i, hi with
    | 0, _ => simp
    | 1, _ => simp
  · simp [catB]
    omega
  · rintro e w' ⟨rfl, hb⟩
    exact ⟨by rw [cat2_eqW], ((Below.refl u.heap.size u).alloc (Nat.le_refl _) _).trans (hb.mono (by simp))⟩
def wfB (f : FR) (k fr tt : Int) : Bool := frB f && decide (0 ≤ k) && decide (k ≤ 16777215) && isW fr && isW tt
def wfH (f : FR) (k fr tt : Int) : WH := ⟨k, fr, tt, f.src, f.dst, f.net, f.text, f.text.size⟩
def wfT (f : FR) (k fr tt : Int) : ByteArray := whT (wfH f k fr tt) ++ f.text
def wfV (f : FR) (k fr tt : Int) : ByteArray := if wfB f k fr tt = true then wfT f k fr tt ++ pw (mixv (wfT f k fr tt) 51) else ⟨#[]⟩
theorem pw_sizeW (n : Int) : (pw n).size = 4 := by
  unfold pw
  rw [strOfNums_size]
  rfl
theorem whT_size (h : WH) : (whT h).size = 29 := by
  show (catB (whPc h)).toArray.size = 29
  simp [catB, whPc, whP, lb_size, NV_size]
theorem whT_eq (h : WH) : whT h = NV ++ lb h.key 3 ++ pw h.hfrom ++ pw h.hto ++ lb h.src 6 ++ lb h.dst 6 ++ lb h.net 2 ++ lb h.len 2 := by
  apply ByteArray.ext
  simp [whT, catB, whPc, whP, lb4]
theorem frB_text {f : FR} (h : frB f = true) : f.text.size ≤ 1500 := by
  simp [frB] at h
  omega
set_option maxRecDepth 100000 in
set_option maxHeartbeats 4000000 in
theorem implWF_any (f : FR) (k fr tt : Int) (w : World) : Calls Tryd.prog 5 #[frA f, .int .i64 k, .int .i64 fr, .int .i64 tt] w fun e w' => e = .returned (.string (wfV f k fr tt)) ∧ Below w.heap.size w w' := by
  have HF : Hid (∀ u, Calls Tryd.prog 14 #[frA f] u fun e w' => e = .returned (.bool (frB f)) ∧ Below u.heap.size u w') := fun u => frRight_any f u
  have HW1 : Hid (∀ u, Calls Tryd.prog 15 #[.int .i64 fr] u fun e w' => e = .returned (.bool (isW fr)) ∧ w' = u) := fun u => implIsWord_any fr u
  have HW2 : Hid (∀ u, Calls Tryd.prog 15 #[.int .i64 tt] u fun e w' => e = .returned (.bool (isW tt)) ∧ w' = u) := fun u => implIsWord_any tt u
  obtain ⟨V, hV⟩ : ∃ V, wfV f k fr tt = V := ⟨_, rfl⟩
  have hE := hV.symm
  rw [hV]
  clear hV
  unfold wfV wfB at hE
  have htx : frB f = true → f.text.size ≤ 1500 := frB_text
  have HTE : Hid (wfT f k fr tt = whT (wfH f k fr tt) ++ f.text) := rfl
  have HWQ : Hid (whT (wfH f k fr tt) = _) := whT_eq (wfH f k fr tt)
  have HWS : Hid ((whT (wfH f k fr tt)).size = 29) := whT_size _
  obtain ⟨s, d, n, t⟩ := f
  unfold wfH at HTE HWQ HWS
  unfold frA frC at HF ⊢
  simp only at HF HTE HWQ HWS htx ⊢
  have HL0 : Hid (LG w (w.alloc (.cells #[.int .i64 s, .int .i64 d, .int .i64 n, .string t] 24)) w.heap.size #[.int .i64 s, .int .i64 d, .int .i64 n, .string t] 24) := LG.new w _ _
  cases h1 : frB ⟨s, d, n, t⟩
  · have E : Hid (V = ⟨#[]⟩) := (show V = _ by rw [hE]; simp [h1])
    rw [h1] at HF
    clear h1 hE htx HTE HWQ HWS
    go_enter Tryd.func5, Tryd.ntmps5
    go_upto_region 1 with fail
    generalize (w.alloc (.cells #[.int .i64 s, .int .i64 d, .int .i64 n, .string t] 24)) = u0 at *
    generalize w.heap.size = b0 at *
    have k0 := HL0.out.cel 0 _ rfl
    have k1 := HL0.out.cel 1 _ rfl
    have k2 := HL0.out.cel 2 _ rfl
    have k3 := HL0.out.cel 3 _ rfl
    have kl := HL0.out.lt
    go_wp2_with fail
    refine Calls.mono (HF.out _) ?_
    rintro e u1 ⟨rfl, hb1⟩
    have HL1 : Hid (LG w u1 b0 #[.int .i64 s, .int .i64 d, .int .i64 n, .string t] 24) := HL0.out.step hb1
    clear hb1 k0 k1 k2 k3 kl HL0
    go_wp2
    go_ret
    exact ⟨ret_str E.out.symm, HL1.out.bel⟩
  · rw [h1] at HF
    have ht2 := htx h1
    clear htx
    cases h2 : decide (k < 0)
    · have h2n : decide (0 ≤ k) = true := decide_eq_true (by have := of_decide_eq_false h2; omega)
      cases h3 : decide (16777215 < k)
      · have h3n : decide (k ≤ 16777215) = true := decide_eq_true (by have := of_decide_eq_false h3; omega)
        cases h4 : isW fr
        · have E : Hid (V = ⟨#[]⟩) := (show V = _ by rw [hE]; simp [h4])
          rw [h4] at HW1
          clear h1 h2n h3n h4 hE HTE HWQ HWS
          go_enter Tryd.func5, Tryd.ntmps5
          go_upto_region 1 with fail
          generalize (w.alloc (.cells #[.int .i64 s, .int .i64 d, .int .i64 n, .string t] 24)) = u0 at *
          generalize w.heap.size = b0 at *
          have k0 := HL0.out.cel 0 _ rfl
          have k1 := HL0.out.cel 1 _ rfl
          have k2 := HL0.out.cel 2 _ rfl
          have k3 := HL0.out.cel 3 _ rfl
          have kl := HL0.out.lt
          go_wp2_with fail
          refine Calls.mono (HF.out _) ?_
          rintro e u1 ⟨rfl, hb1⟩
          have HL1 : Hid (LG w u1 b0 #[.int .i64 s, .int .i64 d, .int .i64 n, .string t] 24) := HL0.out.step hb1
          clear hb1 k0 k1 k2 k3 kl HL0
          go_wp2_with fail
          refine Calls.mono (HW1.out _) ?_
          rintro e u8 ⟨rfl, hw8⟩
          rw [hw8]
          clear hw8
          go_wp2
          go_ret
          exact ⟨ret_str E.out.symm, HL1.out.bel⟩
        · cases h5 : isW tt
          · have E : Hid (V = ⟨#[]⟩) := (show V = _ by rw [hE]; simp [h5])
            rw [h4] at HW1
            rw [h5] at HW2
            clear h1 h2n h3n h4 h5 hE HTE HWQ HWS
            go_enter Tryd.func5, Tryd.ntmps5
            go_upto_region 1 with fail
            generalize (w.alloc (.cells #[.int .i64 s, .int .i64 d, .int .i64 n, .string t] 24)) = u0 at *
            generalize w.heap.size = b0 at *
            have k0 := HL0.out.cel 0 _ rfl
            have k1 := HL0.out.cel 1 _ rfl
            have k2 := HL0.out.cel 2 _ rfl
            have k3 := HL0.out.cel 3 _ rfl
            have kl := HL0.out.lt
            go_wp2_with fail
            refine Calls.mono (HF.out _) ?_
            rintro e u1 ⟨rfl, hb1⟩
            have HL1 : Hid (LG w u1 b0 #[.int .i64 s, .int .i64 d, .int .i64 n, .string t] 24) := HL0.out.step hb1
            clear hb1 k0 k1 k2 k3 kl HL0
            go_wp2_with fail
            refine Calls.mono (HW1.out _) ?_
            rintro e u8 ⟨rfl, hw8⟩
            rw [hw8]
            clear hw8
            go_wp2_with fail
            refine Calls.mono (HW2.out _) ?_
            rintro e u9 ⟨rfl, hw9⟩
            rw [hw9]
            clear hw9
            go_wp2
            go_ret
            exact ⟨ret_str E.out.symm, HL1.out.bel⟩
          · have E : Hid (V = wfT ⟨s, d, n, t⟩ k fr tt ++ pw (mixv (wfT ⟨s, d, n, t⟩ k fr tt) 51)) := (show V = _ by rw [hE, h1, h2n, h3n, h4, h5]; rfl)
            rw [h4] at HW1
            rw [h5] at HW2
            clear h1 h2n h3n h4 h5 hE
            generalize wfT ⟨s, d, n, t⟩ k fr tt = T at *
            generalize hH : (⟨k, fr, tt, s, d, n, t, (t.size : Int)⟩ : WH) = H at *
            have HHC : Hid (whC H = #[.int .i64 0, .int .i64 k, .int .i64 fr, .int .i64 tt, .int .i64 s, .int .i64 d, .int .i64 n, .string t, .int .i64 (t.size : Int)]) := (show whC H = _ by rw [← hH]; rfl)
            clear hH HWQ
            have HHT : Hid (∀ u b t9, u.heap[b]? = some (.cells (whC H) t9 (0, 0)) → Calls Tryd.prog 17 #[.pointer (some ⟨b, 0, none⟩)] u fun e w' => e = .returned (.string (whT H)) ∧ Below u.heap.size u w') := fun u b t9 h => headText_any b H u h
            generalize whT H = X at *
            have hTs : T.size ≤ 1048576 := by rw [HTE.out, ByteArray.size_append, HWS.out]; omega
            have HJ1 : Hid (X.size + t.size ≤ 1099511627776) := (show _ ≤ _ by rw [HWS.out]; omega)
            have HJ2 : Hid (T.size + (pw (mixv T 51)).size ≤ 1099511627776) := (show _ ≤ _ by rw [pw_sizeW]; omega)
            rw [HHC.out] at HHT
            clear HHC
            go_enter Tryd.func5, Tryd.ntmps5
            go_upto_region 1 with fail
            generalize (w.alloc (.cells #[.int .i64 s, .int .i64 d, .int .i64 n, .string t] 24)) = u0 at *
            generalize w.heap.size = b0 at *
            have k0 := HL0.out.cel 0 _ rfl
            have k1 := HL0.out.cel 1 _ rfl
            have k2 := HL0.out.cel 2 _ rfl
            have k3 := HL0.out.cel 3 _ rfl
            have kl := HL0.out.lt
            go_wp2_with fail
            refine Calls.mono (HF.out _) ?_
            rintro e u1 ⟨rfl, hb1⟩
            have HL1 : Hid (LG w u1 b0 #[.int .i64 s, .int .i64 d, .int .i64 n, .string t] 24) := HL0.out.step hb1
            clear hb1 k0 k1 k2 k3 kl HL0
            go_wp2_with fail
            refine Calls.mono (HW1.out _) ?_
            rintro e u8 ⟨rfl, hw8⟩
            rw [hw8]
            clear hw8
            go_wp2_with fail
            refine Calls.mono (HW2.out _) ?_
            rintro e u9 ⟨rfl, hw9⟩
            rw [hw9]
            clear hw9
            have k0 := HL1.out.cel 0 _ rfl
            have k1 := HL1.out.cel 1 _ rfl
            have k2 := HL1.out.cel 2 _ rfl
            have k3 := HL1.out.cel 3 _ rfl
            have kl := HL1.out.lt
            go_upto_region 4 with fail
            have HL2 : Hid (LG w (u1.alloc (.cells #[.int .i64 0, .int .i64 k, .int .i64 fr, .int .i64 tt, .int .i64 s, .int .i64 d, .int .i64 n, .string t, .int .i64 (t.size : Int)] 42)) b0 #[.int .i64 s, .int .i64 d, .int .i64 n, .string t] 24) := HL1.out.step (bx1 _ _)
            have HH2 : Hid ((u1.alloc (.cells #[.int .i64 0, .int .i64 k, .int .i64 fr, .int .i64 tt, .int .i64 s, .int .i64 d, .int .i64 n, .string t, .int .i64 (t.size : Int)] 42)).heap[u1.heap.size]? = some (.cells #[.int .i64 0, .int .i64 k, .int .i64 fr, .int .i64 tt, .int .i64 s, .int .i64 d, .int .i64 n, .string t, .int .i64 (t.size : Int)] 42 (0, 0))) := heap_new _ _
            clear k0 k1 k2 k3 kl HL1
            generalize (u1.alloc (.cells #[.int .i64 0, .int .i64 k, .int .i64 fr, .int .i64 tt, .int .i64 s, .int .i64 d, .int .i64 n, .string t, .int .i64 (t.size : Int)] 42)) = u2 at *
            generalize u1.heap.size = bh at *
            refine wp_region_held (S := fun w9 => LG w w9 b0 #[.int .i64 s, .int .i64 d, .int .i64 n, .string t] 24) (by kernel_rfl) ?_
            change wpAnyH _ _ _ _ _ _ _ _ (World.drew _)
            have HL3 : Hid (LG w u2.drew b0 #[.int .i64 s, .int .i64 d, .int .i64 n, .string t] 24) := HL2.out.drew
            have HH3 : Hid (u2.drew.heap[bh]? = some (.cells #[.int .i64 0, .int .i64 k, .int .i64 fr, .int .i64 tt, .int .i64 s, .int .i64 d, .int .i64 n, .string t, .int .i64 (t.size : Int)] 42 (0, 0))) := HH2.out
            generalize u2.drew = u3 at *
            clear HL2 HH2
            refine wpAnyH_take (i := 0) (v := .pointer (some ⟨bh, 0, none⟩)) rfl (by kernel_rfl) (by kernel_rfl) (by kernel_rfl) (fun _ _ _ h => h) (Or.inl ⟨by kernel_rfl, fun w9 h9 => ?_⟩) HL3.out ?_
            · clear h9; go_simp
            refine wpAnyH_take (i := 2) (v := .pointer (some ⟨b0, 3, none⟩)) rfl (by kernel_rfl) (by kernel_rfl) (by kernel_rfl) (fun _ _ _ h => h) (Or.inl ⟨by kernel_rfl, fun w9 h9 => ?_⟩) HL3.out ?_
            · clear h9; go_simp
            refine wpAnyH_take (i := 3) (v := .string t) rfl (by kernel_rfl) (by kernel_rfl) (by kernel_rfl) (fun _ _ _ h => h) (Or.inl ⟨by kernel_rfl, fun w9 h9 => ?_⟩) HL3.out ?_
            · have d0 := h9.cel 3 _ rfl; have dl := h9.lt; clear h9; go_simp
            refine held_one 1 (by kernel_rfl) rfl (by kernel_rfl) fun K hK => ?_
            go_simp
            go_wp2_with (go_at_call 17; refine Calls.mono (HHT.out _ _ _ HH3.out) ?_; rintro e9 u4 ⟨rfl, hu⟩; have HL4 : Hid (LG w u4 b0 #[.int .i64 s, .int .i64 d, .int .i64 n, .string t] 24) := HL3.out.step hu; clear hu HL3 HH3)
            refine hK _ _ HL4.out ?_
            clear hK K
            refine held_one 4 (by kernel_rfl) rfl (by kernel_rfl) fun K hK => ?_
            have HL5 : Hid (LG w (u4.alloc (.cells #[.string X, .string t] 9)) b0 #[.int .i64 s, .int .i64 d, .int .i64 n, .string t] 24) := HL4.out.step (bx1 _ _)
            have HJC : Hid _ := join2W u4 X t HJ1.out
            go_simp
            refine hK _ _ HL5.out ?_
            clear hK K
            refine held_one 5 (by kernel_rfl) rfl (by kernel_rfl) fun K hK => ?_
            go_simp
            go_wp2_with (go_at_call 16; refine Calls.mono HJC.out ?_; rw [← HTE.out]; rintro e9 u6 ⟨rfl, hu⟩; have HL6 : Hid (LG w u6 b0 #[.int .i64 s, .int .i64 d, .int .i64 n, .string t] 24) := HL4.out.step hu; clear hu HL4 HL5)
            refine hK _ _ HL6.out ?_
            clear hK K
            refine wpAnyH_take (i := 6) (v := .string T) rfl (by kernel_rfl) (by kernel_rfl) (by kernel_rfl) (fun _ _ _ h => h) (Or.inl ⟨by kernel_rfl, fun w9 h9 => ?_⟩) HL6.out ?_
            · clear h9; go_simp
            refine wpAnyH_done (by kernel_rfl) ?_ _
            go_simp
            go_wp2_with fail
            refine (implMix_any _ _ _ hTs).mono ?_
            rintro e u7 ⟨rfl, hw7⟩
            rw [hw7]
            clear hw7
            go_wp2_with fail
            refine (implPutWord_any _ _).mono ?_
            rintro e u8 ⟨rfl, hb8⟩
            have HL8 : Hid (LG w u8 b0 #[.int .i64 s, .int .i64 d, .int .i64 n, .string t] 24) := HL6.out.step hb8
            clear hb8
            go_wp2_with fail
            refine (join2W _ _ _ HJ2.out).mono ?_
            rintro e u9 ⟨rfl, hb9⟩
            have HL9 : Hid (LG w u9 b0 #[.int .i64 s, .int .i64 d, .int .i64 n, .string t] 24) := HL8.out.step hb9
            clear hb9
            go_wp2
            go_ret
            exact ⟨ret_str E.out.symm, HL9.out.bel⟩
      · have h3n : decide (k ≤ 16777215) = false := decide_eq_false (by have := of_decide_eq_true h3; omega)
        have E : Hid (V = ⟨#[]⟩) := (show V = _ by rw [hE]; simp [h3n])
        clear h1 h2n h3n hE HTE HWQ HWS
        go_enter Tryd.func5, Tryd.ntmps5
        go_upto_region 1 with fail
        generalize (w.alloc (.cells #[.int .i64 s, .int .i64 d, .int .i64 n, .string t] 24)) = u0 at *
        generalize w.heap.size = b0 at *
        have k0 := HL0.out.cel 0 _ rfl
        have k1 := HL0.out.cel 1 _ rfl
        have k2 := HL0.out.cel 2 _ rfl
        have k3 := HL0.out.cel 3 _ rfl
        have kl := HL0.out.lt
        go_wp2_with fail
        refine Calls.mono (HF.out _) ?_
        rintro e u1 ⟨rfl, hb1⟩
        have HL1 : Hid (LG w u1 b0 #[.int .i64 s, .int .i64 d, .int .i64 n, .string t] 24) := HL0.out.step hb1
        clear hb1 k0 k1 k2 k3 kl HL0
        go_wp2
        go_ret
        exact ⟨ret_str E.out.symm, HL1.out.bel⟩
    · have h2n : decide (0 ≤ k) = false := decide_eq_false (by have := of_decide_eq_true h2; omega)
      have E : Hid (V = ⟨#[]⟩) := (show V = _ by rw [hE]; simp [h2n])
      clear h1 h2n hE HTE HWQ HWS
      go_enter Tryd.func5, Tryd.ntmps5
      go_upto_region 1 with fail
      generalize (w.alloc (.cells #[.int .i64 s, .int .i64 d, .int .i64 n, .string t] 24)) = u0 at *
      generalize w.heap.size = b0 at *
      have k0 := HL0.out.cel 0 _ rfl
      have k1 := HL0.out.cel 1 _ rfl
      have k2 := HL0.out.cel 2 _ rfl
      have k3 := HL0.out.cel 3 _ rfl
      have kl := HL0.out.lt
      go_wp2_with fail
      refine Calls.mono (HF.out _) ?_
      rintro e u1 ⟨rfl, hb1⟩
      have HL1 : Hid (LG w u1 b0 #[.int .i64 s, .int .i64 d, .int .i64 n, .string t] 24) := HL0.out.step hb1
      clear hb1 k0 k1 k2 k3 kl HL0
      go_wp2
      go_ret
      exact ⟨ret_str E.out.symm, HL1.out.bel⟩
set_option maxRecDepth 100000 in
set_option maxHeartbeats 4000000 in
theorem specWF_any (f : FR) (k fr tt : Int) (w : World) : Calls Tryd.prog 6 #[frA f, .int .i64 k, .int .i64 fr, .int .i64 tt] w fun e w' => e = .returned (.string (wfV f k fr tt)) ∧ Below w.heap.size w w' := by
  have HF : Hid (∀ u, Calls Tryd.prog 20 #[frA f] u fun e w' => e = .returned (.int .i64 (frV f)) ∧ Below u.heap.size u w') := fun u => specFF_any f u
  have HW1 : Hid (∀ u, Calls Tryd.prog 21 #[.int .i64 fr] u fun e w' => e = .returned (.bool (isW fr)) ∧ w' = u) := fun u => specIsWord_any fr u
  have HW2 : Hid (∀ u, Calls Tryd.prog 21 #[.int .i64 tt] u fun e w' => e = .returned (.bool (isW tt)) ∧ w' = u) := fun u => specIsWord_any tt u
  obtain ⟨V, hV⟩ : ∃ V, wfV f k fr tt = V := ⟨_, rfl⟩
  have hE := hV.symm
  rw [hV]
  clear hV
  unfold wfV wfB at hE
  have htx : frB f = true → f.text.size ≤ 1500 := frB_text
  have HTE : Hid (wfT f k fr tt = whT (wfH f k fr tt) ++ f.text) := rfl
  have HWQ : Hid (whT (wfH f k fr tt) = _) := whT_eq (wfH f k fr tt)
  have HWS : Hid ((whT (wfH f k fr tt)).size = 29) := whT_size _
  unfold frV at HF
  obtain ⟨s, d, n, t⟩ := f
  unfold wfH at HTE HWQ HWS
  unfold frA frC at HF ⊢
  simp only at HF HTE HWQ HWS htx ⊢
  have HL0 : Hid (LG w (w.alloc (.cells #[.int .i64 s, .int .i64 d, .int .i64 n, .string t] 24)) w.heap.size #[.int .i64 s, .int .i64 d, .int .i64 n, .string t] 24) := LG.new w _ _
  cases h1 : frB ⟨s, d, n, t⟩
  · have E : Hid (V = ⟨#[]⟩) := (show V = _ by rw [hE]; simp [h1])
    rw [h1, if_neg (by simp)] at HF
    clear h1 hE htx HTE HWQ HWS
    go_enter Tryd.func6, Tryd.ntmps6
    go_upto_region 1 with fail
    generalize (w.alloc (.cells #[.int .i64 s, .int .i64 d, .int .i64 n, .string t] 24)) = u0 at *
    generalize w.heap.size = b0 at *
    have k0 := HL0.out.cel 0 _ rfl
    have k1 := HL0.out.cel 1 _ rfl
    have k2 := HL0.out.cel 2 _ rfl
    have k3 := HL0.out.cel 3 _ rfl
    have kl := HL0.out.lt
    go_wp2_with fail
    refine Calls.mono (HF.out _) ?_
    rintro e u1 ⟨rfl, hb1⟩
    have HL1 : Hid (LG w u1 b0 #[.int .i64 s, .int .i64 d, .int .i64 n, .string t] 24) := HL0.out.step hb1
    clear hb1 k0 k1 k2 k3 kl HL0
    go_wp2
    go_ret
    exact ⟨ret_str E.out.symm, HL1.out.bel⟩
  · rw [h1, if_pos rfl] at HF
    have ht2 := htx h1
    clear htx
    cases h2 : decide (k < 0)
    · have h2n : decide (0 ≤ k) = true := decide_eq_true (by have := of_decide_eq_false h2; omega)
      cases h3 : decide (16777216 ≤ k)
      · have h3n : decide (k ≤ 16777215) = true := decide_eq_true (by have := of_decide_eq_false h3; omega)
        cases h4 : isW fr
        · have E : Hid (V = ⟨#[]⟩) := (show V = _ by rw [hE]; simp [h4])
          rw [h4] at HW1
          clear h1 h2n h3n h4 hE HTE HWQ HWS
          go_enter Tryd.func6, Tryd.ntmps6
          go_upto_region 1 with fail
          generalize (w.alloc (.cells #[.int .i64 s, .int .i64 d, .int .i64 n, .string t] 24)) = u0 at *
          generalize w.heap.size = b0 at *
          have k0 := HL0.out.cel 0 _ rfl
          have k1 := HL0.out.cel 1 _ rfl
          have k2 := HL0.out.cel 2 _ rfl
          have k3 := HL0.out.cel 3 _ rfl
          have kl := HL0.out.lt
          go_wp2_with fail
          refine Calls.mono (HF.out _) ?_
          rintro e u1 ⟨rfl, hb1⟩
          have HL1 : Hid (LG w u1 b0 #[.int .i64 s, .int .i64 d, .int .i64 n, .string t] 24) := HL0.out.step hb1
          clear hb1 k0 k1 k2 k3 kl HL0
          go_wp2_with fail
          refine Calls.mono (HW1.out _) ?_
          rintro e u8 ⟨rfl, hw8⟩
          rw [hw8]
          clear hw8
          go_wp2
          go_ret
          exact ⟨ret_str E.out.symm, HL1.out.bel⟩
        · cases h5 : isW tt
          · have E : Hid (V = ⟨#[]⟩) := (show V = _ by rw [hE]; simp [h5])
            rw [h4] at HW1
            rw [h5] at HW2
            clear h1 h2n h3n h4 h5 hE HTE HWQ HWS
            go_enter Tryd.func6, Tryd.ntmps6
            go_upto_region 1 with fail
            generalize (w.alloc (.cells #[.int .i64 s, .int .i64 d, .int .i64 n, .string t] 24)) = u0 at *
            generalize w.heap.size = b0 at *
            have k0 := HL0.out.cel 0 _ rfl
            have k1 := HL0.out.cel 1 _ rfl
            have k2 := HL0.out.cel 2 _ rfl
            have k3 := HL0.out.cel 3 _ rfl
            have kl := HL0.out.lt
            go_wp2_with fail
            refine Calls.mono (HF.out _) ?_
            rintro e u1 ⟨rfl, hb1⟩
            have HL1 : Hid (LG w u1 b0 #[.int .i64 s, .int .i64 d, .int .i64 n, .string t] 24) := HL0.out.step hb1
            clear hb1 k0 k1 k2 k3 kl HL0
            go_wp2_with fail
            refine Calls.mono (HW1.out _) ?_
            rintro e u8 ⟨rfl, hw8⟩
            rw [hw8]
            clear hw8
            go_wp2_with fail
            refine Calls.mono (HW2.out _) ?_
            rintro e u9 ⟨rfl, hw9⟩
            rw [hw9]
            clear hw9
            go_wp2
            go_ret
            exact ⟨ret_str E.out.symm, HL1.out.bel⟩
          · have E : Hid (V = wfT ⟨s, d, n, t⟩ k fr tt ++ pw (mixv (wfT ⟨s, d, n, t⟩ k fr tt) 51)) := (show V = _ by rw [hE, h1, h2n, h3n, h4, h5]; rfl)
            rw [h4] at HW1
            rw [h5] at HW2
            clear h1 h2n h3n h4 h5 hE
            generalize wfT ⟨s, d, n, t⟩ k fr tt = T at *
            have hTs : T.size ≤ 1048576 := by rw [HTE.out, ByteArray.size_append, HWS.out]; omega
            have HB3 : Hid (∀ x u, Calls Tryd.prog 22 #[.int .i64 x, .int .i64 3] u fun e w' => e = .returned (.string (lb x 3)) ∧ Below u.heap.size u w') := fun x u => l16Bytes_any x 3 (by omega) u
            have HB6 : Hid (∀ x u, Calls Tryd.prog 22 #[.int .i64 x, .int .i64 6] u fun e w' => e = .returned (.string (lb x 6)) ∧ Below u.heap.size u w') := fun x u => l16Bytes_any x 6 (by omega) u
            have HB2 : Hid (∀ x u, Calls Tryd.prog 22 #[.int .i64 x, .int .i64 2] u fun e w' => e = .returned (.string (lb x 2)) ∧ Below u.heap.size u w') := fun x u => l16Bytes_any x 2 (by omega) u
            have HPW : Hid (∀ x u, Calls Tryd.prog 23 #[.int .i64 x] u fun e w' => e = .returned (.string (pw x)) ∧ Below u.heap.size u w') := fun x u => specPutWord_any x u
            obtain ⟨Y0, hY0⟩ : ∃ Y, NV ++ lb k 3 = Y := ⟨_, rfl⟩
            obtain ⟨Y1, hY1⟩ : ∃ Y, Y0 ++ pw fr = Y := ⟨_, rfl⟩
            obtain ⟨Y2, hY2⟩ : ∃ Y, Y1 ++ pw tt = Y := ⟨_, rfl⟩
            obtain ⟨Y3, hY3⟩ : ∃ Y, Y2 ++ lb s 6 = Y := ⟨_, rfl⟩
            obtain ⟨Y4, hY4⟩ : ∃ Y, Y3 ++ lb d 6 = Y := ⟨_, rfl⟩
            obtain ⟨Y5, hY5⟩ : ∃ Y, Y4 ++ lb n 2 = Y := ⟨_, rfl⟩
            obtain ⟨Y6, hY6⟩ : ∃ Y, Y5 ++ lb (t.size : Int) 2 = Y := ⟨_, rfl⟩
            obtain ⟨Y7, hY7⟩ : ∃ Y, Y6 ++ t = Y := ⟨_, rfl⟩
            have HT : Hid (Y7 = T) := (show Y7 = T by rw [HTE.out, HWQ.out, ← hY7, ← hY6, ← hY5, ← hY4, ← hY3, ← hY2, ← hY1, ← hY0])
            have a0 : ∀ w, (Op.stringOp .add { data := #[78, 86] } (lb k 3)).run Tryd.prog w = .ok (.string Y0) w := fun w => by rw [← hY0]; exact run_string_add_sum (P := Tryd.prog) w NV (lb k 3) (by rw [NV_size, lb_size _ _ (by omega)]; omega)
            have s0 : Y0.size = 5 := by rw [← hY0, ByteArray.size_append, NV_size, lb_size _ _ (by omega)]
            have HA0 : Hid (∀ w, (Op.stringOp .add { data := #[78, 86] } (lb k 3)).run Tryd.prog w = .ok (.string Y0) w) := a0
            have a1 : ∀ w, (Op.stringOp .add Y0 (pw fr)).run Tryd.prog w = .ok (.string Y1) w := fun w => by rw [← hY1]; exact run_string_add_sum (P := Tryd.prog) w Y0 (pw fr) (by rw [s0, pw_sizeW]; omega)
            have s1 : Y1.size = 9 := by rw [← hY1, ByteArray.size_append, s0, pw_sizeW]
            have HA1 : Hid (∀ w, (Op.stringOp .add Y0 (pw fr)).run Tryd.prog w = .ok (.string Y1) w) := a1
            have a2 : ∀ w, (Op.stringOp .add Y1 (pw tt)).run Tryd.prog w = .ok (.string Y2) w := fun w => by rw [← hY2]; exact run_string_add_sum (P := Tryd.prog) w Y1 (pw tt) (by rw [s1, pw_sizeW]; omega)
            have s2 : Y2.size = 13 := by rw [← hY2, ByteArray.size_append, s1, pw_sizeW]
            have HA2 : Hid (∀ w, (Op.stringOp .add Y1 (pw tt)).run Tryd.prog w = .ok (.string Y2) w) := a2
            have a3 : ∀ w, (Op.stringOp .add Y2 (lb s 6)).run Tryd.prog w = .ok (.string Y3) w := fun w => by rw [← hY3]; exact run_string_add_sum (P := Tryd.prog) w Y2 (lb s 6) (by rw [s2, lb_size _ _ (by omega)]; omega)
            have s3 : Y3.size = 19 := by rw [← hY3, ByteArray.size_append, s2, lb_size _ _ (by omega)]
            have HA3 : Hid (∀ w, (Op.stringOp .add Y2 (lb s 6)).run Tryd.prog w = .ok (.string Y3) w) := a3
            have a4 : ∀ w, (Op.stringOp .add Y3 (lb d 6)).run Tryd.prog w = .ok (.string Y4) w := fun w => by rw [← hY4]; exact run_string_add_sum (P := Tryd.prog) w Y3 (lb d 6) (by rw [s3, lb_size _ _ (by omega)]; omega)
            have s4 : Y4.size = 25 := by rw [← hY4, ByteArray.size_append, s3, lb_size _ _ (by omega)]
            have HA4 : Hid (∀ w, (Op.stringOp .add Y3 (lb d 6)).run Tryd.prog w = .ok (.string Y4) w) := a4
            have a5 : ∀ w, (Op.stringOp .add Y4 (lb n 2)).run Tryd.prog w = .ok (.string Y5) w := fun w => by rw [← hY5]; exact run_string_add_sum (P := Tryd.prog) w Y4 (lb n 2) (by rw [s4, lb_size _ _ (by omega)]; omega)
            have s5 : Y5.size = 27 := by rw [← hY5, ByteArray.size_append, s4, lb_size _ _ (by omega)]
            have HA5 : Hid (∀ w, (Op.stringOp .add Y4 (lb n 2)).run Tryd.prog w = .ok (.string Y5) w) := a5
            have a6 : ∀ w, (Op.stringOp .add Y5 (lb (t.size : Int) 2)).run Tryd.prog w = .ok (.string Y6) w := fun w => by rw [← hY6]; exact run_string_add_sum (P := Tryd.prog) w Y5 (lb (t.size : Int) 2) (by rw [s5, lb_size _ _ (by omega)]; omega)
            have s6 : Y6.size = 29 := by rw [← hY6, ByteArray.size_append, s5, lb_size _ _ (by omega)]
            have HA6 : Hid (∀ w, (Op.stringOp .add Y5 (lb (t.size : Int) 2)).run Tryd.prog w = .ok (.string Y6) w) := a6
            have a7 : ∀ w, (Op.stringOp .add Y6 (t)).run Tryd.prog w = .ok (.string Y7) w := fun w => by rw [← hY7]; exact run_string_add_sum (P := Tryd.prog) w Y6 (t) (by rw [s6]; omega)
            have HA7 : Hid (∀ w, (Op.stringOp .add Y6 (t)).run Tryd.prog w = .ok (.string Y7) w) := a7
            clear hY0 a0 hY1 a1 hY2 a2 hY3 a3 hY4 a4 hY5 a5 hY6 a6 hY7 a7 s0 s1 s2 s3 s4 s5 s6 HWQ
            go_enter Tryd.func6, Tryd.ntmps6
            go_upto_region 1 with fail
            generalize (w.alloc (.cells #[.int .i64 s, .int .i64 d, .int .i64 n, .string t] 24)) = u0 at *
            generalize w.heap.size = b0 at *
            have k0 := HL0.out.cel 0 _ rfl
            have k1 := HL0.out.cel 1 _ rfl
            have k2 := HL0.out.cel 2 _ rfl
            have k3 := HL0.out.cel 3 _ rfl
            have kl := HL0.out.lt
            go_wp2_with fail
            refine Calls.mono (HF.out _) ?_
            rintro e u1 ⟨rfl, hb1⟩
            have HL1 : Hid (LG w u1 b0 #[.int .i64 s, .int .i64 d, .int .i64 n, .string t] 24) := HL0.out.step hb1
            clear hb1 k0 k1 k2 k3 kl HL0
            go_wp2_with fail
            refine Calls.mono (HW1.out _) ?_
            rintro e u8 ⟨rfl, hw8⟩
            rw [hw8]
            clear hw8
            go_wp2_with fail
            refine Calls.mono (HW2.out _) ?_
            rintro e u9 ⟨rfl, hw9⟩
            rw [hw9]
            clear hw9
            go_upto_region 3 with fail
            refine wp_region_held (S := fun w9 => LG w w9 b0 #[.int .i64 s, .int .i64 d, .int .i64 n, .string t] 24) (by kernel_rfl) ?_
            change wpAnyH _ _ _ _ _ _ _ _ (World.drew _)
            have HM0 : Hid (LG w u1.drew b0 #[.int .i64 s, .int .i64 d, .int .i64 n, .string t] 24) := HL1.out.drew
            generalize u1.drew = v0 at *
            clear HL1
            refine wpAnyH_take (i := 0) (v := .int .i64 k) rfl (by kernel_rfl) (by kernel_rfl) (by kernel_rfl) (fun _ _ _ h => h) (Or.inl ⟨by kernel_rfl, fun w9 h9 => ?_⟩) HM0.out ?_
            · clear h9; go_simp
            refine wpAnyH_take (i := 3) (v := .int .i64 fr) rfl (by kernel_rfl) (by kernel_rfl) (by kernel_rfl) (fun _ _ _ h => h) (Or.inl ⟨by kernel_rfl, fun w9 h9 => ?_⟩) HM0.out ?_
            · clear h9; go_simp
            refine wpAnyH_take (i := 6) (v := .int .i64 tt) rfl (by kernel_rfl) (by kernel_rfl) (by kernel_rfl) (fun _ _ _ h => h) (Or.inl ⟨by kernel_rfl, fun w9 h9 => ?_⟩) HM0.out ?_
            · clear h9; go_simp
            refine wpAnyH_take (i := 9) (v := .pointer (some ⟨b0, 0, none⟩)) rfl (by kernel_rfl) (by kernel_rfl) (by kernel_rfl) (fun _ _ _ h => h) (Or.inl ⟨by kernel_rfl, fun w9 h9 => ?_⟩) HM0.out ?_
            · clear h9; go_simp
            refine wpAnyH_take (i := 10) (v := .int .i64 s) rfl (by kernel_rfl) (by kernel_rfl) (by kernel_rfl) (fun _ _ _ h => h) (Or.inl ⟨by kernel_rfl, fun w9 h9 => ?_⟩) HM0.out ?_
            · have d0 := h9.cel 0 _ rfl; have dl := h9.lt; clear h9; go_simp
            refine wpAnyH_take (i := 13) (v := .pointer (some ⟨b0, 1, none⟩)) rfl (by kernel_rfl) (by kernel_rfl) (by kernel_rfl) (fun _ _ _ h => h) (Or.inl ⟨by kernel_rfl, fun w9 h9 => ?_⟩) HM0.out ?_
            · clear h9; go_simp
            refine wpAnyH_take (i := 14) (v := .int .i64 d) rfl (by kernel_rfl) (by kernel_rfl) (by kernel_rfl) (fun _ _ _ h => h) (Or.inl ⟨by kernel_rfl, fun w9 h9 => ?_⟩) HM0.out ?_
            · have d0 := h9.cel 1 _ rfl; have dl := h9.lt; clear h9; go_simp
            refine wpAnyH_take (i := 17) (v := .pointer (some ⟨b0, 2, none⟩)) rfl (by kernel_rfl) (by kernel_rfl) (by kernel_rfl) (fun _ _ _ h => h) (Or.inl ⟨by kernel_rfl, fun w9 h9 => ?_⟩) HM0.out ?_
            · clear h9; go_simp
            refine wpAnyH_take (i := 18) (v := .int .i64 n) rfl (by kernel_rfl) (by kernel_rfl) (by kernel_rfl) (fun _ _ _ h => h) (Or.inl ⟨by kernel_rfl, fun w9 h9 => ?_⟩) HM0.out ?_
            · have d0 := h9.cel 2 _ rfl; have dl := h9.lt; clear h9; go_simp
            refine wpAnyH_take (i := 21) (v := .pointer (some ⟨b0, 3, none⟩)) rfl (by kernel_rfl) (by kernel_rfl) (by kernel_rfl) (fun _ _ _ h => h) (Or.inl ⟨by kernel_rfl, fun w9 h9 => ?_⟩) HM0.out ?_
            · clear h9; go_simp
            refine wpAnyH_take (i := 22) (v := .string t) rfl (by kernel_rfl) (by kernel_rfl) (by kernel_rfl) (fun _ _ _ h => h) (Or.inl ⟨by kernel_rfl, fun w9 h9 => ?_⟩) HM0.out ?_
            · have d0 := h9.cel 3 _ rfl; have dl := h9.lt; clear h9; go_simp
            refine wpAnyH_take (i := 26) (v := .pointer (some ⟨b0, 3, none⟩)) rfl (by kernel_rfl) (by kernel_rfl) (by kernel_rfl) (fun _ _ _ h => h) (Or.inl ⟨by kernel_rfl, fun w9 h9 => ?_⟩) HM0.out ?_
            · clear h9; go_simp
            refine wpAnyH_take (i := 27) (v := .string t) rfl (by kernel_rfl) (by kernel_rfl) (by kernel_rfl) (fun _ _ _ h => h) (Or.inl ⟨by kernel_rfl, fun w9 h9 => ?_⟩) HM0.out ?_
            · have d0 := h9.cel 3 _ rfl; have dl := h9.lt; clear h9; go_simp
            refine wpAnyH_take (i := 23) (v := .int .i64 (t.size : Int)) rfl (by kernel_rfl) (by kernel_rfl) (by kernel_rfl) (fun _ _ _ h => h) (Or.inl ⟨by kernel_rfl, fun w9 h9 => ?_⟩) HM0.out ?_
            · clear h9; go_simp
            refine held_one 1 (by kernel_rfl) rfl (by kernel_rfl) fun K hK => ?_
            go_simp
            go_wp2_with (go_at_call 22; refine Calls.mono (HB3.out k _) ?_; rintro e9 v1 ⟨rfl, hu⟩; have HM1 : Hid (LG w v1 b0 #[.int .i64 s, .int .i64 d, .int .i64 n, .string t] 24) := HM0.out.step hu; clear hu HM0)
            refine hK _ _ HM1.out ?_
            clear hK K
            refine wpAnyH_take (i := 2) (v := .string Y0) rfl (by kernel_rfl) (by kernel_rfl) (by kernel_rfl) (fun _ _ _ h => h) (Or.inl ⟨by kernel_rfl, fun w9 h9 => ?_⟩) HM1.out ?_
            · clear h9; have e1 := HA0.out; go_simp
            refine held_one 4 (by kernel_rfl) rfl (by kernel_rfl) fun K hK => ?_
            go_simp
            go_wp2_with (go_at_call 23; refine Calls.mono (HPW.out fr _) ?_; rintro e9 v2 ⟨rfl, hu⟩; have HM2 : Hid (LG w v2 b0 #[.int .i64 s, .int .i64 d, .int .i64 n, .string t] 24) := HM1.out.step hu; clear hu HM1)
            refine hK _ _ HM2.out ?_
            clear hK K
            refine wpAnyH_take (i := 5) (v := .string Y1) rfl (by kernel_rfl) (by kernel_rfl) (by kernel_rfl) (fun _ _ _ h => h) (Or.inl ⟨by kernel_rfl, fun w9 h9 => ?_⟩) HM2.out ?_
            · clear h9; have e1 := HA1.out; go_simp
            refine held_one 7 (by kernel_rfl) rfl (by kernel_rfl) fun K hK => ?_
            go_simp
            go_wp2_with (go_at_call 23; refine Calls.mono (HPW.out tt _) ?_; rintro e9 v3 ⟨rfl, hu⟩; have HM3 : Hid (LG w v3 b0 #[.int .i64 s, .int .i64 d, .int .i64 n, .string t] 24) := HM2.out.step hu; clear hu HM2)
            refine hK _ _ HM3.out ?_
            clear hK K
            refine wpAnyH_take (i := 8) (v := .string Y2) rfl (by kernel_rfl) (by kernel_rfl) (by kernel_rfl) (fun _ _ _ h => h) (Or.inl ⟨by kernel_rfl, fun w9 h9 => ?_⟩) HM3.out ?_
            · clear h9; have e1 := HA2.out; go_simp
            refine held_one 11 (by kernel_rfl) rfl (by kernel_rfl) fun K hK => ?_
            go_simp
            go_wp2_with (go_at_call 22; refine Calls.mono (HB6.out s _) ?_; rintro e9 v4 ⟨rfl, hu⟩; have HM4 : Hid (LG w v4 b0 #[.int .i64 s, .int .i64 d, .int .i64 n, .string t] 24) := HM3.out.step hu; clear hu HM3)
            refine hK _ _ HM4.out ?_
            clear hK K
            refine wpAnyH_take (i := 12) (v := .string Y3) rfl (by kernel_rfl) (by kernel_rfl) (by kernel_rfl) (fun _ _ _ h => h) (Or.inl ⟨by kernel_rfl, fun w9 h9 => ?_⟩) HM4.out ?_
            · clear h9; have e1 := HA3.out; go_simp
            refine held_one 15 (by kernel_rfl) rfl (by kernel_rfl) fun K hK => ?_
            go_simp
            go_wp2_with (go_at_call 22; refine Calls.mono (HB6.out d _) ?_; rintro e9 v5 ⟨rfl, hu⟩; have HM5 : Hid (LG w v5 b0 #[.int .i64 s, .int .i64 d, .int .i64 n, .string t] 24) := HM4.out.step hu; clear hu HM4)
            refine hK _ _ HM5.out ?_
            clear hK K
            refine wpAnyH_take (i := 16) (v := .string Y4) rfl (by kernel_rfl) (by kernel_rfl) (by kernel_rfl) (fun _ _ _ h => h) (Or.inl ⟨by kernel_rfl, fun w9 h9 => ?_⟩) HM5.out ?_
            · clear h9; have e1 := HA4.out; go_simp
            refine held_one 19 (by kernel_rfl) rfl (by kernel_rfl) fun K hK => ?_
            go_simp
            go_wp2_with (go_at_call 22; refine Calls.mono (HB2.out n _) ?_; rintro e9 v6 ⟨rfl, hu⟩; have HM6 : Hid (LG w v6 b0 #[.int .i64 s, .int .i64 d, .int .i64 n, .string t] 24) := HM5.out.step hu; clear hu HM5)
            refine hK _ _ HM6.out ?_
            clear hK K
            refine wpAnyH_take (i := 20) (v := .string Y5) rfl (by kernel_rfl) (by kernel_rfl) (by kernel_rfl) (fun _ _ _ h => h) (Or.inl ⟨by kernel_rfl, fun w9 h9 => ?_⟩) HM6.out ?_
            · clear h9; have e1 := HA5.out; go_simp
            refine held_one 24 (by kernel_rfl) rfl (by kernel_rfl) fun K hK => ?_
            go_simp
            go_wp2_with (go_at_call 22; refine Calls.mono (HB2.out (t.size : Int) _) ?_; rintro e9 v7 ⟨rfl, hu⟩; have HM7 : Hid (LG w v7 b0 #[.int .i64 s, .int .i64 d, .int .i64 n, .string t] 24) := HM6.out.step hu; clear hu HM6)
            refine hK _ _ HM7.out ?_
            clear hK K
            refine wpAnyH_take (i := 25) (v := .string Y6) rfl (by kernel_rfl) (by kernel_rfl) (by kernel_rfl) (fun _ _ _ h => h) (Or.inl ⟨by kernel_rfl, fun w9 h9 => ?_⟩) HM7.out ?_
            · clear h9; have e1 := HA6.out; go_simp
            refine wpAnyH_take (i := 28) (v := .string T) rfl (by kernel_rfl) (by kernel_rfl) (by kernel_rfl) (fun _ _ _ h => h) (Or.inl ⟨by kernel_rfl, fun w9 h9 => ?_⟩) HM7.out ?_
            · clear h9; have e1 := HA7.out; rw [HT.out] at e1; go_simp
            refine wpAnyH_take (i := 29) (v := .string T) rfl (by kernel_rfl) (by kernel_rfl) (by kernel_rfl) (fun _ _ _ h => h) (Or.inl ⟨by kernel_rfl, fun w9 h9 => ?_⟩) HM7.out ?_
            · clear h9; go_simp
            refine wpAnyH_done (by kernel_rfl) ?_ _
            go_simp
            go_wp2_with fail
            refine (specMix_any _ _ _ hTs).mono ?_
            rintro e u7 ⟨rfl, hw7⟩
            rw [hw7]
            clear hw7
            go_wp2_with fail
            refine (specPutWord_any _ _).mono ?_
            rintro e u8 ⟨rfl, hb8⟩
            have HL8 : Hid (LG w u8 b0 #[.int .i64 s, .int .i64 d, .int .i64 n, .string t] 24) := HM7.out.step hb8
            clear hb8
            have aF : ∀ w, (Op.stringOp .add T (pw (mixv T 51))).run Tryd.prog w = .ok (.string (T ++ pw (mixv T 51))) w := fun w => run_string_add_sum (P := Tryd.prog) w T _ (by rw [pw_sizeW]; omega)
            go_wp2
            go_ret
            exact ⟨ret_str E.out.symm, HL8.out.bel⟩
      · have h3n : decide (k ≤ 16777215) = false := decide_eq_false (by have := of_decide_eq_true h3; omega)
        have E : Hid (V = ⟨#[]⟩) := (show V = _ by rw [hE]; simp [h3n])
        clear h1 h2n h3n hE HTE HWQ HWS
        go_enter Tryd.func6, Tryd.ntmps6
        go_upto_region 1 with fail
        generalize (w.alloc (.cells #[.int .i64 s, .int .i64 d, .int .i64 n, .string t] 24)) = u0 at *
        generalize w.heap.size = b0 at *
        have k0 := HL0.out.cel 0 _ rfl
        have k1 := HL0.out.cel 1 _ rfl
        have k2 := HL0.out.cel 2 _ rfl
        have k3 := HL0.out.cel 3 _ rfl
        have kl := HL0.out.lt
        go_wp2_with fail
        refine Calls.mono (HF.out _) ?_
        rintro e u1 ⟨rfl, hb1⟩
        have HL1 : Hid (LG w u1 b0 #[.int .i64 s, .int .i64 d, .int .i64 n, .string t] 24) := HL0.out.step hb1
        clear hb1 k0 k1 k2 k3 kl HL0
        go_wp2
        go_ret
        exact ⟨ret_str E.out.symm, HL1.out.bel⟩
    · have h2n : decide (0 ≤ k) = false := decide_eq_false (by have := of_decide_eq_true h2; omega)
      have E : Hid (V = ⟨#[]⟩) := (show V = _ by rw [hE]; simp [h2n])
      clear h1 h2n hE HTE HWQ HWS
      go_enter Tryd.func6, Tryd.ntmps6
      go_upto_region 1 with fail
      generalize (w.alloc (.cells #[.int .i64 s, .int .i64 d, .int .i64 n, .string t] 24)) = u0 at *
      generalize w.heap.size = b0 at *
      have k0 := HL0.out.cel 0 _ rfl
      have k1 := HL0.out.cel 1 _ rfl
      have k2 := HL0.out.cel 2 _ rfl
      have k3 := HL0.out.cel 3 _ rfl
      have kl := HL0.out.lt
      go_wp2_with fail
      refine Calls.mono (HF.out _) ?_
      rintro e u1 ⟨rfl, hb1⟩
      have HL1 : Hid (LG w u1 b0 #[.int .i64 s, .int .i64 d, .int .i64 n, .string t] 24) := HL0.out.step hb1
      clear hb1 k0 k1 k2 k3 kl HL0
      go_wp2
      go_ret
      exact ⟨ret_str E.out.symm, HL1.out.bel⟩
end Go.Proofs.YtmmodmanfoipiaaDoor
