import Derived.Test.YtniaohflkopncaaOv1
namespace Go.Proofs.Ytniaohflkopncaa
open Go.ChangeShapes Go.WideShapes Go.ChangeAt Go.RowKit

set_option maxRecDepth 100000 in
set_option maxHeartbeats 4000000 in
theorem specOpen_any {w : World} {v : Value} {zs : List KS} (h : KSrow w v zs) (c p : ByteArray) :
    Calls Try.prog 9 #[.agg #[v, .string c], .string p] w fun e w' => e = .returned (opA (opV zs c p)) ∧ Below w.heap.size w w' := by
  have HR : Hid (KSrow w v zs) := h
  obtain ⟨ao, cap, rfl⟩ := h.sl
  clear h
  have HV : Hid (∀ u, Aft w u → Calls Try.prog 31 #[.agg #[.slice ao zs.length cap, .string c]] u fun e w' => e = .returned (.int .i64 (vfV zs c)) ∧ Below u.heap.size u w') := fun u hu => specVF_any (HR.out.below hu.out) c
  have HT0 : Hid (TB w ((w.alloc (.cells #[.slice ao zs.length cap, .string c] 27)).alloc (.cells #[.int .i64 0, .string ⟨#[]⟩] 34)) w.heap.size (w.heap.size + 1) #[.slice ao zs.length cap, .string c] 27 #[.int .i64 0, .string ⟨#[]⟩] 34) := TB.new w _ _ _ _
  cases h1 : ovB p
  · have hp := ovB_le h1
    have o1 : decide (4096 < (p.size : Int)) = false := h1
    cases h2 : vfB zs c
    · have HRR : Hid ((⟨1, ⟨#[]⟩⟩ : OPn) = opV zs c p) := (show (⟨1, ⟨#[]⟩⟩ : OPn) = opV zs c p by simp [opV, h1, h2])
      have hv : vfV zs c = 1 := by simp [vfV, h2]
      rw [hv] at HV
      clear h1 h2 hv
      go_enter Try.func9, Try.ntmps9
      go_upto_region 1 with fail
      generalize ((w.alloc (.cells #[.slice ao zs.length cap, .string c] 27)).alloc (.cells #[.int .i64 0, .string ⟨#[]⟩] 34)) = u0 at *
      generalize w.heap.size + 1 = b2 at *
      generalize w.heap.size = b1 at *
      have k0 := HT0.out.c1 0 _ rfl
      have k1 := HT0.out.c1 1 _ rfl
      have kl := HT0.out.lt1
      go_wp2_with fail
      refine Calls.mono (HV.out _ HT0.out.aft) ?_
      rintro e u3 ⟨rfl, hu3⟩
      have HT3 : Hid (TB w u3 b1 b2 _ _ _ _) := HT0.out.step hu3
      clear hu3 k0 k1 kl
      have q0 := HT3.out.c2 0 _ rfl
      have q1 := HT3.out.c2 1 _ rfl
      have qf0 := HT3.out.f2 0
      have qf1 := HT3.out.f2 1
      have ql := HT3.out.lt2
      go_wp2
      refine bodyPost_ret (v := opA ⟨1, ⟨#[]⟩⟩) ?_ rfl ⟨by rw [← HRR.out], (HT3.out.bel.setCell HT3.out.ge2 _).setCell HT3.out.ge2 _⟩
      simp [results, Try.results9, go_sem, opA, q0, q1]
    · obtain ⟨hl4, hkz⟩ := vfB_key h2
      have HKZ : Hid (∀ z ∈ zs, z.key.size = 16 ∧ z.tag.size = 8) := hkz
      have HR0 : Hid (opF p c zs = opV zs c p) := (show opF p c zs = opV zs c p by simp [opV, h1, h2])
      have hv : vfV zs c = 0 := by simp [vfV, h2]
      rw [hv] at HV
      generalize opV zs c p = RS at *
      clear h1 h2 hv hkz
      go_enter Try.func9, Try.ntmps9
      go_upto_region 1 with fail
      generalize ((w.alloc (.cells #[.slice ao zs.length cap, .string c] 27)).alloc (.cells #[.int .i64 0, .string ⟨#[]⟩] 34)) = u0 at *
      generalize w.heap.size + 1 = b2 at *
      generalize w.heap.size = b1 at *
      have k0 := HT0.out.c1 0 _ rfl
      have k1 := HT0.out.c1 1 _ rfl
      have kl := HT0.out.lt1
      go_wp2_with fail
      refine Calls.mono (HV.out _ HT0.out.aft) ?_
      rintro e u3 ⟨rfl, hu3⟩
      have HT3 : Hid (TB w u3 b1 b2 #[.slice ao zs.length cap, .string c] 27 #[.int .i64 0, .string ⟨#[]⟩] 34) := HT0.out.step hu3
      clear hu3 k0 k1 kl HT0
      go_wp2
      go_loopw [5] (fun i wr => ∃ k : Nat, k ≤ zs.length ∧ i = .int .i64 k ∧ opF p c (zs.drop k) = RS ∧ TB w wr b1 b2 #[.slice ao zs.length cap, .string c] 27 #[.int .i64 0, .string ⟨#[]⟩] 34) (fun i _ => zs.length - (intOf i).toNat)
      case atStart => exact ⟨0, Nat.zero_le _, rfl, HR0.out, HT3.out⟩
      case round =>
        clear HT3
        obtain ⟨k, hk, rfl, hR, hT⟩ := hrel
        have HT : Hid (TB w wr b1 b2 #[.slice ao zs.length cap, .string c] 27 #[.int .i64 0, .string ⟨#[]⟩] 34) := hT
        have HRR : Hid (opF p c (zs.drop k) = RS) := hR
        clear hT hR
        have k0 := HT.out.c1 0 _ rfl
        have kl := HT.out.lt1
        by_cases hlt : k < zs.length
        · obtain ⟨g, o, cap2, hv, _, hg, hc⟩ := HR.out.resolve_left (fun h => by rw [h.1] at hlt; simp at hlt)
          injection hv with hv1 hv2 hv3
          subst hv1 hv3
          obtain ⟨d0, d1, d2⟩ := hc.below HT.out.bel hg k hlt
          have hgw : g < wr.heap.size := Nat.lt_of_lt_of_le hg HT.out.bel.size
          rw [opF_at p c zs k hlt] at HRR
          have hks : zs[k].key.size ≤ 1048576 := by have := (HKZ.out _ (List.getElem_mem hlt)).1; omega
          generalize zs[k] = z at *
          have hk0 : (0 : Int) ≤ (k : Int) := by omega
          have hk1 : (k : Int) < (zs.length : Int) := by omega
          have HTG : Hid (∀ u, Calls Try.prog 30 #[.string p, .string z.key] u fun e w' => e = .returned (.string (tgoV p z.key)) ∧ Below u.heap.size u w') := fun u => specTagOf_any p z.key u
          have HCR : Hid (∀ u, Calls Try.prog 32 #[.string p, .int .i64 z.salt, .string z.key] u fun e w' => e = .returned (.string (cryV p z.salt z.key)) ∧ Below u.heap.size u w') := fun u => specCrypt_any p z.salt z.key u
          have HCK : Hid (∀ u, Calls Try.prog 30 #[.string (cryV p z.salt z.key), .string ⟨#[]⟩] u fun e w' => e = .returned (.string (tgoV (cryV p z.salt z.key) ⟨#[]⟩)) ∧ Below u.heap.size u w') := fun u => specTagOf_any _ _ u
          generalize cryV p z.salt z.key = M at *
          generalize tgoV M ⟨#[]⟩ = T2 at *
          generalize tgoV p z.key = T1 at *
          have HT1 : Hid (TB w (wr.alloc (.cells #[.int .i64 z.salt, .string z.key, .string z.tag] 70)) b1 b2 #[.slice (some ⟨g, o, none⟩) zs.length cap, .string c] 27 #[.int .i64 0, .string ⟨#[]⟩] 34) := HT.out.step (bx1 _ _)
          have HZ1 : Hid (LG w (wr.alloc (.cells #[.int .i64 z.salt, .string z.key, .string z.tag] 70)) wr.heap.size #[.int .i64 z.salt, .string z.key, .string z.tag] 70) := ⟨HT1.out.bel, heap_new _ _, HT.out.bel.size⟩
          clear hc hks
          go_upto_region 9 with fail
          generalize (wr.alloc (.cells #[.int .i64 z.salt, .string z.key, .string z.tag] 70)) = u6 at *
          generalize wr.heap.size = b6 at *
          clear k0 kl d0 d1 d2 hgw HT
          cases hq : (T1.toList == z.tag.toList)
          · rw [hq] at HRR
            have HR2 : Hid (opF p c (zs.drop (k + 1)) = RS) := HRR.out
            clear HRR
            refine wp_region_held (S := fun w9 => (TB w w9 b1 b2 #[.slice (some ⟨g, o, none⟩) zs.length cap, .string c] 27 #[.int .i64 0, .string ⟨#[]⟩] 34) ∧ (LG w w9 b6 #[.int .i64 z.salt, .string z.key, .string z.tag] 70)) (by kernel_rfl) ?_
            change wpAnyH _ _ _ _ _ _ _ _ (World.drew _)
            refine wpAnyH_take (i := 0) (v := .string p) rfl (by kernel_rfl) (by kernel_rfl) (by kernel_rfl) (fun _ _ _ h => h) (Or.inl ⟨by kernel_rfl, fun w9 h9 => ?_⟩) ⟨HT1.out.drew, HZ1.out.drew⟩ ?_
            · go_simp
            refine wpAnyH_take (i := 1) (v := .pointer (some ⟨b6, 1, none⟩)) rfl (by kernel_rfl) (by kernel_rfl) (by kernel_rfl) (fun _ _ _ h => h) (Or.inl ⟨by kernel_rfl, fun w9 h9 => ?_⟩) ⟨HT1.out.drew, HZ1.out.drew⟩ ?_
            · go_simp
            refine wpAnyH_take (i := 2) (v := .string z.key) rfl (by kernel_rfl) (by kernel_rfl) (by kernel_rfl) (fun _ _ _ h => h) (Or.inl ⟨by kernel_rfl, fun w9 h9 => ?_⟩) ⟨HT1.out.drew, HZ1.out.drew⟩ ?_
            · have x1 := h9.2.cel 1 _ rfl; have x2 := h9.2.cel 2 _ rfl; have xl := h9.2.lt; have y1 := h9.1.c1 1 _ rfl; have yl := h9.1.lt1; go_simp
            refine wpAnyH_take (i := 4) (v := .pointer (some ⟨b6, 2, none⟩)) rfl (by kernel_rfl) (by kernel_rfl) (by kernel_rfl) (fun _ _ _ h => h) (Or.inl ⟨by kernel_rfl, fun w9 h9 => ?_⟩) ⟨HT1.out.drew, HZ1.out.drew⟩ ?_
            · go_simp
            refine wpAnyH_take (i := 5) (v := .string z.tag) rfl (by kernel_rfl) (by kernel_rfl) (by kernel_rfl) (fun _ _ _ h => h) (Or.inl ⟨by kernel_rfl, fun w9 h9 => ?_⟩) ⟨HT1.out.drew, HZ1.out.drew⟩ ?_
            · have x1 := h9.2.cel 1 _ rfl; have x2 := h9.2.cel 2 _ rfl; have xl := h9.2.lt; have y1 := h9.1.c1 1 _ rfl; have yl := h9.1.lt1; go_simp
            refine held_one 3 (by kernel_rfl) rfl (by kernel_rfl) fun K hK => ?_
            go_simp
            go_wp2_with (go_at_call 30; refine Calls.mono (HTG.out _) ?_; rintro e v1 ⟨rfl, hu⟩; have HT2 : Hid (TB w v1 b1 b2 #[.slice (some ⟨g, o, none⟩) zs.length cap, .string c] 27 #[.int .i64 0, .string ⟨#[]⟩] 34) := (HT1.out.drew).step hu; have HZ2 : Hid (LG w v1 b6 #[.int .i64 z.salt, .string z.key, .string z.tag] 70) := (HZ1.out.drew).step hu; clear hu)
            refine hK _ _ ⟨HT2.out, HZ2.out⟩ ?_
            clear hK K
            refine wpAnyH_take (i := 6) (v := .bool true) rfl (by kernel_rfl) (by kernel_rfl) (by kernel_rfl) (fun _ _ _ h => h) (Or.inl ⟨by kernel_rfl, fun w9 h9 => ?_⟩) ⟨HT2.out, HZ2.out⟩ ?_
            · go_simp
            refine wpAnyH_done (by kernel_rfl) ?_ _
            go_simp
            go_wp2
            exact ⟨⟨k + 1, hlt, by go_num, HR2.out, HT2.out⟩, by simp [intOf]; omega⟩
          · rw [hq] at HRR
            have HR2 : Hid ((if T2.toList == c.toList then ⟨0, M⟩ else opF p c (zs.drop (k + 1))) = RS) := HRR.out
            clear HRR
            refine wp_region_held (S := fun w9 => (TB w w9 b1 b2 #[.slice (some ⟨g, o, none⟩) zs.length cap, .string c] 27 #[.int .i64 0, .string ⟨#[]⟩] 34) ∧ (LG w w9 b6 #[.int .i64 z.salt, .string z.key, .string z.tag] 70)) (by kernel_rfl) ?_
            change wpAnyH _ _ _ _ _ _ _ _ (World.drew _)
            refine wpAnyH_take (i := 0) (v := .string p) rfl (by kernel_rfl) (by kernel_rfl) (by kernel_rfl) (fun _ _ _ h => h) (Or.inl ⟨by kernel_rfl, fun w9 h9 => ?_⟩) ⟨HT1.out.drew, HZ1.out.drew⟩ ?_
            · go_simp
            refine wpAnyH_take (i := 1) (v := .pointer (some ⟨b6, 1, none⟩)) rfl (by kernel_rfl) (by kernel_rfl) (by kernel_rfl) (fun _ _ _ h => h) (Or.inl ⟨by kernel_rfl, fun w9 h9 => ?_⟩) ⟨HT1.out.drew, HZ1.out.drew⟩ ?_
            · go_simp
            refine wpAnyH_take (i := 2) (v := .string z.key) rfl (by kernel_rfl) (by kernel_rfl) (by kernel_rfl) (fun _ _ _ h => h) (Or.inl ⟨by kernel_rfl, fun w9 h9 => ?_⟩) ⟨HT1.out.drew, HZ1.out.drew⟩ ?_
            · have x1 := h9.2.cel 1 _ rfl; have x2 := h9.2.cel 2 _ rfl; have xl := h9.2.lt; have y1 := h9.1.c1 1 _ rfl; have yl := h9.1.lt1; go_simp
            refine wpAnyH_take (i := 4) (v := .pointer (some ⟨b6, 2, none⟩)) rfl (by kernel_rfl) (by kernel_rfl) (by kernel_rfl) (fun _ _ _ h => h) (Or.inl ⟨by kernel_rfl, fun w9 h9 => ?_⟩) ⟨HT1.out.drew, HZ1.out.drew⟩ ?_
            · go_simp
            refine wpAnyH_take (i := 5) (v := .string z.tag) rfl (by kernel_rfl) (by kernel_rfl) (by kernel_rfl) (fun _ _ _ h => h) (Or.inl ⟨by kernel_rfl, fun w9 h9 => ?_⟩) ⟨HT1.out.drew, HZ1.out.drew⟩ ?_
            · have x1 := h9.2.cel 1 _ rfl; have x2 := h9.2.cel 2 _ rfl; have xl := h9.2.lt; have y1 := h9.1.c1 1 _ rfl; have yl := h9.1.lt1; go_simp
            refine held_one 3 (by kernel_rfl) rfl (by kernel_rfl) fun K hK => ?_
            go_simp
            go_wp2_with (go_at_call 30; refine Calls.mono (HTG.out _) ?_; rintro e v1 ⟨rfl, hu⟩; have HT2 : Hid (TB w v1 b1 b2 #[.slice (some ⟨g, o, none⟩) zs.length cap, .string c] 27 #[.int .i64 0, .string ⟨#[]⟩] 34) := (HT1.out.drew).step hu; have HZ2 : Hid (LG w v1 b6 #[.int .i64 z.salt, .string z.key, .string z.tag] 70) := (HZ1.out.drew).step hu; clear hu)
            refine hK _ _ ⟨HT2.out, HZ2.out⟩ ?_
            clear hK K
            refine wpAnyH_take (i := 6) (v := .bool false) rfl (by kernel_rfl) (by kernel_rfl) (by kernel_rfl) (fun _ _ _ h => h) (Or.inl ⟨by kernel_rfl, fun w9 h9 => ?_⟩) ⟨HT2.out, HZ2.out⟩ ?_
            · go_simp
            refine wpAnyH_done (by kernel_rfl) ?_ _
            go_simp
            have x0 := HZ2.out.cel 0 _ rfl
            have x1 := HZ2.out.cel 1 _ rfl
            have xl := HZ2.out.lt
            go_wp2_with fail
            refine Calls.mono (HCR.out _) ?_
            rintro e u7 ⟨rfl, hu⟩
            have HT3 : Hid (TB w u7 b1 b2 #[.slice (some ⟨g, o, none⟩) zs.length cap, .string c] 27 #[.int .i64 0, .string ⟨#[]⟩] 34) := HT2.out.step hu
            have HZ3 : Hid (LG w u7 b6 #[.int .i64 z.salt, .string z.key, .string z.tag] 70) := HZ2.out.step hu
            clear hu HT2 HZ2 x0 x1 xl HT1 HZ1
            go_upto_region 11 with fail
            cases hq2 : (T2.toList == c.toList)
            · rw [hq2] at HR2
              have HR3 : Hid (opF p c (zs.drop (k + 1)) = RS) := HR2.out
              clear HR2
              refine wp_region_held (S := fun w9 => (TB w w9 b1 b2 #[.slice (some ⟨g, o, none⟩) zs.length cap, .string c] 27 #[.int .i64 0, .string ⟨#[]⟩] 34) ∧ (LG w w9 b6 #[.int .i64 z.salt, .string z.key, .string z.tag] 70)) (by kernel_rfl) ?_
              change wpAnyH _ _ _ _ _ _ _ _ (World.drew _)
              refine wpAnyH_take (i := 0) (v := .string M) rfl (by kernel_rfl) (by kernel_rfl) (by kernel_rfl) (fun _ _ _ h => h) (Or.inl ⟨by kernel_rfl, fun w9 h9 => ?_⟩) ⟨HT3.out.drew, HZ3.out.drew⟩ ?_
              · go_simp
              refine wpAnyH_take (i := 2) (v := .pointer (some ⟨b1, 1, none⟩)) rfl (by kernel_rfl) (by kernel_rfl) (by kernel_rfl) (fun _ _ _ h => h) (Or.inl ⟨by kernel_rfl, fun w9 h9 => ?_⟩) ⟨HT3.out.drew, HZ3.out.drew⟩ ?_
              · go_simp
              refine wpAnyH_take (i := 3) (v := .string c) rfl (by kernel_rfl) (by kernel_rfl) (by kernel_rfl) (fun _ _ _ h => h) (Or.inl ⟨by kernel_rfl, fun w9 h9 => ?_⟩) ⟨HT3.out.drew, HZ3.out.drew⟩ ?_
              · have x1 := h9.2.cel 1 _ rfl; have x2 := h9.2.cel 2 _ rfl; have xl := h9.2.lt; have y1 := h9.1.c1 1 _ rfl; have yl := h9.1.lt1; go_simp
              refine held_one 1 (by kernel_rfl) rfl (by kernel_rfl) fun K hK => ?_
              go_simp
              go_wp2_with (go_at_call 30; refine Calls.mono (HCK.out _) ?_; rintro e v2 ⟨rfl, hu⟩; have HT4 : Hid (TB w v2 b1 b2 #[.slice (some ⟨g, o, none⟩) zs.length cap, .string c] 27 #[.int .i64 0, .string ⟨#[]⟩] 34) := (HT3.out.drew).step hu; have HZ4 : Hid (LG w v2 b6 #[.int .i64 z.salt, .string z.key, .string z.tag] 70) := (HZ3.out.drew).step hu; clear hu)
              refine hK _ _ ⟨HT4.out, HZ4.out⟩ ?_
              clear hK K
              refine wpAnyH_take (i := 4) (v := .bool false) rfl (by kernel_rfl) (by kernel_rfl) (by kernel_rfl) (fun _ _ _ h => h) (Or.inl ⟨by kernel_rfl, fun w9 h9 => ?_⟩) ⟨HT4.out, HZ4.out⟩ ?_
              · go_simp
              refine wpAnyH_done (by kernel_rfl) ?_ _
              go_simp
              go_wp2
              exact ⟨⟨k + 1, hlt, by go_num, HR3.out, HT4.out⟩, by simp [intOf]; omega⟩
            · rw [hq2] at HR2
              have HRR : Hid ((⟨0, M⟩ : OPn) = RS) := HR2.out
              clear HR2
              refine wp_region_held (S := fun w9 => (TB w w9 b1 b2 #[.slice (some ⟨g, o, none⟩) zs.length cap, .string c] 27 #[.int .i64 0, .string ⟨#[]⟩] 34) ∧ (LG w w9 b6 #[.int .i64 z.salt, .string z.key, .string z.tag] 70)) (by kernel_rfl) ?_
              change wpAnyH _ _ _ _ _ _ _ _ (World.drew _)
              refine wpAnyH_take (i := 0) (v := .string M) rfl (by kernel_rfl) (by kernel_rfl) (by kernel_rfl) (fun _ _ _ h => h) (Or.inl ⟨by kernel_rfl, fun w9 h9 => ?_⟩) ⟨HT3.out.drew, HZ3.out.drew⟩ ?_
              · go_simp
              refine wpAnyH_take (i := 2) (v := .pointer (some ⟨b1, 1, none⟩)) rfl (by kernel_rfl) (by kernel_rfl) (by kernel_rfl) (fun _ _ _ h => h) (Or.inl ⟨by kernel_rfl, fun w9 h9 => ?_⟩) ⟨HT3.out.drew, HZ3.out.drew⟩ ?_
              · go_simp
              refine wpAnyH_take (i := 3) (v := .string c) rfl (by kernel_rfl) (by kernel_rfl) (by kernel_rfl) (fun _ _ _ h => h) (Or.inl ⟨by kernel_rfl, fun w9 h9 => ?_⟩) ⟨HT3.out.drew, HZ3.out.drew⟩ ?_
              · have x1 := h9.2.cel 1 _ rfl; have x2 := h9.2.cel 2 _ rfl; have xl := h9.2.lt; have y1 := h9.1.c1 1 _ rfl; have yl := h9.1.lt1; go_simp
              refine held_one 1 (by kernel_rfl) rfl (by kernel_rfl) fun K hK => ?_
              go_simp
              go_wp2_with (go_at_call 30; refine Calls.mono (HCK.out _) ?_; rintro e v2 ⟨rfl, hu⟩; have HT4 : Hid (TB w v2 b1 b2 #[.slice (some ⟨g, o, none⟩) zs.length cap, .string c] 27 #[.int .i64 0, .string ⟨#[]⟩] 34) := (HT3.out.drew).step hu; have HZ4 : Hid (LG w v2 b6 #[.int .i64 z.salt, .string z.key, .string z.tag] 70) := (HZ3.out.drew).step hu; clear hu)
              refine hK _ _ ⟨HT4.out, HZ4.out⟩ ?_
              clear hK K
              refine wpAnyH_take (i := 4) (v := .bool true) rfl (by kernel_rfl) (by kernel_rfl) (by kernel_rfl) (fun _ _ _ h => h) (Or.inl ⟨by kernel_rfl, fun w9 h9 => ?_⟩) ⟨HT4.out, HZ4.out⟩ ?_
              · go_simp
              refine wpAnyH_done (by kernel_rfl) ?_ _
              go_simp
              have q0 := HT4.out.c2 0 _ rfl
              have q1 := HT4.out.c2 1 _ rfl
              have qf0 := HT4.out.f2 0
              have qf1 := HT4.out.f2 1
              have ql := HT4.out.lt2
              go_wp2
              refine bodyPost_ret (v := opA ⟨0, M⟩) ?_ rfl ⟨by rw [← HRR.out], (HT4.out.bel.setCell HT4.out.ge2 _).setCell HT4.out.ge2 _⟩
              simp [results, Try.results9, go_sem, opA, q0, q1]
        · obtain rfl : k = zs.length := by omega
          have HR2 : Hid ((⟨7, ⟨#[]⟩⟩ : OPn) = RS) := (show (⟨7, ⟨#[]⟩⟩ : OPn) = RS by have := HRR.out; rwa [List.drop_length] at this)
          clear HRR
          have HRR := HR2
          have q0 := HT.out.c2 0 _ rfl
          have q1 := HT.out.c2 1 _ rfl
          have qf0 := HT.out.f2 0
          have qf1 := HT.out.f2 1
          have ql := HT.out.lt2
          go_wp2
          refine bodyPost_ret (v := opA ⟨7, ⟨#[]⟩⟩) ?_ rfl ⟨by rw [← HRR.out], (HT.out.bel.setCell HT.out.ge2 _).setCell HT.out.ge2 _⟩
          simp [results, Try.results9, go_sem, opA, q0, q1]
  · have HRR : Hid ((⟨2, ⟨#[]⟩⟩ : OPn) = opV zs c p) := (show (⟨2, ⟨#[]⟩⟩ : OPn) = opV zs c p by simp [opV, h1])
    have o1 : decide (4096 < (p.size : Int)) = true := h1
    clear h1
    go_enter Try.func9, Try.ntmps9
    go_upto_region 1 with fail
    generalize ((w.alloc (.cells #[.slice ao zs.length cap, .string c] 27)).alloc (.cells #[.int .i64 0, .string ⟨#[]⟩] 34)) = u0 at *
    generalize w.heap.size + 1 = b2 at *
    generalize w.heap.size = b1 at *
    have k0 := HT0.out.c1 0 _ rfl
    have k1 := HT0.out.c1 1 _ rfl
    have kl := HT0.out.lt1
    have q0 := HT0.out.c2 0 _ rfl
    have q1 := HT0.out.c2 1 _ rfl
    have qf0 := HT0.out.f2 0
    have qf1 := HT0.out.f2 1
    have ql := HT0.out.lt2
    go_wp2
    refine bodyPost_ret (v := opA ⟨2, ⟨#[]⟩⟩) ?_ rfl ⟨by rw [← HRR.out], (HT0.out.bel.setCell HT0.out.ge2 _).setCell HT0.out.ge2 _⟩
    simp [results, Try.results9, go_sem, opA, q0, q1]
end Go.Proofs.Ytniaohflkopncaa
