import Derived.Test.YtniaohflkopncaaSk6
import Derived.Test.YtniaohflkopncaaVo1
import Derived.Test.YtniaohflkopncaaHl
namespace Go.Proofs.Ytniaohflkopncaa
open Go.ChangeShapes Go.WideShapes Go.ChangeAt Go.RowKit

/-- What is opened: a code, the data. -/
structure OPn where
  code : Int
  data : ByteArray
def opA (x : OPn) : Value := .agg #[.int .i64 x.code, .string x.data]
/-- What the slots give for a pass. -/
def opF (p c : ByteArray) : List KS → OPn
  | [] => ⟨7, ⟨#[]⟩⟩
  | z :: zs => if (tgoV p z.key).toList == z.tag.toList then (if (tgoV (cryV p z.salt z.key) ⟨#[]⟩).toList == c.toList then ⟨0, cryV p z.salt z.key⟩ else opF p c zs) else opF p c zs
def opV (zs : List KS) (c p : ByteArray) : OPn := if ovB p = true then ⟨2, ⟨#[]⟩⟩ else if vfB zs c = true then opF p c zs else ⟨1, ⟨#[]⟩⟩
theorem opF_at (p c : ByteArray) (zs : List KS) (k : Nat) (h : k < zs.length) : opF p c (zs.drop k) = if (tgoV p zs[k].key).toList == zs[k].tag.toList then (if (tgoV (cryV p zs[k].salt zs[k].key) ⟨#[]⟩).toList == c.toList then ⟨0, cryV p zs[k].salt zs[k].key⟩ else opF p c (zs.drop (k + 1))) else opF p c (zs.drop (k + 1)) := by
  rw [List.drop_eq_getElem_cons h, opF]
theorem vfB_key {zs : List KS} {c : ByteArray} (h : vfB zs c = true) : zs.length ≤ 4 ∧ ∀ z ∈ zs, z.key.size = 16 ∧ z.tag.size = 8 := by
  simp only [vfB, Bool.and_eq_true, Bool.not_eq_true', List.all_eq_true] at h
  obtain ⟨h1, h2⟩ := h
  obtain ⟨_, q2, _⟩ := vhB_no h1
  have := of_decide_eq_false q2
  refine ⟨by omega, fun z hz => ?_⟩
  have h3 := h2 z hz
  simp only [ksB, Bool.and_eq_true, beq_iff_eq] at h3
  omega
theorem checkOf_any (m : ByteArray) (w : World) : Calls Try.prog 27 #[.string m] w fun e w' => e = .returned (.string (tgoV m ⟨#[]⟩)) ∧ Below w.heap.size w w' := by
  go_enter Try.func27, Try.ntmps27
  go_wp2_with (go_at_call 64; refine (implTagOf_any _ _ _).mono ?_; rintro e u1 ⟨rfl, hb1⟩)
  go_ret
  exact ⟨rfl, hb1⟩
set_option maxRecDepth 100000 in
set_option maxHeartbeats 4000000 in
theorem volOpen_any {w : World} {v : Value} {zs : List KS} (h : KSrow w v zs) (c p : ByteArray) (hv : vfB zs c = true) (hp : p.size ≤ 4096) :
    Calls Try.prog 34 #[.agg #[v, .string c], .string p] w fun e w' => e = .returned (opA (opF p c zs)) ∧ Below w.heap.size w w' := by
  have HR : Hid (KSrow w v zs) := h
  obtain ⟨ao, cap, rfl⟩ := h.sl
  obtain ⟨hl4, hkz⟩ := vfB_key hv
  have HKZ : Hid (∀ z ∈ zs, z.key.size = 16 ∧ z.tag.size = 8) := hkz
  clear h hkz hv
  have HR0 : Hid (∃ RS, opF p c zs = RS) := ⟨_, rfl⟩
  obtain ⟨RS, hRS⟩ := HR0.out
  rw [hRS]
  have HRS : Hid (opF p c zs = RS) := hRS
  have HT0 : Hid (TB w ((w.alloc (.cells #[.slice ao zs.length cap, .string c] 27)).alloc (.cells #[.int .i64 0, .string ⟨#[]⟩] 34)) w.heap.size (w.heap.size + 1) #[.slice ao zs.length cap, .string c] 27 #[.int .i64 0, .string ⟨#[]⟩] 34) := TB.new w _ _ _ _
  clear hRS HR0
  go_enter Try.func34, Try.ntmps34
  go_upto_region 1 with fail
  generalize ((w.alloc (.cells #[.slice ao zs.length cap, .string c] 27)).alloc (.cells #[.int .i64 0, .string ⟨#[]⟩] 34)) = u0 at *
  generalize w.heap.size + 1 = b2 at *
  generalize w.heap.size = b1 at *
  have k0 := HT0.out.c1 0 _ rfl
  have kl := HT0.out.lt1
  go_wp2
  clear k0 kl
  go_loopw [11] (fun i wr => ∃ k : Nat, k ≤ zs.length ∧ i = .int .i64 k ∧ opF p c (zs.drop k) = RS ∧ TB w wr b1 b2 #[.slice ao zs.length cap, .string c] 27 #[.int .i64 0, .string ⟨#[]⟩] 34) (fun i _ => zs.length - (intOf i).toNat)
  case atStart => exact ⟨0, Nat.zero_le _, rfl, HRS.out, HT0.out⟩
  case round =>
    obtain ⟨k, hk, rfl, hR, hT⟩ := hrel
    have HT : Hid (TB w wr b1 b2 #[.slice ao zs.length cap, .string c] 27 #[.int .i64 0, .string ⟨#[]⟩] 34) := hT
    have HRR : Hid (opF p c (zs.drop k) = RS) := hR
    clear hT hR
    have k0 := HT.out.c1 0 _ rfl
    have kl := HT.out.lt1
    by_cases hlt : k < zs.length
    · obtain ⟨g, o, cap2, hv, _, hg, hc⟩ := HR.out.resolve_left (fun h => by rw [h.1] at hlt; simp at hlt)
      injection hv with hv1 hv2 hv3
      subst hv1 hv3
      obtain ⟨d0, d1, d2⟩ := hc.below HT.out.bel hg k hlt
      have hgw : g < wr.heap.size := Nat.lt_of_lt_of_le hg HT.out.bel.size
      rw [opF_at p c zs k hlt] at HRR
      have hks : zs[k].key.size ≤ 1048576 := by have := (HKZ.out _ (List.getElem_mem hlt)).1; omega
      generalize zs[k] = z at *
      have hk0 : (0 : Int) ≤ (k : Int) := by omega
      have hk1 : (k : Int) < (zs.length : Int) := by omega
      have HTG : Hid (∀ u, Calls Try.prog 64 #[.string p, .string z.key] u fun e w' => e = .returned (.string (tgoV p z.key)) ∧ Below u.heap.size u w') := fun u => implTagOf_any p z.key u
      have HCR : Hid (∀ u, Calls Try.prog 63 #[.string p, .int .i64 z.salt, .string z.key] u fun e w' => e = .returned (.string (cryV p z.salt z.key)) ∧ Below u.heap.size u w') := fun u => implCrypt_any p z.salt z.key u (by omega) hks
      have HCK : Hid (∀ u, Calls Try.prog 27 #[.string (cryV p z.salt z.key)] u fun e w' => e = .returned (.string (tgoV (cryV p z.salt z.key) ⟨#[]⟩)) ∧ Below u.heap.size u w') := fun u => checkOf_any _ u
      generalize cryV p z.salt z.key = M at *
      generalize tgoV M ⟨#[]⟩ = T2 at *
      generalize tgoV p z.key = T1 at *
      have HT1 : Hid (TB w (wr.alloc (.cells #[.int .i64 z.salt, .string z.key, .string z.tag] 70)) b1 b2 #[.slice (some ⟨g, o, none⟩) zs.length cap, .string c] 27 #[.int .i64 0, .string ⟨#[]⟩] 34) := HT.out.step (bx1 _ _)
      have HZ1 : Hid (LG w (wr.alloc (.cells #[.int .i64 z.salt, .string z.key, .string z.tag] 70)) wr.heap.size #[.int .i64 z.salt, .string z.key, .string z.tag] 70) := ⟨HT1.out.bel, heap_new _ _, HT.out.bel.size⟩
      clear hc hks
      go_upto_region 4 with fail
      generalize (wr.alloc (.cells #[.int .i64 z.salt, .string z.key, .string z.tag] 70)) = u6 at *
      generalize wr.heap.size = b6 at *
      clear k0 kl d0 d1 d2 hgw HT
      cases hq : (T1.toList == z.tag.toList)
      · rw [hq] at HRR
        have HR2 : Hid (opF p c (zs.drop (k + 1)) = RS) := HRR.out
        clear HRR
        refine wp_region_held (S := fun w9 => (TB w w9 b1 b2 #[.slice (some ⟨g, o, none⟩) zs.length cap, .string c] 27 #[.int .i64 0, .string ⟨#[]⟩] 34) ∧ (LG w w9 b6 #[.int .i64 z.salt, .string z.key, .string z.tag] 70)) (by kernel_rfl) ?_
        change wpAnyH _ _ _ _ _ _ _ _ (World.drew _)
        refine wpAnyH_take (i := 0) (v := .string p) rfl (by kernel_rfl) (by kernel_rfl) (by kernel_rfl) (fun _ _ _ h => h) (Or.inl ⟨by kernel_rfl, fun w9 h9 => ?_⟩) ⟨HT1.out.drew, HZ1.out.drew⟩ ?_
        · go_simp
        refine wpAnyH_take (i := 1) (v := .pointer (some ⟨b6, 1, none⟩)) rfl (by kernel_rfl) (by kernel_rfl) (by kernel_rfl) (fun _ _ _ h => h) (Or.inl ⟨by kernel_rfl, fun w9 h9 => ?_⟩) ⟨HT1.out.drew, HZ1.out.drew⟩ ?_
        · go_simp
        refine wpAnyH_take (i := 2) (v := .string z.key) rfl (by kernel_rfl) (by kernel_rfl) (by kernel_rfl) (fun _ _ _ h => h) (Or.inl ⟨by kernel_rfl, fun w9 h9 => ?_⟩) ⟨HT1.out.drew, HZ1.out.drew⟩ ?_
        · have x1 := h9.2.cel 1 _ rfl; have x2 := h9.2.cel 2 _ rfl; have xl := h9.2.lt; have y1 := h9.1.c1 1 _ rfl; have yl := h9.1.lt1; go_simp
        refine wpAnyH_take (i := 4) (v := .pointer (some ⟨b6, 2, none⟩)) rfl (by kernel_rfl) (by kernel_rfl) (by kernel_rfl) (fun _ _ _ h => h) (Or.inl ⟨by kernel_rfl, fun w9 h9 => ?_⟩) ⟨HT1.out.drew, HZ1.out.drew⟩ ?_
        · go_simp
        refine wpAnyH_take (i := 5) (v := .string z.tag) rfl (by kernel_rfl) (by kernel_rfl) (by kernel_rfl) (fun _ _ _ h => h) (Or.inl ⟨by kernel_rfl, fun w9 h9 => ?_⟩) ⟨HT1.out.drew, HZ1.out.drew⟩ ?_
        · have x1 := h9.2.cel 1 _ rfl; have x2 := h9.2.cel 2 _ rfl; have xl := h9.2.lt; have y1 := h9.1.c1 1 _ rfl; have yl := h9.1.lt1; go_simp
        refine held_one 3 (by kernel_rfl) rfl (by kernel_rfl) fun K hK => ?_
        go_simp
        go_wp2_with (go_at_call 64; refine Calls.mono (HTG.out _) ?_; rintro e v1 ⟨rfl, hu⟩; have HT2 : Hid (TB w v1 b1 b2 #[.slice (some ⟨g, o, none⟩) zs.length cap, .string c] 27 #[.int .i64 0, .string ⟨#[]⟩] 34) := (HT1.out.drew).step hu; have HZ2 : Hid (LG w v1 b6 #[.int .i64 z.salt, .string z.key, .string z.tag] 70) := (HZ1.out.drew).step hu; clear hu)
        refine hK _ _ ⟨HT2.out, HZ2.out⟩ ?_
        clear hK K
        refine wpAnyH_take (i := 6) (v := .bool true) rfl (by kernel_rfl) (by kernel_rfl) (by kernel_rfl) (fun _ _ _ h => h) (Or.inl ⟨by kernel_rfl, fun w9 h9 => ?_⟩) ⟨HT2.out, HZ2.out⟩ ?_
        · go_simp
        refine wpAnyH_done (by kernel_rfl) ?_ _
        go_simp
        go_wp2
        exact ⟨⟨k + 1, hlt, by go_num, HR2.out, HT2.out⟩, by simp [intOf]; omega⟩
      · rw [hq] at HRR
        have HR2 : Hid ((if T2.toList == c.toList then ⟨0, M⟩ else opF p c (zs.drop (k + 1))) = RS) := HRR.out
        clear HRR
        refine wp_region_held (S := fun w9 => (TB w w9 b1 b2 #[.slice (some ⟨g, o, none⟩) zs.length cap, .string c] 27 #[.int .i64 0, .string ⟨#[]⟩] 34) ∧ (LG w w9 b6 #[.int .i64 z.salt, .string z.key, .string z.tag] 70)) (by kernel_rfl) ?_
        change wpAnyH _ _ _ _ _ _ _ _ (World.drew _)
        refine wpAnyH_take (i := 0) (v := .string p) rfl (by kernel_rfl) (by kernel_rfl) (by kernel_rfl) (fun _ _ _ h => h) (Or.inl ⟨by kernel_rfl, fun w9 h9 => ?_⟩) ⟨HT1.out.drew, HZ1.out.drew⟩ ?_
        · go_simp
        refine wpAnyH_take (i := 1) (v := .pointer (some ⟨b6, 1, none⟩)) rfl (by kernel_rfl) (by kernel_rfl) (by kernel_rfl) (fun _ _ _ h => h) (Or.inl ⟨by kernel_rfl, fun w9 h9 => ?_⟩) ⟨HT1.out.drew, HZ1.out.drew⟩ ?_
        · go_simp
        refine wpAnyH_take (i := 2) (v := .string z.key) rfl (by kernel_rfl) (by kernel_rfl) (by kernel_rfl) (fun _ _ _ h => h) (Or.inl ⟨by kernel_rfl, fun w9 h9 => ?_⟩) ⟨HT1.out.drew, HZ1.out.drew⟩ ?_
        · have x1 := h9.2.cel 1 _ rfl; have x2 := h9.2.cel 2 _ rfl; have xl := h9.2.lt; have y1 := h9.1.c1 1 _ rfl; have yl := h9.1.lt1; go_simp
        refine wpAnyH_take (i := 4) (v := .pointer (some ⟨b6, 2, none⟩)) rfl (by kernel_rfl) (by kernel_rfl) (by kernel_rfl) (fun _ _ _ h => h) (Or.inl ⟨by kernel_rfl, fun w9 h9 => ?_⟩) ⟨HT1.out.drew, HZ1.out.drew⟩ ?_
        · go_simp
        refine wpAnyH_take (i := 5) (v := .string z.tag) rfl (by kernel_rfl) (by kernel_rfl) (by kernel_rfl) (fun _ _ _ h => h) (Or.inl ⟨by kernel_rfl, fun w9 h9 => ?_⟩) ⟨HT1.out.drew, HZ1.out.drew⟩ ?_
        · have x1 := h9.2.cel 1 _ rfl; have x2 := h9.2.cel 2 _ rfl; have xl := h9.2.lt; have y1 := h9.1.c1 1 _ rfl; have yl := h9.1.lt1; go_simp
        refine held_one 3 (by kernel_rfl) rfl (by kernel_rfl) fun K hK => ?_
        go_simp
        go_wp2_with (go_at_call 64; refine Calls.mono (HTG.out _) ?_; rintro e v1 ⟨rfl, hu⟩; have HT2 : Hid (TB w v1 b1 b2 #[.slice (some ⟨g, o, none⟩) zs.length cap, .string c] 27 #[.int .i64 0, .string ⟨#[]⟩] 34) := (HT1.out.drew).step hu; have HZ2 : Hid (LG w v1 b6 #[.int .i64 z.salt, .string z.key, .string z.tag] 70) := (HZ1.out.drew).step hu; clear hu)
        refine hK _ _ ⟨HT2.out, HZ2.out⟩ ?_
        clear hK K
        refine wpAnyH_take (i := 6) (v := .bool false) rfl (by kernel_rfl) (by kernel_rfl) (by kernel_rfl) (fun _ _ _ h => h) (Or.inl ⟨by kernel_rfl, fun w9 h9 => ?_⟩) ⟨HT2.out, HZ2.out⟩ ?_
        · go_simp
        refine wpAnyH_done (by kernel_rfl) ?_ _
        go_simp
        have x0 := HZ2.out.cel 0 _ rfl
        have x1 := HZ2.out.cel 1 _ rfl
        have xl := HZ2.out.lt
        go_wp2_with fail
        refine Calls.mono (HCR.out _) ?_
        rintro e u7 ⟨rfl, hu⟩
        have HT3 : Hid (TB w u7 b1 b2 #[.slice (some ⟨g, o, none⟩) zs.length cap, .string c] 27 #[.int .i64 0, .string ⟨#[]⟩] 34) := HT2.out.step hu
        have HZ3 : Hid (LG w u7 b6 #[.int .i64 z.salt, .string z.key, .string z.tag] 70) := HZ2.out.step hu
        clear hu HT2 HZ2 x0 x1 xl HT1 HZ1
        go_upto_region 6 with fail
        cases hq2 : (T2.toList == c.toList)
        · rw [hq2] at HR2
          have HR3 : Hid (opF p c (zs.drop (k + 1)) = RS) := HR2.out
          clear HR2
          refine wp_region_held (S := fun w9 => (TB w w9 b1 b2 #[.slice (some ⟨g, o, none⟩) zs.length cap, .string c] 27 #[.int .i64 0, .string ⟨#[]⟩] 34) ∧ (LG w w9 b6 #[.int .i64 z.salt, .string z.key, .string z.tag] 70)) (by kernel_rfl) ?_
          change wpAnyH _ _ _ _ _ _ _ _ (World.drew _)
          refine wpAnyH_take (i := 0) (v := .string M) rfl (by kernel_rfl) (by kernel_rfl) (by kernel_rfl) (fun _ _ _ h => h) (Or.inl ⟨by kernel_rfl, fun w9 h9 => ?_⟩) ⟨HT3.out.drew, HZ3.out.drew⟩ ?_
          · go_simp
          refine wpAnyH_take (i := 2) (v := .pointer (some ⟨b1, 1, none⟩)) rfl (by kernel_rfl) (by kernel_rfl) (by kernel_rfl) (fun _ _ _ h => h) (Or.inl ⟨by kernel_rfl, fun w9 h9 => ?_⟩) ⟨HT3.out.drew, HZ3.out.drew⟩ ?_
          · go_simp
          refine wpAnyH_take (i := 3) (v := .string c) rfl (by kernel_rfl) (by kernel_rfl) (by kernel_rfl) (fun _ _ _ h => h) (Or.inl ⟨by kernel_rfl, fun w9 h9 => ?_⟩) ⟨HT3.out.drew, HZ3.out.drew⟩ ?_
          · have x1 := h9.2.cel 1 _ rfl; have x2 := h9.2.cel 2 _ rfl; have xl := h9.2.lt; have y1 := h9.1.c1 1 _ rfl; have yl := h9.1.lt1; go_simp
          refine held_one 1 (by kernel_rfl) rfl (by kernel_rfl) fun K hK => ?_
          go_simp
          go_wp2_with (go_at_call 27; refine Calls.mono (HCK.out _) ?_; rintro e v2 ⟨rfl, hu⟩; have HT4 : Hid (TB w v2 b1 b2 #[.slice (some ⟨g, o, none⟩) zs.length cap, .string c] 27 #[.int .i64 0, .string ⟨#[]⟩] 34) := (HT3.out.drew).step hu; have HZ4 : Hid (LG w v2 b6 #[.int .i64 z.salt, .string z.key, .string z.tag] 70) := (HZ3.out.drew).step hu; clear hu)
          refine hK _ _ ⟨HT4.out, HZ4.out⟩ ?_
          clear hK K
          refine wpAnyH_take (i := 4) (v := .bool false) rfl (by kernel_rfl) (by kernel_rfl) (by kernel_rfl) (fun _ _ _ h => h) (Or.inl ⟨by kernel_rfl, fun w9 h9 => ?_⟩) ⟨HT4.out, HZ4.out⟩ ?_
          · go_simp
          refine wpAnyH_done (by kernel_rfl) ?_ _
          go_simp
          go_wp2
          exact ⟨⟨k + 1, hlt, by go_num, HR3.out, HT4.out⟩, by simp [intOf]; omega⟩
        · rw [hq2] at HR2
          have HRR : Hid ((⟨0, M⟩ : OPn) = RS) := HR2.out
          clear HR2
          refine wp_region_held (S := fun w9 => (TB w w9 b1 b2 #[.slice (some ⟨g, o, none⟩) zs.length cap, .string c] 27 #[.int .i64 0, .string ⟨#[]⟩] 34) ∧ (LG w w9 b6 #[.int .i64 z.salt, .string z.key, .string z.tag] 70)) (by kernel_rfl) ?_
          change wpAnyH _ _ _ _ _ _ _ _ (World.drew _)
          refine wpAnyH_take (i := 0) (v := .string M) rfl (by kernel_rfl) (by kernel_rfl) (by kernel_rfl) (fun _ _ _ h => h) (Or.inl ⟨by kernel_rfl, fun w9 h9 => ?_⟩) ⟨HT3.out.drew, HZ3.out.drew⟩ ?_
          · go_simp
          refine wpAnyH_take (i := 2) (v := .pointer (some ⟨b1, 1, none⟩)) rfl (by kernel_rfl) (by kernel_rfl) (by kernel_rfl) (fun _ _ _ h => h) (Or.inl ⟨by kernel_rfl, fun w9 h9 => ?_⟩) ⟨HT3.out.drew, HZ3.out.drew⟩ ?_
          · go_simp
          refine wpAnyH_take (i := 3) (v := .string c) rfl (by kernel_rfl) (by kernel_rfl) (by kernel_rfl) (fun _ _ _ h => h) (Or.inl ⟨by kernel_rfl, fun w9 h9 => ?_⟩) ⟨HT3.out.drew, HZ3.out.drew⟩ ?_
          · have x1 := h9.2.cel 1 _ rfl; have x2 := h9.2.cel 2 _ rfl; have xl := h9.2.lt; have y1 := h9.1.c1 1 _ rfl; have yl := h9.1.lt1; go_simp
          refine held_one 1 (by kernel_rfl) rfl (by kernel_rfl) fun K hK => ?_
          go_simp
          go_wp2_with (go_at_call 27; refine Calls.mono (HCK.out _) ?_; rintro e v2 ⟨rfl, hu⟩; have HT4 : Hid (TB w v2 b1 b2 #[.slice (some ⟨g, o, none⟩) zs.length cap, .string c] 27 #[.int .i64 0, .string ⟨#[]⟩] 34) := (HT3.out.drew).step hu; have HZ4 : Hid (LG w v2 b6 #[.int .i64 z.salt, .string z.key, .string z.tag] 70) := (HZ3.out.drew).step hu; clear hu)
          refine hK _ _ ⟨HT4.out, HZ4.out⟩ ?_
          clear hK K
          refine wpAnyH_take (i := 4) (v := .bool true) rfl (by kernel_rfl) (by kernel_rfl) (by kernel_rfl) (fun _ _ _ h => h) (Or.inl ⟨by kernel_rfl, fun w9 h9 => ?_⟩) ⟨HT4.out, HZ4.out⟩ ?_
          · go_simp
          refine wpAnyH_done (by kernel_rfl) ?_ _
          go_simp
          have q0 := HT4.out.c2 0 _ rfl
          have q1 := HT4.out.c2 1 _ rfl
          have qf0 := HT4.out.f2 0
          have qf1 := HT4.out.f2 1
          have ql := HT4.out.lt2
          go_wp2
          refine bodyPost_ret (v := opA ⟨0, M⟩) ?_ rfl ⟨by rw [← HRR.out], (HT4.out.bel.setCell HT4.out.ge2 _).setCell HT4.out.ge2 _⟩
          simp [results, Try.results34, go_sem, opA, q0, q1]
    · obtain rfl : k = zs.length := by omega
      have HR2 : Hid ((⟨7, ⟨#[]⟩⟩ : OPn) = RS) := (show (⟨7, ⟨#[]⟩⟩ : OPn) = RS by have := HRR.out; rwa [List.drop_length] at this)
      clear HRR
      have HRR := HR2
      have q0 := HT.out.c2 0 _ rfl
      have q1 := HT.out.c2 1 _ rfl
      have qf0 := HT.out.f2 0
      have qf1 := HT.out.f2 1
      have ql := HT.out.lt2
      go_wp2
      refine bodyPost_ret (v := opA ⟨7, ⟨#[]⟩⟩) ?_ rfl ⟨by rw [← HRR.out], (HT.out.bel.setCell HT.out.ge2 _).setCell HT.out.ge2 _⟩
      simp [results, Try.results34, go_sem, opA, q0, q1]
set_option maxRecDepth 100000 in
set_option maxHeartbeats 4000000 in
theorem implOpen_any {w : World} {v : Value} {zs : List KS} (h : KSrow w v zs) (hl : zs.length ≤ 1048576) (c p : ByteArray) :
    Calls Try.prog 10 #[.agg #[v, .string c], .string p] w fun e w' => e = .returned (opA (opV zs c p)) ∧ Below w.heap.size w w' := by
  have HR : Hid (KSrow w v zs) := h
  obtain ⟨ao, cap, rfl⟩ := h.sl
  clear h
  have HO : Hid (∀ u, Calls Try.prog 24 #[.slice (some ⟨u.heap.size, 0, none⟩) 1 1] (u.alloc (.cells #[.string p] 9)) fun e w' => e = .returned (.bool (ovB p)) ∧ Below u.heap.size u w') := fun u => over_one p u
  have HV : Hid (∀ u, Aft w u → Calls Try.prog 33 #[.agg #[.slice ao zs.length cap, .string c]] u fun e w' => e = .returned (.bool (vfB zs c)) ∧ Below u.heap.size u w') := fun u hu => volRight_any (HR.out.below hu.out) hl c
  have HT0 : Hid (TB w ((w.alloc (.cells #[.slice ao zs.length cap, .string c] 27)).alloc (.cells #[.int .i64 0, .string ⟨#[]⟩] 34)) w.heap.size (w.heap.size + 1) #[.slice ao zs.length cap, .string c] 27 #[.int .i64 0, .string ⟨#[]⟩] 34) := TB.new w _ _ _ _
  cases h1 : ovB p
  · have hp := ovB_le h1
    rw [h1] at HO
    cases h2 : vfB zs c
    · have HRR : Hid ((⟨1, ⟨#[]⟩⟩ : OPn) = opV zs c p) := (show (⟨1, ⟨#[]⟩⟩ : OPn) = opV zs c p by simp [opV, h1, h2])
      rw [h2] at HV
      clear h1 h2
      go_enter Try.func10, Try.ntmps10
      go_upto_region 1 with fail
      generalize ((w.alloc (.cells #[.slice ao zs.length cap, .string c] 27)).alloc (.cells #[.int .i64 0, .string ⟨#[]⟩] 34)) = u0 at *
      generalize w.heap.size + 1 = b2 at *
      generalize w.heap.size = b1 at *
      go_wp2_with (go_at_call 24; refine Calls.mono (HO.out _) ?_; rintro e u2 ⟨rfl, hu2⟩; have HT2 : Hid (TB w u2 b1 b2 #[.slice ao zs.length cap, .string c] 27 #[.int .i64 0, .string ⟨#[]⟩] 34) := HT0.out.step hu2; clear hu2; have k0 := HT2.out.c1 0 _ rfl; have k1 := HT2.out.c1 1 _ rfl; have kl := HT2.out.lt1)
      refine Calls.mono (HV.out _ HT2.out.aft) ?_
      rintro e u3 ⟨rfl, hu3⟩
      have HT3 : Hid (TB w u3 b1 b2 _ _ _ _) := HT2.out.step hu3
      clear hu3 k0 k1 kl
      have q0 := HT3.out.c2 0 _ rfl
      have q1 := HT3.out.c2 1 _ rfl
      have qf0 := HT3.out.f2 0
      have qf1 := HT3.out.f2 1
      have ql := HT3.out.lt2
      go_wp2
      refine bodyPost_ret (v := opA ⟨1, ⟨#[]⟩⟩) ?_ rfl ⟨by rw [← HRR.out], (HT3.out.bel.setCell HT3.out.ge2 _).setCell HT3.out.ge2 _⟩
      simp [results, Try.results10, go_sem, opA, q0, q1]
    · have HRR0 : Hid (opF p c zs = opV zs c p) := (show opF p c zs = opV zs c p by simp [opV, h1, h2])
      have HOP : Hid (∀ u, Aft w u → Calls Try.prog 34 #[.agg #[.slice ao zs.length cap, .string c], .string p] u fun e w' => e = .returned (opA (opF p c zs)) ∧ Below u.heap.size u w') := fun u hu => volOpen_any (HR.out.below hu.out) c p h2 hp
      rw [h2] at HV
      have HRR : Hid (opF p c zs = opV zs c p) := HRR0.out
      generalize opF p c zs = RS at *
      obtain ⟨rc, rd⟩ := RS
      unfold opA at HOP
      simp only at HOP
      clear h1 h2
      go_enter Try.func10, Try.ntmps10
      go_upto_region 1 with fail
      generalize ((w.alloc (.cells #[.slice ao zs.length cap, .string c] 27)).alloc (.cells #[.int .i64 0, .string ⟨#[]⟩] 34)) = u0 at *
      generalize w.heap.size + 1 = b2 at *
      generalize w.heap.size = b1 at *
      go_wp2_with (go_at_call 24; refine Calls.mono (HO.out _) ?_; rintro e u2 ⟨rfl, hu2⟩; have HT2 : Hid (TB w u2 b1 b2 #[.slice ao zs.length cap, .string c] 27 #[.int .i64 0, .string ⟨#[]⟩] 34) := HT0.out.step hu2; clear hu2; have k0 := HT2.out.c1 0 _ rfl; have k1 := HT2.out.c1 1 _ rfl; have kl := HT2.out.lt1)
      refine Calls.mono (HV.out _ HT2.out.aft) ?_
      rintro e u3 ⟨rfl, hu3⟩
      have HT3 : Hid (TB w u3 b1 b2 #[.slice ao zs.length cap, .string c] 27 #[.int .i64 0, .string ⟨#[]⟩] 34) := HT2.out.step hu3
      clear hu3 k0 k1 kl
      have k0 := HT3.out.c1 0 _ rfl
      have k1 := HT3.out.c1 1 _ rfl
      have kl := HT3.out.lt1
      go_wp2_with fail
      refine Calls.mono (HOP.out _ HT3.out.aft) ?_
      rintro e u4 ⟨rfl, hu4⟩
      have HT4 : Hid (TB w u4 b1 b2 _ _ _ _) := HT3.out.step hu4
      clear hu4 k0 k1 kl
      have q0 := HT4.out.c2 0 _ rfl
      have q1 := HT4.out.c2 1 _ rfl
      have qf0 := HT4.out.f2 0
      have qf1 := HT4.out.f2 1
      have ql := HT4.out.lt2
      go_wp2
      refine bodyPost_ret (v := opA ⟨rc, rd⟩) ?_ rfl ⟨by rw [← HRR.out], (HT4.out.bel.setCell HT4.out.ge2 _).setCell HT4.out.ge2 _⟩
      simp [results, Try.results10, go_sem, opA, q0, q1]
  · have HRR : Hid ((⟨2, ⟨#[]⟩⟩ : OPn) = opV zs c p) := (show (⟨2, ⟨#[]⟩⟩ : OPn) = opV zs c p by simp [opV, h1])
    rw [h1] at HO
    clear h1
    go_enter Try.func10, Try.ntmps10
    go_upto_region 1 with fail
    generalize ((w.alloc (.cells #[.slice ao zs.length cap, .string c] 27)).alloc (.cells #[.int .i64 0, .string ⟨#[]⟩] 34)) = u0 at *
    generalize w.heap.size + 1 = b2 at *
    generalize w.heap.size = b1 at *
    go_wp2_with fail
    refine Calls.mono (HO.out _) ?_
    rintro e u2 ⟨rfl, hu2⟩
    have HT2 : Hid (TB w u2 b1 b2 #[.slice ao zs.length cap, .string c] 27 #[.int .i64 0, .string ⟨#[]⟩] 34) := HT0.out.step hu2
    clear hu2
    have q0 := HT2.out.c2 0 _ rfl
    have q1 := HT2.out.c2 1 _ rfl
    have qf0 := HT2.out.f2 0
    have qf1 := HT2.out.f2 1
    have ql := HT2.out.lt2
    go_wp2
    refine bodyPost_ret (v := opA ⟨2, ⟨#[]⟩⟩) ?_ rfl ⟨by rw [← HRR.out], (HT2.out.bel.setCell HT2.out.ge2 _).setCell HT2.out.ge2 _⟩
    simp [results, Try.results10, go_sem, opA, q0, q1]
end Go.Proofs.Ytniaohflkopncaa
