import Derived.Test.YtniaohflkopncaaAd2
import Derived.Deep.DeepCutAuto
namespace Go.Proofs.Ytniaohflkopncaa
open Go.ChangeShapes Go.WideShapes Go.ChangeAt Go.RowKit

def adR (zs : List KS) (c o p : ByteArray) (st : Int) : VR := if ovB o = true ∨ ovB p = true then ⟨2, [], ⟨#[]⟩⟩ else if ((opV zs c o).code != 0) = true then ⟨(opV zs c o).code, [], ⟨#[]⟩⟩ else if isW st = false then ⟨1, [], ⟨#[]⟩⟩ else if ((zs.length : Int) == 4) = true then ⟨4, [], ⟨#[]⟩⟩ else ⟨0, zs ++ [slV (opV zs c o).data p st], c⟩
theorem opV_len {zs : List KS} {c o : ByteArray} (h : (opV zs c o).code = 0) : zs.length ≤ 4 := by
  unfold opV at h
  split at h
  · exact absurd h (by decide)
  · split at h
    · rename_i _ h2
      exact (vfB_key h2).1
    · exact absurd h (by decide)
set_option maxRecDepth 100000 in
set_option maxHeartbeats 4000000 in
theorem implAdd_any {w : World} {v : Value} {zs : List KS} (h : KSrow w v zs) (hl : zs.length ≤ 1048576) (c o p : ByteArray) (st : Int) (hp : p.size ≤ 1048576) (hd : (opV zs c o).data.size ≤ 1048576) :
    Calls Try.prog 11 #[.agg #[v, .string c], .string o, .string p, .int .i64 st] w fun e w' => ∃ sv, e = .returned (vrA sv (adR zs c o p st)) ∧ w'.ownsRow w.heap.size 70 3 sv (adR zs c o p st).zs.length (ksR (adR zs c o p st).zs) ∧ Below w.heap.size w w' := by
  have HR : Hid (KSrow w v zs) := h
  have HLN : Hid (zs.length ≤ 1048576) := hl
  obtain ⟨ao, cap, rfl⟩ := h.sl
  clear h
  have HO : Hid (∀ u, Calls Try.prog 24 #[.slice (some ⟨u.heap.size, 0, none⟩) 2 2] (u.alloc (.cells #[.string o, .string p] 9)) fun e w' => e = .returned (.bool (ovB o || ovB p)) ∧ Below u.heap.size u w') := fun u => over_two o p u
  have HW : Hid (∀ u, Calls Try.prog 25 #[.int .i64 st] u fun e w' => e = .returned (.bool (isW st)) ∧ w' = u) := fun u => implIsWord_any st u
  have HOP : Hid (∀ u, Aft w u → Calls Try.prog 10 #[.agg #[.slice ao zs.length cap, .string c], .string o] u fun e w' => e = .returned (opA (opV zs c o)) ∧ Below u.heap.size u w') := fun u hu => implOpen_any (HR.out.below hu.out) hl c o
  have HCL : Hid (∀ u, Aft w u → Calls Try.prog 35 #[.slice ao zs.length cap] u fun e w' => ∃ sv, e = .returned sv ∧ w'.ownsRow u.heap.size 70 3 sv zs.length (ksR zs) ∧ Below u.heap.size u w') := fun u hu => cloneK_any (HR.out.below hu.out) hl
  have HS : Hid (∀ u, Calls Try.prog 26 #[.string (opV zs c o).data, .string p, .int .i64 st] u fun e w' => e = .returned (ksA (slV (opV zs c o).data p st)) ∧ Below u.heap.size u w') := fun u => slotOf_any _ p st u hd hp
  have HT0 : Hid (TB w ((w.alloc (.cells #[.slice ao zs.length cap, .string c] 27)).alloc (.cells #[.int .i64 0, .slice none 0 0, .string ⟨#[]⟩] 31)) w.heap.size (w.heap.size + 1) #[.slice ao zs.length cap, .string c] 27 #[.int .i64 0, .slice none 0 0, .string ⟨#[]⟩] 31) := TB.new w _ _ _ _
  obtain ⟨R, hR⟩ : ∃ R, adR zs c o p st = R := ⟨_, rfl⟩
  have hE := hR.symm
  rw [hR]
  clear hR
  unfold adR at hE
  clear hl hd hp
  cases ho : (ovB o || ovB p)
  · have ho1 : ¬ (ovB o = true ∨ ovB p = true) := by simpa using ho
    rw [ho] at HO
    rw [if_neg ho1] at hE
    have hz4 : (opV zs c o).code = 0 → zs.length ≤ 4 := opV_len
    generalize opV zs c o = OV at *
    obtain ⟨rc, rd⟩ := OV
    unfold opA at HOP
    simp only at HOP HS hE hz4
    have HZ4 : Hid (rc = 0 → zs.length ≤ 4) := hz4
    clear hz4
    clear ho ho1
    cases h3 : (rc != 0)
    · rw [if_neg (by simp [h3])] at hE
      cases h4 : isW st
      · rw [if_pos h4] at hE
        have E : Hid (R = ⟨1, [], ⟨#[]⟩⟩) := hE
        rw [h4] at HW
        clear h4 hE
        go_enter Try.func11, Try.ntmps11
        go_upto_region 1 with fail
        generalize ((w.alloc (.cells #[.slice ao zs.length cap, .string c] 27)).alloc (.cells #[.int .i64 0, .slice none 0 0, .string ⟨#[]⟩] 31)) = u0 at *
        generalize w.heap.size + 1 = b2 at *
        generalize w.heap.size = b1 at *
        go_wp2_with fail
        refine Calls.mono (HO.out _) ?_
        rintro e u1 ⟨rfl, hu⟩
        have HT1 : Hid (TB w u1 b1 b2 #[.slice ao zs.length cap, .string c] 27 #[.int .i64 0, .slice none 0 0, .string ⟨#[]⟩] 31) := HT0.out.step hu
        clear hu
        have k0 := HT1.out.c1 0 _ rfl
        have k1 := HT1.out.c1 1 _ rfl
        have kl := HT1.out.lt1
        go_wp2_with fail
        refine Calls.mono (HOP.out _ HT1.out.aft) ?_
        rintro e u2 ⟨rfl, hu⟩
        have HT2 : Hid (TB w u2 b1 b2 #[.slice ao zs.length cap, .string c] 27 #[.int .i64 0, .slice none 0 0, .string ⟨#[]⟩] 31) := HT1.out.step hu
        clear hu k0 k1 kl
        have HT3 : Hid (TB w (u2.alloc (.cells #[.int .i64 rc, .string rd] 34)) b1 b2 #[.slice ao zs.length cap, .string c] 27 #[.int .i64 0, .slice none 0 0, .string ⟨#[]⟩] 31) := HT2.out.step (bx1 _ _)
        have HL3 : Hid (LG w (u2.alloc (.cells #[.int .i64 rc, .string rd] 34)) u2.heap.size #[.int .i64 rc, .string rd] 34) := ⟨HT3.out.bel, heap_new _ _, HT2.out.bel.size⟩
        go_upto_region 4 with fail
        generalize (u2.alloc (.cells #[.int .i64 rc, .string rd] 34)) = u3 at *
        generalize u2.heap.size = b3 at *
        have p0 := HL3.out.cel 0 _ rfl
        have p1 := HL3.out.cel 1 _ rfl
        have pl := HL3.out.lt
        go_wp2_with fail
        refine Calls.mono (HW.out _) ?_
        rintro e u9 ⟨rfl, hw9⟩
        rw [hw9]
        clear hw9
        have q0 := HT3.out.c2 0 _ rfl
        have q1 := HT3.out.c2 1 _ rfl
        have q2 := HT3.out.c2 2 _ rfl
        have f0 := HT3.out.f2 0
        have f1 := HT3.out.f2 1
        have f2 := HT3.out.f2 2
        have ql := HT3.out.lt2
        go_wp2
        refine bodyPost_ret (v := vrA (.slice none 0 0) ⟨1, [], ⟨#[]⟩⟩) ?_ rfl ⟨_, by rw [E.out], by rw [E.out]; exact World.ownsRow_nil _ _ _ _, ((HT3.out.bel.setCell HT3.out.ge2 _).setCell HT3.out.ge2 _).setCell HT3.out.ge2 _⟩
        simp [results, Try.results11, go_sem, vrA, q0, q1, q2]
      · rw [if_neg (by simp [h4])] at hE
        rw [h4] at HW
        cases h5 : ((zs.length : Int) == 4)
        · rw [if_neg (by simp [h5])] at hE
          generalize slV rd p st = z at *
          have E : Hid (R = ⟨0, zs ++ [z], c⟩) := hE
          have HLZ : Hid (zs.length ≤ 4) := HZ4.out (by simpa using h3)
          unfold ksA at HS
          clear h4 hE
          go_enter Try.func11, Try.ntmps11
          go_upto_region 1 with fail
          generalize ((w.alloc (.cells #[.slice ao zs.length cap, .string c] 27)).alloc (.cells #[.int .i64 0, .slice none 0 0, .string ⟨#[]⟩] 31)) = u0 at *
          generalize w.heap.size + 1 = b2 at *
          generalize w.heap.size = b1 at *
          go_wp2_with fail
          refine Calls.mono (HO.out _) ?_
          rintro e u1 ⟨rfl, hu⟩
          have HT1 : Hid (TB w u1 b1 b2 #[.slice ao zs.length cap, .string c] 27 #[.int .i64 0, .slice none 0 0, .string ⟨#[]⟩] 31) := HT0.out.step hu
          clear hu
          have k0 := HT1.out.c1 0 _ rfl
          have k1 := HT1.out.c1 1 _ rfl
          have kl := HT1.out.lt1
          go_wp2_with fail
          refine Calls.mono (HOP.out _ HT1.out.aft) ?_
          rintro e u2 ⟨rfl, hu⟩
          have HT2 : Hid (TB w u2 b1 b2 #[.slice ao zs.length cap, .string c] 27 #[.int .i64 0, .slice none 0 0, .string ⟨#[]⟩] 31) := HT1.out.step hu
          clear hu k0 k1 kl
          have HT3 : Hid (TB w (u2.alloc (.cells #[.int .i64 rc, .string rd] 34)) b1 b2 #[.slice ao zs.length cap, .string c] 27 #[.int .i64 0, .slice none 0 0, .string ⟨#[]⟩] 31) := HT2.out.step (bx1 _ _)
          have HL3 : Hid (LG w (u2.alloc (.cells #[.int .i64 rc, .string rd] 34)) u2.heap.size #[.int .i64 rc, .string rd] 34) := ⟨HT3.out.bel, heap_new _ _, HT2.out.bel.size⟩
          go_upto_region 4 with fail
          generalize (u2.alloc (.cells #[.int .i64 rc, .string rd] 34)) = u3 at *
          generalize u2.heap.size = b3 at *
          have p0 := HL3.out.cel 0 _ rfl
          have p1 := HL3.out.cel 1 _ rfl
          have pl := HL3.out.lt
          go_wp2_with fail
          refine Calls.mono (HW.out _) ?_
          rintro e u9 ⟨rfl, hw9⟩
          rw [hw9]
          clear hw9
          have k0 := HT3.out.c1 0 _ rfl
          have k1 := HT3.out.c1 1 _ rfl
          have kl := HT3.out.lt1
          go_upto_region 10 with fail
          refine wp_region_held (S := fun w9 => TB w w9 b1 b2 #[.slice ao zs.length cap, .string c] 27 #[.int .i64 0, .slice none 0 0, .string ⟨#[]⟩] 31 ∧ LG w w9 b3 #[.int .i64 rc, .string rd] 34) (by kernel_rfl) ?_
          change wpAnyH _ _ _ _ _ _ _ _ (World.drew _)
          have HTX : Hid (TB w u3.drew b1 b2 #[.slice ao zs.length cap, .string c] 27 #[.int .i64 0, .slice none 0 0, .string ⟨#[]⟩] 31) := HT3.out.drew
          have HLX : Hid (LG w u3.drew b3 #[.int .i64 rc, .string rd] 34) := HL3.out.drew
          generalize u3.drew = X at *
          clear p0 p1 pl k0 k1 kl
          refine wpAnyH_take (i := 0) (v := .pointer (some ⟨b1, 0, none⟩)) rfl (by kernel_rfl) (by kernel_rfl) (by kernel_rfl) (fun _ _ _ h => h) (Or.inl ⟨by kernel_rfl, fun w9 h9 => ?_⟩) ⟨HTX.out, HLX.out⟩ ?_
          · clear h9
            go_simp
          refine wpAnyH_take (i := 1) (v := .slice ao zs.length cap) rfl (by kernel_rfl) (by kernel_rfl) (by kernel_rfl) (fun _ _ _ h => h) (Or.inl ⟨by kernel_rfl, fun w9 h9 => ?_⟩) ⟨HTX.out, HLX.out⟩ ?_
          · obtain ⟨h8, _⟩ := h9; have d0 := h8.c1 0 _ rfl; have dl := h8.lt1; clear h8
            go_simp
          refine wpAnyH_take (i := 3) (v := .pointer (some ⟨b3, 1, none⟩)) rfl (by kernel_rfl) (by kernel_rfl) (by kernel_rfl) (fun _ _ _ h => h) (Or.inl ⟨by kernel_rfl, fun w9 h9 => ?_⟩) ⟨HTX.out, HLX.out⟩ ?_
          · clear h9
            go_simp
          refine wpAnyH_take (i := 4) (v := .string rd) rfl (by kernel_rfl) (by kernel_rfl) (by kernel_rfl) (fun _ _ _ h => h) (Or.inl ⟨by kernel_rfl, fun w9 h9 => ?_⟩) ⟨HTX.out, HLX.out⟩ ?_
          · obtain ⟨_, h8⟩ := h9; have d0 := h8.cel 1 _ rfl; have dl := h8.lt; clear h8
            go_simp
          refine wpAnyH_take (i := 5) (v := .string p) rfl (by kernel_rfl) (by kernel_rfl) (by kernel_rfl) (fun _ _ _ h => h) (Or.inl ⟨by kernel_rfl, fun w9 h9 => ?_⟩) ⟨HTX.out, HLX.out⟩ ?_
          · clear h9
            go_simp
          refine wpAnyH_take (i := 6) (v := .int .i64 st) rfl (by kernel_rfl) (by kernel_rfl) (by kernel_rfl) (fun _ _ _ h => h) (Or.inl ⟨by kernel_rfl, fun w9 h9 => ?_⟩) ⟨HTX.out, HLX.out⟩ ?_
          · clear h9
            go_simp
          refine held_one 2 (by kernel_rfl) rfl (by kernel_rfl) fun K hK => ?_
          go_simp
          go_wp2_with (go_at_call 35; refine Calls.mono (HCL.out _ HTX.out.aft) ?_; rintro e v1 ⟨sv, rfl, ho, hu⟩; obtain ⟨a4, c4, rfl⟩ := ks_sl ho; have HXV1 : Hid (X.heap.size ≤ v1.heap.size) := hu.size; have HT4 : Hid (TB w v1 b1 b2 #[.slice ao zs.length cap, .string c] 27 #[.int .i64 0, .slice none 0 0, .string ⟨#[]⟩] 31) := HTX.out.step hu; have HL4 : Hid (LG w v1 b3 #[.int .i64 rc, .string rd] 34) := HLX.out.step hu; have HO4 : Hid (v1.ownsRow X.heap.size 70 3 (.slice a4 zs.length c4) zs.length (ksR zs)) := ho; clear ho hu)
          refine hK _ _ ⟨HT4.out, HL4.out⟩ ?_
          clear hK K
          refine held_one 7 (by kernel_rfl) rfl (by kernel_rfl) fun K hK => ?_
          go_simp
          go_wp2_with (go_at_call 26; refine Calls.mono (HS.out _) ?_; rintro e v2 ⟨rfl, hu⟩; have HT5 : Hid (TB w v2 b1 b2 #[.slice ao zs.length cap, .string c] 27 #[.int .i64 0, .slice none 0 0, .string ⟨#[]⟩] 31) := HT4.out.step hu; have HL5 : Hid (LG w v2 b3 #[.int .i64 rc, .string rd] 34) := HL4.out.step hu; have HXV : Hid (X.heap.size ≤ v2.heap.size) := Nat.le_trans HXV1.out hu.size; have HO5 : Hid (v2.ownsRow X.heap.size 70 3 (.slice a4 zs.length c4) zs.length (ksR zs)) := ks_below HO4.out hu; clear hu)
          refine hK _ _ ⟨HT5.out, HL5.out⟩ ?_
          clear hK K
          have HT6 : Hid (TB w (v2.alloc (.cells #[.int .i64 z.salt, .string z.key, .string z.tag] 70)) b1 b2 #[.slice ao zs.length cap, .string c] 27 #[.int .i64 0, .slice none 0 0, .string ⟨#[]⟩] 31) := HT5.out.step (bx1 _ _)
          have HL6 : Hid (LG w (v2.alloc (.cells #[.int .i64 z.salt, .string z.key, .string z.tag] 70)) b3 #[.int .i64 rc, .string rd] 34) := HL5.out.step (bx1 _ _)
          have HO6 : Hid ((v2.alloc (.cells #[.int .i64 z.salt, .string z.key, .string z.tag] 70)).ownsRow X.heap.size 70 3 (.slice a4 zs.length c4) zs.length (ksR zs)) := World.ownsRow.alloc HO5.out _
          have HN6 : Hid (KSrow (v2.alloc (.cells #[.int .i64 z.salt, .string z.key, .string z.tag] 70)) (.slice (some ⟨v2.heap.size, 0, none⟩) 1 1) [z]) := KSrow.of (own_one v2 z v2.heap.size (Nat.le_refl _))
          have HX6 : Hid (w.heap.size ≤ X.heap.size ∧ X.heap.size ≤ (v2.alloc (.cells #[.int .i64 z.salt, .string z.key, .string z.tag] 70)).heap.size) := ⟨HTX.out.bel.size, by have := HXV.out; simp; omega⟩
          refine held_one 8 (by kernel_rfl) rfl (by kernel_rfl) fun K hK => ?_
          go_simp
          refine hK _ _ ⟨HT6.out, HL6.out⟩ ?_
          clear hK K
          generalize (v2.alloc (.cells #[.int .i64 z.salt, .string z.key, .string z.tag] 70)) = v3 at *
          generalize v2.heap.size = b5 at *
          have HAP : Hid (∃ v' u', (Builtin.append_ #[25, 25] 25 #[.slice a4 zs.length c4, .slice (some ⟨b5, 0, none⟩) 1 1]).run Try.prog v3 = .ok v' u' ∧ (u'.ownsRow X.heap.size 70 3 v' (zs ++ [z]).length (ksR (zs ++ [z])) ∧ v3.grownBy u' (Value.slice a4 zs.length c4).ownBlock)) := appK (zs := [z]) HO6.out HN6.out (by have := HLZ.out; simp; omega) HX6.out.2
          refine held_one 9 (by kernel_rfl) rfl (by kernel_rfl) fun K hK => ?_
          refine wp_append_ex _ _ 25 rfl (.slice a4 zs.length c4) (.slice (some ⟨b5, 0, none⟩) 1 1) rfl rfl HAP.out ?_
          rintro sw v4 ⟨ho, hg⟩
          obtain ⟨a6, c6, rfl⟩ := ks_sl ho
          have hob : ∀ k, (Value.slice a4 zs.length c4).ownBlock = some k → X.heap.size ≤ k := fun k hk => (HO6.out.lt k hk).1
          have hB1 : b1 < X.heap.size := HTX.out.lt1
          have hB2 : b2 < X.heap.size := HTX.out.lt2
          have hB3 : b3 < X.heap.size := HLX.out.lt
          have HT7 : Hid (TB w v4 b1 b2 #[.slice ao zs.length cap, .string c] 27 #[.int .i64 0, .slice none 0 0, .string ⟨#[]⟩] 31) := ⟨HT6.out.bel.grown hg HT6.out.bel.size (fun k hk => Nat.le_trans HX6.out.1 (hob k hk)), (hg.block b1 HT6.out.lt1 (fun e => by have := hob b1 e.symm; omega)).trans HT6.out.h1, (hg.block b2 HT6.out.lt2 (fun e => by have := hob b2 e.symm; omega)).trans HT6.out.h2, HT6.out.ge2, HT6.out.ne⟩
          have HL7 : Hid (LG w v4 b3 #[.int .i64 rc, .string rd] 34) := HL6.out.grow hg (fun e => by have := hob b3 e; omega) (fun k hk => Nat.le_trans HX6.out.1 (hob k hk))
          have HO7 : Hid (v4.ownsRow X.heap.size 70 3 (.slice a6 (zs ++ [z]).length c6) (zs ++ [z]).length (ksR (zs ++ [z]))) := ho
          have HXW : Hid (w.heap.size ≤ X.heap.size) := HX6.out.1
          have hbb : ∀ k, (Value.slice a6 (zs ++ [z]).length c6).ownBlock = some k → k ≠ b2 := fun k hk => by have := (ho.lt k hk).1; omega
          have HBB : Hid _ := hbb
          clear ho hg hob hbb HO6 HT6 HL6 HN6 HAP
          refine hK _ _ ⟨HT7.out, HL7.out⟩ ?_
          clear hK K
          refine held_one 10 (by kernel_rfl) rfl (by kernel_rfl) fun K hK => ?_
          go_simp
          refine hK _ _ ⟨HT7.out, HL7.out⟩ ?_
          clear hK K
          refine wpAnyH_done (by kernel_rfl) ?_ _
          go_simp
          have k0 := HT7.out.c1 0 _ rfl
          have k1 := HT7.out.c1 1 _ rfl
          have kl := HT7.out.lt1
          have q0 := HT7.out.c2 0 _ rfl
          have q1 := HT7.out.c2 1 _ rfl
          have q2 := HT7.out.c2 2 _ rfl
          have f0 := HT7.out.f2 0
          have f1 := HT7.out.f2 1
          have f2 := HT7.out.f2 2
          have ql := HT7.out.lt2
          go_wp2
          refine bodyPost_ret (v := vrA (.slice a6 (zs ++ [z]).length c6) ⟨0, zs ++ [z], c⟩) ?_ rfl ⟨_, by rw [E.out], by rw [E.out]; exact ks_weak (own_set (own_set (own_set HO7.out (fun e => HBB.out _ e rfl)) (fun e => HBB.out _ e rfl)) (fun e => HBB.out _ e rfl)) HXW.out, ((HT7.out.bel.setCell HT7.out.ge2 _).setCell HT7.out.ge2 _).setCell HT7.out.ge2 _⟩
          simp [results, Try.results11, go_sem, vrA, q0, q1, q2]
        · rw [if_pos h5] at hE
          have E : Hid (R = ⟨4, [], ⟨#[]⟩⟩) := hE
          clear h4 hE
          go_enter Try.func11, Try.ntmps11
          go_upto_region 1 with fail
          generalize ((w.alloc (.cells #[.slice ao zs.length cap, .string c] 27)).alloc (.cells #[.int .i64 0, .slice none 0 0, .string ⟨#[]⟩] 31)) = u0 at *
          generalize w.heap.size + 1 = b2 at *
          generalize w.heap.size = b1 at *
          go_wp2_with fail
          refine Calls.mono (HO.out _) ?_
          rintro e u1 ⟨rfl, hu⟩
          have HT1 : Hid (TB w u1 b1 b2 #[.slice ao zs.length cap, .string c] 27 #[.int .i64 0, .slice none 0 0, .string ⟨#[]⟩] 31) := HT0.out.step hu
          clear hu
          have k0 := HT1.out.c1 0 _ rfl
          have k1 := HT1.out.c1 1 _ rfl
          have kl := HT1.out.lt1
          go_wp2_with fail
          refine Calls.mono (HOP.out _ HT1.out.aft) ?_
          rintro e u2 ⟨rfl, hu⟩
          have HT2 : Hid (TB w u2 b1 b2 #[.slice ao zs.length cap, .string c] 27 #[.int .i64 0, .slice none 0 0, .string ⟨#[]⟩] 31) := HT1.out.step hu
          clear hu k0 k1 kl
          have HT3 : Hid (TB w (u2.alloc (.cells #[.int .i64 rc, .string rd] 34)) b1 b2 #[.slice ao zs.length cap, .string c] 27 #[.int .i64 0, .slice none 0 0, .string ⟨#[]⟩] 31) := HT2.out.step (bx1 _ _)
          have HL3 : Hid (LG w (u2.alloc (.cells #[.int .i64 rc, .string rd] 34)) u2.heap.size #[.int .i64 rc, .string rd] 34) := ⟨HT3.out.bel, heap_new _ _, HT2.out.bel.size⟩
          go_upto_region 4 with fail
          generalize (u2.alloc (.cells #[.int .i64 rc, .string rd] 34)) = u3 at *
          generalize u2.heap.size = b3 at *
          have p0 := HL3.out.cel 0 _ rfl
          have p1 := HL3.out.cel 1 _ rfl
          have pl := HL3.out.lt
          go_wp2_with fail
          refine Calls.mono (HW.out _) ?_
          rintro e u9 ⟨rfl, hw9⟩
          rw [hw9]
          clear hw9
          have k0 := HT3.out.c1 0 _ rfl
          have k1 := HT3.out.c1 1 _ rfl
          have kl := HT3.out.lt1
          have q0 := HT3.out.c2 0 _ rfl
          have q1 := HT3.out.c2 1 _ rfl
          have q2 := HT3.out.c2 2 _ rfl
          have f0 := HT3.out.f2 0
          have f1 := HT3.out.f2 1
          have f2 := HT3.out.f2 2
          have ql := HT3.out.lt2
          go_wp2
          refine bodyPost_ret (v := vrA (.slice none 0 0) ⟨4, [], ⟨#[]⟩⟩) ?_ rfl ⟨_, by rw [E.out], by rw [E.out]; exact World.ownsRow_nil _ _ _ _, ((HT3.out.bel.setCell HT3.out.ge2 _).setCell HT3.out.ge2 _).setCell HT3.out.ge2 _⟩
          simp [results, Try.results11, go_sem, vrA, q0, q1, q2]
    · rw [if_pos h3] at hE
      have E : Hid (R = ⟨rc, [], ⟨#[]⟩⟩) := hE
      clear hE
      go_enter Try.func11, Try.ntmps11
      go_upto_region 1 with fail
      generalize ((w.alloc (.cells #[.slice ao zs.length cap, .string c] 27)).alloc (.cells #[.int .i64 0, .slice none 0 0, .string ⟨#[]⟩] 31)) = u0 at *
      generalize w.heap.size + 1 = b2 at *
      generalize w.heap.size = b1 at *
      go_wp2_with fail
      refine Calls.mono (HO.out _) ?_
      rintro e u1 ⟨rfl, hu⟩
      have HT1 : Hid (TB w u1 b1 b2 #[.slice ao zs.length cap, .string c] 27 #[.int .i64 0, .slice none 0 0, .string ⟨#[]⟩] 31) := HT0.out.step hu
      clear hu
      have k0 := HT1.out.c1 0 _ rfl
      have k1 := HT1.out.c1 1 _ rfl
      have kl := HT1.out.lt1
      go_wp2_with fail
      refine Calls.mono (HOP.out _ HT1.out.aft) ?_
      rintro e u2 ⟨rfl, hu⟩
      have HT2 : Hid (TB w u2 b1 b2 #[.slice ao zs.length cap, .string c] 27 #[.int .i64 0, .slice none 0 0, .string ⟨#[]⟩] 31) := HT1.out.step hu
      clear hu k0 k1 kl
      have HT3 : Hid (TB w (u2.alloc (.cells #[.int .i64 rc, .string rd] 34)) b1 b2 #[.slice ao zs.length cap, .string c] 27 #[.int .i64 0, .slice none 0 0, .string ⟨#[]⟩] 31) := HT2.out.step (bx1 _ _)
      have HL3 : Hid (LG w (u2.alloc (.cells #[.int .i64 rc, .string rd] 34)) u2.heap.size #[.int .i64 rc, .string rd] 34) := ⟨HT3.out.bel, heap_new _ _, HT2.out.bel.size⟩
      go_upto_region 4 with fail
      generalize (u2.alloc (.cells #[.int .i64 rc, .string rd] 34)) = u3 at *
      generalize u2.heap.size = b3 at *
      have p0 := HL3.out.cel 0 _ rfl
      have p1 := HL3.out.cel 1 _ rfl
      have pl := HL3.out.lt
      have q0 := HT3.out.c2 0 _ rfl
      have q1 := HT3.out.c2 1 _ rfl
      have q2 := HT3.out.c2 2 _ rfl
      have f0 := HT3.out.f2 0
      have f1 := HT3.out.f2 1
      have f2 := HT3.out.f2 2
      have ql := HT3.out.lt2
      go_wp2
      refine bodyPost_ret (v := vrA (.slice none 0 0) ⟨rc, [], ⟨#[]⟩⟩) ?_ rfl ⟨_, by rw [E.out], by rw [E.out]; exact World.ownsRow_nil _ _ _ _, ((HT3.out.bel.setCell HT3.out.ge2 _).setCell HT3.out.ge2 _).setCell HT3.out.ge2 _⟩
      simp [results, Try.results11, go_sem, vrA, q0, q1, q2]
  · have E : Hid (R = ⟨2, [], ⟨#[]⟩⟩) := (show R = _ by rw [hE, if_pos (by simpa using ho)])
    rw [ho] at HO
    clear ho hE
    go_enter Try.func11, Try.ntmps11
    go_upto_region 1 with fail
    generalize ((w.alloc (.cells #[.slice ao zs.length cap, .string c] 27)).alloc (.cells #[.int .i64 0, .slice none 0 0, .string ⟨#[]⟩] 31)) = u0 at *
    generalize w.heap.size + 1 = b2 at *
    generalize w.heap.size = b1 at *
    go_wp2_with fail
    refine Calls.mono (HO.out _) ?_
    rintro e u1 ⟨rfl, hu⟩
    have HT1 : Hid (TB w u1 b1 b2 #[.slice ao zs.length cap, .string c] 27 #[.int .i64 0, .slice none 0 0, .string ⟨#[]⟩] 31) := HT0.out.step hu
    clear hu
    have q0 := HT1.out.c2 0 _ rfl
    have q1 := HT1.out.c2 1 _ rfl
    have q2 := HT1.out.c2 2 _ rfl
    have f0 := HT1.out.f2 0
    have f1 := HT1.out.f2 1
    have f2 := HT1.out.f2 2
    have ql := HT1.out.lt2
    go_wp2
    refine bodyPost_ret (v := vrA (.slice none 0 0) ⟨2, [], ⟨#[]⟩⟩) ?_ rfl ⟨_, by rw [E.out], by rw [E.out]; exact World.ownsRow_nil _ _ _ _, ((HT1.out.bel.setCell HT1.out.ge2 _).setCell HT1.out.ge2 _).setCell HT1.out.ge2 _⟩
    simp [results, Try.results11, go_sem, vrA, q0, q1, q2]
end Go.Proofs.Ytniaohflkopncaa
