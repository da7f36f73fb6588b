import Derived.Test.YtniaohflkopncaaAd3
namespace Go.Proofs.Ytniaohflkopncaa
open Go.ChangeShapes Go.WideShapes Go.ChangeAt Go.RowKit

structure AdS (w u : World) (b1 : Nat) (cs : Array Value) (b3 : Nat) (ds : Array Value) : Prop where
  bel : Below w.heap.size w u
  h1 : u.heap[b1]? = some (.cells cs 27 (0, 0))
  h3 : u.heap[b3]? = some (.cells ds 34 (0, 0))
theorem AdS.lt1 {w u : World} {b1 b3 : Nat} {cs ds : Array Value} (h : AdS w u b1 cs b3 ds) : b1 < u.heap.size := (Array.getElem?_eq_some_iff.1 h.h1).1
theorem AdS.lt3 {w u : World} {b1 b3 : Nat} {cs ds : Array Value} (h : AdS w u b1 cs b3 ds) : b3 < u.heap.size := (Array.getElem?_eq_some_iff.1 h.h3).1
theorem AdS.c1 {w u : World} {b1 b3 : Nat} {cs ds : Array Value} (h : AdS w u b1 cs b3 ds) (k : Nat) (v : Value) (hv : cs[k]? = some v) : u.cell? ⟨b1, k, none⟩ = some v := by simp [World.cell?, h.h1, hv]
theorem AdS.c3 {w u : World} {b1 b3 : Nat} {cs ds : Array Value} (h : AdS w u b1 cs b3 ds) (k : Nat) (v : Value) (hv : ds[k]? = some v) : u.cell? ⟨b3, k, none⟩ = some v := by simp [World.cell?, h.h3, hv]
theorem AdS.step {w u u' : World} {b1 b3 : Nat} {cs ds : Array Value} (h : AdS w u b1 cs b3 ds) (hb : Below u.heap.size u u') : AdS w u' b1 cs b3 ds := ⟨h.bel.trans (hb.mono h.bel.size), (hb.block _ h.lt1).trans h.h1, (hb.block _ h.lt3).trans h.h3⟩
theorem AdS.grow {w u u' : World} {b1 b3 : Nat} {cs ds : Array Value} {r : Option Nat} (h : AdS w u b1 cs b3 ds) (hg : u.grownBy u' r) (n1 : r ≠ some b1) (n3 : r ≠ some b3) (hr : ∀ k, r = some k → w.heap.size ≤ k) : AdS w u' b1 cs b3 ds :=
  ⟨h.bel.grown hg h.bel.size hr, (hg.block b1 h.lt1 (fun e => n1 e.symm)).trans h.h1, (hg.block b3 h.lt3 (fun e => n3 e.symm)).trans h.h3⟩
theorem AdS.put {w u : World} {b1 b2 b3 k : Nat} {v : Value} {cs ds : Array Value} (h : AdS w u b1 cs b3 ds) (n1 : b2 ≠ b1) (n3 : b2 ≠ b3) (hg : w.heap.size ≤ b2) : AdS w (u.setCell ⟨b2, k, none⟩ v) b1 cs b3 ds :=
  ⟨h.bel.setCell hg _, (Below.heap_setCell _ _ _ _ (fun e => n1 e.symm)).trans h.h1, (Below.heap_setCell _ _ _ _ (fun e => n3 e.symm)).trans h.h3⟩
set_option maxRecDepth 100000 in
set_option maxHeartbeats 4000000 in
theorem specAdd_any {w : World} {v : Value} {zs : List KS} (h : KSrow w v zs) (c o p : ByteArray) (st : Int) :
    Calls Try.prog 99 #[.agg #[v, .string c], .string o, .string p, .int .i64 st] w fun e w' => ∃ sv, e = .returned (vrA sv (adR zs c o p st)) ∧ w'.ownsRow w.heap.size 70 3 sv (adR zs c o p st).zs.length (ksR (adR zs c o p st).zs) ∧ Below w.heap.size w w' := by
  have HRW : Hid (KSrow w v zs) := h
  obtain ⟨ao, cap, rfl⟩ := h.sl
  clear h
  have HW : Hid (∀ u, Calls Try.prog 28 #[.int .i64 st] u fun e w' => e = .returned (.bool (isW st)) ∧ w' = u) := fun u => specIsWord_any st u
  have HOP : Hid (∀ u, Aft w u → Calls Try.prog 9 #[.agg #[.slice ao zs.length cap, .string c], .string o] u fun e w' => e = .returned (opA (opV zs c o)) ∧ Below u.heap.size u w') := fun u hu => specOpen_any (HRW.out.below hu.out) c o
  have HSL : Hid (∀ u, Calls Try.prog 29 #[.string (opV zs c o).data, .string p, .int .i64 st] u fun e w' => e = .returned (ksA (slV (opV zs c o).data p st)) ∧ Below u.heap.size u w') := fun u => l15Slot_any _ p st u
  have HT1 : Hid (TB w ((w.alloc (.cells #[.slice ao zs.length cap, .string c] 27)).alloc (.cells #[.int .i64 0, .slice none 0 0, .string ⟨#[]⟩] 31)) w.heap.size (w.heap.size + 1) #[.slice ao zs.length cap, .string c] 27 #[.int .i64 0, .slice none 0 0, .string ⟨#[]⟩] 31) := TB.new w _ _ _ _
  obtain ⟨R, hR⟩ : ∃ R, adR zs c o p st = R := ⟨_, rfl⟩
  have hE := hR.symm
  rw [hR]
  clear hR
  unfold adR at hE
  cases ho : (ovB o || ovB p)
  · have ho1 : ¬ (ovB o = true ∨ ovB p = true) := by simpa using ho
    obtain ⟨g1, g2⟩ := Bool.or_eq_false_iff.1 ho
    have o1 : decide (4096 < (o.size : Int)) = false := g1
    have o2 : decide (4096 < (p.size : Int)) = false := g2
    rw [if_neg ho1] at hE
    have hz4 : (opV zs c o).code = 0 → zs.length ≤ 4 := opV_len
    generalize opV zs c o = OV at *
    obtain ⟨rc, rd⟩ := OV
    unfold opA at HOP
    simp only at HOP HSL hE hz4
    have HZ4 : Hid (rc = 0 → zs.length ≤ 4) := hz4
    clear ho ho1 g1 g2 hz4
    cases h3 : (rc != 0)
    · rw [if_neg (by simp [h3])] at hE
      cases h4 : isW st
      · rw [if_pos h4] at hE
        have E : Hid (R = ⟨1, [], ⟨#[]⟩⟩) := hE
        rw [h4] at HW
        clear h4 hE
        go_enter Try.func99, Try.ntmps99
        go_upto_region 1 with fail
        generalize ((w.alloc (.cells #[.slice ao zs.length cap, .string c] 27)).alloc (.cells #[.int .i64 0, .slice none 0 0, .string ⟨#[]⟩] 31)) = u1 at *
        generalize w.heap.size + 1 = b2 at *
        generalize w.heap.size = b1 at *
        have k0 := HT1.out.c1 0 _ rfl
        have k1 := HT1.out.c1 1 _ rfl
        have kl := HT1.out.lt1
        go_wp2_with fail
        refine Calls.mono (HOP.out _ HT1.out.aft) ?_
        rintro e u2 ⟨rfl, hu⟩
        have HT2 : Hid (TB w u2 b1 b2 #[.slice ao zs.length cap, .string c] 27 #[.int .i64 0, .slice none 0 0, .string ⟨#[]⟩] 31) := HT1.out.step hu
        clear hu k0 k1 kl
        have HT3 : Hid (TB w (u2.alloc (.cells #[.int .i64 rc, .string rd] 34)) b1 b2 #[.slice ao zs.length cap, .string c] 27 #[.int .i64 0, .slice none 0 0, .string ⟨#[]⟩] 31) := HT2.out.step (bx1 _ _)
        have HL3 : Hid (LG w (u2.alloc (.cells #[.int .i64 rc, .string rd] 34)) u2.heap.size #[.int .i64 rc, .string rd] 34) := ⟨HT3.out.bel, heap_new _ _, HT2.out.bel.size⟩
        have HBB3 : Hid (b2 < u2.heap.size) := HT2.out.lt2
        go_upto_region 4 with fail
        generalize (u2.alloc (.cells #[.int .i64 rc, .string rd] 34)) = u3 at *
        generalize u2.heap.size = b3 at *
        have HB23 : Hid (b2 < b3) := HBB3.out
        have p0 := HL3.out.cel 0 _ rfl
        have p1 := HL3.out.cel 1 _ rfl
        have pl := HL3.out.lt
        go_wp2_with fail
        refine Calls.mono (HW.out _) ?_
        rintro e u9 ⟨rfl, hw9⟩
        rw [hw9]
        clear hw9
        have q0 := HT3.out.c2 0 _ rfl
        have q1 := HT3.out.c2 1 _ rfl
        have q2 := HT3.out.c2 2 _ rfl
        have f0 := HT3.out.f2 0
        have f1 := HT3.out.f2 1
        have f2 := HT3.out.f2 2
        have ql := HT3.out.lt2
        go_wp2
        refine bodyPost_ret (v := vrA (.slice none 0 0) ⟨1, [], ⟨#[]⟩⟩) ?_ rfl ⟨_, by rw [E.out], by rw [E.out]; exact World.ownsRow_nil _ _ _ _, ((HT3.out.bel.setCell HT3.out.ge2 _).setCell HT3.out.ge2 _).setCell HT3.out.ge2 _⟩
        simp [results, Try.results99, go_sem, vrA, q0, q1, q2]
      · rw [if_neg (by simp [h4])] at hE
        rw [h4] at HW
        cases h5 : ((zs.length : Int) == 4)
        · rw [if_neg (by simp [h5])] at hE
          generalize slV rd p st = z at *
          have E : Hid (R = ⟨0, zs ++ [z], c⟩) := hE
          have HLZ : Hid (zs.length ≤ 4) := HZ4.out (by simpa using h3)
          unfold ksA at HSL
          clear h4 hE
          go_enter Try.func99, Try.ntmps99
          go_upto_region 1 with fail
          generalize ((w.alloc (.cells #[.slice ao zs.length cap, .string c] 27)).alloc (.cells #[.int .i64 0, .slice none 0 0, .string ⟨#[]⟩] 31)) = u1 at *
          generalize w.heap.size + 1 = b2 at *
          generalize w.heap.size = b1 at *
          have k0 := HT1.out.c1 0 _ rfl
          have k1 := HT1.out.c1 1 _ rfl
          have kl := HT1.out.lt1
          go_wp2_with fail
          refine Calls.mono (HOP.out _ HT1.out.aft) ?_
          rintro e u2 ⟨rfl, hu⟩
          have HT2 : Hid (TB w u2 b1 b2 #[.slice ao zs.length cap, .string c] 27 #[.int .i64 0, .slice none 0 0, .string ⟨#[]⟩] 31) := HT1.out.step hu
          clear hu k0 k1 kl
          have HT3 : Hid (TB w (u2.alloc (.cells #[.int .i64 rc, .string rd] 34)) b1 b2 #[.slice ao zs.length cap, .string c] 27 #[.int .i64 0, .slice none 0 0, .string ⟨#[]⟩] 31) := HT2.out.step (bx1 _ _)
          have HL3 : Hid (LG w (u2.alloc (.cells #[.int .i64 rc, .string rd] 34)) u2.heap.size #[.int .i64 rc, .string rd] 34) := ⟨HT3.out.bel, heap_new _ _, HT2.out.bel.size⟩
          have HBB3 : Hid (b2 < u2.heap.size) := HT2.out.lt2
          go_upto_region 4 with fail
          generalize (u2.alloc (.cells #[.int .i64 rc, .string rd] 34)) = u3 at *
          generalize u2.heap.size = b3 at *
          have HB23 : Hid (b2 < b3) := HBB3.out
          have p0 := HL3.out.cel 0 _ rfl
          have p1 := HL3.out.cel 1 _ rfl
          have pl := HL3.out.lt
          go_wp2_with fail
          refine Calls.mono (HW.out _) ?_
          rintro e u9 ⟨rfl, hw9⟩
          rw [hw9]
          clear hw9
          have k0 := HT3.out.c1 0 _ rfl
          have k1 := HT3.out.c1 1 _ rfl
          have kl := HT3.out.lt1
          go_upto_region 10 with fail
          refine wp_region_held (S := fun w9 => AdS w w9 b1 #[.slice ao zs.length cap, .string c] b3 #[.int .i64 rc, .string rd]) (by kernel_rfl) ?_
          change wpAnyH _ _ _ _ _ _ _ _ (World.drew _)
          have HTX : Hid (TB w u3.drew b1 b2 #[.slice ao zs.length cap, .string c] 27 #[.int .i64 0, .slice none 0 0, .string ⟨#[]⟩] 31) := HT3.out.drew
          have HLX : Hid (LG w u3.drew b3 #[.int .i64 rc, .string rd] 34) := HL3.out.drew
          have HNE : Hid (b2 ≠ b1 ∧ b2 ≠ b3) := (show _ ∧ _ by have := HT3.out.ne; have := HB23.out; omega)
          generalize u3.drew = X at *
          have HS0 : Hid (AdS w X b1 #[.slice ao zs.length cap, .string c] b3 #[.int .i64 rc, .string rd]) := ⟨HTX.out.bel, HTX.out.h1, HLX.out.box⟩
          have HQ0 : Hid (LG w X b2 #[.int .i64 0, .slice none 0 0, .string ⟨#[]⟩] 31) := ⟨HTX.out.bel, HTX.out.h2, HTX.out.ge2⟩
          obtain ⟨B0, hB0⟩ : ∃ n, X.heap.size = n := ⟨_, rfl⟩
          have HX0 : Hid (B0 ≤ X.heap.size) := (show B0 ≤ X.heap.size by omega)
          have HXW : Hid (w.heap.size ≤ B0) := (show w.heap.size ≤ B0 by have := HTX.out.bel.size; omega)
          have HB : Hid (b1 < B0 ∧ b2 < B0 ∧ b3 < B0 ∧ w.heap.size ≤ B0) := (by rw [← hB0]; exact ⟨HTX.out.lt1, HTX.out.lt2, HLX.out.lt, HTX.out.bel.size⟩ : b1 < B0 ∧ b2 < B0 ∧ b3 < B0 ∧ w.heap.size ≤ B0)
          clear hB0
          clear p0 p1 pl k0 k1 kl HTX HLX HT3 HL3
          refine wpAnyH_take (i := 1) (v := .pointer (some ⟨b1, 0, none⟩)) rfl (by kernel_rfl) (by kernel_rfl) (by kernel_rfl) (fun _ _ _ h => h) (Or.inl ⟨by kernel_rfl, fun w9 h9 => ?_⟩) HS0.out ?_
          · clear h9
            go_simp
          refine wpAnyH_take (i := 2) (v := .slice ao zs.length cap) rfl (by kernel_rfl) (by kernel_rfl) (by kernel_rfl) (fun _ _ _ h => h) (Or.inl ⟨by kernel_rfl, fun w9 h9 => ?_⟩) HS0.out ?_
          · have d0 := h9.c1 0 _ rfl; have dl := h9.lt1; clear h9
            go_simp
          refine wpAnyH_take (i := 4) (v := .pointer (some ⟨b3, 1, none⟩)) rfl (by kernel_rfl) (by kernel_rfl) (by kernel_rfl) (fun _ _ _ h => h) (Or.inl ⟨by kernel_rfl, fun w9 h9 => ?_⟩) HS0.out ?_
          · clear h9
            go_simp
          refine wpAnyH_take (i := 5) (v := .string rd) rfl (by kernel_rfl) (by kernel_rfl) (by kernel_rfl) (fun _ _ _ h => h) (Or.inl ⟨by kernel_rfl, fun w9 h9 => ?_⟩) HS0.out ?_
          · have d0 := h9.c3 1 _ rfl; have dl := h9.lt3; clear h9
            go_simp
          refine wpAnyH_take (i := 6) (v := .string p) rfl (by kernel_rfl) (by kernel_rfl) (by kernel_rfl) (fun _ _ _ h => h) (Or.inl ⟨by kernel_rfl, fun w9 h9 => ?_⟩) HS0.out ?_
          · clear h9
            go_simp
          refine wpAnyH_take (i := 7) (v := .int .i64 st) rfl (by kernel_rfl) (by kernel_rfl) (by kernel_rfl) (fun _ _ _ h => h) (Or.inl ⟨by kernel_rfl, fun w9 h9 => ?_⟩) HS0.out ?_
          · clear h9
            go_simp
          refine wpAnyH_take (i := 11) (v := .pointer (some ⟨b1, 1, none⟩)) rfl (by kernel_rfl) (by kernel_rfl) (by kernel_rfl) (fun _ _ _ h => h) (Or.inl ⟨by kernel_rfl, fun w9 h9 => ?_⟩) HS0.out ?_
          · clear h9
            go_simp
          refine wpAnyH_take (i := 12) (v := .string c) rfl (by kernel_rfl) (by kernel_rfl) (by kernel_rfl) (fun _ _ _ h => h) (Or.inl ⟨by kernel_rfl, fun w9 h9 => ?_⟩) HS0.out ?_
          · have d0 := h9.c1 1 _ rfl; have dl := h9.lt1; clear h9
            go_simp
          refine held_one 0 (by kernel_rfl) rfl (by kernel_rfl) fun K hK => ?_
          have HS3 : Hid (AdS w (X.alloc (.cells #[] 70)) b1 #[.slice ao zs.length cap, .string c] b3 #[.int .i64 rc, .string rd]) := HS0.out.step (bx1 _ _)
          have HQ4 : Hid (LG w (X.alloc (.cells #[] 70)) b2 #[.int .i64 0, .slice none 0 0, .string ⟨#[]⟩] 31) := HQ0.out.step (bx1 _ _)
          have HX5 : Hid (B0 ≤ (X.alloc (.cells #[] 70)).heap.size) := (show _ ≤ _ by have := HX0.out; simp; omega)
          have HE6 : Hid ((X.alloc (.cells #[] 70)).ownsRow B0 70 3 (.slice (some ⟨X.heap.size, 0, none⟩) 0 0) 0 []) := ks_weak (own_none X) HX0.out
          go_simp
          refine hK _ _ HS3.out ?_
          clear hK K
          generalize (X.alloc (.cells #[] 70)) = v1 at *
          generalize X.heap.size = e2 at *
          refine held_one 3 (by kernel_rfl) rfl (by kernel_rfl) fun K hK => ?_
          have HAP10 : Hid (∃ v' u', (Builtin.append_ #[25, 25] 25 #[.slice (some ⟨e2, 0, none⟩) 0 0, .slice ao zs.length cap]).run Try.prog v1 = .ok v' u' ∧ (u'.ownsRow B0 70 3 v' zs.length (ksR zs) ∧ v1.grownBy u' (some e2))) := appK (xs := []) HE6.out (HRW.out.below HS3.out.bel) (by have := HLZ.out; simp; omega) HX5.out
          refine wp_append_ex _ _ 25 rfl (.slice (some ⟨e2, 0, none⟩) 0 0) (.slice ao zs.length cap) rfl rfl HAP10.out ?_
          rintro sv v7 ⟨ho, hg⟩
          obtain ⟨a8, c9, rfl⟩ := ks_sl ho
          have hge : B0 ≤ e2 := (HE6.out.lt _ rfl).1
          have hB := HB.out
          have HS11 : Hid (AdS w v7 b1 #[.slice ao zs.length cap, .string c] b3 #[.int .i64 rc, .string rd]) := HS3.out.grow hg (fun e9 => by cases e9; omega) (fun e9 => by cases e9; omega) (fun k hk => by cases hk; omega)
          have HQ12 : Hid (LG w v7 b2 #[.int .i64 0, .slice none 0 0, .string ⟨#[]⟩] 31) := HQ4.out.grow hg (fun e9 => by cases e9; omega) (fun k hk => by cases hk; omega)
          have HX13 : Hid (B0 ≤ v7.heap.size) := Nat.le_trans HX5.out hg.size
          have HR14 : Hid (v7.ownsRow B0 70 3 (.slice a8 zs.length c9) zs.length (ksR zs)) := ho
          clear ho hg hge hB HAP10
          refine hK _ _ HS11.out ?_
          clear hK K
          refine held_one 8 (by kernel_rfl) rfl (by kernel_rfl) fun K hK => ?_
          go_simp
          go_wp2_with (go_at_call 29; refine Calls.mono (HSL.out _) ?_; rintro e9 v15 ⟨rfl, hu⟩; have HS16 : Hid (AdS w v15 b1 #[.slice ao zs.length cap, .string c] b3 #[.int .i64 rc, .string rd]) := HS11.out.step hu; have HQ17 : Hid (LG w v15 b2 #[.int .i64 0, .slice none 0 0, .string ⟨#[]⟩] 31) := HQ12.out.step hu; have HX18 : Hid (B0 ≤ v15.heap.size) := Nat.le_trans HX13.out hu.size; have HR19 : Hid (v15.ownsRow B0 70 3 (.slice a8 zs.length c9) zs.length (ksR zs)) := ks_below HR14.out hu; clear hu)
          refine hK _ _ HS16.out ?_
          clear hK K
          refine held_one 9 (by kernel_rfl) rfl (by kernel_rfl) fun K hK => ?_
          have HS22 : Hid (AdS w (v15.alloc (.cells #[.int .i64 z.salt, .string z.key, .string z.tag] 70)) b1 #[.slice ao zs.length cap, .string c] b3 #[.int .i64 rc, .string rd]) := HS16.out.step (bx1 _ _)
          have HQ23 : Hid (LG w (v15.alloc (.cells #[.int .i64 z.salt, .string z.key, .string z.tag] 70)) b2 #[.int .i64 0, .slice none 0 0, .string ⟨#[]⟩] 31) := HQ17.out.step (bx1 _ _)
          have HX24 : Hid (B0 ≤ (v15.alloc (.cells #[.int .i64 z.salt, .string z.key, .string z.tag] 70)).heap.size) := (show _ ≤ _ by have := HX18.out; simp; omega)
          have HR25 : Hid ((v15.alloc (.cells #[.int .i64 z.salt, .string z.key, .string z.tag] 70)).ownsRow B0 70 3 (.slice a8 zs.length c9) zs.length (ksR zs)) := World.ownsRow.alloc HR19.out _
          have HN26 : Hid ((v15.alloc (.cells #[.int .i64 z.salt, .string z.key, .string z.tag] 70)).ownsRow B0 70 3 (.slice (some ⟨v15.heap.size, 0, none⟩) 1 1) 1 (ksR [z])) := own_one v15 z _ HX18.out
          go_simp
          refine hK _ _ HS22.out ?_
          clear hK K
          generalize (v15.alloc (.cells #[.int .i64 z.salt, .string z.key, .string z.tag] 70)) = v20 at *
          generalize v15.heap.size = n21 at *
          refine held_one 10 (by kernel_rfl) rfl (by kernel_rfl) fun K hK => ?_
          have HAP : Hid (∃ v' u', (Builtin.append_ #[25, 25] 25 #[.slice a8 zs.length c9, .slice (some ⟨n21, 0, none⟩) 1 1]).run Try.prog v20 = .ok v' u' ∧ (u'.ownsRow B0 70 3 v' (zs ++ [z]).length (ksR (zs ++ [z])) ∧ v20.grownBy u' (Value.slice a8 zs.length c9).ownBlock)) := appK (zs := [z]) HR25.out (KSrow.of HN26.out) (by have := HLZ.out; simp; omega) HX24.out
          refine wp_append_ex _ _ 25 rfl (.slice a8 zs.length c9) (.slice (some ⟨n21, 0, none⟩) 1 1) rfl rfl HAP.out ?_
          rintro sw x4 ⟨ho, hg⟩
          obtain ⟨a6, c6, rfl⟩ := ks_sl ho
          have hob : ∀ k, (Value.slice a8 zs.length c9).ownBlock = some k → B0 ≤ k := fun k hk => (HR25.out.lt k hk).1
          have hB := HB.out
          have HS7 : Hid (AdS w x4 b1 #[.slice ao zs.length cap, .string c] b3 #[.int .i64 rc, .string rd]) := HS22.out.grow hg (fun e9 => by have := hob _ e9; omega) (fun e9 => by have := hob _ e9; omega) (fun k hk => by have := hob k hk; omega)
          have HQ7 : Hid (LG w x4 b2 #[.int .i64 0, .slice none 0 0, .string ⟨#[]⟩] 31) := HQ23.out.grow hg (fun e9 => by have := hob _ e9; omega) (fun k hk => by have := hob k hk; omega)
          have HO7 : Hid (x4.ownsRow B0 70 3 (.slice a6 (zs ++ [z]).length c6) (zs ++ [z]).length (ksR (zs ++ [z]))) := ho
          have HBB : Hid (∀ k, (Value.slice a6 (zs ++ [z]).length c6).ownBlock = some k → k ≠ b2) := (fun k hk => by have := (ho.lt k hk).1; omega)
          clear ho hg hob hB HAP
          refine hK _ _ HS7.out ?_
          clear hK K
          refine wpAnyH_take (i := 13) (v := .agg #[.slice a6 (zs ++ [z]).length c6, .string c]) rfl (by kernel_rfl) (by kernel_rfl) (by kernel_rfl) (fun _ _ _ h => h) (Or.inl ⟨by kernel_rfl, fun w9 h9 => ?_⟩) HS7.out ?_
          · clear h9
            go_simp
          refine wpAnyH_take (i := 14) (v := .agg #[.int .i64 0, .slice a6 (zs ++ [z]).length c6, .string c]) rfl (by kernel_rfl) (by kernel_rfl) (by kernel_rfl) (fun _ _ _ h => h) (Or.inl ⟨by kernel_rfl, fun w9 h9 => ?_⟩) HS7.out ?_
          · clear h9
            go_simp
          have q0 := HQ7.out.cel 0 _ rfl
          have q1 := HQ7.out.cel 1 _ rfl
          have q2 := HQ7.out.cel 2 _ rfl
          have f0 := HQ7.out.frz 0
          have f1 := HQ7.out.frz 1
          have f2 := HQ7.out.frz 2
          have ql := HQ7.out.lt
          refine held_one 15 (by kernel_rfl) rfl (by kernel_rfl) fun K hK => ?_
          go_simp
          refine hK _ _ (((HS7.out.put HNE.out.1 HNE.out.2 HQ7.out.ge).put HNE.out.1 HNE.out.2 HQ7.out.ge).put HNE.out.1 HNE.out.2 HQ7.out.ge) ?_
          clear hK K
          refine wpAnyH_done (by kernel_rfl) ?_ _
          go_simp
          go_wp2
          refine bodyPost_ret (v := vrA (.slice a6 (zs ++ [z]).length c6) ⟨0, zs ++ [z], c⟩) ?_ rfl ⟨_, by rw [E.out], by rw [E.out]; exact ks_weak (own_set (own_set (own_set HO7.out (fun e => HBB.out _ e rfl)) (fun e => HBB.out _ e rfl)) (fun e => HBB.out _ e rfl)) HXW.out, ((HQ7.out.bel.setCell HQ7.out.ge _).setCell HQ7.out.ge _).setCell HQ7.out.ge _⟩
          simp [results, Try.results99, go_sem, vrA, q0, q1, q2]
        · rw [if_pos h5] at hE
          have E : Hid (R = ⟨4, [], ⟨#[]⟩⟩) := hE
          clear h4 hE
          go_enter Try.func99, Try.ntmps99
          go_upto_region 1 with fail
          generalize ((w.alloc (.cells #[.slice ao zs.length cap, .string c] 27)).alloc (.cells #[.int .i64 0, .slice none 0 0, .string ⟨#[]⟩] 31)) = u1 at *
          generalize w.heap.size + 1 = b2 at *
          generalize w.heap.size = b1 at *
          have k0 := HT1.out.c1 0 _ rfl
          have k1 := HT1.out.c1 1 _ rfl
          have kl := HT1.out.lt1
          go_wp2_with fail
          refine Calls.mono (HOP.out _ HT1.out.aft) ?_
          rintro e u2 ⟨rfl, hu⟩
          have HT2 : Hid (TB w u2 b1 b2 #[.slice ao zs.length cap, .string c] 27 #[.int .i64 0, .slice none 0 0, .string ⟨#[]⟩] 31) := HT1.out.step hu
          clear hu k0 k1 kl
          have HT3 : Hid (TB w (u2.alloc (.cells #[.int .i64 rc, .string rd] 34)) b1 b2 #[.slice ao zs.length cap, .string c] 27 #[.int .i64 0, .slice none 0 0, .string ⟨#[]⟩] 31) := HT2.out.step (bx1 _ _)
          have HL3 : Hid (LG w (u2.alloc (.cells #[.int .i64 rc, .string rd] 34)) u2.heap.size #[.int .i64 rc, .string rd] 34) := ⟨HT3.out.bel, heap_new _ _, HT2.out.bel.size⟩
          have HBB3 : Hid (b2 < u2.heap.size) := HT2.out.lt2
          go_upto_region 4 with fail
          generalize (u2.alloc (.cells #[.int .i64 rc, .string rd] 34)) = u3 at *
          generalize u2.heap.size = b3 at *
          have HB23 : Hid (b2 < b3) := HBB3.out
          have p0 := HL3.out.cel 0 _ rfl
          have p1 := HL3.out.cel 1 _ rfl
          have pl := HL3.out.lt
          go_wp2_with fail
          refine Calls.mono (HW.out _) ?_
          rintro e u9 ⟨rfl, hw9⟩
          rw [hw9]
          clear hw9
          have k0 := HT3.out.c1 0 _ rfl
          have k1 := HT3.out.c1 1 _ rfl
          have kl := HT3.out.lt1
          have q0 := HT3.out.c2 0 _ rfl
          have q1 := HT3.out.c2 1 _ rfl
          have q2 := HT3.out.c2 2 _ rfl
          have f0 := HT3.out.f2 0
          have f1 := HT3.out.f2 1
          have f2 := HT3.out.f2 2
          have ql := HT3.out.lt2
          go_wp2
          refine bodyPost_ret (v := vrA (.slice none 0 0) ⟨4, [], ⟨#[]⟩⟩) ?_ rfl ⟨_, by rw [E.out], by rw [E.out]; exact World.ownsRow_nil _ _ _ _, ((HT3.out.bel.setCell HT3.out.ge2 _).setCell HT3.out.ge2 _).setCell HT3.out.ge2 _⟩
          simp [results, Try.results99, go_sem, vrA, q0, q1, q2]
    · rw [if_pos h3] at hE
      have E : Hid (R = ⟨rc, [], ⟨#[]⟩⟩) := hE
      clear hE
      go_enter Try.func99, Try.ntmps99
      go_upto_region 1 with fail
      generalize ((w.alloc (.cells #[.slice ao zs.length cap, .string c] 27)).alloc (.cells #[.int .i64 0, .slice none 0 0, .string ⟨#[]⟩] 31)) = u1 at *
      generalize w.heap.size + 1 = b2 at *
      generalize w.heap.size = b1 at *
      have k0 := HT1.out.c1 0 _ rfl
      have k1 := HT1.out.c1 1 _ rfl
      have kl := HT1.out.lt1
      go_wp2_with fail
      refine Calls.mono (HOP.out _ HT1.out.aft) ?_
      rintro e u2 ⟨rfl, hu⟩
      have HT2 : Hid (TB w u2 b1 b2 #[.slice ao zs.length cap, .string c] 27 #[.int .i64 0, .slice none 0 0, .string ⟨#[]⟩] 31) := HT1.out.step hu
      clear hu k0 k1 kl
      have HT3 : Hid (TB w (u2.alloc (.cells #[.int .i64 rc, .string rd] 34)) b1 b2 #[.slice ao zs.length cap, .string c] 27 #[.int .i64 0, .slice none 0 0, .string ⟨#[]⟩] 31) := HT2.out.step (bx1 _ _)
      have HL3 : Hid (LG w (u2.alloc (.cells #[.int .i64 rc, .string rd] 34)) u2.heap.size #[.int .i64 rc, .string rd] 34) := ⟨HT3.out.bel, heap_new _ _, HT2.out.bel.size⟩
      have HBB3 : Hid (b2 < u2.heap.size) := HT2.out.lt2
      go_upto_region 4 with fail
      generalize (u2.alloc (.cells #[.int .i64 rc, .string rd] 34)) = u3 at *
      generalize u2.heap.size = b3 at *
      have HB23 : Hid (b2 < b3) := HBB3.out
      have p0 := HL3.out.cel 0 _ rfl
      have p1 := HL3.out.cel 1 _ rfl
      have pl := HL3.out.lt
      have q0 := HT3.out.c2 0 _ rfl
      have q1 := HT3.out.c2 1 _ rfl
      have q2 := HT3.out.c2 2 _ rfl
      have f0 := HT3.out.f2 0
      have f1 := HT3.out.f2 1
      have f2 := HT3.out.f2 2
      have ql := HT3.out.lt2
      go_wp2
      refine bodyPost_ret (v := vrA (.slice none 0 0) ⟨rc, [], ⟨#[]⟩⟩) ?_ rfl ⟨_, by rw [E.out], by rw [E.out]; exact World.ownsRow_nil _ _ _ _, ((HT3.out.bel.setCell HT3.out.ge2 _).setCell HT3.out.ge2 _).setCell HT3.out.ge2 _⟩
      simp [results, Try.results99, go_sem, vrA, q0, q1, q2]
  · have E : Hid (R = ⟨2, [], ⟨#[]⟩⟩) := (show R = _ by rw [hE, if_pos (by simpa using ho)])
    cases h1 : ovB o
    · have h2 : ovB p = true := by simpa [h1] using ho
      have o1 : decide (4096 < (o.size : Int)) = false := h1
      have o2 : decide (4096 < (p.size : Int)) = true := h2
      clear ho h1 h2 hE
      go_enter Try.func99, Try.ntmps99
      go_upto_region 1 with fail
      generalize ((w.alloc (.cells #[.slice ao zs.length cap, .string c] 27)).alloc (.cells #[.int .i64 0, .slice none 0 0, .string ⟨#[]⟩] 31)) = u1 at *
      generalize w.heap.size + 1 = b2 at *
      generalize w.heap.size = b1 at *
      have q0 := HT1.out.c2 0 _ rfl
      have q1 := HT1.out.c2 1 _ rfl
      have q2 := HT1.out.c2 2 _ rfl
      have f0 := HT1.out.f2 0
      have f1 := HT1.out.f2 1
      have f2 := HT1.out.f2 2
      have ql := HT1.out.lt2
      go_wp2
      refine bodyPost_ret (v := vrA (.slice none 0 0) ⟨2, [], ⟨#[]⟩⟩) ?_ rfl ⟨_, by rw [E.out], by rw [E.out]; exact World.ownsRow_nil _ _ _ _, ((HT1.out.bel.setCell HT1.out.ge2 _).setCell HT1.out.ge2 _).setCell HT1.out.ge2 _⟩
      simp [results, Try.results99, go_sem, vrA, q0, q1, q2]
    · have o1 : decide (4096 < (o.size : Int)) = true := h1
      clear ho h1 hE
      go_enter Try.func99, Try.ntmps99
      go_upto_region 1 with fail
      generalize ((w.alloc (.cells #[.slice ao zs.length cap, .string c] 27)).alloc (.cells #[.int .i64 0, .slice none 0 0, .string ⟨#[]⟩] 31)) = u1 at *
      generalize w.heap.size + 1 = b2 at *
      generalize w.heap.size = b1 at *
      have q0 := HT1.out.c2 0 _ rfl
      have q1 := HT1.out.c2 1 _ rfl
      have q2 := HT1.out.c2 2 _ rfl
      have f0 := HT1.out.f2 0
      have f1 := HT1.out.f2 1
      have f2 := HT1.out.f2 2
      have ql := HT1.out.lt2
      go_wp2
      refine bodyPost_ret (v := vrA (.slice none 0 0) ⟨2, [], ⟨#[]⟩⟩) ?_ rfl ⟨_, by rw [E.out], by rw [E.out]; exact World.ownsRow_nil _ _ _ _, ((HT1.out.bel.setCell HT1.out.ge2 _).setCell HT1.out.ge2 _).setCell HT1.out.ge2 _⟩
      simp [results, Try.results99, go_sem, vrA, q0, q1, q2]
end Go.Proofs.Ytniaohflkopncaa
