import Derived.Test.YtniaohflkopncaaVm2
import Derived.Deep.DeepCutAuto
namespace Go.Proofs.Ytniaohflkopncaa
open Go.ChangeShapes Go.WideShapes Go.ChangeAt Go.RowKit

set_option maxRecDepth 100000 in
set_option maxHeartbeats 4000000 in
theorem implMake_any (m p : ByteArray) (st : Int) (w : World) (hm : m.size ≤ 1048576) (hp : p.size ≤ 1048576) : Calls Try.prog 7 #[.string m, .string p, .int .i64 st] w fun e w' => ∃ sv, e = .returned (vrA sv (mkR m p st)) ∧ w'.ownsRow w.heap.size 70 3 sv (mkR m p st).zs.length (ksR (mkR m p st).zs) ∧ Below w.heap.size w w' := by
  have HL0 : Hid (LG w (w.alloc (.cells #[.int .i64 0, .slice none 0 0, .string ⟨#[]⟩] 31)) w.heap.size #[.int .i64 0, .slice none 0 0, .string ⟨#[]⟩] 31) := LG.new w _ _
  have HO : Hid (∀ u, Calls Try.prog 24 #[.slice (some ⟨u.heap.size, 0, none⟩) 2 2] (u.alloc (.cells #[.string m, .string p] 9)) fun e w' => e = .returned (.bool (ovB m || ovB p)) ∧ Below u.heap.size u w') := fun u => over_two m p u
  have HW : Hid (∀ u, Calls Try.prog 25 #[.int .i64 st] u fun e w' => e = .returned (.bool (isW st)) ∧ w' = u) := fun u => implIsWord_any st u
  have HS : Hid (∀ u, Calls Try.prog 26 #[.string m, .string p, .int .i64 st] u fun e w' => e = .returned (ksA (slV m p st)) ∧ Below u.heap.size u w') := fun u => slotOf_any m p st u hm hp
  have HK : Hid (∀ u, Calls Try.prog 27 #[.string m] u fun e w' => e = .returned (.string (tgoV m ⟨#[]⟩)) ∧ Below u.heap.size u w') := fun u => checkOf_any m u
  cases ho : (ovB m || ovB p)
  · obtain ⟨h1, h2⟩ := Bool.or_eq_false_iff.1 ho
    rw [ho] at HO
    cases h3 : ((m.size : Int) != 16)
    · cases h4 : isW st
      · have E : Hid (mkR m p st = ⟨1, [], ⟨#[]⟩⟩) := (show mkR m p st = _ by unfold mkR; rw [if_neg (by simp [h1, h2]), if_pos (.inr h4)])
        rw [h4] at HW
        clear h1 h2 h4 ho
        go_enter Try.func7, Try.ntmps7
        go_upto_region 1 with fail
        generalize (w.alloc (.cells #[.int .i64 0, .slice none 0 0, .string ⟨#[]⟩] 31)) = u0 at *
        generalize w.heap.size = b0 at *
        go_wp2_with fail
        refine Calls.mono (HO.out _) ?_
        rintro e u1 ⟨rfl, hu⟩
        have HL1 : Hid (LG w u1 b0 _ _) := HL0.out.step hu
        clear hu
        go_wp2_with fail
        refine Calls.mono (HW.out _) ?_
        rintro e u9 ⟨rfl, hw9⟩
        rw [hw9]
        clear hw9
        have k0 := HL1.out.cel 0 _ rfl
        have k1 := HL1.out.cel 1 _ rfl
        have k2 := HL1.out.cel 2 _ rfl
        have f0 := HL1.out.frz 0
        have f1 := HL1.out.frz 1
        have f2 := HL1.out.frz 2
        have kl := HL1.out.lt
        go_wp2
        refine bodyPost_ret (v := vrA (.slice none 0 0) ⟨1, [], ⟨#[]⟩⟩) ?_ rfl ⟨_, by rw [E.out], by rw [E.out]; exact World.ownsRow_nil _ _ _ _, ((HL1.out.bel.setCell HL1.out.ge _).setCell HL1.out.ge _).setCell HL1.out.ge _⟩
        simp [results, Try.results7, go_sem, vrA, k0, k1, k2]
      · have E : Hid (mkR m p st = ⟨0, [slV m p st], tgoV m ⟨#[]⟩⟩) := (show mkR m p st = _ by unfold mkR; rw [if_neg (by simp [h1, h2]), if_neg (by simp [h3, h4])])
        rw [h4] at HW
        generalize mkR m p st = R at *
        generalize slV m p st = z at *
        generalize tgoV m ⟨#[]⟩ = ck at *
        unfold ksA at HS
        clear h1 h2 h4 ho
        go_enter Try.func7, Try.ntmps7
        go_upto_region 1 with fail
        generalize (w.alloc (.cells #[.int .i64 0, .slice none 0 0, .string ⟨#[]⟩] 31)) = u0 at *
        generalize w.heap.size = b0 at *
        go_wp2_with fail
        refine Calls.mono (HO.out _) ?_
        rintro e u1 ⟨rfl, hu⟩
        have HL1 : Hid (LG w u1 b0 _ _) := HL0.out.step hu
        clear hu
        go_wp2_with fail
        refine Calls.mono (HW.out _) ?_
        rintro e u9 ⟨rfl, hw9⟩
        rw [hw9]
        clear hw9
        go_wp2_with fail
        refine Calls.mono (HS.out _) ?_
        rintro e u2 ⟨rfl, hu⟩
        have HL2 : Hid (LG w u2 b0 #[.int .i64 0, .slice none 0 0, .string ⟨#[]⟩] 31) := HL1.out.step hu
        clear hu
        have HO3 : Hid ((u2.alloc (.cells #[.int .i64 z.salt, .string z.key, .string z.tag] 70)).ownsRow u2.heap.size 70 3 (.slice (some ⟨u2.heap.size, 0, none⟩) 1 1) 1 (ksR [z])) := own_one u2 z _ (Nat.le_refl _)
        have HL3 : Hid (LG w (u2.alloc (.cells #[.int .i64 z.salt, .string z.key, .string z.tag] 70)) b0 #[.int .i64 0, .slice none 0 0, .string ⟨#[]⟩] 31) := HL2.out.step (bx1 _ _)
        have hlt2 := HL2.out.lt
        have HWS : Hid (w.heap.size ≤ u2.heap.size) := HL2.out.bel.size
        go_wp2_with fail
        generalize (u2.alloc (.cells #[.int .i64 z.salt, .string z.key, .string z.tag] 70)) = u3 at *
        generalize u2.heap.size = b3 at *
        refine Calls.mono (HK.out _) ?_
        rintro e u4 ⟨rfl, hu⟩
        have HL4 : Hid (LG w u4 b0 #[.int .i64 0, .slice none 0 0, .string ⟨#[]⟩] 31) := HL3.out.step hu
        have HO4 : Hid (u4.ownsRow b3 70 3 (.slice (some ⟨b3, 0, none⟩) 1 1) 1 (ksR [z])) := ks_below HO3.out hu
        clear hu
        have k0 := HL4.out.cel 0 _ rfl
        have k1 := HL4.out.cel 1 _ rfl
        have k2 := HL4.out.cel 2 _ rfl
        have f0 := HL4.out.frz 0
        have f1 := HL4.out.frz 1
        have f2 := HL4.out.frz 2
        have kl := HL4.out.lt
        go_wp2
        refine bodyPost_ret (v := vrA (.slice (some ⟨b3, 0, none⟩) 1 1) ⟨0, [z], ck⟩) ?_ rfl ⟨_, by rw [E.out], by rw [E.out]; exact ks_weak (own_set (own_set (own_set HO4.out (by simp [Value.ownBlock]; omega)) (by simp [Value.ownBlock]; omega)) (by simp [Value.ownBlock]; omega)) HWS.out, ((HL4.out.bel.setCell HL4.out.ge _).setCell HL4.out.ge _).setCell HL4.out.ge _⟩
        simp [results, Try.results7, go_sem, vrA, k0, k1, k2]
    · have E : Hid (mkR m p st = ⟨1, [], ⟨#[]⟩⟩) := (show mkR m p st = _ by unfold mkR; rw [if_neg (by simp [h1, h2]), if_pos (.inl h3)])
      clear h1 h2 ho
      go_enter Try.func7, Try.ntmps7
      go_upto_region 1 with fail
      generalize (w.alloc (.cells #[.int .i64 0, .slice none 0 0, .string ⟨#[]⟩] 31)) = u0 at *
      generalize w.heap.size = b0 at *
      go_wp2_with fail
      refine Calls.mono (HO.out _) ?_
      rintro e u1 ⟨rfl, hu⟩
      have HL1 : Hid (LG w u1 b0 _ _) := HL0.out.step hu
      clear hu
      have k0 := HL1.out.cel 0 _ rfl
      have k1 := HL1.out.cel 1 _ rfl
      have k2 := HL1.out.cel 2 _ rfl
      have f0 := HL1.out.frz 0
      have f1 := HL1.out.frz 1
      have f2 := HL1.out.frz 2
      have kl := HL1.out.lt
      go_wp2
      refine bodyPost_ret (v := vrA (.slice none 0 0) ⟨1, [], ⟨#[]⟩⟩) ?_ rfl ⟨_, by rw [E.out], by rw [E.out]; exact World.ownsRow_nil _ _ _ _, ((HL1.out.bel.setCell HL1.out.ge _).setCell HL1.out.ge _).setCell HL1.out.ge _⟩
      simp [results, Try.results7, go_sem, vrA, k0, k1, k2]
  · have E : Hid (mkR m p st = ⟨2, [], ⟨#[]⟩⟩) := (show mkR m p st = _ by unfold mkR; rw [if_pos (by simpa using ho)])
    rw [ho] at HO
    clear ho
    go_enter Try.func7, Try.ntmps7
    go_upto_region 1 with fail
    generalize (w.alloc (.cells #[.int .i64 0, .slice none 0 0, .string ⟨#[]⟩] 31)) = u0 at *
    generalize w.heap.size = b0 at *
    go_wp2_with fail
    refine Calls.mono (HO.out _) ?_
    rintro e u1 ⟨rfl, hu⟩
    have HL1 : Hid (LG w u1 b0 _ _) := HL0.out.step hu
    clear hu
    have k0 := HL1.out.cel 0 _ rfl
    have k1 := HL1.out.cel 1 _ rfl
    have k2 := HL1.out.cel 2 _ rfl
    have f0 := HL1.out.frz 0
    have f1 := HL1.out.frz 1
    have f2 := HL1.out.frz 2
    have kl := HL1.out.lt
    go_wp2
    refine bodyPost_ret (v := vrA (.slice none 0 0) ⟨2, [], ⟨#[]⟩⟩) ?_ rfl ⟨_, by rw [E.out], by rw [E.out]; exact World.ownsRow_nil _ _ _ _, ((HL1.out.bel.setCell HL1.out.ge _).setCell HL1.out.ge _).setCell HL1.out.ge _⟩
    simp [results, Try.results7, go_sem, vrA, k0, k1, k2]
set_option maxRecDepth 100000 in
set_option maxHeartbeats 4000000 in
theorem specMake_any (m p : ByteArray) (st : Int) (w : World) : Calls Try.prog 8 #[.string m, .string p, .int .i64 st] w fun e w' => ∃ sv, e = .returned (vrA sv (mkR m p st)) ∧ w'.ownsRow w.heap.size 70 3 sv (mkR m p st).zs.length (ksR (mkR m p st).zs) ∧ Below w.heap.size w w' := by
  have HL0 : Hid (LG w (w.alloc (.cells #[.int .i64 0, .slice none 0 0, .string ⟨#[]⟩] 31)) w.heap.size #[.int .i64 0, .slice none 0 0, .string ⟨#[]⟩] 31) := LG.new w _ _
  have HW : Hid (∀ u, Calls Try.prog 28 #[.int .i64 st] u fun e w' => e = .returned (.bool (isW st)) ∧ w' = u) := fun u => specIsWord_any st u
  have HS : Hid (∀ u, Calls Try.prog 29 #[.string m, .string p, .int .i64 st] u fun e w' => e = .returned (ksA (slV m p st)) ∧ Below u.heap.size u w') := fun u => l15Slot_any m p st u
  have HK : Hid (∀ u, Calls Try.prog 30 #[.string m, .string ⟨#[]⟩] u fun e w' => e = .returned (.string (tgoV m ⟨#[]⟩)) ∧ Below u.heap.size u w') := fun u => specTagOf_any m _ u
  cases ho : (ovB m || ovB p)
  · obtain ⟨h1, h2⟩ := Bool.or_eq_false_iff.1 ho
    have o1 : decide (4096 < (m.size : Int)) = false := h1
    have o2 : decide (4096 < (p.size : Int)) = false := h2
    cases h3 : ((m.size : Int) != 16)
    · cases h4 : isW st
      · have E : Hid (mkR m p st = ⟨1, [], ⟨#[]⟩⟩) := (show mkR m p st = _ by unfold mkR; rw [if_neg (by simp [h1, h2]), if_pos (.inr h4)])
        rw [h4] at HW
        clear h1 h2 h4 ho
        go_enter Try.func8, Try.ntmps8
        go_upto_region 1 with fail
        generalize (w.alloc (.cells #[.int .i64 0, .slice none 0 0, .string ⟨#[]⟩] 31)) = u0 at *
        generalize w.heap.size = b0 at *
        go_wp2_with fail
        refine Calls.mono (HW.out _) ?_
        rintro e u9 ⟨rfl, hw9⟩
        rw [hw9]
        clear hw9
        have k0 := HL0.out.cel 0 _ rfl
        have k1 := HL0.out.cel 1 _ rfl
        have k2 := HL0.out.cel 2 _ rfl
        have f0 := HL0.out.frz 0
        have f1 := HL0.out.frz 1
        have f2 := HL0.out.frz 2
        have kl := HL0.out.lt
        go_wp2
        refine bodyPost_ret (v := vrA (.slice none 0 0) ⟨1, [], ⟨#[]⟩⟩) ?_ rfl ⟨_, by rw [E.out], by rw [E.out]; exact World.ownsRow_nil _ _ _ _, ((HL0.out.bel.setCell HL0.out.ge _).setCell HL0.out.ge _).setCell HL0.out.ge _⟩
        simp [results, Try.results8, go_sem, vrA, k0, k1, k2]
      · have E : Hid (mkR m p st = ⟨0, [slV m p st], tgoV m ⟨#[]⟩⟩) := (show mkR m p st = _ by unfold mkR; rw [if_neg (by simp [h1, h2]), if_neg (by simp [h3, h4])])
        rw [h4] at HW
        generalize mkR m p st = R at *
        generalize slV m p st = z at *
        generalize tgoV m ⟨#[]⟩ = ck at *
        unfold ksA at HS
        clear h1 h2 h4 ho
        go_enter Try.func8, Try.ntmps8
        go_upto_region 1 with fail
        generalize (w.alloc (.cells #[.int .i64 0, .slice none 0 0, .string ⟨#[]⟩] 31)) = u0 at *
        generalize w.heap.size = b0 at *
        go_wp2_with fail
        refine Calls.mono (HW.out _) ?_
        rintro e u9 ⟨rfl, hw9⟩
        rw [hw9]
        clear hw9
        go_wp2_with fail
        refine Calls.mono (HS.out _) ?_
        rintro e u2 ⟨rfl, hu⟩
        have HL2 : Hid (LG w u2 b0 #[.int .i64 0, .slice none 0 0, .string ⟨#[]⟩] 31) := HL0.out.step hu
        clear hu
        have HO3 : Hid ((u2.alloc (.cells #[.int .i64 z.salt, .string z.key, .string z.tag] 70)).ownsRow u2.heap.size 70 3 (.slice (some ⟨u2.heap.size, 0, none⟩) 1 1) 1 (ksR [z])) := own_one u2 z _ (Nat.le_refl _)
        have HL3 : Hid (LG w (u2.alloc (.cells #[.int .i64 z.salt, .string z.key, .string z.tag] 70)) b0 #[.int .i64 0, .slice none 0 0, .string ⟨#[]⟩] 31) := HL2.out.step (bx1 _ _)
        have hlt2 := HL2.out.lt
        have HWS : Hid (w.heap.size ≤ u2.heap.size) := HL2.out.bel.size
        go_wp2_with fail
        generalize (u2.alloc (.cells #[.int .i64 z.salt, .string z.key, .string z.tag] 70)) = u3 at *
        generalize u2.heap.size = b3 at *
        refine Calls.mono (HK.out _) ?_
        rintro e u4 ⟨rfl, hu⟩
        have HL4 : Hid (LG w u4 b0 #[.int .i64 0, .slice none 0 0, .string ⟨#[]⟩] 31) := HL3.out.step hu
        have HO4 : Hid (u4.ownsRow b3 70 3 (.slice (some ⟨b3, 0, none⟩) 1 1) 1 (ksR [z])) := ks_below HO3.out hu
        clear hu
        have k0 := HL4.out.cel 0 _ rfl
        have k1 := HL4.out.cel 1 _ rfl
        have k2 := HL4.out.cel 2 _ rfl
        have f0 := HL4.out.frz 0
        have f1 := HL4.out.frz 1
        have f2 := HL4.out.frz 2
        have kl := HL4.out.lt
        go_wp2
        refine bodyPost_ret (v := vrA (.slice (some ⟨b3, 0, none⟩) 1 1) ⟨0, [z], ck⟩) ?_ rfl ⟨_, by rw [E.out], by rw [E.out]; exact ks_weak (own_set (own_set (own_set HO4.out (by simp [Value.ownBlock]; omega)) (by simp [Value.ownBlock]; omega)) (by simp [Value.ownBlock]; omega)) HWS.out, ((HL4.out.bel.setCell HL4.out.ge _).setCell HL4.out.ge _).setCell HL4.out.ge _⟩
        simp [results, Try.results8, go_sem, vrA, k0, k1, k2]
    · have E : Hid (mkR m p st = ⟨1, [], ⟨#[]⟩⟩) := (show mkR m p st = _ by unfold mkR; rw [if_neg (by simp [h1, h2]), if_pos (.inl h3)])
      clear h1 h2 ho
      go_enter Try.func8, Try.ntmps8
      go_upto_region 1 with fail
      generalize (w.alloc (.cells #[.int .i64 0, .slice none 0 0, .string ⟨#[]⟩] 31)) = u0 at *
      generalize w.heap.size = b0 at *
      have k0 := HL0.out.cel 0 _ rfl
      have k1 := HL0.out.cel 1 _ rfl
      have k2 := HL0.out.cel 2 _ rfl
      have f0 := HL0.out.frz 0
      have f1 := HL0.out.frz 1
      have f2 := HL0.out.frz 2
      have kl := HL0.out.lt
      go_wp2
      refine bodyPost_ret (v := vrA (.slice none 0 0) ⟨1, [], ⟨#[]⟩⟩) ?_ rfl ⟨_, by rw [E.out], by rw [E.out]; exact World.ownsRow_nil _ _ _ _, ((HL0.out.bel.setCell HL0.out.ge _).setCell HL0.out.ge _).setCell HL0.out.ge _⟩
      simp [results, Try.results8, go_sem, vrA, k0, k1, k2]
  · have E : Hid (mkR m p st = ⟨2, [], ⟨#[]⟩⟩) := (show mkR m p st = _ by unfold mkR; rw [if_pos (by simpa using ho)])
    cases h1 : ovB m
    · have h2 : ovB p = true := by simpa [h1] using ho
      have o1 : decide (4096 < (m.size : Int)) = false := h1
      have o2 : decide (4096 < (p.size : Int)) = true := h2
      clear ho h1 h2
      go_enter Try.func8, Try.ntmps8
      go_upto_region 1 with fail
      generalize (w.alloc (.cells #[.int .i64 0, .slice none 0 0, .string ⟨#[]⟩] 31)) = u0 at *
      generalize w.heap.size = b0 at *
      have k0 := HL0.out.cel 0 _ rfl
      have k1 := HL0.out.cel 1 _ rfl
      have k2 := HL0.out.cel 2 _ rfl
      have f0 := HL0.out.frz 0
      have f1 := HL0.out.frz 1
      have f2 := HL0.out.frz 2
      have kl := HL0.out.lt
      go_wp2
      refine bodyPost_ret (v := vrA (.slice none 0 0) ⟨2, [], ⟨#[]⟩⟩) ?_ rfl ⟨_, by rw [E.out], by rw [E.out]; exact World.ownsRow_nil _ _ _ _, ((HL0.out.bel.setCell HL0.out.ge _).setCell HL0.out.ge _).setCell HL0.out.ge _⟩
      simp [results, Try.results8, go_sem, vrA, k0, k1, k2]
    · have o1 : decide (4096 < (m.size : Int)) = true := h1
      clear ho h1
      go_enter Try.func8, Try.ntmps8
      go_upto_region 1 with fail
      generalize (w.alloc (.cells #[.int .i64 0, .slice none 0 0, .string ⟨#[]⟩] 31)) = u0 at *
      generalize w.heap.size = b0 at *
      have k0 := HL0.out.cel 0 _ rfl
      have k1 := HL0.out.cel 1 _ rfl
      have k2 := HL0.out.cel 2 _ rfl
      have f0 := HL0.out.frz 0
      have f1 := HL0.out.frz 1
      have f2 := HL0.out.frz 2
      have kl := HL0.out.lt
      go_wp2
      refine bodyPost_ret (v := vrA (.slice none 0 0) ⟨2, [], ⟨#[]⟩⟩) ?_ rfl ⟨_, by rw [E.out], by rw [E.out]; exact World.ownsRow_nil _ _ _ _, ((HL0.out.bel.setCell HL0.out.ge _).setCell HL0.out.ge _).setCell HL0.out.ge _⟩
      simp [results, Try.results8, go_sem, vrA, k0, k1, k2]
end Go.Proofs.Ytniaohflkopncaa
