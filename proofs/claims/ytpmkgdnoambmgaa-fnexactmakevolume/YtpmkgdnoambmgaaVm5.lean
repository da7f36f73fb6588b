import Derived.Test.YtpmkgdnoambmgaaVm4
namespace Go.Proofs.Ytpmkgdnoambmgaa
open Go.ChangeShapes Go.WideShapes Go.ChangeAt Go.RowKit

set_option maxRecDepth 100000 in
set_option maxHeartbeats 4000000 in
theorem walkMV (m p : ByteArray) (st : Int) (w : World) : Calls Try.prog 3 #[.string m, .string p, .int .i64 st] w fun e w' => e = .returned (.bool true) ∧ Below w.heap.size w w' := by
  by_cases h1 : m.size ≤ 1048576
  · by_cases h2 : p.size ≤ 1048576
    · have HSP : Hid (∀ u, Calls Try.prog 9 #[.string m, .string p, .int .i64 st] u fun e w' => ∃ sv, e = .returned (vrA sv (mkR m p st)) ∧ w'.ownsRow u.heap.size 70 3 sv (mkR m p st).zs.length (ksR (mkR m p st).zs) ∧ Below u.heap.size u w') := fun u => specMake_any m p st u
      have HIM : Hid (∀ u, Calls Try.prog 10 #[.string m, .string p, .int .i64 st] u fun e w' => ∃ sv, e = .returned (vrA sv (mkR m p st)) ∧ w'.ownsRow u.heap.size 70 3 sv (mkR m p st).zs.length (ksR (mkR m p st).zs) ∧ Below u.heap.size u w') := fun u => implMake_any m p st u h1 h2
      have hln : (mkR m p st).zs.length ≤ 4 := by
        unfold mkR
        split
        · simp
        · split <;> simp
      generalize mkR m p st = R at *
      obtain ⟨cd, zs, ck⟩ := R
      unfold vrA at HSP HIM
      simp only at HSP HIM hln
      have HLN : Hid (zs.length ≤ 4) := hln
      have hd1 : decide (1048576 < (m.size : Int)) = false := decide_eq_false (by omega)
      have hd2 : decide (1048576 < (p.size : Int)) = false := decide_eq_false (by omega)
      clear hln h1 h2
      go_enter Try.func3, Try.ntmps3
      go_wp2_with fail
      refine Calls.mono (HSP.out _) ?_
      rintro e u1 ⟨s1, rfl, ho1, hb1⟩
      have HO1 : Hid (u1.ownsRow w.heap.size 70 3 s1 zs.length (ksR zs)) := ho1
      have HK1 : Hid (∀ k, s1.ownBlock = some k → k < u1.heap.size) := fun k hk => (ho1.lt k hk).2
      have HB1 : Hid (Below w.heap.size w u1) := hb1
      obtain ⟨a1, c1, rfl⟩ := ks_sl ho1
      clear ho1 hb1
      have HO2 : Hid ((u1.alloc (.cells #[.int .i64 cd, .slice a1 zs.length c1, .string ck] 26)).ownsRow w.heap.size 70 3 (.slice a1 zs.length c1) zs.length (ksR zs)) := World.ownsRow.alloc HO1.out _
      have HL2 : Hid (LG w (u1.alloc (.cells #[.int .i64 cd, .slice a1 zs.length c1, .string ck] 26)) u1.heap.size #[.int .i64 cd, .slice a1 zs.length c1, .string ck] 26) := ⟨HB1.out.alloc HB1.out.size _, heap_new _ _, HB1.out.size⟩
      have HSZ2 : Hid ((u1.alloc (.cells #[.int .i64 cd, .slice a1 zs.length c1, .string ck] 26)).heap.size = u1.heap.size + 1) := (show _ = _ by simp)
      clear HO1 HB1
      go_upto_region 6 with fail
      generalize (u1.alloc (.cells #[.int .i64 cd, .slice a1 zs.length c1, .string ck] 26)) = u2 at *
      generalize u1.heap.size = b7 at *
      go_wp2_with fail
      refine Calls.mono (HIM.out _) ?_
      rintro e u3 ⟨s2, rfl, ho3, hb3⟩
      rw [HSZ2.out] at ho3
      have HO3 : Hid (u3.ownsRow (b7 + 1) 70 3 s2 zs.length (ksR zs)) := ho3
      have HK3 : Hid (∀ k, s2.ownBlock = some k → b7 + 1 ≤ k ∧ k < u3.heap.size) := fun k hk => ho3.lt k hk
      have HR3 : Hid (u3.ownsRow w.heap.size 70 3 (.slice a1 zs.length c1) zs.length (ksR zs)) := ks_below HO2.out hb3
      have HL3 : Hid (LG w u3 b7 #[.int .i64 cd, .slice a1 zs.length c1, .string ck] 26) := HL2.out.step hb3
      obtain ⟨a2, c2, rfl⟩ := ks_sl ho3
      clear ho3 hb3 HO2 HL2
      have HO4 : Hid ((u3.alloc (.cells #[.int .i64 cd, .slice a2 zs.length c2, .string ck] 26)).ownsRow (b7 + 1) 70 3 (.slice a2 zs.length c2) zs.length (ksR zs)) := World.ownsRow.alloc HO3.out _
      have HR4 : Hid ((u3.alloc (.cells #[.int .i64 cd, .slice a2 zs.length c2, .string ck] 26)).ownsRow w.heap.size 70 3 (.slice a1 zs.length c1) zs.length (ksR zs)) := World.ownsRow.alloc HR3.out _
      have HL4 : Hid (LG w (u3.alloc (.cells #[.int .i64 cd, .slice a2 zs.length c2, .string ck] 26)) b7 #[.int .i64 cd, .slice a1 zs.length c1, .string ck] 26) := HL3.out.step (bx1 _ _)
      have HW4 : Hid (LG w (u3.alloc (.cells #[.int .i64 cd, .slice a2 zs.length c2, .string ck] 26)) u3.heap.size #[.int .i64 cd, .slice a2 zs.length c2, .string ck] 26) := ⟨HL4.out.bel, heap_new _ _, HL3.out.bel.size⟩
      clear HO3 HR3 HL3
      go_upto_region 7 with fail
      generalize (u3.alloc (.cells #[.int .i64 cd, .slice a2 zs.length c2, .string ck] 26)) = u4 at *
      generalize u3.heap.size = b8 at *
      have r0 := HW4.out.cel 0 _ rfl
      have r1 := HW4.out.cel 1 _ rfl
      have r2 := HW4.out.cel 2 _ rfl
      have rl := HW4.out.lt
      have q0 := HL4.out.cel 0 _ rfl
      have q1 := HL4.out.cel 1 _ rfl
      have q2 := HL4.out.cel 2 _ rfl
      have ql := HL4.out.lt
      go_wp2_with fail
      refine Calls.mono (eqVR_ok (KSrow.of HO4.out) (KSrow.of HR4.out) (by have := HLN.out; omega) cd ck) ?_
      rintro e u5 ⟨rfl, hb5⟩
      have HO5 : Hid (u5.ownsRow (b7 + 1) 70 3 (.slice a2 zs.length c2) zs.length (ksR zs)) := ks_below HO4.out hb5
      have HR5 : Hid (u5.ownsRow w.heap.size 70 3 (.slice a1 zs.length c1) zs.length (ksR zs)) := ks_below HR4.out hb5
      have HL5 : Hid (LG w u5 b7 #[.int .i64 cd, .slice a1 zs.length c1, .string ck] 26) := HL4.out.step hb5
      have HW5 : Hid (LG w u5 b8 #[.int .i64 cd, .slice a2 zs.length c2, .string ck] 26) := HW4.out.step hb5
      clear hb5 HO4 HR4 HL4 HW4 r0 r1 r2 rl q0 q1 q2 ql
      have r0 := HW5.out.cel 0 _ rfl
      have r1 := HW5.out.cel 1 _ rfl
      have r2 := HW5.out.cel 2 _ rfl
      have rl := HW5.out.lt
      go_wp2_with fail
      refine Calls.mono (markVR_ok 1 HO5.out (by have := HLN.out; omega) (by omega) (by omega) cd ck) ?_
      rintro e u6 ⟨rfl, ho6, hg6⟩
      have HO6 : Hid (u6.ownsRow (b7 + 1) 70 3 (.slice a2 zs.length c2) zs.length (ksR (mkK 1 zs.length))) := ho6
      have hbb : ∀ k, (Value.slice a2 zs.length c2).ownBlock = some k → w.heap.size ≤ k := fun k hk => by have := (HK3.out k hk).1; have := HL5.out.ge; omega
      have HL6 : Hid (LG w u6 b7 #[.int .i64 cd, .slice a1 zs.length c1, .string ck] 26) := HL5.out.grow hg6 (fun e => by have := (HK3.out _ e).1; omega) hbb
      have HW6 : Hid (LG w u6 b8 #[.int .i64 cd, .slice a2 zs.length c2, .string ck] 26) := HW5.out.grow hg6 (fun e => by have := (HK3.out _ e).2; omega) hbb
      have HR6 : Hid (u6.ownsRow w.heap.size 70 3 (.slice a1 zs.length c1) zs.length (ksR zs)) := (show _ from World.ownsRow.kept HR5.out hg6 (by
        rcases hb1 : (Value.slice a1 zs.length c1).ownBlock with _ | k1
        · exact .inl rfl
        · refine .inr fun e => ?_
          have h1 := HK1.out k1 hb1
          have h2 := (HK3.out k1 e.symm).1
          omega))
      clear ho6 hg6 hbb HO5 HR5 HL5 HW5 r0 r1 r2 rl
      obtain ⟨N, hN⟩ : ∃ N : Nat, 1 + 3 * zs.length = N := ⟨_, rfl⟩
      have hNb : N ≤ 13 := by have := HLN.out; omega
      rw [hN]
      have HN : Hid (1 + 3 * zs.length = N) := hN
      clear hN
      have HHE : Hid (∀ u, KSrow u (.slice a2 zs.length c2) (mkK 1 zs.length) → Calls Try.prog 13 #[.agg #[.int .i64 cd, .slice a2 zs.length c2, .string ck], .int .i64 1] u fun e w' => e = .returned (.int .i64 (N : Int)) ∧ Below u.heap.size u w') := (fun u hu => by rw [← HN.out]; exact heldVR_ok 1 zs.length hu (by have := HLN.out; omega) (by omega) (by omega) cd ck)
      have HX6 : Hid (KSrow u6 (.slice a2 zs.length c2) (mkK 1 zs.length)) := KSrow.of (by rw [mkK_len]; exact HO6.out)
      have hn0 : decide ((N : Int) < 0) = false := decide_eq_false (by omega)
      have hn1 : ((N : Int) != (N : Int)) = false := by simp
      have r0 := HW6.out.cel 0 _ rfl
      have r1 := HW6.out.cel 1 _ rfl
      have r2 := HW6.out.cel 2 _ rfl
      have rl := HW6.out.lt
      go_wp2_with fail
      refine Calls.mono (HHE.out _ HX6.out) ?_
      rintro e u7 ⟨rfl, hb7⟩
      have HX7 : Hid (KSrow u7 (.slice a2 zs.length c2) (mkK 1 zs.length)) := HX6.out.below hb7
      have HR7 : Hid (u7.ownsRow w.heap.size 70 3 (.slice a1 zs.length c1) zs.length (ksR zs)) := ks_below HR6.out hb7
      have HL7 : Hid (LG w u7 b7 #[.int .i64 cd, .slice a1 zs.length c1, .string ck] 26) := HL6.out.step hb7
      have HW7 : Hid (LG w u7 b8 #[.int .i64 cd, .slice a2 zs.length c2, .string ck] 26) := HW6.out.step hb7
      clear hb7 HX6 HR6 HL6 HW6 HO6 r0 r1 r2 rl
      go_wp2_with fail
      refine Calls.mono (HIM.out _) ?_
      rintro e u8 ⟨s3, rfl, ho8, hb8⟩
      have HX8 : Hid (KSrow u8 (.slice a2 zs.length c2) (mkK 1 zs.length)) := HX7.out.below hb8
      have HR8 : Hid (KSrow u8 (.slice a1 zs.length c1) zs) := KSrow.of (ks_below HR7.out hb8)
      have HY8 : Hid (KSrow u8 s3 zs) := KSrow.of ho8
      have HL8 : Hid (LG w u8 b7 #[.int .i64 cd, .slice a1 zs.length c1, .string ck] 26) := HL7.out.step hb8
      have HW8 : Hid (LG w u8 b8 #[.int .i64 cd, .slice a2 zs.length c2, .string ck] 26) := HW7.out.step hb8
      obtain ⟨a3, c3, rfl⟩ := ks_sl ho8
      clear ho8 hb8 HX7 HR7 HL7 HW7
      have HX9 : Hid (KSrow (u8.alloc (.cells #[.int .i64 cd, .slice a3 zs.length c3, .string ck] 26)) (.slice a2 zs.length c2) (mkK 1 zs.length)) := HX8.out.below (bx1 _ _)
      have HR9 : Hid (KSrow (u8.alloc (.cells #[.int .i64 cd, .slice a3 zs.length c3, .string ck] 26)) (.slice a1 zs.length c1) zs) := HR8.out.below (bx1 _ _)
      have HY9 : Hid (KSrow (u8.alloc (.cells #[.int .i64 cd, .slice a3 zs.length c3, .string ck] 26)) (.slice a3 zs.length c3) zs) := HY8.out.below (bx1 _ _)
      have HL9 : Hid (LG w (u8.alloc (.cells #[.int .i64 cd, .slice a3 zs.length c3, .string ck] 26)) b7 #[.int .i64 cd, .slice a1 zs.length c1, .string ck] 26) := HL8.out.step (bx1 _ _)
      have HW9 : Hid (LG w (u8.alloc (.cells #[.int .i64 cd, .slice a3 zs.length c3, .string ck] 26)) b8 #[.int .i64 cd, .slice a2 zs.length c2, .string ck] 26) := HW8.out.step (bx1 _ _)
      have HV9 : Hid (LG w (u8.alloc (.cells #[.int .i64 cd, .slice a3 zs.length c3, .string ck] 26)) u8.heap.size #[.int .i64 cd, .slice a3 zs.length c3, .string ck] 26) := ⟨HL9.out.bel, heap_new _ _, HL8.out.bel.size⟩
      clear HX8 HR8 HY8 HL8 HW8
      go_upto_region 18 with fail
      generalize (u8.alloc (.cells #[.int .i64 cd, .slice a3 zs.length c3, .string ck] 26)) = u9 at *
      generalize u8.heap.size = b11 at *
      have r0 := HV9.out.cel 0 _ rfl
      have r1 := HV9.out.cel 1 _ rfl
      have r2 := HV9.out.cel 2 _ rfl
      have rl := HV9.out.lt
      have q0 := HL9.out.cel 0 _ rfl
      have q1 := HL9.out.cel 1 _ rfl
      have q2 := HL9.out.cel 2 _ rfl
      have ql := HL9.out.lt
      go_wp2_with fail
      refine Calls.mono (eqVR_ok HY9.out HR9.out (by have := HLN.out; omega) cd ck) ?_
      rintro e u10 ⟨rfl, hb10⟩
      have HX10 : Hid (KSrow u10 (.slice a2 zs.length c2) (mkK 1 zs.length)) := HX9.out.below hb10
      have HW10 : Hid (LG w u10 b8 #[.int .i64 cd, .slice a2 zs.length c2, .string ck] 26) := HW9.out.step hb10
      clear hb10 HX9 HR9 HY9 HL9 HW9 HV9 r0 r1 r2 rl q0 q1 q2 ql
      have r0 := HW10.out.cel 0 _ rfl
      have r1 := HW10.out.cel 1 _ rfl
      have r2 := HW10.out.cel 2 _ rfl
      have rl := HW10.out.lt
      go_wp2_with fail
      refine Calls.mono (HHE.out _ HX10.out) ?_
      rintro e u11 ⟨rfl, hb11⟩
      have HW11 : Hid (LG w u11 b8 #[.int .i64 cd, .slice a2 zs.length c2, .string ck] 26) := HW10.out.step hb11
      clear hb11
      go_wp2
      go_ret
      exact ⟨rfl, HW11.out.bel⟩
    · go_enter Try.func3, Try.ntmps3
      go_wp2_with fail
      go_ret
      exact ⟨rfl, Below.refl _ _⟩
  · go_enter Try.func3, Try.ntmps3
    go_wp2_with fail
    go_ret
    exact ⟨rfl, Below.refl _ _⟩
end Go.Proofs.Ytpmkgdnoambmgaa
