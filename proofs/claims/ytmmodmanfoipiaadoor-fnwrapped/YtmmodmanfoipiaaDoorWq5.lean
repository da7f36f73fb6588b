import Derived.Test.YtmmodmanfoipiaaDoorWq4
import Derived.Deep.DeepCutAuto
import Derived.Deep.RegionWith
namespace Go.Proofs.YtmmodmanfoipiaaDoor
open Go.ChangeShapes Go.WideShapes Go.ChangeAt Go.RowKit

theorem codeW {w u : World} {a : Option Addr} {len : Nat} (hc : CodeAt w w.heap.size a len) (hb : Below w.heap.size w u) : CodeAt u w.heap.size a len := by
  rcases hc with h | ⟨cb, co, ha, hlt, hcc⟩
  · exact .inl h
  · refine .inr ⟨cb, co, ha, hlt, fun i hi => ?_⟩
    obtain ⟨x, h0, h1, hx⟩ := hcc i hi
    exact ⟨x, h0, h1, (hb.cell (p := ⟨cb, co + i, none⟩) hlt).trans hx⟩
theorem bt_app3W (A P C : ByteArray) (i : Nat) : bt (A ++ P ++ C) i = if i < A.size then bt A i else if i < A.size + P.size then bt P (i - A.size) else bt C (i - A.size - P.size) := by
  have hs : (A ++ P).size = A.size + P.size := ByteArray.size_append
  by_cases h1 : i < A.size
  · rw [if_pos h1, bt_app_l (by omega), bt_app_l h1]
  · rw [if_neg h1]
    by_cases h2 : i < A.size + P.size
    · rw [if_pos h2, bt_app_l (by omega)]
      have := bt_app_r (a := A) (b := P) (k := i - A.size)
      rwa [show A.size + (i - A.size) = i by omega] at this
    · rw [if_neg h2]
      have := bt_app_r (a := A ++ P) (b := C) (k := i - A.size - P.size)
      rwa [show (A ++ P).size + (i - A.size - P.size) = i by omega] at this
theorem bad_b (V : ByteArray) (J : Nat) (b : UInt8) (hJ : J < V.size) : (V.extract 0 J ++ ⟨#[b]⟩ ++ V.extract (J + 1) V.size).size = V.size ∧ bt (V.extract 0 J ++ ⟨#[b]⟩ ++ V.extract (J + 1) V.size) J = (b.toNat : Int) ∧ ∀ i, i ≠ J → bt V i = bt (V.extract 0 J ++ ⟨#[b]⟩ ++ V.extract (J + 1) V.size) i := by
  have z0 : (V.extract 0 J).size = J := by rw [ByteArray.size_extract]; omega
  have z1 : (⟨#[b]⟩ : ByteArray).size = 1 := rfl
  have z2 : (V.extract (J + 1) V.size).size = V.size - (J + 1) := by rw [ByteArray.size_extract]; omega
  refine ⟨by rw [ByteArray.size_append, ByteArray.size_append, z0, z1, z2]; omega, ?_, fun i hi => ?_⟩
  · rw [bt_app3W, z0, z1, if_neg (by omega), if_pos (by omega), Nat.sub_self]
    rfl
  · rw [bt_app3W, z0, z1]
    by_cases h1 : i < J
    · rw [if_pos h1, bt_exW _ _ _ _ (by omega) (by omega), Nat.zero_add]
    · rw [if_neg h1, if_neg (by omega)]
      by_cases h2 : i < V.size
      · rw [bt_exW _ _ _ _ (by omega) (by omega), show J + 1 + (i - J - 1) = i by omega]
      · have e1 : bt V i = 0 := by unfold bt; rw [dif_neg (by omega)]
        have e2 : bt (V.extract (J + 1) V.size) (i - J - 1) = 0 := by unfold bt; rw [dif_neg (by omega)]
        rw [e1, e2]
theorem xorFact (V : ByteArray) (J : Nat) (r1 : Int) (h0 : 0 ≤ r1) (h1 : r1 < 255) : ∃ x : Int, bits .xor .u8 (bt V J) (1 + r1) = x ∧ x = ((UInt8.ofNat x.toNat).toNat : Int) ∧ x ≠ bt V J := by
  obtain ⟨b0, b1⟩ := bt_b V J
  have e0 : 0 ≤ bits .xor .u8 (bt V J) (1 + r1) := (wrap_within .u8 _).1
  have e1 : bits .xor .u8 (bt V J) (1 + r1) ≤ 255 := (wrap_within .u8 _).2
  refine ⟨_, rfl, ?_, ?_⟩
  · rw [UInt8.toNat_ofNat']
    omega
  · have h9 := xorW ⟨(bt V J).toNat, by omega⟩ ⟨(1 + r1).toNat, by omega⟩
    simp only at h9
    rw [show (((bt V J).toNat : Nat) : Int) = bt V J by omega, show (((1 + r1).toNat : Nat) : Int) = 1 + r1 by omega] at h9
    rcases h9 with h9 | h9
    · omega
    · exact h9
set_option maxRecDepth 100000 in
set_option maxHeartbeats 8000000 in
theorem walkFW {w : World} {a0 a1 : Option Addr} {l0 k0 l1 k1 : Nat} (hT : ErrT w) (hc0 : CodeAt w w.heap.size a0 l0) (hc1 : CodeAt w w.heap.size a1 l1) : Calls Tryd.prog 3 #[.slice a0 l0 k0, .slice a1 l1 k1] w fun e w' => e = .returned (.bool true) ∧ Below w.heap.size w w' := by
  by_cases h0 : l0 ≤ 1048576
  case neg =>
    have h0' : decide ((1048576 : Int) < (l0 : Int)) = true := decide_eq_true (by omega)
    clear h0
    go_enter Tryd.func3, Tryd.ntmps3
    go_wp2_with fail
    go_ret
    exact ⟨rfl, Below.refl _ _⟩
  have h0' : decide ((1048576 : Int) < (l0 : Int)) = false := decide_eq_false (by omega)
  by_cases h1 : l1 ≤ 1048576
  case neg =>
    have h1' : decide ((1048576 : Int) < (l1 : Int)) = true := decide_eq_true (by omega)
    clear h0 h1
    go_enter Tryd.func3, Tryd.ntmps3
    go_wp2_with fail
    go_ret
    exact ⟨rfl, Below.refl _ _⟩
  have h1' : decide ((1048576 : Int) < (l1 : Int)) = false := decide_eq_false (by omega)
  have HD : Hid (Calls Tryd.prog 4 #[.slice a0 l0 k0] w fun e w' => ∃ s d n t k fr tt, e = .returned (.tuple #[.agg #[.int .i64 s, .int .i64 d, .int .i64 n, .string t], .int .i64 k, .int .i64 fr, .int .i64 tt]) ∧ Below w.heap.size w w') := drawWrap_any a0 l0 k0 w hc0 h0
  have HC : Hid (CodeAt w w.heap.size a1 l1) := hc1
  have HT : Hid (ErrT w) := hT
  have HL1 : Hid (l1 ≤ 1048576) := h1
  clear hT hc0 hc1 h0 h1
  go_enter Tryd.func3, Tryd.ntmps3
  go_upto_region 4 with (go_at_call 4; refine Calls.mono HD.out ?_; rintro e u1 ⟨s, d, n, t, k, fr, tt, rfl, hb1⟩; have HB1 : Hid (Below w.heap.size w u1) := hb1; clear hb1 HD)
  have HF : Hid (LG w (u1.alloc (.cells #[.int .i64 s, .int .i64 d, .int .i64 n, .string t] 24)) u1.heap.size #[.int .i64 s, .int .i64 d, .int .i64 n, .string t] 24) := ⟨HB1.out.trans ((bx1 _ _).mono HB1.out.size), heap_new _ _, HB1.out.size⟩
  clear HB1
  generalize (u1.alloc (.cells #[.int .i64 s, .int .i64 d, .int .i64 n, .string t] 24)) = u2 at *
  generalize u1.heap.size = p at *
  have HIM : Hid (∀ u, Calls Tryd.prog 5 #[.agg #[.int .i64 s, .int .i64 d, .int .i64 n, .string t], .int .i64 k, .int .i64 fr, .int .i64 tt] u fun e w' => e = .returned (.string (wfV ⟨s, d, n, t⟩ k fr tt)) ∧ Below u.heap.size u w') := fun u => by
    have h9 := implWF_any ⟨s, d, n, t⟩ k fr tt u
    unfold frA frC at h9
    simp only at h9
    exact h9
  have HSP : Hid (∀ u, Calls Tryd.prog 6 #[.agg #[.int .i64 s, .int .i64 d, .int .i64 n, .string t], .int .i64 k, .int .i64 fr, .int .i64 tt] u fun e w' => e = .returned (.string (wfV ⟨s, d, n, t⟩ k fr tt)) ∧ Below u.heap.size u w') := fun u => by
    have h9 := specWF_any ⟨s, d, n, t⟩ k fr tt u
    unfold frA frC at h9
    simp only at h9
    exact h9
  have hcase : (wfV ⟨s, d, n, t⟩ k fr tt = ⟨#[]⟩) ∨ (wfB ⟨s, d, n, t⟩ k fr tt = true ∧ wfV ⟨s, d, n, t⟩ k fr tt = wS ⟨s, d, n, t⟩ k fr tt) := by
    by_cases hw : wfB ⟨s, d, n, t⟩ k fr tt = true
    · right; exact ⟨hw, if_pos hw⟩
    · left; exact if_neg hw
  rcases hcase with hV | ⟨hw, hV⟩
  · rw [hV] at HIM HSP
    have hV0 : ((⟨#[]⟩ : ByteArray).toList == (⟨#[]⟩ : ByteArray).toList) = true := by simp
    have hV1 : (⟨#[]⟩ : ByteArray).toList.isEmpty = true := by decide +kernel
    clear hV
    obtain ⟨c0, c1, c2, c3⟩ : u2.cell? ⟨p, 0, none⟩ = _ ∧ u2.cell? ⟨p, 1, none⟩ = _ ∧ u2.cell? ⟨p, 2, none⟩ = _ ∧ u2.cell? ⟨p, 3, none⟩ = _ := ⟨HF.out.cel 0 _ rfl, HF.out.cel 1 _ rfl, HF.out.cel 2 _ rfl, HF.out.cel 3 _ rfl⟩
    have cl := HF.out.lt
    go_wp2_with fail
    refine Calls.mono (HIM.out _) ?_
    rintro e u3 ⟨rfl, hb3⟩
    have HF3 : Hid (LG w u3 p #[.int .i64 s, .int .i64 d, .int .i64 n, .string t] 24) := HF.out.step hb3
    clear hb3 c0 c1 c2 c3 cl HF
    obtain ⟨c0, c1, c2, c3⟩ : u3.cell? ⟨p, 0, none⟩ = _ ∧ u3.cell? ⟨p, 1, none⟩ = _ ∧ u3.cell? ⟨p, 2, none⟩ = _ ∧ u3.cell? ⟨p, 3, none⟩ = _ := ⟨HF3.out.cel 0 _ rfl, HF3.out.cel 1 _ rfl, HF3.out.cel 2 _ rfl, HF3.out.cel 3 _ rfl⟩
    have cl := HF3.out.lt
    go_wp2_with fail
    refine Calls.mono (HSP.out _) ?_
    rintro e u4 ⟨rfl, hb4⟩
    have HF4 : Hid (LG w u4 p #[.int .i64 s, .int .i64 d, .int .i64 n, .string t] 24) := HF3.out.step hb4
    clear hb4 c0 c1 c2 c3 cl HF3
    go_wp2
    go_ret
    exact ⟨rfl, HF4.out.bel⟩
  have hzw := wS_size ⟨s, d, n, t⟩ k fr tt
  have htz := (wfB_iff hw).2.2.2.2.2.2.2.2.2.2.2.2.2
  have HA : Hid (uwA (wS ⟨s, d, n, t⟩ k fr tt) = frD ⟨k, fr, tt, s, d, n, t, (t.size : Int)⟩) := unwrap_wS ⟨s, d, n, t⟩ k fr tt hw
  have HBD : Hid (∀ (b : ByteArray) (j : Nat), b.size = (wS ⟨s, d, n, t⟩ k fr tt).size → j < b.size → bt (wS ⟨s, d, n, t⟩ k fr tt) j ≠ bt b j → (∀ i, i ≠ j → bt (wS ⟨s, d, n, t⟩ k fr tt) i = bt b i) → ∃ c : Int, c ≠ 0 ∧ uwA b = frX c) := fun b j => unwrap_bad ⟨s, d, n, t⟩ k fr tt hw b j
  rw [hV] at HIM HSP
  clear hV hw
  generalize wS ⟨s, d, n, t⟩ k fr tt = V at *
  simp only at hzw htz
  have hV9 : V.size ≤ 1533 ∧ 33 ≤ V.size := ⟨by omega, by omega⟩
  clear hzw htz
  have HVZ : Hid (V.size ≤ 1533 ∧ 33 ≤ V.size) := hV9
  have hV0 : (V.toList == V.toList) = true := by simp
  have hV1 : V.toList.isEmpty = false := isE_W (by omega)
  have HUW : Hid (∀ u, Below w.heap.size w u → Calls Tryd.prog 7 #[.string V] u fun e w' => e = .returned (.agg #[.int .i64 0, .int .i64 k, .int .i64 fr, .int .i64 tt, .int .i64 s, .int .i64 d, .int .i64 n, .string t]) ∧ Below u.heap.size u w') := fun u hu => by
    have h9 := unwrap_any V u (HT.out.on hu)
    rw [HA.out] at h9
    exact h9
  clear HA hV9
  obtain ⟨c0, c1, c2, c3⟩ : u2.cell? ⟨p, 0, none⟩ = _ ∧ u2.cell? ⟨p, 1, none⟩ = _ ∧ u2.cell? ⟨p, 2, none⟩ = _ ∧ u2.cell? ⟨p, 3, none⟩ = _ := ⟨HF.out.cel 0 _ rfl, HF.out.cel 1 _ rfl, HF.out.cel 2 _ rfl, HF.out.cel 3 _ rfl⟩
  have cl := HF.out.lt
  go_wp2_with fail
  refine Calls.mono (HIM.out _) ?_
  rintro e u3 ⟨rfl, hb3⟩
  have HF3 : Hid (LG w u3 p #[.int .i64 s, .int .i64 d, .int .i64 n, .string t] 24) := HF.out.step hb3
  clear hb3 c0 c1 c2 c3 cl HF
  obtain ⟨c0, c1, c2, c3⟩ : u3.cell? ⟨p, 0, none⟩ = _ ∧ u3.cell? ⟨p, 1, none⟩ = _ ∧ u3.cell? ⟨p, 2, none⟩ = _ ∧ u3.cell? ⟨p, 3, none⟩ = _ := ⟨HF3.out.cel 0 _ rfl, HF3.out.cel 1 _ rfl, HF3.out.cel 2 _ rfl, HF3.out.cel 3 _ rfl⟩
  have cl := HF3.out.lt
  go_wp2_with fail
  refine Calls.mono (HSP.out _) ?_
  rintro e u4 ⟨rfl, hb4⟩
  have HF4 : Hid (LG w u4 p #[.int .i64 s, .int .i64 d, .int .i64 n, .string t] 24) := HF3.out.step hb4
  clear hb4 c0 c1 c2 c3 cl HF3 HIM HSP
  go_wp2_with fail
  refine Calls.mono (HUW.out _ HF4.out.bel) ?_
  rintro e u5 ⟨rfl, hb5⟩
  have HF5 : Hid (LG w u5 p #[.int .i64 s, .int .i64 d, .int .i64 n, .string t] 24) := HF4.out.step hb5
  clear hb5 HF4 HUW
  go_upto_region 10 with fail
  have HF6 : Hid (LG w (u5.alloc (.cells #[.int .i64 0, .int .i64 k, .int .i64 fr, .int .i64 tt, .int .i64 s, .int .i64 d, .int .i64 n, .string t] 29)) p #[.int .i64 s, .int .i64 d, .int .i64 n, .string t] 24) := HF5.out.step (bx1 _ _)
  have HR6 : Hid (LG w (u5.alloc (.cells #[.int .i64 0, .int .i64 k, .int .i64 fr, .int .i64 tt, .int .i64 s, .int .i64 d, .int .i64 n, .string t] 29)) u5.heap.size #[.int .i64 0, .int .i64 k, .int .i64 fr, .int .i64 tt, .int .i64 s, .int .i64 d, .int .i64 n, .string t] 29) := ⟨HF6.out.bel, heap_new _ _, HF5.out.bel.size⟩
  clear HF5
  generalize (u5.alloc (.cells #[.int .i64 0, .int .i64 k, .int .i64 fr, .int .i64 tt, .int .i64 s, .int .i64 d, .int .i64 n, .string t] 29)) = u6 at *
  generalize u5.heap.size = q at *
  have hne := fun w => neFrW s d n t w
  obtain ⟨c0, c1, c2, c3⟩ : u6.cell? ⟨p, 0, none⟩ = _ ∧ u6.cell? ⟨p, 1, none⟩ = _ ∧ u6.cell? ⟨p, 2, none⟩ = _ ∧ u6.cell? ⟨p, 3, none⟩ = _ := ⟨HF6.out.cel 0 _ rfl, HF6.out.cel 1 _ rfl, HF6.out.cel 2 _ rfl, HF6.out.cel 3 _ rfl⟩
  have cl := HF6.out.lt
  obtain ⟨d0, d1, d2, d3, d4, d5, d6, d7⟩ : u6.cell? ⟨q, 0, none⟩ = _ ∧ u6.cell? ⟨q, 1, none⟩ = _ ∧ u6.cell? ⟨q, 2, none⟩ = _ ∧ u6.cell? ⟨q, 3, none⟩ = _ ∧ u6.cell? ⟨q, 4, none⟩ = _ ∧ u6.cell? ⟨q, 5, none⟩ = _ ∧ u6.cell? ⟨q, 6, none⟩ = _ ∧ u6.cell? ⟨q, 7, none⟩ = _ := ⟨HR6.out.cel 0 _ rfl, HR6.out.cel 1 _ rfl, HR6.out.cel 2 _ rfl, HR6.out.cel 3 _ rfl, HR6.out.cel 4 _ rfl, HR6.out.cel 5 _ rfl, HR6.out.cel 6 _ rfl, HR6.out.cel 7 _ rfl⟩
  have dl := HR6.out.lt
  have HLW : Hid (Calls Tryd.prog 8 #[.slice a1 l1 k1, .int .i64 0, .int .i64 256] u6 fun e w' => ∃ r : Int, e = .returned (.int .i64 r) ∧ 0 ≤ r ∧ r < 256 ∧ Below u6.heap.size u6 w') := (lwAtW a1 l1 k1 0 256 u6 (by omega) (by omega) (by omega) HL1.out (codeW HC.out HF6.out.bel)).mono fun e w' ⟨r, h1, h2, h3, h4⟩ => ⟨r, h1, h2, h3, by rw [h4]; exact Below.refl _ _⟩
  have HLX : Hid (∀ u, Below w.heap.size w u → Calls Tryd.prog 8 #[.slice a1 l1 k1, .int .i64 1, .int .i64 255] u fun e w' => ∃ r : Int, e = .returned (.int .i64 r) ∧ 0 ≤ r ∧ r < 255 ∧ Below u.heap.size u w') := fun u hu => (lwAtW a1 l1 k1 1 255 u (by omega) (by omega) (by omega) HL1.out (codeW HC.out hu)).mono fun e w' ⟨r, h1, h2, h3, h4⟩ => ⟨r, h1, h2, h3, by rw [h4]; exact Below.refl _ _⟩
  go_wp2_with fail
  refine Calls.mono HLW.out ?_
  rintro e u7 ⟨r0, rfl, r00, r01, hb7⟩
  have HBA : Hid (Below w.heap.size w u7) := HF6.out.bel.trans (hb7.mono HF6.out.bel.size)
  obtain ⟨J, hJ0, hJ1⟩ : ∃ J : Nat, r0.tmod (V.size : Int) = (J : Int) ∧ J < V.size := ⟨(r0.tmod (V.size : Int)).toNat, by have := Int.tmod_nonneg (V.size : Int) r00; omega, by have h1 := Int.tmod_nonneg (V.size : Int) r00; have h2 := Int.tmod_lt_of_pos r0 (show (0 : Int) < (V.size : Int) by have := HVZ.out; omega); omega⟩
  have hvz : ¬ (V.size : Int) = 0 := by have := HVZ.out; omega
  clear HLW c0 c1 c2 c3 cl d0 d1 d2 d3 d4 d5 d6 d7 dl hne hV0 hV1 HR6 r01 hb7 HF6 HL1 HC
  go_upto_region 13 with fail
  clear hJ0 r00 hvz
  have f78 := sl_to V J (by omega)
  have f93 : ∀ w : World, Sem.run Tryd.prog (Instr.slice 9 (.string V) (some (.int .i64 ((J : Int) + 1))) none none) w = .ok (.string (V.extract (J + 1) V.size)) w := fun w => by have h := sl_fromW V (J + 1) (by omega) w; simpa using h
  have f81 : ∀ w : World, Sem.run Tryd.prog (Instr.index 9 (.string V) (.int .i64 (J : Int))) w = .ok (.int .u8 (bt V J)) w := fun w => idx_str V J hJ1 w J rfl
  have w92 : IntKind.i64.wrap ((J : Int) + 1) = (J : Int) + 1 := by rw [IntKind.wrap_i64]; have := HVZ.out; omega
  refine wp_region_held (S := fun w' => Below w.heap.size w w') (by kernel_rfl) ?_
  change wpAnyH _ _ _ _ _ _ _ _ (World.drew _)
  refine wpAnyH_take (i := 0) (v := .string V) rfl (by kernel_rfl) (by kernel_rfl) (by kernel_rfl) (fun _ _ _ h => h) (Or.inl ⟨by kernel_rfl, fun w9 h9 => ?_⟩) HBA.out.drew ?_
  · go_simp
  refine wpAnyH_take (i := 1) (v := .int .i64 (J : Int)) rfl (by kernel_rfl) (by kernel_rfl) (by kernel_rfl) (fun _ _ _ h => h) (Or.inl ⟨by kernel_rfl, fun w9 h9 => ?_⟩) HBA.out.drew ?_
  · go_simp
  refine wpAnyH_take (i := 2) (v := .string (V.extract 0 J)) rfl (by kernel_rfl) (by kernel_rfl) (by kernel_rfl) (fun _ _ _ h => h) (Or.inl ⟨by kernel_rfl, fun w9 h9 => ?_⟩) HBA.out.drew ?_
  · go_simp
  refine wpAnyH_take (i := 3) (v := .string V) rfl (by kernel_rfl) (by kernel_rfl) (by kernel_rfl) (fun _ _ _ h => h) (Or.inl ⟨by kernel_rfl, fun w9 h9 => ?_⟩) HBA.out.drew ?_
  · go_simp
  refine wpAnyH_take (i := 4) (v := .int .i64 (J : Int)) rfl (by kernel_rfl) (by kernel_rfl) (by kernel_rfl) (fun _ _ _ h => h) (Or.inl ⟨by kernel_rfl, fun w9 h9 => ?_⟩) HBA.out.drew ?_
  · go_simp
  refine wpAnyH_take (i := 5) (v := .int .u8 (bt V J)) rfl (by kernel_rfl) (by kernel_rfl) (by kernel_rfl) (fun _ _ _ h => h) (Or.inl ⟨by kernel_rfl, fun w9 h9 => ?_⟩) HBA.out.drew ?_
  · go_simp
  refine wpAnyH_take (i := 6) (v := .slice a1 l1 k1) rfl (by kernel_rfl) (by kernel_rfl) (by kernel_rfl) (fun _ _ _ h => h) (Or.inl ⟨by kernel_rfl, fun w9 h9 => ?_⟩) HBA.out.drew ?_
  · go_simp
  refine wpAnyH_take (i := 14) (v := .string V) rfl (by kernel_rfl) (by kernel_rfl) (by kernel_rfl) (fun _ _ _ h => h) (Or.inl ⟨by kernel_rfl, fun w9 h9 => ?_⟩) HBA.out.drew ?_
  · go_simp
  refine wpAnyH_take (i := 15) (v := .int .i64 (J : Int)) rfl (by kernel_rfl) (by kernel_rfl) (by kernel_rfl) (fun _ _ _ h => h) (Or.inl ⟨by kernel_rfl, fun w9 h9 => ?_⟩) HBA.out.drew ?_
  · go_simp
  refine wpAnyH_take (i := 16) (v := .int .i64 ((J : Int) + 1)) rfl (by kernel_rfl) (by kernel_rfl) (by kernel_rfl) (fun _ _ _ h => h) (Or.inl ⟨by kernel_rfl, fun w9 h9 => ?_⟩) HBA.out.drew ?_
  · go_simp
  refine wpAnyH_take (i := 17) (v := .string (V.extract (J + 1) V.size)) rfl (by kernel_rfl) (by kernel_rfl) (by kernel_rfl) (fun _ _ _ h => h) (Or.inl ⟨by kernel_rfl, fun w9 h9 => ?_⟩) HBA.out.drew ?_
  · go_simp
  refine held_one 7 (by kernel_rfl) rfl (by kernel_rfl) fun K hK => ?_
  go_simp
  go_wp2_with (go_at_call 8; refine Calls.mono (HLX.out _ HBA.out.drew) ?_; rintro e u8 ⟨r1, rfl, r10, r11, hb8⟩; have HB8 : Hid (Below w.heap.size w u8) := HBA.out.drew.trans (hb8.mono HBA.out.drew.size); clear hb8)
  refine hK _ _ HB8.out ?_
  clear hK K HLX
  have w84 : IntKind.i64.wrap (1 + r1) = 1 + r1 := by rw [IntKind.wrap_i64]; omega
  have w85 : IntKind.u8.wrap (1 + r1) = 1 + r1 := by unfold IntKind.wrap; simp [IntKind.bits, IntKind.signed]; omega
  obtain ⟨x, hx, hbx, hxn⟩ := xorFact V J r1 r10 r11
  generalize hbb : UInt8.ofNat x.toNat = b at hbx
  have HBX : Hid (x = (b.toNat : Int)) := hbx
  clear hbx hbb
  refine wpAnyH_take (i := 8) (v := .int .i64 (1 + r1)) rfl (by kernel_rfl) (by kernel_rfl) (by kernel_rfl) (fun _ _ _ h => h) (Or.inl ⟨by kernel_rfl, fun w9 h9 => ?_⟩) HB8.out ?_
  · go_simp
  refine wpAnyH_take (i := 9) (v := .int .u8 (1 + r1)) rfl (by kernel_rfl) (by kernel_rfl) (by kernel_rfl) (fun _ _ _ h => h) (Or.inl ⟨by kernel_rfl, fun w9 h9 => ?_⟩) HB8.out ?_
  · go_simp
  refine wpAnyH_take (i := 10) (v := .int .u8 x) rfl (by kernel_rfl) (by kernel_rfl) (by kernel_rfl) (fun _ _ _ h => h) (Or.inl ⟨by kernel_rfl, fun w9 h9 => ?_⟩) HB8.out ?_
  · go_simp
  refine held_one 11 (by kernel_rfl) rfl (by kernel_rfl) fun K hK => ?_
  go_simp
  have HBB : Hid (Below w.heap.size w (u8.alloc (.cells #[.int .u8 x] 5))) := HB8.out.trans ((bx1 _ _).mono HB8.out.size)
  have hc9 : (u8.alloc (.cells #[.int .u8 x] 5)).cell? ⟨u8.heap.size, 0, none⟩ = some (.int .u8 x) := cel9 (u := (u8.alloc (.cells #[.int .u8 x] 5))) (heap_new u8 _) 0 _ rfl
  have HCV : Hid (Sem.run Tryd.prog (convert 22 9 (.slice (some ⟨u8.heap.size, 0, none⟩) 1 1)) (u8.alloc (.cells #[.int .u8 x] 5)) = .ok (.string ⟨#[b]⟩) (u8.alloc (.cells #[.int .u8 x] 5))) := conv1W b x HBX.out (u8.alloc (.cells #[.int .u8 x] 5)) u8.heap.size hc9
  clear hc9
  refine hK _ _ HBB.out ?_
  clear hK K
  refine held_one 12 (by kernel_rfl) rfl (by kernel_rfl) fun K hK => ?_
  have e1 := HCV.out
  go_simp
  refine hK _ _ HBB.out ?_
  clear hK K e1
  refine wpAnyH_take (i := 13) (v := .string (V.extract 0 J ++ ⟨#[b]⟩)) rfl (by kernel_rfl) (by kernel_rfl) (by kernel_rfl) (fun _ _ _ h => h) (Or.inl ⟨by kernel_rfl, fun w9 h9 => ?_⟩) HBB.out ?_
  · clear h9; go_simp; have := HVZ.out; omega
  refine wpAnyH_take (i := 18) (v := .string (V.extract 0 J ++ ⟨#[b]⟩ ++ V.extract (J + 1) V.size)) rfl (by kernel_rfl) (by kernel_rfl) (by kernel_rfl) (fun _ _ _ h => h) (Or.inl ⟨by kernel_rfl, fun w9 h9 => ?_⟩) HBB.out ?_
  · clear h9; go_simp; have := HVZ.out; omega
  refine wpAnyH_take (i := 19) (v := .string (V.extract 0 J ++ ⟨#[b]⟩ ++ V.extract (J + 1) V.size)) rfl (by kernel_rfl) (by kernel_rfl) (by kernel_rfl) (fun _ _ _ h => h) (Or.inl ⟨by kernel_rfl, fun w9 h9 => ?_⟩) HBB.out ?_
  · go_simp
  refine wpAnyH_done (by kernel_rfl) ?_ _
  go_simp
  obtain ⟨y0, y1, y2⟩ := bad_b V J b hJ1
  obtain ⟨c, hc, hZ⟩ := HBD.out (V.extract 0 J ++ ⟨#[b]⟩ ++ V.extract (J + 1) V.size) J y0 (by rw [y0]; exact hJ1) (by rw [y1, ← HBX.out]; exact fun e => hxn e.symm) y2
  clear y0 y1 y2 HBD HBX HCV hx hxn f78 f81 f93 w92 w84 w85 hJ1 HVZ
  generalize V.extract 0 J ++ ⟨#[b]⟩ ++ V.extract (J + 1) V.size = Z at *
  generalize (u8.alloc (.cells #[.int .u8 x] 5)) = u9 at *
  have HUB : Hid (∀ u, Below w.heap.size w u → Calls Tryd.prog 7 #[.string Z] u fun e w' => e = .returned (.agg #[.int .i64 c, .int .i64 0, .int .i64 0, .int .i64 0, .int .i64 0, .int .i64 0, .int .i64 0, .string ⟨#[]⟩]) ∧ Below u.heap.size u w') := fun u hu => by
    have h9 := unwrap_any Z u (HT.out.on hu)
    rw [hZ] at h9
    exact h9
  have HSB : Hid (∀ u, Calls Tryd.prog 9 #[.string Z] u fun e w' => e = .returned (.agg #[.int .i64 c, .int .i64 0, .int .i64 0, .int .i64 0, .int .i64 0, .int .i64 0, .int .i64 0, .string ⟨#[]⟩]) ∧ Below u.heap.size u w') := fun u => by
    have h9 := sw_any Z u
    rw [uwZ_eq, hZ] at h9
    exact h9
  have hf := fld0W c 0 0 0 0 0 0 ⟨#[]⟩
  have hcb : (c != 0) = true := by simpa using hc
  clear hZ hc HT
  go_wp2_with fail
  refine Calls.mono (HUB.out _ HBB.out) ?_
  rintro e v1 ⟨rfl, hv1⟩
  have HV1 : Hid (Below w.heap.size w v1) := HBB.out.trans (hv1.mono HBB.out.size)
  clear hv1
  go_wp2_with fail
  refine Calls.mono (HSB.out _) ?_
  rintro e v2 ⟨rfl, hv2⟩
  have HV2 : Hid (Below w.heap.size w v2) := HV1.out.trans (hv2.mono HV1.out.size)
  clear hv2
  go_wp2_with fail
  refine Calls.mono (HUB.out _ HV2.out) ?_
  rintro e v3 ⟨rfl, hv3⟩
  have HV3 : Hid (Below w.heap.size w v3) := HV2.out.trans (hv3.mono HV2.out.size)
  clear hv3
  go_wp2
  go_ret
  exact ⟨rfl, HV3.out⟩
end Go.Proofs.YtmmodmanfoipiaaDoor
