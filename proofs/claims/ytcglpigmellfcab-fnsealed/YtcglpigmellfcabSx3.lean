import Derived.Test.YtcglpigmellfcabSx2
import Derived.BigQuiet
namespace Go.Proofs.Ytcglpigmellfcab
open Go.ChangeShapes Go.WideShapes Go.ChangeAt Go.RowKit

set_option maxRecDepth 100000 in
set_option maxHeartbeats 4000000 in
theorem lwAt8 (a : Option Addr) (len cap i : Nat) (w : World) (hi : i ≤ 9) (hl : len ≤ 1048576) {B : Nat} (hc : CodeAt w B a len) : Calls Try.prog 15 #[.slice a len cap, .int .i64 (i : Int), .int .i64 200] w fun e w' => ∃ r : Int, e = .returned (.int .i64 r) ∧ 0 ≤ r ∧ r < 200 ∧ w' = w := by
  by_cases h0 : len = 0
  · subst h0
    go_enter Try.func15, Try.ntmps15
    go_wp2
    go_ret
    exact ⟨0, rfl, by omega, by omega, rfl⟩
  · rcases hc with hc0 | ⟨cb, co, rfl, hcb, hcc⟩
    · exact absurd hc0 h0
    · have hm : i % len < len := Nat.mod_lt _ (by omega)
      obtain ⟨x, hx0, hx1, hx⟩ := hcc (i % len) hm
      have hrem : ((i : Int)).tmod (len : Int) = ((i % len : Nat) : Int) := by
        rw [Int.tmod_eq_emod_of_nonneg (by omega)]
        omega
      generalize i % len = R at *
      have l1 : ¬ (len : Int) = 0 := by omega
      have l2 : (0 : Int) ≤ (R : Int) := by omega
      have l3 : (R : Int) < (len : Int) := by omega
      obtain ⟨Y, hY⟩ : ∃ Y, x.tmod 200 = Y := ⟨_, rfl⟩
      have hY0 : 0 ≤ Y ∧ Y < 200 := by rw [← hY, Int.tmod_eq_emod_of_nonneg hx0]; omega
      clear hcc
      go_enter Try.func15, Try.ntmps15
      go_wp2
      go_ret
      exact ⟨Y, rfl, hY0.1, hY0.2, rfl⟩
theorem rgB_set {zs : List Int} (h : rgB zs = true) (k : Nat) (r : Int) (h0 : 0 ≤ r) (h1 : r < 200) : rgB (zs.set k r) = true := by
  simp only [rgB, Bool.and_eq_true, decide_eq_true_eq, List.length_set] at h ⊢
  refine ⟨h.1, ?_⟩
  rw [List.all_eq_true] at h ⊢
  intro x hx
  rcases List.mem_or_eq_of_mem_set hx with hx | rfl
  · exact h.2 x hx
  · simp only [isW, Bool.and_eq_true, decide_eq_true_eq]
    omega
theorem own_at8 {w : World} {B g c n : Nat} {ys : List Int} (h : w.ownsRow B 2 1 (.slice (some ⟨g, 0, none⟩) n c) n (iR ys)) (k : Nat) (hk : k < ys.length) :
    (∃ y, w.cell? ⟨g, k, none⟩ = some (.int .i64 y)) ∧ w.frozen? ⟨g, k, none⟩ = false ∧ ∀ r : Int, (w.setCell ⟨g, k, none⟩ (.int .i64 r)).ownsRow B 2 1 (.slice (some ⟨g, 0, none⟩) n c) n (iR (ys.set k r)) ∧ w.grownBy (w.setCell ⟨g, k, none⟩ (.int .i64 r)) (some g) := by
  have hl := h.1
  have hn : ys.length = n := by simpa [iR] using hl
  have hc := h.cellAt k (by omega)
  refine ⟨⟨ys[k], by rw [hc]; simp [iR, hk]⟩, h.frozenAt k, fun r => ?_⟩
  obtain ⟨q1, q2⟩ := h.stored k (.int .i64 r)
  have e : (iR ys).set k (.int .i64 r) = iR (ys.set k r) := by simp [iR, List.map_set]
  rw [e] at q1
  exact ⟨q1, q2⟩
theorem irow_of8 {w : World} {B n : Nat} {v : Value} {ys : List Int} (h : w.ownsRow B 2 1 v n (iR ys)) (hn : ys.length = n) : Irow w v ys := by
  subst hn
  exact Irow.of h
set_option maxRecDepth 100000 in
set_option maxHeartbeats 8000000 in
theorem walkSL (a b : Option Addr) (len cap lenb capb : Nat) (w : World) (hcode : CodeAt w w.heap.size a len) (hmore : CodeAt w w.heap.size b lenb) (hl : len ≤ 1048576) (hlb : lenb ≤ 1048576) :
    Calls Try.prog 8 #[.slice a len cap, .slice b lenb capb] w fun e w' => e = .returned (.bool true) ∧ Below w.heap.size w w' := by
  have HC : Hid (CodeAt w w.heap.size a len) := hcode
  have HCM : Hid (∀ u, Below w.heap.size w u → CodeAt u u.heap.size b lenb) := fun u hu => hmore.below hu
  clear hcode hmore
  have e0 : decide (1048576 < (len : Int)) = false := decide_eq_false (by omega)
  have e1 : decide (1048576 < (lenb : Int)) = false := decide_eq_false (by omega)
  go_enter Try.func8, Try.ntmps8
  go_wp2_with fail
  refine (drawSeal_any a len cap w HC.out hl).mono ?_
  rintro e w1 ⟨r, v, zs, m, d, rfl, hr, hd, hv, hz, hb1⟩
  have HB1 : Hid (Below w.heap.size w w1) := hb1
  have HV : Hid (Irow w1 v zs) := hv.irow
  obtain ⟨av, cv, rfl⟩ := hv.irow.sl
  have hl9 : zs.length ≤ 1048576 := by omega
  obtain ⟨x, hx⟩ : ∃ x, seV r zs m d = x := ⟨_, rfl⟩
  have HIS : Hid (∀ u, Aft w1 u → Calls Try.prog 32 #[.string r, .slice av zs.length cv, .int .i64 m, .string d] u fun e w' => e = .returned (.agg #[.int .i64 x.code, .int .i64 x.mask, .string x.data, .string x.tag]) ∧ Below u.heap.size u w') := fun u hu => by have h9 := implSeal_any (HV.out.below hu.out) hl9 r m d; rw [hx] at h9; exact h9
  have HSS : Hid (∀ u, Aft w1 u → Calls Try.prog 33 #[.string r, .slice av zs.length cv, .int .i64 m, .string d] u fun e w' => e = .returned (.agg #[.int .i64 x.code, .int .i64 x.mask, .string x.data, .string x.tag]) ∧ Below u.heap.size u w') := fun u hu => by have h9 := specSeal_any (HV.out.below hu.out) hl9 r m d; rw [hx] at h9; exact h9
  have HIU : Hid (x.code = 0 → ∀ (u : World) (v2 : Value) (ys : List Int), Irow u v2 ys → ys.length = zs.length → rgB ys = true → (∀ k, k < zs.length → mkT m k = true → ys.getD k 0 = zs.getD k 0) → Calls Try.prog 34 #[.string r, v2, .agg #[.int .i64 x.code, .int .i64 x.mask, .string x.data, .string x.tag]] u fun e w' => e = .returned (.agg #[.int .i64 0, .string d]) ∧ Below u.heap.size u w') := fun hc u v2 ys h1 h2 h3 h4 => by
    have h9 := implUnseal_any h1 (by omega) r x
    have hs : scC r zs m d = 0 := by
      rcases scC_is r zs m d with h | h | h
      · exact h
      · exfalso
        rw [← hx] at hc
        simp [seV, h] at hc
      · exfalso
        rw [← hx] at hc
        simp [seV, h] at hc
    have h10 : unV r ys x = ⟨0, d⟩ := by rw [← hx]; exact un_seal hs h2 h3 h4
    rw [h10] at h9
    exact h9
  have HRG : Hid (x.code = 0 → rgB zs = true ∧ 0 ≤ m ∧ m < 256) := fun hc => by
    have hs : scC r zs m d = 0 := by
      rcases scC_is r zs m d with h | h | h
      · exact h
      · exfalso
        rw [← hx] at hc
        simp [seV, h] at hc
      · exfalso
        rw [← hx] at hc
        simp [seV, h] at hc
    have h9 := scC_ok hs
    exact ⟨h9.2.2.2.1, h9.2.2.2.2.1, h9.2.2.2.2.2.2.1⟩
  clear hv hb1 hx
  go_wp2_with fail
  refine Calls.mono (HIS.out _ ⟨Below.refl _ _⟩) ?_
  rintro e w2 ⟨rfl, hu⟩
  have HL9 : Hid (LG w1 (w2.alloc (.cells #[.int .i64 x.code, .int .i64 x.mask, .string x.data, .string x.tag] 74)) w2.heap.size #[.int .i64 x.code, .int .i64 x.mask, .string x.data, .string x.tag] 74) := ⟨hu.alloc hu.size _, heap_new _ _, hu.size⟩
  clear hu
  go_wp2_with fail
  generalize (w2.alloc (.cells #[.int .i64 x.code, .int .i64 x.mask, .string x.data, .string x.tag] 74)) = w3 at *
  generalize w2.heap.size = b9 at *
  refine Calls.mono (HSS.out _ HL9.out.aft) ?_
  rintro e w4 ⟨rfl, hu⟩
  have HL9b : Hid (LG w1 (w4.alloc (.cells #[.int .i64 x.code, .int .i64 x.mask, .string x.data, .string x.tag] 74)) b9 #[.int .i64 x.code, .int .i64 x.mask, .string x.data, .string x.tag] 74) := (HL9.out.step hu).step (bx1 _ _)
  have HL10 : Hid (LG w1 (w4.alloc (.cells #[.int .i64 x.code, .int .i64 x.mask, .string x.data, .string x.tag] 74)) w4.heap.size #[.int .i64 x.code, .int .i64 x.mask, .string x.data, .string x.tag] 74) := ⟨HL9b.out.bel, heap_new _ _, (HL9.out.step hu).bel.size⟩
  clear hu HL9 HIS HSS
  go_upto_region 6 with fail
  generalize (w4.alloc (.cells #[.int .i64 x.code, .int .i64 x.mask, .string x.data, .string x.tag] 74)) = w5 at *
  generalize w4.heap.size = b10 at *
  have p0 := HL9b.out.cel 0 _ rfl
  have p1 := HL9b.out.cel 1 _ rfl
  have p2 := HL9b.out.cel 2 _ rfl
  have p3 := HL9b.out.cel 3 _ rfl
  have pl := HL9b.out.lt
  have q0 := HL10.out.cel 0 _ rfl
  have q1 := HL10.out.cel 1 _ rfl
  have q2 := HL10.out.cel 2 _ rfl
  have q3 := HL10.out.cel 3 _ rfl
  have ql := HL10.out.lt
  go_upto_region 8 with fail
  clear q0 q1 q2 q3 ql HL10
  cases hco : (x.code == 0)
  · go_upto_region 21 with fail
    clear p0 p1 p2 p3 pl HIU HRG
    have HBU : Hid (Below w.heap.size w w5) := bel_bel9 HB1.out HL9b.out.bel
    go_wp2_with fail
    refine (drawUnseal_any b lenb capb w5 (HCM.out _ HBU.out) hlb).mono ?_
    rintro e v1 ⟨r2, v2, zs2, x2, rfl, hv2, hz2, hb2⟩
    have HBV : Hid (Below w.heap.size w v1) := bel_bel9 HBU.out hb2
    have HV2 : Hid (Irow v1 v2 zs2) := hv2
    obtain ⟨a2, c2, rfl⟩ := hv2.sl
    obtain ⟨y, hy⟩ : ∃ y, unV r2 zs2 x2 = y := ⟨_, rfl⟩
    have HIU2 : Hid (∀ u, Aft v1 u → Calls Try.prog 34 #[.string r2, .slice a2 zs2.length c2, .agg #[.int .i64 x2.code, .int .i64 x2.mask, .string x2.data, .string x2.tag]] u fun e w' => e = .returned (.agg #[.int .i64 y.code, .string y.data]) ∧ Below u.heap.size u w') := fun u hu => by have h9 := implUnseal_any (HV2.out.below hu.out) (by omega) r2 x2; rw [hy] at h9; exact h9
    have HSU0 : Hid (∀ u, Aft v1 u → Calls Try.prog 36 #[.string r2, .slice a2 zs2.length c2, .agg #[.int .i64 x2.code, .int .i64 x2.mask, .string x2.data, .string x2.tag]] u fun e w' => e = .returned (.agg #[.int .i64 y.code, .string y.data]) ∧ Below u.heap.size u w') := fun u hu => by have h9 := specUnseal_any (HV2.out.below hu.out) (by omega) r2 x2; rw [hy] at h9; exact h9
    have HX16 : Hid (LG v1 (v1.alloc (.cells #[.int .i64 x2.code, .int .i64 x2.mask, .string x2.data, .string x2.tag] 74)) v1.heap.size #[.int .i64 x2.code, .int .i64 x2.mask, .string x2.data, .string x2.tag] 74) := LG.new v1 _ _
    clear hv2 hb2 hy HBU
    go_upto_region 22 with fail
    generalize (v1.alloc (.cells #[.int .i64 x2.code, .int .i64 x2.mask, .string x2.data, .string x2.tag] 74)) = v3 at *
    generalize v1.heap.size = b16 at *
    have q0 := HX16.out.cel 0 _ rfl
    have q1 := HX16.out.cel 1 _ rfl
    have q2 := HX16.out.cel 2 _ rfl
    have q3 := HX16.out.cel 3 _ rfl
    have ql := HX16.out.lt
    go_wp2_with fail
    refine Calls.mono (HIU2.out _ HX16.out.aft) ?_
    rintro e v4 ⟨rfl, hu⟩
    have HX16b : Hid (LG v1 (v4.alloc (.cells #[.int .i64 y.code, .string y.data] 77)) b16 #[.int .i64 x2.code, .int .i64 x2.mask, .string x2.data, .string x2.tag] 74) := (HX16.out.step hu).step (bx1 _ _)
    have HX17 : Hid (LG v1 (v4.alloc (.cells #[.int .i64 y.code, .string y.data] 77)) v4.heap.size #[.int .i64 y.code, .string y.data] 77) := ⟨HX16b.out.bel, heap_new _ _, (HX16.out.step hu).bel.size⟩
    clear hu HX16 q0 q1 q2 q3 ql HIU2
    go_upto_region 23 with fail
    generalize (v4.alloc (.cells #[.int .i64 y.code, .string y.data] 77)) = v6 at *
    generalize v4.heap.size = b17 at *
    have HQ16 : Hid (∀ u, Aft v6 u → u.cell? ⟨b16, 0, none⟩ = some (.int .i64 x2.code) ∧ u.cell? ⟨b16, 1, none⟩ = some (.int .i64 x2.mask) ∧ u.cell? ⟨b16, 2, none⟩ = some (.string x2.data) ∧ u.cell? ⟨b16, 3, none⟩ = some (.string x2.tag) ∧ b16 < u.heap.size) := fun u hu => ⟨(HX16b.out.step hu.out).cel 0 _ rfl, (HX16b.out.step hu.out).cel 1 _ rfl, (HX16b.out.step hu.out).cel 2 _ rfl, (HX16b.out.step hu.out).cel 3 _ rfl, (HX16b.out.step hu.out).lt⟩
    have HQ17 : Hid (∀ u, Aft v6 u → u.cell? ⟨b17, 0, none⟩ = some (.int .i64 y.code) ∧ u.cell? ⟨b17, 1, none⟩ = some (.string y.data) ∧ b17 < u.heap.size) := fun u hu => ⟨(HX17.out.step hu.out).cel 0 _ rfl, (HX17.out.step hu.out).cel 1 _ rfl, (HX17.out.step hu.out).lt⟩
    have HSU2 : Hid (∀ u, Aft v6 u → Calls Try.prog 36 #[.string r2, .slice a2 zs2.length c2, .agg #[.int .i64 x2.code, .int .i64 x2.mask, .string x2.data, .string x2.tag]] u fun e w' => e = .returned (.agg #[.int .i64 y.code, .string y.data]) ∧ Below u.heap.size u w') := fun u hu => HSU0.out u ⟨(HX17.out.step hu.out).bel⟩
    have HFI : Hid (∀ u, Aft v6 u → Below w.heap.size w u) := fun u hu => bel_bel9 HBV.out (HX17.out.step hu.out).bel
    have HAF0 : Hid (Aft v6 v6.drew) := ⟨bdn (Below.refl _ _) 1⟩
    clear HX16b HX17 HSU0 HV2 HBV
    refine wp_region_held (S := fun w9 => Aft v6 w9) (by kernel_rfl) ?_
    change wpAnyH _ _ _ _ _ _ _ _ (World.drew _)
    refine wpAnyH_take (i := 0) (v := .agg #[.int .i64 y.code, .string y.data]) rfl (by kernel_rfl) (by kernel_rfl) (by kernel_rfl) (fun _ _ _ h => h) (Or.inl ⟨by kernel_rfl, fun w9 h9 => ?_⟩) HAF0.out ?_
    · obtain ⟨x0, x1, x2a, x3, xl⟩ := HQ16.out _ h9; obtain ⟨y0, y1, yl⟩ := HQ17.out _ h9; go_simp
    refine wpAnyH_take (i := 1) (v := .string r2) rfl (by kernel_rfl) (by kernel_rfl) (by kernel_rfl) (fun _ _ _ h => h) (Or.inl ⟨by kernel_rfl, fun w9 h9 => ?_⟩) HAF0.out ?_
    · go_simp
    refine wpAnyH_take (i := 2) (v := .slice a2 zs2.length c2) rfl (by kernel_rfl) (by kernel_rfl) (by kernel_rfl) (fun _ _ _ h => h) (Or.inl ⟨by kernel_rfl, fun w9 h9 => ?_⟩) HAF0.out ?_
    · go_simp
    refine wpAnyH_take (i := 3) (v := .agg #[.int .i64 x2.code, .int .i64 x2.mask, .string x2.data, .string x2.tag]) rfl (by kernel_rfl) (by kernel_rfl) (by kernel_rfl) (fun _ _ _ h => h) (Or.inl ⟨by kernel_rfl, fun w9 h9 => ?_⟩) HAF0.out ?_
    · obtain ⟨x0, x1, x2a, x3, xl⟩ := HQ16.out _ h9; obtain ⟨y0, y1, yl⟩ := HQ17.out _ h9; go_simp
    refine held_one 4 (by kernel_rfl) rfl (by kernel_rfl) fun K hK => ?_
    go_simp
    go_wp2_with (go_at_call 36; refine Calls.mono (HSU2.out _ HAF0.out) ?_; rintro e v7 ⟨rfl, hu⟩; have HAF1 : Hid (Aft v6 v7) := HAF0.out.step9 hu; clear hu)
    refine hK _ _ HAF1.out ?_
    clear hK K
    refine wpAnyH_take (i := 5) (v := .bool true) rfl (by kernel_rfl) (by kernel_rfl) (by kernel_rfl) (fun _ _ _ h => h) (Or.inl ⟨by kernel_rfl, fun w9 h9 => ?_⟩) HAF1.out ?_
    · go_simp
    refine wpAnyH_take (i := 6) (v := .bool true) rfl (by kernel_rfl) (by kernel_rfl) (by kernel_rfl) (fun _ _ _ h => h) (Or.inl ⟨by kernel_rfl, fun w9 h9 => ?_⟩) HAF1.out ?_
    · go_simp
    refine wpAnyH_done (by kernel_rfl) ?_ _
    go_simp
    go_wp2
    go_ret
    exact ⟨rfl, HFI.out _ HAF1.out⟩
  · have hc0 : x.code = 0 := by simpa using hco
    obtain ⟨hrg, hm0, hm1⟩ := HRG.out hc0
    have HU1 : Hid (∀ (u : World) (v2 : Value) (ys : List Int), Irow u v2 ys → ys.length = zs.length → rgB ys = true → (∀ k, k < zs.length → mkT m k = true → ys.getD k 0 = zs.getD k 0) → Calls Try.prog 34 #[.string r, v2, .agg #[.int .i64 x.code, .int .i64 x.mask, .string x.data, .string x.tag]] u fun e w' => e = .returned (.agg #[.int .i64 0, .string d]) ∧ Below u.heap.size u w') := HIU.out hc0
    have HRZ : Hid (rgB zs = true) := hrg
    have hdd : ((d : ByteArray).toList != d.toList) = false := by simp
    clear hrg HIU HRG hc0
    go_wp2_with fail
    refine Calls.mono (HU1.out _ _ zs (HV.out.below HL9b.out.bel) rfl HRZ.out (fun k _ _ => rfl)) ?_
    rintro e w6 ⟨rfl, hu⟩
    have HL9c : Hid (LG w1 (w6.alloc (.cells #[.int .i64 0, .string d] 77)) b9 #[.int .i64 x.code, .int .i64 x.mask, .string x.data, .string x.tag] 74) := (HL9b.out.step hu).step (bx1 _ _)
    have HL11 : Hid (LG w1 (w6.alloc (.cells #[.int .i64 0, .string d] 77)) w6.heap.size #[.int .i64 0, .string d] 77) := ⟨HL9c.out.bel, heap_new _ _, (HL9b.out.step hu).bel.size⟩
    have HNE : Hid (b9 < w6.heap.size) := (HL9b.out.step hu).lt
    clear hu HL9b p0 p1 p2 p3 pl
    go_upto_region 10 with fail
    generalize (w6.alloc (.cells #[.int .i64 0, .string d] 77)) = w7 at *
    generalize w6.heap.size = b11 at *
    have p0 := HL11.out.cel 0 _ rfl
    have p1 := HL11.out.cel 1 _ rfl
    have pl := HL11.out.lt
    obtain ⟨a9, rfl⟩ := row_some9 HV.out (rgB_b HRZ.out).1
    have HAP : Hid _ := appRow9 (HV.out.below HL11.out.bel) hl9
    have HL9d : Hid (LG w1 (w7.alloc (.cells #[] 2)) b9 #[.int .i64 x.code, .int .i64 x.mask, .string x.data, .string x.tag] 74) := HL9c.out.step (bx1 _ _)
    have HL11d : Hid (LG w1 (w7.alloc (.cells #[] 2)) b11 #[.int .i64 0, .string d] 77) := HL11.out.step (bx1 _ _)
    go_upto_region 13 with (at_builtin; (refine wl_append_ex rfl _ _ 27 rfl _ _ rfl rfl HAP.out ?_; rintro v' u5 ⟨ho, hg⟩; have HO5 : Hid (u5.ownsRow w7.heap.size 2 1 v' zs.length (iR zs)) := ho; have HL9e : Hid (LG w1 u5 b9 #[.int .i64 x.code, .int .i64 x.mask, .string x.data, .string x.tag] 74) := HL9d.out.grow9 hg (by simp; have := HL9c.out.lt; omega) (fun k hk => by cases hk; exact HL11.out.bel.size); have HL11e : Hid (LG w1 u5 b11 #[.int .i64 0, .string d] 77) := HL11d.out.grow9 hg (by simp; omega) (fun k hk => by cases hk; exact HL11.out.bel.size); clear ho hg HAP))
    have hB9 : b9 < w7.heap.size := HL9c.out.lt
    have hB11 : b11 < w7.heap.size := HL11.out.lt
    have hB1 : w1.heap.size ≤ w7.heap.size := HL11.out.bel.size
    generalize w7.heap.size = B7 at *
    obtain ⟨g, c9, hg9⟩ : ∃ g c9, v' = .slice (some ⟨g, 0, none⟩) zs.length c9 := (by
      obtain ⟨hl2, ⟨_, he⟩ | ⟨g, c, cur, e, _⟩⟩ := HO5.out
      · have := (rgB_b HRZ.out).1
        omega
      · exact ⟨g, c, e⟩)
    subst hg9
    have hgB : B7 ≤ g := (by
      obtain ⟨hl2, ⟨h9, _⟩ | ⟨g2, c, cur, e, hB, _⟩⟩ := HO5.out
      · cases h9
      · injection e with e1
        injection e1 with e2
        injection e2 with e3
        omega)
    clear p0 p1 pl HL9d HL11d HL9c HL11
    go_wp2
    go_loopw [13] (fun i wr => ∃ (k : Nat) (ys : List Int), k ≤ zs.length ∧ i = .int .i64 k ∧ ys.length = zs.length ∧ rgB ys = true ∧ (∀ j, j < zs.length → mkT m j = true → ys.getD j 0 = zs.getD j 0) ∧ wr.ownsRow B7 2 1 (.slice (some ⟨g, 0, none⟩) zs.length c9) zs.length (iR ys) ∧ LG w1 wr b9 #[.int .i64 x.code, .int .i64 x.mask, .string x.data, .string x.tag] 74 ∧ LG w1 wr b11 #[.int .i64 0, .string d] 77) (fun i _ => zs.length - (intOf i).toNat)
    case atStart => exact ⟨0, zs, Nat.zero_le _, rfl, rfl, HRZ.out, fun _ _ _ => rfl, HO5.out, HL9e.out, HL11e.out⟩
    case round =>
      obtain ⟨k, ys, hk, rfl, hyl, hyr, hym, hyo, h9, h11⟩ := hrel
      have HYR : Hid (rgB ys = true) := hyr
      have HYM : Hid (∀ j, j < zs.length → mkT m j = true → ys.getD j 0 = zs.getD j 0) := hym
      have HYO : Hid (wr.ownsRow B7 2 1 (.slice (some ⟨g, 0, none⟩) zs.length c9) zs.length (iR ys)) := hyo
      have H9 : Hid (LG w1 wr b9 #[.int .i64 x.code, .int .i64 x.mask, .string x.data, .string x.tag] 74) := h9
      have H11 : Hid (LG w1 wr b11 #[.int .i64 0, .string d] 77) := h11
      clear hyr hym hyo h9 h11
      by_cases hlt : k < zs.length
      · have hk0 : (0 : Int) ≤ (k : Int) := by omega
        have hk1 : (k : Int) < (zs.length : Int) := by omega
        cases ht : (bits .and .i64 (m / 2 ^ k) 1 == 0)
        · go_wp2
          exact ⟨⟨k + 1, ys, hlt, by go_num, hyl, HYR.out, HYM.out, HYO.out, H9.out, H11.out⟩, by simp [intOf]; omega⟩
        · have HTF : Hid (mkT m k = false) := (show mkT m k = false by
            have : bits .and .i64 (m / 2 ^ k) 1 = 0 := by simpa using ht
            unfold mkT
            rw [this]
            rfl)
          obtain ⟨⟨y, hy⟩, hyf, hset⟩ := own_at8 HYO.out k (by omega)
          have HST : Hid _ := hset
          have hgl : g < wr.heap.size := World.block_lt_of_cell? wr _ hy
          have HCW : Hid (CodeAt wr wr.heap.size b lenb) := HCM.out wr (bel_bel9 HB1.out H9.out.bel)
          clear hset
          go_wp2_with fail
          refine (lwAt8 b lenb capb k wr (by omega) hlb HCW.out).mono ?_
          rintro e w8 ⟨rr, rfl, r0, r1, rfl⟩
          have HN9 : Hid (LG w1 (w8.setCell ⟨g, k, none⟩ (.int .i64 rr)) b9 #[.int .i64 x.code, .int .i64 x.mask, .string x.data, .string x.tag] 74) := H9.out.grow9 (HST.out rr).2 (by simp; omega) (fun k hk => by cases hk; omega)
          have HN11 : Hid (LG w1 (w8.setCell ⟨g, k, none⟩ (.int .i64 rr)) b11 #[.int .i64 0, .string d] 77) := H11.out.grow9 (HST.out rr).2 (by simp; omega) (fun k hk => by cases hk; omega)
          have HNM : Hid (∀ j, j < zs.length → mkT m j = true → (ys.set k rr).getD j 0 = zs.getD j 0) := fun j hj hjm => (by
            by_cases hjk : j = k
            · subst hjk
              rw [HTF.out] at hjm
              cases hjm
            · rw [← HYM.out j hj hjm]
              simp [List.getD, List.getElem?_set_ne (Ne.symm hjk)])
          go_wp2
          exact ⟨⟨k + 1, ys.set k rr, hlt, by go_num, by rw [List.length_set]; exact hyl, rgB_set HYR.out k rr r0 r1, HNM.out, (HST.out rr).1, HN9.out, HN11.out⟩, by simp [intOf]; omega⟩
      · obtain rfl : k = zs.length := by omega
        have p0 := H9.out.cel 0 _ rfl
        have p1 := H9.out.cel 1 _ rfl
        have p2 := H9.out.cel 2 _ rfl
        have p3 := H9.out.cel 3 _ rfl
        have pl := H9.out.lt
        have HOT : Hid (Irow wr (.slice (some ⟨g, 0, none⟩) zs.length c9) ys) := irow_of8 HYO.out hyl
        go_wp2_with fail
        refine Calls.mono (HU1.out _ _ ys HOT.out hyl HYR.out HYM.out) ?_
        rintro e w8 ⟨rfl, hu⟩
        have HM9 : Hid (LG w1 w8 b9 #[.int .i64 x.code, .int .i64 x.mask, .string x.data, .string x.tag] 74) := H9.out.step hu
        have HM11 : Hid (LG w1 w8 b11 #[.int .i64 0, .string d] 77) := H11.out.step hu
        have HN11 : Hid (LG w1 ((w8.setCell ⟨b11, 0, none⟩ (.int .i64 0)).setCell ⟨b11, 1, none⟩ (.string d)) b11 #[.int .i64 0, .string d] 77) := (HM11.out.put8 0 (.int .i64 0)).put8 1 (.string d)
        have HN9 : Hid (LG w1 ((w8.setCell ⟨b11, 0, none⟩ (.int .i64 0)).setCell ⟨b11, 1, none⟩ (.string d)) b9 #[.int .i64 x.code, .int .i64 x.mask, .string x.data, .string x.tag] 74) := (HM9.out.grow9 (gset8 _ b11 0 _) (by simp; have := HNE.out; omega) (fun k hk => by cases hk; exact HM11.out.ge)).grow9 (gset8 _ b11 1 _) (by simp; have := HNE.out; omega) (fun k hk => by cases hk; exact HM11.out.ge)
        have f0 := HM11.out.frz 0
        have f1 := HM11.out.frz 1
        have x0 := HM11.out.cel 0 _ rfl
        have x1 := HM11.out.cel 1 _ rfl
        have xl := HM11.out.lt
        clear hu p0 p1 p2 p3 pl
        go_upto_region 19 with fail
        generalize ((w8.setCell ⟨b11, 0, none⟩ (.int .i64 0)).setCell ⟨b11, 1, none⟩ (.string d)) = w9 at *
        clear f0 f1 x0 x1 xl
        have x0 := HN11.out.cel 0 _ rfl
        have x1 := HN11.out.cel 1 _ rfl
        have xl := HN11.out.lt
        go_upto_region 21 with fail
        clear x0 x1 xl HU1 HRZ
        have HBU : Hid (Below w.heap.size w w9) := bel_bel9 HB1.out HN9.out.bel
        go_wp2_with fail
        refine (drawUnseal_any b lenb capb w9 (HCM.out _ HBU.out) hlb).mono ?_
        rintro e v1 ⟨r2, v2, zs2, x2, rfl, hv2, hz2, hb2⟩
        have HBV : Hid (Below w.heap.size w v1) := bel_bel9 HBU.out hb2
        have HV2 : Hid (Irow v1 v2 zs2) := hv2
        obtain ⟨a2, c2, rfl⟩ := hv2.sl
        obtain ⟨y, hy⟩ : ∃ y, unV r2 zs2 x2 = y := ⟨_, rfl⟩
        have HIU2 : Hid (∀ u, Aft v1 u → Calls Try.prog 34 #[.string r2, .slice a2 zs2.length c2, .agg #[.int .i64 x2.code, .int .i64 x2.mask, .string x2.data, .string x2.tag]] u fun e w' => e = .returned (.agg #[.int .i64 y.code, .string y.data]) ∧ Below u.heap.size u w') := fun u hu => by have h9 := implUnseal_any (HV2.out.below hu.out) (by omega) r2 x2; rw [hy] at h9; exact h9
        have HSU0 : Hid (∀ u, Aft v1 u → Calls Try.prog 36 #[.string r2, .slice a2 zs2.length c2, .agg #[.int .i64 x2.code, .int .i64 x2.mask, .string x2.data, .string x2.tag]] u fun e w' => e = .returned (.agg #[.int .i64 y.code, .string y.data]) ∧ Below u.heap.size u w') := fun u hu => by have h9 := specUnseal_any (HV2.out.below hu.out) (by omega) r2 x2; rw [hy] at h9; exact h9
        have HX16 : Hid (LG v1 (v1.alloc (.cells #[.int .i64 x2.code, .int .i64 x2.mask, .string x2.data, .string x2.tag] 74)) v1.heap.size #[.int .i64 x2.code, .int .i64 x2.mask, .string x2.data, .string x2.tag] 74) := LG.new v1 _ _
        clear hv2 hb2 hy HBU
        go_upto_region 22 with fail
        generalize (v1.alloc (.cells #[.int .i64 x2.code, .int .i64 x2.mask, .string x2.data, .string x2.tag] 74)) = v3 at *
        generalize v1.heap.size = b16 at *
        have q0 := HX16.out.cel 0 _ rfl
        have q1 := HX16.out.cel 1 _ rfl
        have q2 := HX16.out.cel 2 _ rfl
        have q3 := HX16.out.cel 3 _ rfl
        have ql := HX16.out.lt
        go_wp2_with fail
        refine Calls.mono (HIU2.out _ HX16.out.aft) ?_
        rintro e v4 ⟨rfl, hu⟩
        have HX16b : Hid (LG v1 (v4.alloc (.cells #[.int .i64 y.code, .string y.data] 77)) b16 #[.int .i64 x2.code, .int .i64 x2.mask, .string x2.data, .string x2.tag] 74) := (HX16.out.step hu).step (bx1 _ _)
        have HX17 : Hid (LG v1 (v4.alloc (.cells #[.int .i64 y.code, .string y.data] 77)) v4.heap.size #[.int .i64 y.code, .string y.data] 77) := ⟨HX16b.out.bel, heap_new _ _, (HX16.out.step hu).bel.size⟩
        clear hu HX16 q0 q1 q2 q3 ql HIU2
        go_upto_region 23 with fail
        generalize (v4.alloc (.cells #[.int .i64 y.code, .string y.data] 77)) = v6 at *
        generalize v4.heap.size = b17 at *
        have HQ16 : Hid (∀ u, Aft v6 u → u.cell? ⟨b16, 0, none⟩ = some (.int .i64 x2.code) ∧ u.cell? ⟨b16, 1, none⟩ = some (.int .i64 x2.mask) ∧ u.cell? ⟨b16, 2, none⟩ = some (.string x2.data) ∧ u.cell? ⟨b16, 3, none⟩ = some (.string x2.tag) ∧ b16 < u.heap.size) := fun u hu => ⟨(HX16b.out.step hu.out).cel 0 _ rfl, (HX16b.out.step hu.out).cel 1 _ rfl, (HX16b.out.step hu.out).cel 2 _ rfl, (HX16b.out.step hu.out).cel 3 _ rfl, (HX16b.out.step hu.out).lt⟩
        have HQ17 : Hid (∀ u, Aft v6 u → u.cell? ⟨b17, 0, none⟩ = some (.int .i64 y.code) ∧ u.cell? ⟨b17, 1, none⟩ = some (.string y.data) ∧ b17 < u.heap.size) := fun u hu => ⟨(HX17.out.step hu.out).cel 0 _ rfl, (HX17.out.step hu.out).cel 1 _ rfl, (HX17.out.step hu.out).lt⟩
        have HSU2 : Hid (∀ u, Aft v6 u → Calls Try.prog 36 #[.string r2, .slice a2 zs2.length c2, .agg #[.int .i64 x2.code, .int .i64 x2.mask, .string x2.data, .string x2.tag]] u fun e w' => e = .returned (.agg #[.int .i64 y.code, .string y.data]) ∧ Below u.heap.size u w') := fun u hu => HSU0.out u ⟨(HX17.out.step hu.out).bel⟩
        have HFI : Hid (∀ u, Aft v6 u → Below w.heap.size w u) := fun u hu => bel_bel9 HBV.out (HX17.out.step hu.out).bel
        have HAF0 : Hid (Aft v6 v6.drew) := ⟨bdn (Below.refl _ _) 1⟩
        clear HX16b HX17 HSU0 HV2 HBV
        refine wp_region_held (S := fun w9 => Aft v6 w9) (by kernel_rfl) ?_
        change wpAnyH _ _ _ _ _ _ _ _ (World.drew _)
        refine wpAnyH_take (i := 0) (v := .agg #[.int .i64 y.code, .string y.data]) rfl (by kernel_rfl) (by kernel_rfl) (by kernel_rfl) (fun _ _ _ h => h) (Or.inl ⟨by kernel_rfl, fun w9 h9 => ?_⟩) HAF0.out ?_
        · obtain ⟨x0, x1, x2a, x3, xl⟩ := HQ16.out _ h9; obtain ⟨y0, y1, yl⟩ := HQ17.out _ h9; go_simp
        refine wpAnyH_take (i := 1) (v := .string r2) rfl (by kernel_rfl) (by kernel_rfl) (by kernel_rfl) (fun _ _ _ h => h) (Or.inl ⟨by kernel_rfl, fun w9 h9 => ?_⟩) HAF0.out ?_
        · go_simp
        refine wpAnyH_take (i := 2) (v := .slice a2 zs2.length c2) rfl (by kernel_rfl) (by kernel_rfl) (by kernel_rfl) (fun _ _ _ h => h) (Or.inl ⟨by kernel_rfl, fun w9 h9 => ?_⟩) HAF0.out ?_
        · go_simp
        refine wpAnyH_take (i := 3) (v := .agg #[.int .i64 x2.code, .int .i64 x2.mask, .string x2.data, .string x2.tag]) rfl (by kernel_rfl) (by kernel_rfl) (by kernel_rfl) (fun _ _ _ h => h) (Or.inl ⟨by kernel_rfl, fun w9 h9 => ?_⟩) HAF0.out ?_
        · obtain ⟨x0, x1, x2a, x3, xl⟩ := HQ16.out _ h9; obtain ⟨y0, y1, yl⟩ := HQ17.out _ h9; go_simp
        refine held_one 4 (by kernel_rfl) rfl (by kernel_rfl) fun K hK => ?_
        go_simp
        go_wp2_with (go_at_call 36; refine Calls.mono (HSU2.out _ HAF0.out) ?_; rintro e v7 ⟨rfl, hu⟩; have HAF1 : Hid (Aft v6 v7) := HAF0.out.step9 hu; clear hu)
        refine hK _ _ HAF1.out ?_
        clear hK K
        refine wpAnyH_take (i := 5) (v := .bool true) rfl (by kernel_rfl) (by kernel_rfl) (by kernel_rfl) (fun _ _ _ h => h) (Or.inl ⟨by kernel_rfl, fun w9 h9 => ?_⟩) HAF1.out ?_
        · go_simp
        refine wpAnyH_take (i := 6) (v := .bool true) rfl (by kernel_rfl) (by kernel_rfl) (by kernel_rfl) (fun _ _ _ h => h) (Or.inl ⟨by kernel_rfl, fun w9 h9 => ?_⟩) HAF1.out ?_
        · go_simp
        refine wpAnyH_done (by kernel_rfl) ?_ _
        go_simp
        go_wp2
        go_ret
        exact ⟨rfl, HFI.out _ HAF1.out⟩
end Go.Proofs.Ytcglpigmellfcab
