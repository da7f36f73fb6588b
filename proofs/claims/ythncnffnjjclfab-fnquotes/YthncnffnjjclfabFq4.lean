import Derived.Test.YthncnffnjjclfabFq1
import Derived.Test.YthncnffnjjclfabFq3
import Derived.Test.YthncnffnjjclfabQt4
import Derived.Test.YthncnffnjjclfabLG
import Derived.Test.YthncnffnjjclfabTB
import Derived.Test.YthncnffnjjclfabOrI
namespace Go.Proofs.Ythncnffnjjclfab
open Go.ChangeShapes Go.WideShapes Go.ChangeAt Go.RowKit

theorem appRow9 {w : World} {a : Addr} {cap : Nat} {zs : List Int} (h : Irow w (.slice (some a) zs.length cap) zs) (hl : zs.length ≤ 1048576) :
    ∃ v' u', (Builtin.append_ #[38, 38] 38 #[.slice (some ⟨w.heap.size, 0, none⟩) 0 0, .slice (some a) zs.length cap]).run Try.prog (w.alloc (.cells #[] 2)) = .ok v' u' ∧ (u'.ownsRow w.heap.size 2 1 v' zs.length (iR zs) ∧ (w.alloc (.cells #[] 2)).grownBy u' (some w.heap.size)) := by
  have hA : Irow (w.alloc (.cells #[] 2)) (.slice (some a) zs.length cap) zs := h.below ((Below.refl _ _).alloc (Nat.le_refl _) _)
  have H0 : (w.alloc (.cells #[] 2)).ownsRow w.heap.size 2 1 (.slice (some ⟨w.heap.size, 0, none⟩) 0 0) 0 [] := World.ownsRow_lit _ #[] 0 (by simp) (by decide) rfl
  obtain ⟨i0, hi0, hz0, hz1, hz2⟩ := info_parts Try.info2
  obtain ⟨v', w', hr, h2, h3, _, _⟩ := run_append_own_at (P := Try.prog) (w.alloc (.cells #[] 2)) w.heap.size 38 38 2 i0 (.int .i64 0) 1 8 Try.underlying38 hi0 hz0 hz1 hz2 rfl (by decide) (.slice (some ⟨w.heap.size, 0, none⟩) 0 0) 0 [] H0 a zs.length cap (iR zs) (by rw [iR_len]) (iR_cells hA) (iR_one zs) (by unfold maxLen; omega) (by omega) (by simp)
  rw [Nat.zero_add, List.nil_append] at h2
  exact ⟨v', w', hr, h2, h3⟩
theorem row_some9 {w : World} {av : Option Addr} {cv : Nat} {zs : List Int} (h : Irow w (.slice av zs.length cv) zs) (hz : 1 ≤ zs.length) : ∃ a, av = some a := by
  rcases h with ⟨rfl, _⟩ | ⟨g, o, c, hv, _⟩
  · simp at hz
  · injection hv with q1
    exact ⟨_, q1⟩
theorem q_bounds {s : Int} {nn : ByteArray} {zs : List Int} (h : qoB s nn zs = true) : qR s nn zs ≠ 0 ∧ 0 ≤ qZ s nn zs ∧ qZ s nn zs < 1073741381 := by
  obtain ⟨Q, hQ⟩ : ∃ Q : Nat, Q = 1073741381 := ⟨_, rfl⟩
  obtain ⟨S, K, E, hq⟩ := qn_of hQ h
  have hr0 : 4 ^ K % 2147482763 ≠ 0 := by rw [← po1]; exact pow4_ne K
  have hzl : (K + E * S) % Q < Q := Nat.mod_lt _ (by omega)
  rw [hq.hr, hq.hz]
  clear hq
  generalize 4 ^ K % 2147482763 = b at *
  generalize (K + E * S) % Q = c at *
  subst hQ
  omega
theorem own_head9 {w : World} {B : Nat} {v : Value} {zs : List Int} (h : w.ownsRow B 2 1 v zs.length (iR zs)) (hr : rgB zs = true) :
    ∃ y g c, v = .slice (some ⟨g, 0, none⟩) zs.length c ∧ B ≤ g ∧ g < w.heap.size ∧ w.cell? ⟨g, 0, none⟩ = some (.int .i64 y) ∧ w.frozen? ⟨g, 0, none⟩ = false ∧ 0 ≤ y ∧ y < 4294967296 ∧ ∀ x : Int, Irow (w.setCell ⟨g, 0, none⟩ (.int .i64 x)) (.slice (some ⟨g, 0, none⟩) zs.length c) (zs.set 0 x) ∧ w.grownBy (w.setCell ⟨g, 0, none⟩ (.int .i64 x)) (some g) := by
  obtain ⟨r1, r2, r3⟩ := rgB_b hr
  have h0 := h
  obtain ⟨hl, ⟨_, he⟩ | ⟨g, c, cur, rfl, hg, h1, _⟩⟩ := h
  · omega
  · have hc := h0.cellAt 0 (by omega)
    have hz := r3 0 (by omega)
    refine ⟨zs[0], g, c, rfl, hg, (Array.getElem?_eq_some_iff.1 h1).1, ?_, h0.frozenAt 0, hz.1, hz.2, fun x => ?_⟩
    · rw [hc]
      simp [iR]
    · obtain ⟨q1, q2⟩ := h0.stored 0 (.int .i64 x)
      refine ⟨?_, q2⟩
      have e : (iR zs).set 0 (.int .i64 x) = iR (zs.set 0 x) := by simp [iR, List.map_set]
      rw [e] at q1
      have := Irow.of (v := .slice (some ⟨g, 0, none⟩) (zs.set 0 x).length c) (zs := zs.set 0 x) (B := B) (by rw [List.length_set]; exact q1)
      rwa [List.length_set] at this
theorem LG.grow9 {w u u' : World} {b t : Nat} {cs : Array Value} {r : Option Nat} (h : LG w u b cs t) (hg : u.grownBy u' r) (hne : r ≠ some b) (hr : ∀ k, r = some k → w.heap.size ≤ k) : LG w u' b cs t :=
  ⟨h.bel.grown hg h.bel.size hr, (hg.block b h.lt (fun e => hne e.symm)).trans h.box, h.ge⟩
theorem Aft.step9 {w u u' : World} (h : Aft w u) (hb : Below u.heap.size u u') : Aft w u' := ⟨h.out.trans (hb.mono h.out.size)⟩
set_option maxRecDepth 100000 in
set_option maxHeartbeats 8000000 in
theorem walkFQ (a : Option Addr) (len cap : Nat) (w : World) (hcode : CodeAt w w.heap.size a len) (hl : len ≤ 1048576) :
    Calls Try.prog 5 #[.slice a len cap] w fun e w' => e = .returned (.bool true) ∧ Below w.heap.size w w' := by
  have HC : Hid (CodeAt w w.heap.size a len) := hcode
  clear hcode
  have e0 : decide (1048576 < (len : Int)) = false := decide_eq_false (by omega)
  go_enter Try.func5, Try.ntmps5
  go_wp2_with fail
  refine (drawQuote_any a len cap w HC.out hl).mono ?_
  rintro e w1 ⟨s, nn, v, zs, rfl, s1, s2, hn, hv, hz, hb1⟩
  have HB1 : Hid (Below w.heap.size w w1) := hb1
  have HV : Hid (Irow w1 v zs) := hv.irow
  obtain ⟨av, cv, rfl⟩ := hv.irow.sl
  have hl9 : zs.length ≤ 1048576 := by omega
  obtain ⟨R, hR⟩ : ∃ R, R = qR s nn zs := ⟨_, rfl⟩
  obtain ⟨Z, hZ⟩ : ∃ Z, Z = qZ s nn zs := ⟨_, rfl⟩
  obtain ⟨P, hP⟩ : ∃ P, P = pubV s := ⟨_, rfl⟩
  have HIQ : Hid (∀ u, Aft w1 u → Calls Try.prog 27 #[.int .i64 s, .string nn, .slice av zs.length cv] u fun e w' => e = .returned (.agg #[.int .i64 R, .int .i64 Z]) ∧ Below u.heap.size u w') := fun u hu => by rw [hR, hZ]; exact implQuote_any (HV.out.below hu.out) hl9 s nn
  have HSQ : Hid (∀ u, Aft w1 u → Calls Try.prog 29 #[.int .i64 s, .string nn, .slice av zs.length cv] u fun e w' => e = .returned (.agg #[.int .i64 R, .int .i64 Z]) ∧ Below u.heap.size u w') := fun u hu => by rw [hR, hZ]; exact specQuote_any (HV.out.below hu.out) hl9 s nn
  have HIP : Hid (∀ u, Calls Try.prog 28 #[.int .i64 s] u fun e w' => e = .returned (.int .i64 P) ∧ w' = u) := fun u => by rw [hP]; exact implPublic_any s u
  have HSP : Hid (∀ u, Calls Try.prog 30 #[.int .i64 s] u fun e w' => e = .returned (.int .i64 P) ∧ w' = u) := fun u => by rw [hP]; exact specPublic_any s u
  have HIC : Hid (∀ u R1 Z1, Aft w1 u → Calls Try.prog 31 #[.int .i64 P, .string nn, .slice av zs.length cv, .agg #[.int .i64 R1, .int .i64 Z1]] u fun e w' => e = .returned (.bool (cqV P nn zs R1 Z1)) ∧ Below u.heap.size u w') := fun u R1 Z1 hu => implCheck_any (HV.out.below hu.out) hl9 P nn R1 Z1
  have HCA : Hid ((R = 0 ∧ Z = 0) ∨ (R ≠ 0 ∧ 0 ≤ Z ∧ Z < 1073741381 ∧ rgB zs = true ∧ (2 ≤ P → cqV P nn zs R Z = true) ∧ cqV P nn zs R ((Z + 1) % 1073741381) = false)) := (by
    cases hq : qoB s nn zs
    · exact .inl ⟨by rw [hR]; simp [qR, hq], by rw [hZ]; simp [qZ, hq]⟩
    · obtain ⟨b1, b2, b3⟩ := q_bounds hq
      rw [hR, hZ, hP]
      exact .inr ⟨b1, b2, b3, (qoB_b hq).2.2, (fun hp => quote_yes hq (by omega)), quote_no hq⟩)
  clear hv hb1 hR hZ hP s1 s2 hn
  go_wp2_with fail
  refine Calls.mono (HIQ.out _ ⟨Below.refl _ _⟩) ?_
  rintro e w2 ⟨rfl, hu⟩
  have HL3 : Hid (LG w1 (w2.alloc (.cells #[.int .i64 R, .int .i64 Z] 54)) w2.heap.size #[.int .i64 R, .int .i64 Z] 54) := ⟨hu.alloc hu.size _, heap_new _ _, hu.size⟩
  clear hu
  go_wp2_with fail
  generalize (w2.alloc (.cells #[.int .i64 R, .int .i64 Z] 54)) = w3 at *
  generalize w2.heap.size = b6 at *
  refine Calls.mono (HIP.out _) ?_
  rintro e w4 ⟨rfl, rfl⟩
  go_upto_region 6 with fail
  refine wp_region_held (S := fun w9 => LG w1 w9 b6 #[.int .i64 R, .int .i64 Z] 54) (by kernel_rfl) ?_
  change wpAnyH _ _ _ _ _ _ _ _ (World.drew _)
  refine wpAnyH_take (i := 0) (v := .agg #[.int .i64 R, .int .i64 Z]) rfl (by kernel_rfl) (by kernel_rfl) (by kernel_rfl) (fun _ _ _ h => h) (Or.inl ⟨by kernel_rfl, fun w9 h9 => ?_⟩) HL3.out.drew ?_
  · have x0 := h9.cel 0 _ rfl; have x1 := h9.cel 1 _ rfl; have xl := h9.lt; go_simp
  refine wpAnyH_take (i := 1) (v := .int .i64 s) rfl (by kernel_rfl) (by kernel_rfl) (by kernel_rfl) (fun _ _ _ h => h) (Or.inl ⟨by kernel_rfl, fun w9 h9 => ?_⟩) HL3.out.drew ?_
  · go_simp
  refine wpAnyH_take (i := 2) (v := .string nn) rfl (by kernel_rfl) (by kernel_rfl) (by kernel_rfl) (fun _ _ _ h => h) (Or.inl ⟨by kernel_rfl, fun w9 h9 => ?_⟩) HL3.out.drew ?_
  · go_simp
  refine wpAnyH_take (i := 3) (v := .slice av zs.length cv) rfl (by kernel_rfl) (by kernel_rfl) (by kernel_rfl) (fun _ _ _ h => h) (Or.inl ⟨by kernel_rfl, fun w9 h9 => ?_⟩) HL3.out.drew ?_
  · go_simp
  refine held_one 4 (by kernel_rfl) rfl (by kernel_rfl) fun K hK => ?_
  go_simp
  go_wp2_with (go_at_call 29; refine Calls.mono (HSQ.out _ HL3.out.drew.aft) ?_; rintro e v1 ⟨rfl, hu⟩; have HL4 : Hid (LG w1 v1 b6 #[.int .i64 R, .int .i64 Z] 54) := HL3.out.drew.step hu; clear hu)
  refine hK _ _ HL4.out ?_
  clear hK K
  refine wpAnyH_take (i := 5) (v := .bool false) rfl (by kernel_rfl) (by kernel_rfl) (by kernel_rfl) (fun _ _ _ h => h) (Or.inl ⟨by kernel_rfl, fun w9 h9 => ?_⟩) HL4.out ?_
  · go_simp
  refine wpAnyH_take (i := 6) (v := .bool false) rfl (by kernel_rfl) (by kernel_rfl) (by kernel_rfl) (fun _ _ _ h => h) (Or.inl ⟨by kernel_rfl, fun w9 h9 => ?_⟩) HL4.out ?_
  · go_simp
  refine wpAnyH_take (i := 7) (v := .int .i64 P) rfl (by kernel_rfl) (by kernel_rfl) (by kernel_rfl) (fun _ _ _ h => h) (Or.inl ⟨by kernel_rfl, fun w9 h9 => ?_⟩) HL4.out ?_
  · go_simp
  refine wpAnyH_take (i := 8) (v := .int .i64 s) rfl (by kernel_rfl) (by kernel_rfl) (by kernel_rfl) (fun _ _ _ h => h) (Or.inl ⟨by kernel_rfl, fun w9 h9 => ?_⟩) HL4.out ?_
  · go_simp
  refine held_one 9 (by kernel_rfl) rfl (by kernel_rfl) fun K hK => ?_
  go_simp
  go_wp2_with (go_at_call 30; refine Calls.mono (HSP.out _) ?_; rintro e v2 ⟨rfl, hw⟩; subst hw)
  refine hK _ _ HL4.out ?_
  clear hK K
  refine wpAnyH_take (i := 10) (v := .bool false) rfl (by kernel_rfl) (by kernel_rfl) (by kernel_rfl) (fun _ _ _ h => h) (Or.inl ⟨by kernel_rfl, fun w9 h9 => ?_⟩) HL4.out ?_
  · go_simp
  refine wpAnyH_take (i := 11) (v := .bool false) rfl (by kernel_rfl) (by kernel_rfl) (by kernel_rfl) (fun _ _ _ h => h) (Or.inl ⟨by kernel_rfl, fun w9 h9 => ?_⟩) HL4.out ?_
  · go_simp
  refine wpAnyH_done (by kernel_rfl) ?_ _
  go_simp
  obtain ⟨rfl, rfl⟩ | ⟨r0, z0, z1, hrg, hy, hno⟩ := HCA.out
  · have x0 := HL4.out.cel 0 _ rfl
    have x1 := HL4.out.cel 1 _ rfl
    have xl := HL4.out.lt
    go_wp2
    go_ret
    exact ⟨rfl, bel_bel9 HB1.out HL4.out.bel⟩
  · have x0 := HL4.out.cel 0 _ rfl
    have x1 := HL4.out.cel 1 _ rfl
    have xl := HL4.out.lt
    have HNO : Hid (cqV P nn zs R ((Z + 1) % 1073741381) = false) := hno
    have HY : Hid (2 ≤ P → cqV P nn zs R Z = true) := hy
    have HRG : Hid (rgB zs = true) := hrg
    have r1 : (R == 0) = false := by simpa using r0
    clear hno hy hrg
    obtain ⟨a9, rfl⟩ := row_some9 HV.out (rgB_b HRG.out).1
    have HAP : Hid _ := appRow9 (HV.out.below HL4.out.bel) hl9
    have HL5 : Hid (LG w1 (v2.alloc (.cells #[] 2)) b6 #[.int .i64 R, .int .i64 Z] 54) := HL4.out.step (bx1 _ _)
    go_upto_region 11 with (at_builtin; (refine wl_append_ex rfl _ _ 38 rfl _ _ rfl rfl HAP.out ?_; rintro v' u5 ⟨ho, hg⟩; have HO5 : Hid (u5.ownsRow v2.heap.size 2 1 v' zs.length (iR zs)) := ho; have HL6 : Hid (LG w1 u5 b6 #[.int .i64 R, .int .i64 Z] 54) := HL5.out.grow9 hg (by simp; omega) (fun k hk => by cases hk; exact HL4.out.bel.size); clear ho hg HAP))
    obtain ⟨y, g, c9, rfl, g0, g1, cy, fy, y0, y1, hset⟩ := own_head9 HO5.out HRG.out
    have HST : Hid _ := hset ((y + 1) % 4294967296)
    have HL7 : Hid (LG w1 (u5.setCell ⟨g, 0, none⟩ (.int .i64 ((y + 1) % 4294967296))) b6 #[.int .i64 R, .int .i64 Z] 54) := HL6.out.grow9 HST.out.2 (by simp; omega) (fun k hk => by cases hk; exact Nat.le_trans HL4.out.bel.size g0)
    have hz1 := (rgB_b HRG.out).1
    have hz2 : (0 : Int) < (zs.length : Int) := by omega
    clear hset HO5 HL5 x0 x1 g0
    go_upto_region 12 with fail
    generalize (u5.setCell ⟨g, 0, none⟩ (.int .i64 ((y + 1) % 4294967296))) = u6 at *
    have x0 := HL7.out.cel 0 _ rfl
    have x1 := HL7.out.cel 1 _ rfl
    have xl7 := HL7.out.lt
    have HL8 : Hid (LG w1 (u6.alloc (.cells #[.int .i64 R, .int .i64 ((Z + 1) % 1073741381)] 54)) b6 #[.int .i64 R, .int .i64 Z] 54) := HL7.out.step (bx1 _ _)
    have HL9 : Hid (LG w1 (u6.alloc (.cells #[.int .i64 R, .int .i64 ((Z + 1) % 1073741381)] 54)) u6.heap.size #[.int .i64 R, .int .i64 ((Z + 1) % 1073741381)] 54) := ⟨HL7.out.bel.alloc HL7.out.bel.size _, heap_new _ _, HL7.out.bel.size⟩
    have HOT : Hid (Irow (u6.alloc (.cells #[.int .i64 R, .int .i64 ((Z + 1) % 1073741381)] 54)) (.slice (some ⟨g, 0, none⟩) zs.length c9) (zs.set 0 ((y + 1) % 4294967296))) := HST.out.1.below (bx1 _ _)
    clear HST HL7 HL6 HL4 HL3 cy fy g1
    go_upto_region 13 with fail
    generalize (u6.alloc (.cells #[.int .i64 R, .int .i64 ((Z + 1) % 1073741381)] 54)) = u7 at *
    generalize u6.heap.size = b9 at *
    clear x0 x1 xl7 xl
    have HQ6 : Hid (∀ u, Aft u7 u → u.cell? ⟨b6, 0, none⟩ = some (.int .i64 R) ∧ u.cell? ⟨b6, 1, none⟩ = some (.int .i64 Z) ∧ b6 < u.heap.size) := fun u hu => ⟨(HL8.out.step hu.out).cel 0 _ rfl, (HL8.out.step hu.out).cel 1 _ rfl, (HL8.out.step hu.out).lt⟩
    have HQ9 : Hid (∀ u, Aft u7 u → u.cell? ⟨b9, 0, none⟩ = some (.int .i64 R) ∧ u.cell? ⟨b9, 1, none⟩ = some (.int .i64 ((Z + 1) % 1073741381)) ∧ b9 < u.heap.size) := fun u hu => ⟨(HL9.out.step hu.out).cel 0 _ rfl, (HL9.out.step hu.out).cel 1 _ rfl, (HL9.out.step hu.out).lt⟩
    have HA0 : Hid (Aft u7 u7.drew) := ⟨bdn (Below.refl _ _) 1⟩
    have HC1 : Hid (∀ u, Aft u7 u → 2 ≤ P → Calls Try.prog 31 #[.int .i64 P, .string nn, .slice (some a9) zs.length cv, .agg #[.int .i64 R, .int .i64 Z]] u fun e w' => e = .returned (.bool true) ∧ Below u.heap.size u w') := fun u hu hp => by
      have h := HIC.out u R Z ⟨(HL8.out.step hu.out).bel⟩
      rw [HY.out hp] at h
      exact h
    have HC2 : Hid (∀ u, Aft u7 u → Calls Try.prog 31 #[.int .i64 P, .string nn, .slice (some a9) zs.length cv, .agg #[.int .i64 R, .int .i64 ((Z + 1) % 1073741381)]] u fun e w' => e = .returned (.bool false) ∧ Below u.heap.size u w') := fun u hu => by
      have h := HIC.out u R ((Z + 1) % 1073741381) ⟨(HL8.out.step hu.out).bel⟩
      rw [HNO.out] at h
      exact h
    obtain ⟨X, hX⟩ : ∃ X, X = cqV P nn (zs.set 0 ((y + 1) % 4294967296)) R Z := ⟨_, rfl⟩
    have HC3 : Hid (∀ u, Aft u7 u → Calls Try.prog 31 #[.int .i64 P, .string nn, .slice (some ⟨g, 0, none⟩) zs.length c9, .agg #[.int .i64 R, .int .i64 Z]] u fun e w' => e = .returned (.bool X) ∧ Below u.heap.size u w') := fun u hu => by
      rw [hX]
      exact implCheck_any (HOT.out.below hu.out) (by rw [List.length_set]; exact hl9) P nn R Z
    have HC4 : Hid (∀ u, Aft u7 u → Calls Try.prog 32 #[.int .i64 P, .string nn, .slice (some ⟨g, 0, none⟩) zs.length c9, .agg #[.int .i64 R, .int .i64 Z]] u fun e w' => e = .returned (.bool X) ∧ Below u.heap.size u w') := fun u hu => by
      rw [hX]
      exact specCheck_any (HOT.out.below hu.out) (by rw [List.length_set]; exact hl9) P nn R Z
    have HFI : Hid (∀ u, Aft u7 u → Below w.heap.size w u) := fun u hu => bel_bel9 HB1.out (HL8.out.step hu.out).bel
    clear hX HNO HY HRG HOT HIC HIQ HSQ HIP HSP HCA HC HB1 HV
    obtain ⟨Y, hY⟩ : ∃ Y, Y = (Z + 1) % 1073741381 := ⟨_, rfl⟩
    rw [← hY] at HC2 HQ9 HL9
    clear hY
    have hp2 : P < 2 ∨ 2 ≤ P := by omega
    rcases hp2 with hp | hp
    · skip
      refine wp_region_held (S := fun w9 => Aft u7 w9) (by kernel_rfl) ?_
      change wpAnyH _ _ _ _ _ _ _ _ (World.drew _)
      refine wpAnyH_take (i := 0) (v := .int .i64 P) rfl (by kernel_rfl) (by kernel_rfl) (by kernel_rfl) (fun _ _ _ h => h) (Or.inl ⟨by kernel_rfl, fun w9 h9 => ?_⟩) HA0.out ?_
      · go_simp
      refine wpAnyH_take (i := 1) (v := .bool true) rfl (by kernel_rfl) (by kernel_rfl) (by kernel_rfl) (fun _ _ _ h => h) (Or.inl ⟨by kernel_rfl, fun w9 h9 => ?_⟩) HA0.out ?_
      · go_simp; all_goals omega
      refine wpAnyH_take (i := 2) (v := .bool true) rfl (by kernel_rfl) (by kernel_rfl) (by kernel_rfl) (fun _ _ _ h => h) (Or.inl ⟨by kernel_rfl, fun w9 h9 => ?_⟩) HA0.out ?_
      · go_simp
      refine wpAnyH_take (i := 3) (v := undef) rfl (by kernel_rfl) (by kernel_rfl) (by kernel_rfl) (fun _ _ _ h => h) (Or.inr ⟨by kernel_rfl, rfl⟩) HA0.out ?_
      refine wpAnyH_take (i := 4) (v := undef) rfl (by kernel_rfl) (by kernel_rfl) (by kernel_rfl) (fun _ _ _ h => h) (Or.inr ⟨by kernel_rfl, rfl⟩) HA0.out ?_
      refine wpAnyH_take (i := 5) (v := undef) rfl (by kernel_rfl) (by kernel_rfl) (by kernel_rfl) (fun _ _ _ h => h) (Or.inr ⟨by kernel_rfl, rfl⟩) HA0.out ?_
      refine wpAnyH_take (i := 6) (v := undef) rfl (by kernel_rfl) (by kernel_rfl) (by kernel_rfl) (fun _ _ _ h => h) (Or.inr ⟨by kernel_rfl, rfl⟩) HA0.out ?_
      refine wpAnyH_take (i := 7) (v := undef) rfl (by kernel_rfl) (by kernel_rfl) (by kernel_rfl) (fun _ _ _ h => h) (Or.inr ⟨by kernel_rfl, rfl⟩) HA0.out ?_
      refine wpAnyH_take (i := 8) (v := .bool true) rfl (by kernel_rfl) (by kernel_rfl) (by kernel_rfl) (fun _ _ _ h => h) (Or.inl ⟨by kernel_rfl, fun w9 h9 => ?_⟩) HA0.out ?_
      · go_simp
      refine wpAnyH_take (i := 9) (v := .bool true) rfl (by kernel_rfl) (by kernel_rfl) (by kernel_rfl) (fun _ _ _ h => h) (Or.inl ⟨by kernel_rfl, fun w9 h9 => ?_⟩) HA0.out ?_
      · go_simp
      refine wpAnyH_take (i := 10) (v := .int .i64 P) rfl (by kernel_rfl) (by kernel_rfl) (by kernel_rfl) (fun _ _ _ h => h) (Or.inl ⟨by kernel_rfl, fun w9 h9 => ?_⟩) HA0.out ?_
      · go_simp
      refine wpAnyH_take (i := 11) (v := .string nn) rfl (by kernel_rfl) (by kernel_rfl) (by kernel_rfl) (fun _ _ _ h => h) (Or.inl ⟨by kernel_rfl, fun w9 h9 => ?_⟩) HA0.out ?_
      · go_simp
      refine wpAnyH_take (i := 12) (v := .slice (some a9) zs.length cv) rfl (by kernel_rfl) (by kernel_rfl) (by kernel_rfl) (fun _ _ _ h => h) (Or.inl ⟨by kernel_rfl, fun w9 h9 => ?_⟩) HA0.out ?_
      · go_simp
      refine wpAnyH_take (i := 13) (v := .agg #[.int .i64 R, .int .i64 Y]) rfl (by kernel_rfl) (by kernel_rfl) (by kernel_rfl) (fun _ _ _ h => h) (Or.inl ⟨by kernel_rfl, fun w9 h9 => ?_⟩) HA0.out ?_
      · obtain ⟨x0, x1, xl⟩ := HQ6.out _ h9; obtain ⟨y0, y1, yl⟩ := HQ9.out _ h9; go_simp
      refine held_one 14 (by kernel_rfl) rfl (by kernel_rfl) fun K hK => ?_
      go_simp
      go_wp2_with (go_at_call 31; refine Calls.mono (HC2.out _ HA0.out) ?_; rintro e vHA2 ⟨rfl, hu⟩; have HA2 : Hid (Aft u7 vHA2) := HA0.out.step9 hu; clear hu)
      refine hK _ _ HA2.out ?_
      clear hK K
      refine wpAnyH_take (i := 15) (v := .bool true) rfl (by kernel_rfl) (by kernel_rfl) (by kernel_rfl) (fun _ _ _ h => h) (Or.inl ⟨by kernel_rfl, fun w9 h9 => ?_⟩) HA2.out ?_
      · go_simp
      refine wpAnyH_take (i := 16) (v := .bool true) rfl (by kernel_rfl) (by kernel_rfl) (by kernel_rfl) (fun _ _ _ h => h) (Or.inl ⟨by kernel_rfl, fun w9 h9 => ?_⟩) HA2.out ?_
      · go_simp
      refine wpAnyH_take (i := 17) (v := .bool true) rfl (by kernel_rfl) (by kernel_rfl) (by kernel_rfl) (fun _ _ _ h => h) (Or.inl ⟨by kernel_rfl, fun w9 h9 => ?_⟩) HA2.out ?_
      · go_simp
      refine wpAnyH_take (i := 18) (v := .int .i64 P) rfl (by kernel_rfl) (by kernel_rfl) (by kernel_rfl) (fun _ _ _ h => h) (Or.inl ⟨by kernel_rfl, fun w9 h9 => ?_⟩) HA2.out ?_
      · go_simp
      refine wpAnyH_take (i := 19) (v := .string nn) rfl (by kernel_rfl) (by kernel_rfl) (by kernel_rfl) (fun _ _ _ h => h) (Or.inl ⟨by kernel_rfl, fun w9 h9 => ?_⟩) HA2.out ?_
      · go_simp
      refine wpAnyH_take (i := 20) (v := .slice (some ⟨g, 0, none⟩) zs.length c9) rfl (by kernel_rfl) (by kernel_rfl) (by kernel_rfl) (fun _ _ _ h => h) (Or.inl ⟨by kernel_rfl, fun w9 h9 => ?_⟩) HA2.out ?_
      · go_simp
      refine wpAnyH_take (i := 21) (v := .agg #[.int .i64 R, .int .i64 Z]) rfl (by kernel_rfl) (by kernel_rfl) (by kernel_rfl) (fun _ _ _ h => h) (Or.inl ⟨by kernel_rfl, fun w9 h9 => ?_⟩) HA2.out ?_
      · obtain ⟨x0, x1, xl⟩ := HQ6.out _ h9; obtain ⟨y0, y1, yl⟩ := HQ9.out _ h9; go_simp
      refine wpAnyH_take (i := 23) (v := .int .i64 P) rfl (by kernel_rfl) (by kernel_rfl) (by kernel_rfl) (fun _ _ _ h => h) (Or.inl ⟨by kernel_rfl, fun w9 h9 => ?_⟩) HA2.out ?_
      · go_simp
      refine wpAnyH_take (i := 24) (v := .string nn) rfl (by kernel_rfl) (by kernel_rfl) (by kernel_rfl) (fun _ _ _ h => h) (Or.inl ⟨by kernel_rfl, fun w9 h9 => ?_⟩) HA2.out ?_
      · go_simp
      refine wpAnyH_take (i := 25) (v := .slice (some ⟨g, 0, none⟩) zs.length c9) rfl (by kernel_rfl) (by kernel_rfl) (by kernel_rfl) (fun _ _ _ h => h) (Or.inl ⟨by kernel_rfl, fun w9 h9 => ?_⟩) HA2.out ?_
      · go_simp
      refine wpAnyH_take (i := 26) (v := .agg #[.int .i64 R, .int .i64 Z]) rfl (by kernel_rfl) (by kernel_rfl) (by kernel_rfl) (fun _ _ _ h => h) (Or.inl ⟨by kernel_rfl, fun w9 h9 => ?_⟩) HA2.out ?_
      · obtain ⟨x0, x1, xl⟩ := HQ6.out _ h9; obtain ⟨y0, y1, yl⟩ := HQ9.out _ h9; go_simp
      refine held_one 22 (by kernel_rfl) rfl (by kernel_rfl) fun K hK => ?_
      go_simp
      go_wp2_with (go_at_call 31; refine Calls.mono (HC3.out _ HA2.out) ?_; rintro e vHA3 ⟨rfl, hu⟩; have HA3 : Hid (Aft u7 vHA3) := HA2.out.step9 hu; clear hu)
      refine hK _ _ HA3.out ?_
      clear hK K
      refine held_one 27 (by kernel_rfl) rfl (by kernel_rfl) fun K hK => ?_
      go_simp
      go_wp2_with (go_at_call 32; refine Calls.mono (HC4.out _ HA3.out) ?_; rintro e vHA4 ⟨rfl, hu⟩; have HA4 : Hid (Aft u7 vHA4) := HA3.out.step9 hu; clear hu)
      refine hK _ _ HA4.out ?_
      clear hK K
      refine wpAnyH_take (i := 28) (v := .bool true) rfl (by kernel_rfl) (by kernel_rfl) (by kernel_rfl) (fun _ _ _ h => h) (Or.inl ⟨by kernel_rfl, fun w9 h9 => ?_⟩) HA4.out ?_
      · go_simp
      refine wpAnyH_take (i := 29) (v := .bool true) rfl (by kernel_rfl) (by kernel_rfl) (by kernel_rfl) (fun _ _ _ h => h) (Or.inl ⟨by kernel_rfl, fun w9 h9 => ?_⟩) HA4.out ?_
      · go_simp
      refine wpAnyH_take (i := 30) (v := .bool true) rfl (by kernel_rfl) (by kernel_rfl) (by kernel_rfl) (fun _ _ _ h => h) (Or.inl ⟨by kernel_rfl, fun w9 h9 => ?_⟩) HA4.out ?_
      · go_simp
      refine wpAnyH_done (by kernel_rfl) ?_ _
      go_simp
      go_wp2
      go_ret
      exact ⟨rfl, HFI.out _ HA4.out⟩
    · skip
      refine wp_region_held (S := fun w9 => Aft u7 w9) (by kernel_rfl) ?_
      change wpAnyH _ _ _ _ _ _ _ _ (World.drew _)
      refine wpAnyH_take (i := 0) (v := .int .i64 P) rfl (by kernel_rfl) (by kernel_rfl) (by kernel_rfl) (fun _ _ _ h => h) (Or.inl ⟨by kernel_rfl, fun w9 h9 => ?_⟩) HA0.out ?_
      · go_simp
      refine wpAnyH_take (i := 1) (v := .bool false) rfl (by kernel_rfl) (by kernel_rfl) (by kernel_rfl) (fun _ _ _ h => h) (Or.inl ⟨by kernel_rfl, fun w9 h9 => ?_⟩) HA0.out ?_
      · go_simp; all_goals omega
      refine wpAnyH_take (i := 2) (v := .bool false) rfl (by kernel_rfl) (by kernel_rfl) (by kernel_rfl) (fun _ _ _ h => h) (Or.inl ⟨by kernel_rfl, fun w9 h9 => ?_⟩) HA0.out ?_
      · go_simp
      refine wpAnyH_take (i := 3) (v := .int .i64 P) rfl (by kernel_rfl) (by kernel_rfl) (by kernel_rfl) (fun _ _ _ h => h) (Or.inl ⟨by kernel_rfl, fun w9 h9 => ?_⟩) HA0.out ?_
      · go_simp
      refine wpAnyH_take (i := 4) (v := .string nn) rfl (by kernel_rfl) (by kernel_rfl) (by kernel_rfl) (fun _ _ _ h => h) (Or.inl ⟨by kernel_rfl, fun w9 h9 => ?_⟩) HA0.out ?_
      · go_simp
      refine wpAnyH_take (i := 5) (v := .slice (some a9) zs.length cv) rfl (by kernel_rfl) (by kernel_rfl) (by kernel_rfl) (fun _ _ _ h => h) (Or.inl ⟨by kernel_rfl, fun w9 h9 => ?_⟩) HA0.out ?_
      · go_simp
      refine wpAnyH_take (i := 6) (v := .agg #[.int .i64 R, .int .i64 Z]) rfl (by kernel_rfl) (by kernel_rfl) (by kernel_rfl) (fun _ _ _ h => h) (Or.inl ⟨by kernel_rfl, fun w9 h9 => ?_⟩) HA0.out ?_
      · obtain ⟨x0, x1, xl⟩ := HQ6.out _ h9; obtain ⟨y0, y1, yl⟩ := HQ9.out _ h9; go_simp
      refine held_one 7 (by kernel_rfl) rfl (by kernel_rfl) fun K hK => ?_
      go_simp
      go_wp2_with (go_at_call 31; refine Calls.mono (HC1.out _ HA0.out hp) ?_; rintro e vHA1 ⟨rfl, hu⟩; have HA1 : Hid (Aft u7 vHA1) := HA0.out.step9 hu; clear hu)
      refine hK _ _ HA1.out ?_
      clear hK K
      refine wpAnyH_take (i := 8) (v := .bool true) rfl (by kernel_rfl) (by kernel_rfl) (by kernel_rfl) (fun _ _ _ h => h) (Or.inl ⟨by kernel_rfl, fun w9 h9 => ?_⟩) HA1.out ?_
      · go_simp
      refine wpAnyH_take (i := 9) (v := .bool true) rfl (by kernel_rfl) (by kernel_rfl) (by kernel_rfl) (fun _ _ _ h => h) (Or.inl ⟨by kernel_rfl, fun w9 h9 => ?_⟩) HA1.out ?_
      · go_simp
      refine wpAnyH_take (i := 10) (v := .int .i64 P) rfl (by kernel_rfl) (by kernel_rfl) (by kernel_rfl) (fun _ _ _ h => h) (Or.inl ⟨by kernel_rfl, fun w9 h9 => ?_⟩) HA1.out ?_
      · go_simp
      refine wpAnyH_take (i := 11) (v := .string nn) rfl (by kernel_rfl) (by kernel_rfl) (by kernel_rfl) (fun _ _ _ h => h) (Or.inl ⟨by kernel_rfl, fun w9 h9 => ?_⟩) HA1.out ?_
      · go_simp
      refine wpAnyH_take (i := 12) (v := .slice (some a9) zs.length cv) rfl (by kernel_rfl) (by kernel_rfl) (by kernel_rfl) (fun _ _ _ h => h) (Or.inl ⟨by kernel_rfl, fun w9 h9 => ?_⟩) HA1.out ?_
      · go_simp
      refine wpAnyH_take (i := 13) (v := .agg #[.int .i64 R, .int .i64 Y]) rfl (by kernel_rfl) (by kernel_rfl) (by kernel_rfl) (fun _ _ _ h => h) (Or.inl ⟨by kernel_rfl, fun w9 h9 => ?_⟩) HA1.out ?_
      · obtain ⟨x0, x1, xl⟩ := HQ6.out _ h9; obtain ⟨y0, y1, yl⟩ := HQ9.out _ h9; go_simp
      refine held_one 14 (by kernel_rfl) rfl (by kernel_rfl) fun K hK => ?_
      go_simp
      go_wp2_with (go_at_call 31; refine Calls.mono (HC2.out _ HA1.out) ?_; rintro e vHA2 ⟨rfl, hu⟩; have HA2 : Hid (Aft u7 vHA2) := HA1.out.step9 hu; clear hu)
      refine hK _ _ HA2.out ?_
      clear hK K
      refine wpAnyH_take (i := 15) (v := .bool true) rfl (by kernel_rfl) (by kernel_rfl) (by kernel_rfl) (fun _ _ _ h => h) (Or.inl ⟨by kernel_rfl, fun w9 h9 => ?_⟩) HA2.out ?_
      · go_simp
      refine wpAnyH_take (i := 16) (v := .bool true) rfl (by kernel_rfl) (by kernel_rfl) (by kernel_rfl) (fun _ _ _ h => h) (Or.inl ⟨by kernel_rfl, fun w9 h9 => ?_⟩) HA2.out ?_
      · go_simp
      refine wpAnyH_take (i := 17) (v := .bool true) rfl (by kernel_rfl) (by kernel_rfl) (by kernel_rfl) (fun _ _ _ h => h) (Or.inl ⟨by kernel_rfl, fun w9 h9 => ?_⟩) HA2.out ?_
      · go_simp
      refine wpAnyH_take (i := 18) (v := .int .i64 P) rfl (by kernel_rfl) (by kernel_rfl) (by kernel_rfl) (fun _ _ _ h => h) (Or.inl ⟨by kernel_rfl, fun w9 h9 => ?_⟩) HA2.out ?_
      · go_simp
      refine wpAnyH_take (i := 19) (v := .string nn) rfl (by kernel_rfl) (by kernel_rfl) (by kernel_rfl) (fun _ _ _ h => h) (Or.inl ⟨by kernel_rfl, fun w9 h9 => ?_⟩) HA2.out ?_
      · go_simp
      refine wpAnyH_take (i := 20) (v := .slice (some ⟨g, 0, none⟩) zs.length c9) rfl (by kernel_rfl) (by kernel_rfl) (by kernel_rfl) (fun _ _ _ h => h) (Or.inl ⟨by kernel_rfl, fun w9 h9 => ?_⟩) HA2.out ?_
      · go_simp
      refine wpAnyH_take (i := 21) (v := .agg #[.int .i64 R, .int .i64 Z]) rfl (by kernel_rfl) (by kernel_rfl) (by kernel_rfl) (fun _ _ _ h => h) (Or.inl ⟨by kernel_rfl, fun w9 h9 => ?_⟩) HA2.out ?_
      · obtain ⟨x0, x1, xl⟩ := HQ6.out _ h9; obtain ⟨y0, y1, yl⟩ := HQ9.out _ h9; go_simp
      refine wpAnyH_take (i := 23) (v := .int .i64 P) rfl (by kernel_rfl) (by kernel_rfl) (by kernel_rfl) (fun _ _ _ h => h) (Or.inl ⟨by kernel_rfl, fun w9 h9 => ?_⟩) HA2.out ?_
      · go_simp
      refine wpAnyH_take (i := 24) (v := .string nn) rfl (by kernel_rfl) (by kernel_rfl) (by kernel_rfl) (fun _ _ _ h => h) (Or.inl ⟨by kernel_rfl, fun w9 h9 => ?_⟩) HA2.out ?_
      · go_simp
      refine wpAnyH_take (i := 25) (v := .slice (some ⟨g, 0, none⟩) zs.length c9) rfl (by kernel_rfl) (by kernel_rfl) (by kernel_rfl) (fun _ _ _ h => h) (Or.inl ⟨by kernel_rfl, fun w9 h9 => ?_⟩) HA2.out ?_
      · go_simp
      refine wpAnyH_take (i := 26) (v := .agg #[.int .i64 R, .int .i64 Z]) rfl (by kernel_rfl) (by kernel_rfl) (by kernel_rfl) (fun _ _ _ h => h) (Or.inl ⟨by kernel_rfl, fun w9 h9 => ?_⟩) HA2.out ?_
      · obtain ⟨x0, x1, xl⟩ := HQ6.out _ h9; obtain ⟨y0, y1, yl⟩ := HQ9.out _ h9; go_simp
      refine held_one 22 (by kernel_rfl) rfl (by kernel_rfl) fun K hK => ?_
      go_simp
      go_wp2_with (go_at_call 31; refine Calls.mono (HC3.out _ HA2.out) ?_; rintro e vHA3 ⟨rfl, hu⟩; have HA3 : Hid (Aft u7 vHA3) := HA2.out.step9 hu; clear hu)
      refine hK _ _ HA3.out ?_
      clear hK K
      refine held_one 27 (by kernel_rfl) rfl (by kernel_rfl) fun K hK => ?_
      go_simp
      go_wp2_with (go_at_call 32; refine Calls.mono (HC4.out _ HA3.out) ?_; rintro e vHA4 ⟨rfl, hu⟩; have HA4 : Hid (Aft u7 vHA4) := HA3.out.step9 hu; clear hu)
      refine hK _ _ HA4.out ?_
      clear hK K
      refine wpAnyH_take (i := 28) (v := .bool true) rfl (by kernel_rfl) (by kernel_rfl) (by kernel_rfl) (fun _ _ _ h => h) (Or.inl ⟨by kernel_rfl, fun w9 h9 => ?_⟩) HA4.out ?_
      · go_simp
      refine wpAnyH_take (i := 29) (v := .bool true) rfl (by kernel_rfl) (by kernel_rfl) (by kernel_rfl) (fun _ _ _ h => h) (Or.inl ⟨by kernel_rfl, fun w9 h9 => ?_⟩) HA4.out ?_
      · go_simp
      refine wpAnyH_take (i := 30) (v := .bool true) rfl (by kernel_rfl) (by kernel_rfl) (by kernel_rfl) (fun _ _ _ h => h) (Or.inl ⟨by kernel_rfl, fun w9 h9 => ?_⟩) HA4.out ?_
      · go_simp
      refine wpAnyH_done (by kernel_rfl) ?_ _
      go_simp
      go_wp2
      go_ret
      exact ⟨rfl, HFI.out _ HA4.out⟩
end Go.Proofs.Ythncnffnjjclfab
