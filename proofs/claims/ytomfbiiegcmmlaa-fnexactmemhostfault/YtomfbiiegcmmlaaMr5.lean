import Derived.Test.YtomfbiiegcmmlaaMr4
import Derived.Test.YtomfbiiegcmmlaaMh7
import Derived.Test.YtomfbiiegcmmlaaHl
namespace Go.Proofs.Ytomfbiiegcmmlaa
open Go.ChangeShapes Go.WideShapes Go.ChangeAt Go.RowKit

set_option maxRecDepth 100000
set_option maxHeartbeats 4000000 in
theorem implMH_any {w : World} {h : MH} {a : HA} (hr : HRows w h a) (hL : HLen h) : Calls Try.prog 17 #[mhA a h.time] w fun e w' => e = .returned (.int .i64 (mhI h)) ∧ Below w.heap.size w w' := by
  obtain ⟨al, kl, el⟩ := hr.cs.sl
  obtain ⟨am, km, em⟩ := hr.ps.sl
  obtain ⟨ac, kc, ec⟩ := hr.mg.sl
  obtain ⟨vc, vp, vg, qs⟩ := a
  simp only at el em ec
  subst el em ec
  have HB0 : Hid (Below w.heap.size w (w.alloc (.cells #[.slice al h.cs.length kl, .slice am h.ps.length km, .slice ac qs.length kc, .int .i64 h.time] 42))) := (Below.refl _ _).alloc (Nat.le_refl _) _
  have hM := memoryOf_any (hr.below HB0.out)
  rw [show (w.alloc (.cells #[.slice al h.cs.length kl, .slice am h.ps.length km, .slice ac qs.length kc, .int .i64 h.time] 42)).heap.size = w.heap.size + 1 from by simp] at hM
  have HM : Hid _ := hM
  clear hM
  have HIR : Hid (∀ (w1 u : World) (B : Nat), PH w1 u B h ⟨.slice al h.cs.length kl, .slice am h.ps.length km, .slice ac qs.length kc, qs⟩ → Calls Try.prog 37 #[.pointer (some ⟨B, 0, none⟩)] u fun e w' => e = .returned (.bool (mhB h)) ∧ Below u.heap.size u w') := fun w1 u B x => by
    have := hostRight_any x hL
    rw [irB_mhB] at this
    exact this
  clear hr hL
  unfold mhA at HM ⊢
  simp only at HM ⊢
  obtain ⟨R, hR⟩ : ∃ R, mhI h = R := ⟨_, rfl⟩
  rw [hR]
  have HR : Hid ((if mhB h then (0 : Int) else 1) = R) := hR
  clear hR
  generalize mhB h = G at *
  cases G with
  | false =>
    rw [if_neg (by decide)] at HR
    go_enter Try.func17, Try.ntmps17
    go_wp2_with (first | (go_at_call 36; refine Calls.mono HM.out ?_; rintro e u1 ⟨rfl, hp⟩; have HP : Hid _ := hp; clear hp) | (go_at_call 37; refine Calls.mono (HIR.out _ _ _ HP.out) ?_; rintro e u2 ⟨rfl, hu⟩; have HU : Hid (Below w.heap.size w u2) := (HB0.out.trans (HP.out.bel.mono HB0.out.size)).trans (hu.mono (HB0.out.trans (HP.out.bel.mono HB0.out.size)).size); clear hu))
    go_ret
    exact ⟨ret_int HR.out, HU.out⟩
  | true =>
    rw [if_pos rfl] at HR
    go_enter Try.func17, Try.ntmps17
    go_wp2_with (first | (go_at_call 36; refine Calls.mono HM.out ?_; rintro e u1 ⟨rfl, hp⟩; have HP : Hid _ := hp; clear hp) | (go_at_call 37; refine Calls.mono (HIR.out _ _ _ HP.out) ?_; rintro e u2 ⟨rfl, hu⟩; have HU : Hid (Below w.heap.size w u2) := (HB0.out.trans (HP.out.bel.mono HB0.out.size)).trans (hu.mono (HB0.out.trans (HP.out.bel.mono HB0.out.size)).size); clear hu))
    go_ret
    exact ⟨ret_int HR.out, HU.out⟩
theorem totM_all : ∀ gs : List GS, ((gs.flatMap (·.ss)).length : Int) ≤ totM gs := by
  intro gs
  induction gs with
  | nil => simp [totM]
  | cons g gs ih =>
    rw [List.flatMap_cons, List.length_append]
    unfold totM
    have := totM_nn gs
    omega
theorem szH_all {h : MH} (x : szH h = true) : (allS h).length ≤ 1048576 := by
  unfold szH at x
  have h2 := of_decide_eq_true x
  have h3 := totS_nn h.cs
  have h4 := totS_nn h.ps
  have h5 := totM_all h.gs
  unfold allS
  omega
/-- A program's host in a box. -/
structure HB2 (u : World) (b : Nat) (h : MH) (a : HA) : Prop where
  box : u.heap[b]? = some (.cells #[a.vc, a.vp, a.vg, .int .i64 h.time] 42 (0, 0))
  row : HRows u h a
theorem HB2.lt {u : World} {b : Nat} {h : MH} {a : HA} (x : HB2 u b h a) : b < u.heap.size := (Array.getElem?_eq_some_iff.1 x.box).1
theorem HB2.step {u u' : World} {b : Nat} {h : MH} {a : HA} (x : HB2 u b h a) (hb : Below u.heap.size u u') : HB2 u' b h a := ⟨(hb.block _ x.lt).trans x.box, x.row.below hb⟩
theorem HB2.new {u : World} {h : MH} {a : HA} (x : HRows u h a) : HB2 (u.alloc (.cells #[a.vc, a.vp, a.vg, .int .i64 h.time] 42)) u.heap.size h a := ⟨heap_new _ _, x.below ((Below.refl _ _).alloc (Nat.le_refl _) _)⟩
theorem HB2.cel {u : World} {b : Nat} {h : MH} {a : HA} (x : HB2 u b h a) : u.cell? ⟨b, 0, none⟩ = some a.vc ∧ u.cell? ⟨b, 1, none⟩ = some a.vp ∧ u.cell? ⟨b, 2, none⟩ = some a.vg ∧ u.cell? ⟨b, 3, none⟩ = some (.int .i64 h.time) := by
  have := x.box
  simp [World.cell?, this]
theorem HOwn.sl {w : World} {B : Nat} {h : MH} {a : HA} (x : HOwn w B h a) : ∃ al kl am km ac kc qs, a = ⟨.slice al h.cs.length kl, .slice am h.ps.length km, .slice ac qs.length kc, qs⟩ := by
  obtain ⟨vc, vp, vg, qs⟩ := a
  obtain ⟨al, kl, e1⟩ := s_sl x.cs
  obtain ⟨am, km, e2⟩ := s_sl x.ps
  obtain ⟨ac, kc, e3⟩ := mg_sl x.mg
  simp only at e1 e2 e3
  subst e1 e2 e3
  exact ⟨_, _, _, _, _, _, _, rfl⟩
set_option maxHeartbeats 4000000 in
theorem walkMH {w : World} {h : MH} {a : HA} (hr : HRows w h a) (hm : HMax h) : Calls Try.prog 5 #[mhA a h.time] w fun e w' => e = .returned (.bool true) ∧ Below w.heap.size w w' := by
  obtain ⟨al, kl, el⟩ := hr.cs.sl
  obtain ⟨am, km, em⟩ := hr.ps.sl
  obtain ⟨ac, kc, ec⟩ := hr.mg.sl
  obtain ⟨vc, vp, vg, qs⟩ := a
  simp only at el em ec
  subst el em ec
  have HL1 : Hid (HBx w (w.alloc (.cells #[.slice al h.cs.length kl, .slice am h.ps.length km, .slice ac qs.length kc, .int .i64 h.time] 37)) h ⟨.slice al h.cs.length kl, .slice am h.ps.length km, .slice ac qs.length kc, qs⟩) := HBx.new hr
  have HS : Hid _ := szHost_any HL1.out.row hm
  clear hr hm
  unfold mhA at HS ⊢
  simp only at HS ⊢
  cases hsz : szH h with
  | false =>
    rw [hsz] at HS
    clear hsz
    go_enter Try.func5, Try.ntmps5
    go_wp2_with (go_at_call 14; refine Calls.mono HS.out ?_; rintro e u1 ⟨q, rfl, hq, hu1⟩; have hq2 : q < 0 := of_decide_eq_true hq; have HB1 : Hid (Below w.heap.size w u1) := HL1.out.bel.trans (hu1.mono HL1.out.bel.size); clear hu1 hq)
    go_ret
    exact ⟨rfl, HB1.out⟩
  | true =>
    have HL : Hid (HLen h) := szH_len hsz
    have HE : Hid ((allS h).length ≤ 1048576) := szH_all hsz
    rw [hsz] at HS
    clear hsz
    generalize hres : mhI h = res
    have HRES : Hid (mhI h = res) := hres
    clear hres
    go_enter Try.func5, Try.ntmps5
    go_wp2_with (first
      | (go_at_call 14; refine Calls.mono HS.out ?_; rintro e u1 ⟨q, rfl, hq, hu1⟩; have hq2 : ¬ q < 0 := of_decide_eq_false hq; have HL2 : Hid (HBx w u1 h ⟨.slice al h.cs.length kl, .slice am h.ps.length km, .slice ac qs.length kc, qs⟩) := HL1.out.step hu1; obtain ⟨c0, c1, c2, c3⟩ := HL2.out.cel; simp only at c0 c1 c2 c3; clear hu1 hq HS HL1)
      | (go_at_call 16; have hA := toHost_any HL2.out.row HL.out; unfold mhA at hA; simp only at hA; refine Calls.mono hA ?_; clear hA; rintro e u2 ⟨a2, rfl, ho, hb⟩; obtain ⟨al3, kl3, am3, km3, ac3, kc3, qs3, rfl⟩ := ho.sl; have HL3 : Hid (HBx w u2 h ⟨.slice al h.cs.length kl, .slice am h.ps.length km, .slice ac qs.length kc, qs⟩) := HL2.out.step hb; have HR : Hid (HRows u2 h ⟨.slice al3 h.cs.length kl3, .slice am3 h.ps.length km3, .slice ac3 qs3.length kc3, qs3⟩) := ho.rows; clear ho hb HL2)
      | (go_at_call 15; have hA := specMH_any HR.out HL.out HE.out; rw [HRES.out] at hA; unfold mhA at hA; simp only at hA; refine Calls.mono hA ?_; clear hA; rintro e u3 ⟨rfl, hb⟩; have HL4 : Hid (HBx w u3 h ⟨.slice al h.cs.length kl, .slice am h.ps.length km, .slice ac qs.length kc, qs⟩) := HL3.out.step hb; obtain ⟨y0, y1, y2, y3⟩ := HL4.out.cel; simp only at y0 y1 y2 y3; clear hb HL3 HR)
      | (go_at_call 16; have hA := toHost_any HL4.out.row HL.out; unfold mhA at hA; simp only at hA; refine Calls.mono hA ?_; clear hA; rintro e u4 ⟨a4, rfl, ho, hb⟩; obtain ⟨al4, kl4, am4, km4, ac4, kc4, qs4, rfl⟩ := ho.sl; have HL5 : Hid (HBx w (u4.alloc (.cells #[.slice al4 h.cs.length kl4, .slice am4 h.ps.length km4, .slice ac4 qs4.length kc4, .int .i64 h.time] 42)) h ⟨.slice al h.cs.length kl, .slice am h.ps.length km, .slice ac qs.length kc, qs⟩) := (HL4.out.step hb).step ((Below.refl _ _).alloc (Nat.le_refl _) _); have HX5 : Hid (HB2 (u4.alloc (.cells #[.slice al4 h.cs.length kl4, .slice am4 h.ps.length km4, .slice ac4 qs4.length kc4, .int .i64 h.time] 42)) u4.heap.size h ⟨.slice al4 h.cs.length kl4, .slice am4 h.ps.length km4, .slice ac4 qs4.length kc4, qs4⟩) := HB2.new ho.rows; clear ho hb HL4)
      | (go_at_call 17; have hA := implMH_any HX5.out.row HL.out; rw [HRES.out] at hA; unfold mhA at hA; simp only at hA; refine Calls.mono hA ?_; clear hA; rintro e u5 ⟨rfl, hb⟩; have HL6 : Hid (HBx w u5 h ⟨.slice al h.cs.length kl, .slice am h.ps.length km, .slice ac qs.length kc, qs⟩) := HL5.out.step hb; have HX6 : Hid (HB2 u5 u4.heap.size h ⟨.slice al4 h.cs.length kl4, .slice am4 h.ps.length km4, .slice ac4 qs4.length kc4, qs4⟩) := HX5.out.step hb; clear hb HL5 HX5))
    have HBD : Hid (Below u5.heap.size u5 u5.drew) := (Below.refl _ _).drew
    have HSS : Hid (∀ u, Below u5.heap.size u5 u → HBx w u h ⟨.slice al h.cs.length kl, .slice am h.ps.length km, .slice ac qs.length kc, qs⟩ ∧ HB2 u u4.heap.size h ⟨.slice al4 h.cs.length kl4, .slice am4 h.ps.length km4, .slice ac4 qs4.length kc4, qs4⟩) := fun u hu => ⟨HL6.out.step hu, HX6.out.step hu⟩
    clear c0 c1 c2 c3 y0 y1 y2 y3
    refine wp_region_held (S := fun u => HBx w u h ⟨.slice al h.cs.length kl, .slice am h.ps.length km, .slice ac qs.length kc, qs⟩ ∧ HB2 u u4.heap.size h ⟨.slice al4 h.cs.length kl4, .slice am4 h.ps.length km4, .slice ac4 qs4.length kc4, qs4⟩) (by kernel_rfl) ?_
    change wpAnyH _ _ _ _ _ _ _ _ (World.drew _)
    refine wpAnyH_take (i := 0) (v := .agg #[.slice al4 h.cs.length kl4, .slice am4 h.ps.length km4, .slice ac4 qs4.length kc4, .int .i64 h.time]) rfl (by kernel_rfl) (by kernel_rfl) (by kernel_rfl) (fun _ _ _ h => h) (Or.inl ⟨by kernel_rfl, fun w9 h9 => ?_⟩) (HSS.out _ HBD.out) ?_
    · obtain ⟨x0, x1, x2, x3⟩ := h9.2.cel
      simp only at x0 x1 x2 x3
      have xl := h9.2.lt
      clear h9
      go_simp
    refine wpAnyH_take (i := 1) (v := .agg #[.slice al h.cs.length kl, .slice am h.ps.length km, .slice ac qs.length kc, .int .i64 h.time]) rfl (by kernel_rfl) (by kernel_rfl) (by kernel_rfl) (fun _ _ _ h => h) (Or.inl ⟨by kernel_rfl, fun w9 h9 => ?_⟩) (HSS.out _ HBD.out) ?_
    · obtain ⟨x0, x1, x2, x3⟩ := h9.1.cel
      simp only at x0 x1 x2 x3
      have xl := h9.1.lt
      clear h9
      go_simp
    refine held_one 2 (by kernel_rfl) rfl (by kernel_rfl) fun K hK => ?_
    go_simp
    go_wp2_with (go_at_call 16; have hA := toHost_any (HSS.out _ HBD.out).1.row HL.out; unfold mhA at hA; simp only at hA; refine Calls.mono hA ?_; clear hA; rintro e u6 ⟨a6, rfl, ho, hb⟩; obtain ⟨al6, kl6, am6, km6, ac6, kc6, qs6, rfl⟩ := ho.sl; have HB6 : Hid (Below u5.heap.size u5 u6) := HBD.out.trans (hb.mono HBD.out.size); have HR6 : Hid (HRows u6 h ⟨.slice al6 h.cs.length kl6, .slice am6 h.ps.length km6, .slice ac6 qs6.length kc6, qs6⟩) := ho.rows; clear ho hb)
    refine hK _ _ (HSS.out _ HB6.out) ?_
    clear hK K
    refine held_one 3 (by kernel_rfl) rfl (by kernel_rfl) fun K hK => ?_
    go_simp
    go_wp2_with (go_at_call 18; have hA := eqHost_ok (HSS.out _ HB6.out).2.row HR6.out HL.out; unfold mhA at hA; simp only at hA; refine Calls.mono hA ?_; clear hA; rintro e u7 ⟨rfl, hb⟩; have HB7 : Hid (Below u5.heap.size u5 u7) := HB6.out.trans (hb.mono HB6.out.size); clear hb)
    refine hK _ _ (HSS.out _ HB7.out) ?_
    clear hK K
    refine held_one 4 (by kernel_rfl) rfl (by kernel_rfl) fun K hK => ?_
    go_simp
    refine hK _ _ (HSS.out _ HB7.out) ?_
    clear hK K
    refine wpAnyH_done (by kernel_rfl) ?_ _
    go_simp
    all_goals go_wp2
    all_goals go_ret
    exact ⟨rfl, (HSS.out _ HB7.out).1.bel⟩
end Go.Proofs.Ytomfbiiegcmmlaa
