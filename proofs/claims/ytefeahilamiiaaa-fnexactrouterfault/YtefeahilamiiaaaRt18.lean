import Derived.Test.YtefeahilamiiaaaRt17
namespace Go.Proofs.Ytefeahilamiiaaa
open Go.ChangeShapes Go.WideShapes Go.ChangeAt Go.RowKit

theorem ROwn.sl {w : World} {B : Nat} {r : RT} {a : RA} (h : ROwn w B r a) : ∃ al kl ac kc am km qs, a = ⟨.slice al r.ls.length kl, .slice ac r.cs.length kc, .slice am r.ms.length km, qs⟩ := by
  obtain ⟨vl, vc, vm, qs⟩ := a
  obtain ⟨al, kl, e1⟩ := ln_sl h.ln
  obtain ⟨ac, kc, e2⟩ := cq_sl h.cq
  obtain ⟨am, km, e3⟩ := rm_sl h.rm
  have e4 := h.cp.len
  simp only at e1 e2 e3 e4
  rw [e4] at e2
  subst e1 e2 e3
  exact ⟨_, _, _, _, _, _, _, rfl⟩
set_option maxRecDepth 100000 in
set_option maxHeartbeats 4000000 in
theorem walkRF {w : World} {r : RT} {a : RA} (h : RRows w r a) (hm : RMax r) : Calls Try.prog 3 #[rtA a] w fun e w' => e = .returned (.bool true) ∧ Below w.heap.size w w' := by
  obtain ⟨al, kl, el⟩ := h.ln.sl
  obtain ⟨ac, kc, ec⟩ := h.cq.sl
  obtain ⟨am, km, em⟩ := h.rm.sl
  obtain ⟨vl, vc, vm, qs⟩ := a
  simp only at el ec em
  subst el ec em
  have HL1 : Hid (LBx w (w.alloc (.cells #[.slice al r.ls.length kl, .slice ac qs.length kc, .slice am r.ms.length km] 26)) r ⟨.slice al r.ls.length kl, .slice ac qs.length kc, .slice am r.ms.length km, qs⟩) := LBx.new h
  have HS : Hid _ := szRouter_any HL1.out.row hm
  clear h hm
  cases hsz : szB r
  · rw [hsz] at HS
    unfold rtA at HS ⊢
    simp only at HS ⊢
    go_enter Try.func3, Try.ntmps3
    go_wp2_with (go_at_call 5; refine Calls.mono HS.out ?_; rintro e u1 ⟨q, rfl, hr, hu1⟩; have HB1 : Hid (Below w.heap.size w u1) := HL1.out.bel.trans (hu1.mono HL1.out.bel.size); have hr2 : q < 0 := (by simpa using hr); clear hu1 HS hr)
    go_ret
    exact ⟨rfl, HB1.out⟩
  · rw [hsz] at HS
    have HL : Hid (RLen r) := szB_len hsz
    clear hsz
    unfold rtA at HS ⊢
    simp only at HS ⊢
    go_enter Try.func3, Try.ntmps3
    go_wp2_with (first
      | (go_at_call 5; refine Calls.mono HS.out ?_; rintro e u1 ⟨q, rfl, hr, hu1⟩; have HL2 : Hid (LBx w u1 r ⟨.slice al r.ls.length kl, .slice ac qs.length kc, .slice am r.ms.length km, qs⟩) := HL1.out.step hu1; have hr2 : ¬ q < 0 := (by simpa using hr); obtain ⟨c0, c1, c2⟩ := HL2.out.cel; simp only at c0 c1 c2; clear hu1 HS hr HL1)
      | (go_at_call 7; have hA := toRouter_any HL2.out.row HL.out; unfold rtA at hA; simp only at hA; refine Calls.mono hA ?_; clear hA; rintro e u2 ⟨a1, rfl, ho, hb⟩; obtain ⟨al3, kl3, ac3, kc3, am3, km3, qs3, rfl⟩ := ho.sl; have HL3 : Hid (LBx w u2 r ⟨.slice al r.ls.length kl, .slice ac qs.length kc, .slice am r.ms.length km, qs⟩) := HL2.out.step hb; have HR : Hid (RRows u2 r ⟨.slice al3 r.ls.length kl3, .slice ac3 r.cs.length kc3, .slice am3 r.ms.length km3, qs3⟩) := ho.rows; clear ho hb HL2)
      | (go_at_call 6; have hA := specRF_any HR.out HL.out; unfold rtA at hA; simp only at hA; refine Calls.mono hA ?_; clear hA; rintro e u3 ⟨rfl, hb⟩; have HL4 : Hid (LBx w u3 r ⟨.slice al r.ls.length kl, .slice ac qs.length kc, .slice am r.ms.length km, qs⟩) := HL3.out.step hb; obtain ⟨k0, k1, k2⟩ := HL4.out.cel; simp only at k0 k1 k2; clear hb HL3 HR)
      | (go_at_call 7; have hA := toRouter_any HL4.out.row HL.out; unfold rtA at hA; simp only at hA; refine Calls.mono hA ?_; clear hA; rintro e u4 ⟨a2, rfl, ho, hb⟩; obtain ⟨al4, kl4, ac4, kc4, am4, km4, qs4, rfl⟩ := ho.sl; have HL5 : Hid (LBx w (u4.alloc (.cells #[.slice al4 r.ls.length kl4, .slice ac4 r.cs.length kc4, .slice am4 r.ms.length km4] 33)) r ⟨.slice al r.ls.length kl, .slice ac qs.length kc, .slice am r.ms.length km, qs⟩) := (HL4.out.step hb).step ((Below.refl _ _).alloc (Nat.le_refl _) _); have HX5 : Hid (RBx (u4.alloc (.cells #[.slice al4 r.ls.length kl4, .slice ac4 r.cs.length kc4, .slice am4 r.ms.length km4] 33)) u4.heap.size r ⟨.slice al4 r.ls.length kl4, .slice ac4 r.cs.length kc4, .slice am4 r.ms.length km4, qs4⟩) := RBx.new ho.rows; clear ho hb HL4)
      | (go_at_call 8; have hA := implRF_any HX5.out.row HL.out; unfold rtA at hA; simp only at hA; refine Calls.mono hA ?_; clear hA; rintro e u5 ⟨rfl, hb⟩; have HL6 : Hid (LBx w u5 r ⟨.slice al r.ls.length kl, .slice ac qs.length kc, .slice am r.ms.length km, qs⟩) := HL5.out.step hb; have HX6 : Hid (RBx u5 u4.heap.size r ⟨.slice al4 r.ls.length kl4, .slice ac4 r.cs.length kc4, .slice am4 r.ms.length km4, qs4⟩) := HX5.out.below hb; clear hb HL5 HX5))
    obtain ⟨p0, p1, p2⟩ := HL6.out.cel
    obtain ⟨q0, q1, q2⟩ := HX6.out.cel
    simp only at p0 p1 p2 q0 q1 q2
    have hq := HX6.out.lt
    have hp := HL6.out.lt
    have HSB : Hid (u5.drew.cell? ⟨w.heap.size, 0, none⟩ = some (.slice al r.ls.length kl) ∧ u5.drew.cell? ⟨w.heap.size, 1, none⟩ = some (.slice ac qs.length kc) ∧ u5.drew.cell? ⟨w.heap.size, 2, none⟩ = some (.slice am r.ms.length km) ∧ u5.drew.cell? ⟨u4.heap.size, 0, none⟩ = some (.slice al4 r.ls.length kl4) ∧ u5.drew.cell? ⟨u4.heap.size, 1, none⟩ = some (.slice ac4 r.cs.length kc4) ∧ u5.drew.cell? ⟨u4.heap.size, 2, none⟩ = some (.slice am4 r.ms.length km4)) := ⟨p0, p1, p2, q0, q1, q2⟩
    refine wp_region_held (S := fun w' => w'.cell? ⟨w.heap.size, 0, none⟩ = some (.slice al r.ls.length kl) ∧ w'.cell? ⟨w.heap.size, 1, none⟩ = some (.slice ac qs.length kc) ∧ w'.cell? ⟨w.heap.size, 2, none⟩ = some (.slice am r.ms.length km) ∧ w'.cell? ⟨u4.heap.size, 0, none⟩ = some (.slice al4 r.ls.length kl4) ∧ w'.cell? ⟨u4.heap.size, 1, none⟩ = some (.slice ac4 r.cs.length kc4) ∧ w'.cell? ⟨u4.heap.size, 2, none⟩ = some (.slice am4 r.ms.length km4)) (by kernel_rfl) ?_
    change wpAnyH _ _ _ _ _ _ _ _ (World.drew _)
    refine wpAnyH_take (i := 0) (v := .agg #[.slice al4 r.ls.length kl4, .slice ac4 r.cs.length kc4, .slice am4 r.ms.length km4]) rfl (by kernel_rfl) (by kernel_rfl) (by kernel_rfl) (fun _ _ _ h => h) (Or.inl ⟨by rfl, fun w9 h9 => ?_⟩) HSB.out ?_
    · obtain ⟨_, _, _, h93, h94, h95⟩ := h9
      go_simp
    refine wpAnyH_take (i := 1) (v := .agg #[.slice al r.ls.length kl, .slice ac qs.length kc, .slice am r.ms.length km]) rfl (by kernel_rfl) (by kernel_rfl) (by kernel_rfl) (fun _ _ _ h => h) (Or.inl ⟨by rfl, fun w9 h9 => ?_⟩) HSB.out ?_
    · obtain ⟨h90, h91, h92, _, _, _⟩ := h9
      go_simp
    clear p0 p1 p2 q0 q1 q2 c0 c1 c2 k0 k1 k2
    refine held_one 2 (by kernel_rfl) rfl (by rfl) fun K hK => ?_
    go_simp
    go_wp2_with (go_at_call 7; have hA := toRouter_any (HL6.out.row.below (w' := u5.drew) (Below.refl _ _).drew) HL.out; unfold rtA at hA; simp only at hA; refine Calls.mono hA ?_; clear hA; rintro e u6 ⟨a3, rfl, ho, hb⟩; obtain ⟨al6, kl6, ac6, kc6, am6, km6, qs6, rfl⟩ := ho.sl; have hb6 : Below u5.heap.size u5 u6 := ⟨hb.os, hb.tape, hb.output, hb.size, hb.block⟩; have HL7 : Hid (LBx w u6 r ⟨.slice al r.ls.length kl, .slice ac qs.length kc, .slice am r.ms.length km, qs⟩) := HL6.out.step hb6; have HX7 : Hid (RBx u6 u4.heap.size r ⟨.slice al4 r.ls.length kl4, .slice ac4 r.cs.length kc4, .slice am4 r.ms.length km4, qs4⟩) := HX6.out.below hb6; have HO7 : Hid (RRows u6 r ⟨.slice al6 r.ls.length kl6, .slice ac6 r.cs.length kc6, .slice am6 r.ms.length km6, qs6⟩) := ho.rows; obtain ⟨s0, s1, s2⟩ := HL7.out.cel; obtain ⟨t0, t1, t2⟩ := HX7.out.cel; simp only at s0 s1 s2 t0 t1 t2; clear ho hb hb6 HL6 HX6)
    refine hK _ _ ⟨s0, s1, s2, t0, t1, t2⟩ ?_
    clear hK K
    refine held_one 3 (by kernel_rfl) rfl (by rfl) fun K hK => ?_
    go_simp
    go_wp2_with (go_at_call 9; have hA := eqRouter_ok HX7.out.row HO7.out HL.out; unfold rtA at hA; simp only at hA; refine Calls.mono hA ?_; clear hA; rintro e u7 ⟨rfl, hb⟩; have HL8 : Hid (LBx w u7 r ⟨.slice al r.ls.length kl, .slice ac qs.length kc, .slice am r.ms.length km, qs⟩) := HL7.out.step hb; have HX8 : Hid (RBx u7 u4.heap.size r ⟨.slice al4 r.ls.length kl4, .slice ac4 r.cs.length kc4, .slice am4 r.ms.length km4, qs4⟩) := HX7.out.below hb; obtain ⟨x0, x1, x2⟩ := HL8.out.cel; obtain ⟨y0, y1, y2⟩ := HX8.out.cel; simp only at x0 x1 x2 y0 y1 y2; clear hb HL7 HX7)
    refine hK _ _ ⟨x0, x1, x2, y0, y1, y2⟩ ?_
    clear hK K
    refine held_one 4 (by kernel_rfl) rfl (by rfl) fun K hK => ?_
    go_simp
    refine hK _ _ ⟨x0, x1, x2, y0, y1, y2⟩ ?_
    clear hK K
    refine wpAnyH_done (by kernel_rfl) ?_ _
    go_simp
    all_goals go_wp2
    all_goals go_ret
    exact ⟨rfl, HL8.out.bel⟩
end Go.Proofs.Ytefeahilamiiaaa
