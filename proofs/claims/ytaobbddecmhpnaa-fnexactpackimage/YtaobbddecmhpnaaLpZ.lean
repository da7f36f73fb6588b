import Derived.Test.YtaobbddecmhpnaaSfZ
import Derived.Test.YtaobbddecmhpnaaImZ
import Derived.Test.YtaobbddecmhpnaaHl
import Derived.Test.YtaobbddecmhpnaaPaZ
namespace Go.Proofs.Ytaobbddecmhpnaa
open Go.ChangeShapes Go.WideShapes Go.ChangeAt Go.RowKit

theorem IOwn.sl {w : World} {B : Nat} {m : IM} {a : IA} (h : IOwn w B m a) : ∃ al kl am km ac kc qs, a = ⟨.slice al m.t.length kl, .slice am m.d.length km, .slice ac qs.length kc, qs⟩ := by
  obtain ⟨vt, vd, vs, qs⟩ := a
  obtain ⟨al, kl, e1⟩ := i_sl h.t
  obtain ⟨am, km, e2⟩ := s_sl h.d
  obtain ⟨ac, kc, e3⟩ := sn_sl h.sn
  simp only at e1 e2 e3
  subst e1 e2 e3
  exact ⟨_, _, _, _, _, _, _, rfl⟩
theorem PB.new {u : World} {m : IM} {a : IA} (x : IRows u m a) : PB (u.alloc (.cells #[.string m.n, .string m.b, a.vt, a.vd, a.vs] 31)) u.heap.size m a := by
  obtain ⟨c0, c1, c2, c3, c4, _⟩ := cel5 (heap_new u (.cells #[.string m.n, .string m.b, a.vt, a.vd, a.vs] 31))
  exact ⟨by simp, c0, c1, c2, c3, c4, x.below ((Below.refl _ _).alloc (Nat.le_refl _) _)⟩

set_option maxRecDepth 100000 in
set_option maxHeartbeats 4000000 in
theorem walkPk {w : World} {m : IM} {a : IA} (h : IRows w m a) (hm : IMax m) : Calls Try.prog 3 #[imA m a] w fun e w' => e = .returned (.bool true) ∧ Below w.heap.size w w' := by
  obtain ⟨al, kl, el⟩ := h.t.sl
  obtain ⟨am, km, em⟩ := h.d.sl
  obtain ⟨ac, kc, ec⟩ := h.sn.sl
  obtain ⟨vc, vp, vg, qs⟩ := a
  simp only at el ec em
  subst el ec em
  have HL1 : Hid (IBx w (w.alloc (.cells #[.string m.n, .string m.b, .slice al m.t.length kl, .slice am m.d.length km, .slice ac qs.length kc] 26)) m ⟨.slice al m.t.length kl, .slice am m.d.length km, .slice ac qs.length kc, qs⟩) := IBx.new h
  have HS : Hid _ := fun q hq => szImage_any HL1.out.row hm 1048576 (by omega) (by omega) q hq
  clear h hm
  have hnn := totI_nn m
  by_cases hsz : (1048576 : Int) < totI m
  · have hS := HS.out (-1) (by rw [if_pos hsz])
    have HS2 : Hid _ := hS
    clear hS HS hsz hnn
    unfold imA at HS2 ⊢
    simp only at HS2 ⊢
    go_enter Try.func3, Try.ntmps3
    go_wp2_with (go_at_call 4; refine Calls.mono HS2.out ?_; rintro e u1 ⟨rfl, hu1⟩; have HB1 : Hid (Below w.heap.size w u1) := HL1.out.bel.trans (hu1.mono HL1.out.bel.size); clear hu1 HS2)
    go_ret
    exact ⟨rfl, HB1.out⟩
  · have HL : Hid (ILen m) := totI_len (by omega)
    obtain ⟨q, hq⟩ : ∃ q : Int, q = 1048576 - totI m := ⟨_, rfl⟩
    have hS := HS.out q (by rw [if_neg hsz, hq])
    have HS2 : Hid _ := hS
    have hr2 : ¬ q < 0 := by omega
    clear hS HS hsz hnn hq
    unfold imA at HS2 ⊢
    simp only at HS2 ⊢
    generalize hres : pkB m = res
    have HRES : Hid (pkB m = res) := hres
    clear hres
    go_enter Try.func3, Try.ntmps3
    go_wp2_with (first
      | (go_at_call 4; refine Calls.mono HS2.out ?_; rintro e u1 ⟨rfl, hu1⟩; have HL2 : Hid (IBx w u1 m ⟨.slice al m.t.length kl, .slice am m.d.length km, .slice ac qs.length kc, qs⟩) := HL1.out.step hu1; obtain ⟨c0, c1, c2, c3, c4⟩ := HL2.out.cel; simp only at c0 c1 c2 c3 c4; clear hu1 HS2 HL1)
      | (go_at_call 6; have hA := toImage_any HL2.out.row HL.out; unfold imA at hA; simp only at hA; refine Calls.mono hA ?_; clear hA; rintro e u2 ⟨a1, rfl, ho, hb⟩; obtain ⟨al3, kl3, am3, km3, ac3, kc3, qs3, rfl⟩ := ho.sl; have HL3 : Hid (IBx w u2 m ⟨.slice al m.t.length kl, .slice am m.d.length km, .slice ac qs.length kc, qs⟩) := HL2.out.step hb; have HR : Hid (IRows u2 m ⟨.slice al3 m.t.length kl3, .slice am3 m.d.length km3, .slice ac3 qs3.length kc3, qs3⟩) := ho.rows; clear ho hb HL2)
      | (go_at_call 5; have hA := specPack_any HR.out HL.out; rw [HRES.out] at hA; unfold imA at hA; simp only at hA; refine Calls.mono hA ?_; clear hA; rintro e u3 ⟨rfl, hb⟩; have HL4 : Hid (IBx w u3 m ⟨.slice al m.t.length kl, .slice am m.d.length km, .slice ac qs.length kc, qs⟩) := HL3.out.step hb; obtain ⟨k0, k1, k2, k3, k4⟩ := HL4.out.cel; simp only at k0 k1 k2 k3 k4; clear hb HL3 HR)
      | (go_at_call 6; have hA := toImage_any HL4.out.row HL.out; unfold imA at hA; simp only at hA; refine Calls.mono hA ?_; clear hA; rintro e u4 ⟨a2, rfl, ho, hb⟩; obtain ⟨al4, kl4, am4, km4, ac4, kc4, qs4, rfl⟩ := ho.sl; have HL5 : Hid (IBx w (u4.alloc (.cells #[.string m.n, .string m.b, .slice al4 m.t.length kl4, .slice am4 m.d.length km4, .slice ac4 qs4.length kc4] 31)) m ⟨.slice al m.t.length kl, .slice am m.d.length km, .slice ac qs.length kc, qs⟩) := (HL4.out.step hb).step ((Below.refl _ _).alloc (Nat.le_refl _) _); have HX5 : Hid (PB (u4.alloc (.cells #[.string m.n, .string m.b, .slice al4 m.t.length kl4, .slice am4 m.d.length km4, .slice ac4 qs4.length kc4] 31)) u4.heap.size m ⟨.slice al4 m.t.length kl4, .slice am4 m.d.length km4, .slice ac4 qs4.length kc4, qs4⟩) := PB.new ho.rows; clear ho hb HL4)
      | (go_at_call 7; have hA := implPack_any HX5.out.row HL.out; rw [HRES.out] at hA; unfold imA at hA; simp only at hA; refine Calls.mono hA ?_; clear hA; rintro e u5 ⟨rfl, hb⟩; have HL6 : Hid (IBx w u5 m ⟨.slice al m.t.length kl, .slice am m.d.length km, .slice ac qs.length kc, qs⟩) := HL5.out.step hb; have HX6 : Hid (PB u5 u4.heap.size m ⟨.slice al4 m.t.length kl4, .slice am4 m.d.length km4, .slice ac4 qs4.length kc4, qs4⟩) := HX5.out.below hb; clear hb HL5 HX5))
    obtain ⟨p0, p1, p2, p3, p4⟩ := HL6.out.cel
    have q0 := HX6.out.c0
    have q1 := HX6.out.c1
    have q2 := HX6.out.c2
    have q3 := HX6.out.c3
    have q4 := HX6.out.c4
    simp only at p0 p1 p2 p3 p4 q0 q1 q2 q3 q4
    have hq := HX6.out.lt
    have hp := HL6.out.lt
    have HSB : Hid (u5.drew.cell? ⟨w.heap.size, 0, none⟩ = some (.string m.n) ∧ u5.drew.cell? ⟨w.heap.size, 1, none⟩ = some (.string m.b) ∧ u5.drew.cell? ⟨w.heap.size, 2, none⟩ = some (.slice al m.t.length kl) ∧ u5.drew.cell? ⟨w.heap.size, 3, none⟩ = some (.slice am m.d.length km) ∧ u5.drew.cell? ⟨w.heap.size, 4, none⟩ = some (.slice ac qs.length kc) ∧ u5.drew.cell? ⟨u4.heap.size, 0, none⟩ = some (.string m.n) ∧ u5.drew.cell? ⟨u4.heap.size, 1, none⟩ = some (.string m.b) ∧ u5.drew.cell? ⟨u4.heap.size, 2, none⟩ = some (.slice al4 m.t.length kl4) ∧ u5.drew.cell? ⟨u4.heap.size, 3, none⟩ = some (.slice am4 m.d.length km4) ∧ u5.drew.cell? ⟨u4.heap.size, 4, none⟩ = some (.slice ac4 qs4.length kc4)) := ⟨p0, p1, p2, p3, p4, q0, q1, q2, q3, q4⟩
    refine wp_region_held (S := fun w' => w'.cell? ⟨w.heap.size, 0, none⟩ = some (.string m.n) ∧ w'.cell? ⟨w.heap.size, 1, none⟩ = some (.string m.b) ∧ w'.cell? ⟨w.heap.size, 2, none⟩ = some (.slice al m.t.length kl) ∧ w'.cell? ⟨w.heap.size, 3, none⟩ = some (.slice am m.d.length km) ∧ w'.cell? ⟨w.heap.size, 4, none⟩ = some (.slice ac qs.length kc) ∧ w'.cell? ⟨u4.heap.size, 0, none⟩ = some (.string m.n) ∧ w'.cell? ⟨u4.heap.size, 1, none⟩ = some (.string m.b) ∧ w'.cell? ⟨u4.heap.size, 2, none⟩ = some (.slice al4 m.t.length kl4) ∧ w'.cell? ⟨u4.heap.size, 3, none⟩ = some (.slice am4 m.d.length km4) ∧ w'.cell? ⟨u4.heap.size, 4, none⟩ = some (.slice ac4 qs4.length kc4)) (by kernel_rfl) ?_
    change wpAnyH _ _ _ _ _ _ _ _ (World.drew _)
    refine wpAnyH_take (i := 0) (v := .agg #[.string m.n, .string m.b, .slice al4 m.t.length kl4, .slice am4 m.d.length km4, .slice ac4 qs4.length kc4]) rfl (by kernel_rfl) (by kernel_rfl) (by kernel_rfl) (fun _ _ _ h => h) (Or.inl ⟨by rfl, fun w9 h9 => ?_⟩) HSB.out ?_
    · obtain ⟨_, _, _, _, _, h93, h94, h95, h96, h97⟩ := h9
      go_simp
    refine wpAnyH_take (i := 1) (v := .agg #[.string m.n, .string m.b, .slice al m.t.length kl, .slice am m.d.length km, .slice ac qs.length kc]) rfl (by kernel_rfl) (by kernel_rfl) (by kernel_rfl) (fun _ _ _ h => h) (Or.inl ⟨by rfl, fun w9 h9 => ?_⟩) HSB.out ?_
    · obtain ⟨h90, h91, h92, h93, h94, _⟩ := h9
      go_simp
    clear p0 p1 p2 p3 p4 q0 q1 q2 q3 q4 c0 c1 c2 c3 c4 k0 k1 k2 k3 k4
    refine held_one 2 (by kernel_rfl) rfl (by rfl) fun K hK => ?_
    go_simp
    go_wp2_with (go_at_call 6; have hA := toImage_any (HL6.out.row.below (w' := u5.drew) (Below.refl _ _).drew) HL.out; unfold imA at hA; simp only at hA; refine Calls.mono hA ?_; clear hA; rintro e u6 ⟨a3, rfl, ho, hb⟩; obtain ⟨al6, kl6, am6, km6, ac6, kc6, qs6, rfl⟩ := ho.sl; have hb6 : Below u5.heap.size u5 u6 := ⟨hb.os, hb.tape, hb.output, hb.size, hb.block⟩; have HL7 : Hid (IBx w u6 m ⟨.slice al m.t.length kl, .slice am m.d.length km, .slice ac qs.length kc, qs⟩) := HL6.out.step hb6; have HX7 : Hid (PB u6 u4.heap.size m ⟨.slice al4 m.t.length kl4, .slice am4 m.d.length km4, .slice ac4 qs4.length kc4, qs4⟩) := HX6.out.below hb6; have HO7 : Hid (IRows u6 m ⟨.slice al6 m.t.length kl6, .slice am6 m.d.length km6, .slice ac6 qs6.length kc6, qs6⟩) := ho.rows; obtain ⟨s0, s1, s2, s3, s4⟩ := HL7.out.cel; have t0 := HX7.out.c0; have t1 := HX7.out.c1; have t2 := HX7.out.c2; have t3 := HX7.out.c3; have t4 := HX7.out.c4; simp only at s0 s1 s2 s3 s4 t0 t1 t2 t3 t4; clear ho hb hb6 HL6 HX6)
    refine hK _ _ ⟨s0, s1, s2, s3, s4, t0, t1, t2, t3, t4⟩ ?_
    clear hK K
    refine held_one 3 (by kernel_rfl) rfl (by rfl) fun K hK => ?_
    go_simp
    go_wp2_with (go_at_call 8; have hA := eqImage_ok HX7.out.row HO7.out HL.out; unfold imA at hA; simp only at hA; refine Calls.mono hA ?_; clear hA; rintro e u7 ⟨rfl, hb⟩; have HL8 : Hid (IBx w u7 m ⟨.slice al m.t.length kl, .slice am m.d.length km, .slice ac qs.length kc, qs⟩) := HL7.out.step hb; have HX8 : Hid (PB u7 u4.heap.size m ⟨.slice al4 m.t.length kl4, .slice am4 m.d.length km4, .slice ac4 qs4.length kc4, qs4⟩) := HX7.out.below hb; obtain ⟨x0, x1, x2, x3, x4⟩ := HL8.out.cel; have y0 := HX8.out.c0; have y1 := HX8.out.c1; have y2 := HX8.out.c2; have y3 := HX8.out.c3; have y4 := HX8.out.c4; simp only at x0 x1 x2 x3 x4 y0 y1 y2 y3 y4; clear hb HL7 HX7)
    refine hK _ _ ⟨x0, x1, x2, x3, x4, y0, y1, y2, y3, y4⟩ ?_
    clear hK K
    refine held_one 4 (by kernel_rfl) rfl (by rfl) fun K hK => ?_
    go_simp
    refine hK _ _ ⟨x0, x1, x2, x3, x4, y0, y1, y2, y3, y4⟩ ?_
    clear hK K
    refine wpAnyH_done (by kernel_rfl) ?_ _
    go_simp
    all_goals go_wp2
    all_goals go_ret
    exact ⟨rfl, HL8.out.bel⟩
end Go.Proofs.Ytaobbddecmhpnaa
