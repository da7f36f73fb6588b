import Derived.Test.YtomfbiiegcmmlaaGreatJs1
import Derived.Test.YtomfbiiegcmmlaaGreatJlZ
namespace Go.Proofs.YtomfbiiegcmmlaaGreat
open Go.ChangeShapes Go.WideShapes Go.ChangeAt Go.RowKit

set_option maxRecDepth 100000
/-- The image that l14May keeps. -/
structure MY (W0 wc : World) (B : Nat) (m : IM) (A : IA) : Prop where
  bel : Below W0.heap.size W0 wc
  bx : wc.heap[B]? = some (.cells #[.string m.n, .string m.b, A.vt, A.vd, A.vs] 68 (0, 0))
set_option maxHeartbeats 8000000 in
theorem may_any {w : World} {v : Value} {gs : List IG} {s : JS} (h : IGrow w v gs) (hi : IGin w gs s.ms) (hl : s.ms.length ≤ 1048576) (hr : RL s.ms) {c : Nat} (hf : fdN s.ms s.a = some c) (kd : Int) (tg : ByteArray) : Calls Tryz.prog 29 #[jsA v s.a s.j, .int .i64 kd, .string tg] w fun e w' => e = .returned (.int .i64 (mayC s.ms c s.a kd tg)) ∧ Below w.heap.size w w' := by
  have hc := fdN_lt hf
  obtain ⟨g, o, cap, a0, hv, _⟩ := h.elt hi hc
  subst hv
  have HB0 : Hid (Below w.heap.size w (w.alloc (.cells #[.slice (some ⟨g, o, none⟩) s.ms.length cap, .string s.a, .int .i64 s.j.k, .int .i64 s.j.x, .string s.j.d, .string s.j.g] 32))) := (Below.refl _ _).alloc (Nat.le_refl _) _
  have HJ0 : Hid (JP (w.alloc (.cells #[.slice (some ⟨g, o, none⟩) s.ms.length cap, .string s.a, .int .i64 s.j.k, .int .i64 s.j.x, .string s.j.d, .string s.j.g] 32)) w.heap.size s (.slice (some ⟨g, o, none⟩) s.ms.length cap) gs) := (JBox.new h hi).jp
  clear h hi
  unfold jsA
  obtain ⟨R0, hR0⟩ : ∃ R0, mayC s.ms c s.a kd tg = R0 := ⟨_, rfl⟩
  rw [hR0]
  have HR0 : Hid (mayC s.ms c s.a kd tg = R0) := hR0
  clear hR0
  go_enter Tryz.func29, Tryz.ntmps29
  go_upto_region 1 with fail
  generalize (w.alloc (.cells #[.slice (some ⟨g, o, none⟩) s.ms.length cap, .string s.a, .int .i64 s.j.k, .int .i64 s.j.x, .string s.j.d, .string s.j.g] 32)) = W0 at *
  obtain ⟨a, hp⟩ := HJ0.out.pe hc
  obtain ⟨p1, r1, p2, r2, p3, r3, q, rfl⟩ := hp.sl
  have HP : Hid (PE W0 g (o + c * 5) (gI s.ms c) ⟨.slice p1 (gI s.ms c).t.length r1, .slice p2 (gI s.ms c).d.length r2, .slice p3 (gI s.ms c).s.length r3, q⟩) := hp
  clear hp
  have HFD : Hid (∀ u n, Below W0.heap.size W0 u → Calls Tryz.prog 27 #[.slice (some ⟨g, o, none⟩) s.ms.length cap, .string n] u fun e w' => e = .returned (.int .i64 (fdI s.ms n)) ∧ w' = u) := fun u n hu => l13Find_any (HJ0.out.below hu).row (HJ0.out.below hu).inn hl n
  have HBH : Hid (∀ u n, Below W0.heap.size W0 u → Calls Tryz.prog 28 #[.slice (some ⟨g, o, none⟩) s.ms.length cap, .string n] u fun e w' => e = .returned (.int .i64 (frL s.ms n : Nat)) ∧ w' = u) := fun u n hu => behind_any (HJ0.out.below hu).row (HJ0.out.below hu).inn hl n
  obtain ⟨b, hb⟩ : ∃ b, w.heap.size = b := ⟨_, rfl⟩
  have HWB : Hid (w.heap.size = b) := hb
  rw [hb] at HJ0 ⊢
  clear hb
  go_cut [7] (fun s7 wc => ∃ B, s7 = .pointer (some ⟨B, 0, none⟩) ∧ MY W0 wc B (gI s.ms c) ⟨.slice p1 (gI s.ms c).t.length r1, .slice p2 (gI s.ms c).d.length r2, .slice p3 (gI s.ms c).s.length r3, q⟩)
  case first =>
    have HFA : Hid (∀ u, Below W0.heap.size W0 u → Calls Tryz.prog 27 #[.slice (some ⟨g, o, none⟩) s.ms.length cap, .string s.a] u fun e w' => e = .returned (.int .i64 (c : Nat)) ∧ w' = u) := fun u hu => by
      have := HFD.out u s.a hu
      rw [show fdI s.ms s.a = c from by unfold fdI; rw [hf]] at this
      exact this
    have HSS : Hid (∀ u, Below W0.heap.size W0 u → JP u b s (.slice (some ⟨g, o, none⟩) s.ms.length cap) gs ∧ PE u g (o + c * 5) (gI s.ms c) ⟨.slice p1 (gI s.ms c).t.length r1, .slice p2 (gI s.ms c).d.length r2, .slice p3 (gI s.ms c).s.length r3, q⟩) := fun u hu => ⟨HJ0.out.below hu, HP.out.below hu⟩
    have HBD : Hid (Below W0.heap.size W0 W0.drew) := (Below.refl _ _).drew
    have hc0 : (0 : Int) ≤ (c : Int) := by omega
    have hc1 : (c : Int) < (s.ms.length : Int) := by omega
    clear hf hr HFD HBH
    generalize gI s.ms c = m at *
    refine wp_region_held (S := fun w9 => JP w9 b s (.slice (some ⟨g, o, none⟩) s.ms.length cap) gs ∧ PE w9 g (o + c * 5) m ⟨.slice p1 m.t.length r1, .slice p2 m.d.length r2, .slice p3 m.s.length r3, q⟩) (by kernel_rfl) ?_
    change wpAnyH _ _ _ _ _ _ _ _ (World.drew _)
    refine wpAnyH_take (i := 0) (v := .pointer (some ⟨b, 0, none⟩)) rfl (by kernel_rfl) (by kernel_rfl) (by kernel_rfl) (fun _ _ _ h => h) (Or.inl ⟨by kernel_rfl, fun w9 h9 => ?_⟩) (HSS.out _ HBD.out) ?_
    · go_simp
    refine wpAnyH_take (i := 1) (v := .slice (some ⟨g, o, none⟩) s.ms.length cap) rfl (by kernel_rfl) (by kernel_rfl) (by kernel_rfl) (fun _ _ _ h => h) (Or.inl ⟨by kernel_rfl, fun w9 h9 => ?_⟩) (HSS.out _ HBD.out) ?_
    · obtain ⟨⟨y9, x0, x1, x2, x3, x4, x5, _, _⟩, ⟨yl, y0, y1, y2, y3, y4, _⟩⟩ := h9; simp only at y2 y3 y4; go_simp
    refine wpAnyH_take (i := 2) (v := .pointer (some ⟨b, 0, none⟩)) rfl (by kernel_rfl) (by kernel_rfl) (by kernel_rfl) (fun _ _ _ h => h) (Or.inl ⟨by kernel_rfl, fun w9 h9 => ?_⟩) (HSS.out _ HBD.out) ?_
    · go_simp
    refine wpAnyH_take (i := 3) (v := .slice (some ⟨g, o, none⟩) s.ms.length cap) rfl (by kernel_rfl) (by kernel_rfl) (by kernel_rfl) (fun _ _ _ h => h) (Or.inl ⟨by kernel_rfl, fun w9 h9 => ?_⟩) (HSS.out _ HBD.out) ?_
    · obtain ⟨⟨y9, x0, x1, x2, x3, x4, x5, _, _⟩, ⟨yl, y0, y1, y2, y3, y4, _⟩⟩ := h9; simp only at y2 y3 y4; go_simp
    refine wpAnyH_take (i := 4) (v := .pointer (some ⟨b, 1, none⟩)) rfl (by kernel_rfl) (by kernel_rfl) (by kernel_rfl) (fun _ _ _ h => h) (Or.inl ⟨by kernel_rfl, fun w9 h9 => ?_⟩) (HSS.out _ HBD.out) ?_
    · go_simp
    refine wpAnyH_take (i := 5) (v := .string s.a) rfl (by kernel_rfl) (by kernel_rfl) (by kernel_rfl) (fun _ _ _ h => h) (Or.inl ⟨by kernel_rfl, fun w9 h9 => ?_⟩) (HSS.out _ HBD.out) ?_
    · obtain ⟨⟨y9, x0, x1, x2, x3, x4, x5, _, _⟩, ⟨yl, y0, y1, y2, y3, y4, _⟩⟩ := h9; simp only at y2 y3 y4; go_simp
    refine wpAnyH_all (rs := [6, 9]) (by kernel_rfl) (by simp) (all_two (held_step rfl (by kernel_rfl) fun K hK => ?_) (held_step rfl (by kernel_rfl) fun K hK => ?_))
    · go_simp
      go_wp2_with (go_at_call 27; refine Calls.mono (HFA.out _ HBD.out) ?_; rintro e uu1 ⟨rfl, hu⟩; rw [hu]; clear hu)
      refine hK _ _ (HSS.out _ HBD.out) ?_
      clear hK K
      refine wpAnyH_take (i := 7) (v := .pointer (some ⟨g, o + c * 5, none⟩)) rfl (by kernel_rfl) (by kernel_rfl) (by kernel_rfl) (fun _ _ _ h => h) (Or.inl ⟨by kernel_rfl, fun w9 h9 => ?_⟩) (HSS.out _ HBD.out) ?_
      · go_simp
      refine wpAnyH_take (i := 8) (v := .agg #[.string m.n, .string m.b, .slice p1 m.t.length r1, .slice p2 m.d.length r2, .slice p3 m.s.length r3]) rfl (by kernel_rfl) (by kernel_rfl) (by kernel_rfl) (fun _ _ _ h => h) (Or.inl ⟨by kernel_rfl, fun w9 h9 => ?_⟩) (HSS.out _ HBD.out) ?_
      · obtain ⟨⟨y9, x0, x1, x2, x3, x4, x5, _, _⟩, ⟨yl, y0, y1, y2, y3, y4, _⟩⟩ := h9; simp only at y2 y3 y4; go_simp
      have HA : Hid (Below W0.heap.size W0 (W0.alloc (.cells #[.string ⟨#[]⟩, .string ⟨#[]⟩, .slice none 0 0, .slice none 0 0, .slice none 0 0] 68)).drew) := ((Below.refl _ _).alloc (Nat.le_refl _) _).drew
      have HX : Hid ((W0.alloc (.cells #[.string ⟨#[]⟩, .string ⟨#[]⟩, .slice none 0 0, .slice none 0 0, .slice none 0 0] 68)).drew.heap[W0.heap.size]? = some (.cells #[.string ⟨#[]⟩, .string ⟨#[]⟩, .slice none 0 0, .slice none 0 0, .slice none 0 0] 68 (0, 0))) := heap_new W0 _
      refine held_one 9 (by kernel_rfl) rfl (by kernel_rfl) fun K hK => ?_
      go_simp
      refine hK _ _ (HSS.out _ HA.out) ?_
      clear hK K
      generalize (W0.alloc (.cells #[.string ⟨#[]⟩, .string ⟨#[]⟩, .slice none 0 0, .slice none 0 0, .slice none 0 0] 68)).drew = W1 at *
      obtain ⟨x0, x1, x2, x3, x4, xf⟩ := cel5 HX.out
      have hlx : W0.heap.size < W1.heap.size := (Array.getElem?_eq_some_iff.1 HX.out).1
      obtain ⟨y1, y2, y3⟩ := st5 HA.out (Nat.le_refl _) HX.out (.string m.n) (.string m.b) (.slice p1 m.t.length r1) (.slice p2 m.d.length r2) (.slice p3 m.s.length r3) rfl
      have HY1 : Hid _ := y1
      have HY2 : Hid _ := y2
      clear y1 y2 y3
      refine held_one 10 (by kernel_rfl) rfl (by kernel_rfl) fun K hK => ?_
      go_simp
      refine hK _ _ (HSS.out _ HY1.out) ?_
      clear hK K
      refine wpAnyH_done (by kernel_rfl) ?_ _
      go_simp
      go_wp2
      go_meet
      case rel => exact ⟨_, rfl, HY1.out, HY2.out⟩
    · have HA : Hid (Below W0.heap.size W0 (W0.alloc (.cells #[.string ⟨#[]⟩, .string ⟨#[]⟩, .slice none 0 0, .slice none 0 0, .slice none 0 0] 68)).drew) := ((Below.refl _ _).alloc (Nat.le_refl _) _).drew
      have HX : Hid ((W0.alloc (.cells #[.string ⟨#[]⟩, .string ⟨#[]⟩, .slice none 0 0, .slice none 0 0, .slice none 0 0] 68)).drew.heap[W0.heap.size]? = some (.cells #[.string ⟨#[]⟩, .string ⟨#[]⟩, .slice none 0 0, .slice none 0 0, .slice none 0 0] 68 (0, 0))) := heap_new W0 _
      go_simp
      refine hK _ _ (HSS.out _ HA.out) ?_
      clear hK K
      generalize (W0.alloc (.cells #[.string ⟨#[]⟩, .string ⟨#[]⟩, .slice none 0 0, .slice none 0 0, .slice none 0 0] 68)).drew = W1 at *
      refine held_one 6 (by kernel_rfl) rfl (by kernel_rfl) fun K hK => ?_
      go_simp
      go_wp2_with (go_at_call 27; refine Calls.mono (HFA.out _ HA.out) ?_; rintro e uu1 ⟨rfl, hu⟩; rw [hu]; clear hu)
      refine hK _ _ (HSS.out _ HA.out) ?_
      clear hK K
      refine wpAnyH_take (i := 7) (v := .pointer (some ⟨g, o + c * 5, none⟩)) rfl (by kernel_rfl) (by kernel_rfl) (by kernel_rfl) (fun _ _ _ h => h) (Or.inl ⟨by kernel_rfl, fun w9 h9 => ?_⟩) (HSS.out _ HA.out) ?_
      · go_simp
      refine wpAnyH_take (i := 8) (v := .agg #[.string m.n, .string m.b, .slice p1 m.t.length r1, .slice p2 m.d.length r2, .slice p3 m.s.length r3]) rfl (by kernel_rfl) (by kernel_rfl) (by kernel_rfl) (fun _ _ _ h => h) (Or.inl ⟨by kernel_rfl, fun w9 h9 => ?_⟩) (HSS.out _ HA.out) ?_
      · obtain ⟨⟨y9, x0, x1, x2, x3, x4, x5, _, _⟩, ⟨yl, y0, y1, y2, y3, y4, _⟩⟩ := h9; simp only at y2 y3 y4; go_simp
      obtain ⟨x0, x1, x2, x3, x4, xf⟩ := cel5 HX.out
      have hlx : W0.heap.size < W1.heap.size := (Array.getElem?_eq_some_iff.1 HX.out).1
      obtain ⟨y1, y2, y3⟩ := st5 HA.out (Nat.le_refl _) HX.out (.string m.n) (.string m.b) (.slice p1 m.t.length r1) (.slice p2 m.d.length r2) (.slice p3 m.s.length r3) rfl
      have HY1 : Hid _ := y1
      have HY2 : Hid _ := y2
      clear y1 y2 y3
      refine held_one 10 (by kernel_rfl) rfl (by kernel_rfl) fun K hK => ?_
      go_simp
      refine hK _ _ (HSS.out _ HY1.out) ?_
      clear hK K
      refine wpAnyH_done (by kernel_rfl) ?_ _
      go_simp
      go_wp2
      go_meet
      case rel => exact ⟨_, rfl, HY1.out, HY2.out⟩
  case rest =>
    obtain ⟨B, rfl, hmy⟩ := hcut
    have HBC : Hid (Below W0.heap.size W0 wc) := hmy.bel
    have HBW : Hid (Below w.heap.size w wc) := HB0.out.trans (hmy.bel.mono HB0.out.size)
    obtain ⟨x0, x1, x2, x3, x4, xf⟩ := cel5 hmy.bx
    simp only at x2 x3 x4
    have hBl : B < wc.heap.size := (Array.getElem?_eq_some_iff.1 hmy.bx).1
    have hJc := HJ0.out.below hmy.bel
    have HJC : Hid (JP wc b s (.slice (some ⟨g, o, none⟩) s.ms.length cap) gs) := hJc
    have j0 := hJc.c0
    have j1 := hJc.c1
    have jl := hJc.lt
    have HFT : Hid (Calls Tryz.prog 27 #[.slice (some ⟨g, o, none⟩) s.ms.length cap, .string tg] wc fun e w' => e = .returned (.int .i64 (fdI s.ms tg)) ∧ w' = wc) := HFD.out wc tg HBC.out
    have HBT : Hid (Calls Tryz.prog 28 #[.slice (some ⟨g, o, none⟩) s.ms.length cap, .string tg] wc fun e w' => e = .returned (.int .i64 (frL s.ms tg : Nat)) ∧ w' = wc) := HBH.out wc tg HBC.out
    have HBB : Hid (Calls Tryz.prog 28 #[.slice (some ⟨g, o, none⟩) s.ms.length cap, .string (gI s.ms c).b] wc fun e w' => e = .returned (.int .i64 (frL s.ms (gI s.ms c).b : Nat)) ∧ w' = wc) := HBH.out wc _ HBC.out
    have hR0 := HR0.out
    unfold mayC at hR0
    clear HR0
    clear hmy hJc HBH
    by_cases k3 : kd = 3
    · subst k3
      simp only [if_true] at hR0
      by_cases hz : tg.size = 0
      · rw [if_pos hz] at hR0
        have hbe := ba_empty hz
        subst hbe
        clear hz HFT HBT HBB HFD hf hr
        have HR1 : Hid _ := hR0
        clear hR0
        go_wp2
        go_ret
        exact ⟨ret_int HR1.out, HBW.out⟩
      rw [if_neg hz] at hR0
      obtain ⟨hie, hne⟩ := ba_ne hz
      clear hz HBB HFD
      unfold mrC at hR0
      cases hq : fdN s.ms tg with
      | none =>
        rw [hq] at hR0
        rw [show fdI s.ms tg = -1 from by unfold fdI; rw [hq]] at HFT
        simp only at hR0
        clear HBT hf hr hq
        have HR1 : Hid _ := hR0
        clear hR0
        go_wp2_with (go_at_call 27; refine Calls.mono HFT.out ?_; rintro e uu ⟨rfl, hu⟩; rw [hu]; clear hu)
        go_ret
        exact ⟨ret_int HR1.out, HBW.out⟩
      | some k =>
      rw [hq] at hR0
      rw [show fdI s.ms tg = k from by unfold fdI; rw [hq]] at HFT
      simp only at hR0
      have hk := fdN_lt hq
      have hki : ¬ (k : Int) < 0 := by omega
      have hk0 : (0 : Int) ≤ (k : Int) := by omega
      have hk1 : (k : Int) < (s.ms.length : Int) := by omega
      obtain ⟨a2, hp2⟩ := HJC.out.pe hk
      obtain ⟨p4, r4, p5, r5, p6, r6, z0, z1, z2, z3, z4⟩ := hp2.cel
      have hgl := hp2.lt
      clear hp2 hf hr hq hk HP
      generalize frL s.ms tg = F at *
      generalize gI s.ms c = m at *
      generalize gI s.ms k = m2 at *
      unfold bq at hR0
      cases hbq : (tg.toList == s.a.toList)
      case true =>
        rw [hbq] at hR0
        rw [if_pos rfl] at hR0
        clear HBT
        have HR1 : Hid _ := hR0
        clear hR0
        go_wp2_with (go_at_call 27; refine Calls.mono HFT.out ?_; rintro e uu ⟨rfl, hu⟩; rw [hu]; clear hu)
        go_ret
        exact ⟨ret_int HR1.out, HBW.out⟩
      rw [hbq, if_neg (by decide)] at hR0
      by_cases h1 : 0 < F
      · rw [if_pos (.inl h1)] at hR0
        have h1i : (0 : Int) < (F : Int) := by omega
        have HR1 : Hid _ := hR0
        clear hR0
        go_wp2_with (first | (go_at_call 27; refine Calls.mono HFT.out ?_; rintro e uu ⟨rfl, hu⟩; rw [hu]; clear hu) | (go_at_call 28; refine Calls.mono HBT.out ?_; rintro e uu ⟨rfl, hu⟩; rw [hu]; clear hu))
        go_ret
        exact ⟨ret_int HR1.out, HBW.out⟩
      have h1i : ¬ (0 : Int) < (F : Int) := by omega
      by_cases h2 : 0 < m2.b.size
      · rw [if_pos (.inr (.inl h2))] at hR0
        obtain ⟨hie2, hne2⟩ := ba_ne (show ¬ m2.b.size = 0 by omega)
        have HR1 : Hid _ := hR0
        clear hR0
        go_wp2_with (first | (go_at_call 27; refine Calls.mono HFT.out ?_; rintro e uu ⟨rfl, hu⟩; rw [hu]; clear hu) | (go_at_call 28; refine Calls.mono HBT.out ?_; rintro e uu ⟨rfl, hu⟩; rw [hu]; clear hu))
        go_ret
        exact ⟨ret_int HR1.out, HBW.out⟩
      have hbe2 : m2.b = ⟨#[]⟩ := ba_empty (show m2.b.size = 0 by omega)
      rw [hbe2] at z1
      by_cases h3 : 0 < m2.s.length
      · rw [if_pos (.inr (.inr h3))] at hR0
        have h3i : (0 : Int) < (m2.s.length : Int) := by omega
        clear h2 hbe2
        have HR1 : Hid _ := hR0
        clear hR0
        go_wp2_with (first | (go_at_call 27; refine Calls.mono HFT.out ?_; rintro e uu ⟨rfl, hu⟩; rw [hu]; clear hu) | (go_at_call 28; refine Calls.mono HBT.out ?_; rintro e uu ⟨rfl, hu⟩; rw [hu]; clear hu))
        go_ret
        exact ⟨ret_int HR1.out, HBW.out⟩
      have h3i : ¬ (0 : Int) < (m2.s.length : Int) := by omega
      rw [if_neg (by omega)] at hR0
      clear h2 hbe2 h3
      by_cases ht : m2.t.length = m.t.length
      · rw [if_pos ht] at hR0
        rw [ht] at z2
        clear ht
        have HR1 : Hid _ := hR0
        clear hR0
        go_wp2_with (first | (go_at_call 27; refine Calls.mono HFT.out ?_; rintro e uu ⟨rfl, hu⟩; rw [hu]; clear hu) | (go_at_call 28; refine Calls.mono HBT.out ?_; rintro e uu ⟨rfl, hu⟩; rw [hu]; clear hu))
        go_ret
        exact ⟨ret_int HR1.out, HBW.out⟩
      · rw [if_neg ht] at hR0
        have hti : ¬ (m2.t.length : Int) = (m.t.length : Int) := by omega
        have htb : ((m2.t.length : Int) == (m.t.length : Int)) = false := by simpa using hti
        have htc : ((m2.t.length : Int) != (m.t.length : Int)) = true := by simpa using hti
        clear hti
        have HR1 : Hid _ := hR0
        clear hR0
        go_wp2_with (first | (go_at_call 27; refine Calls.mono HFT.out ?_; rintro e uu ⟨rfl, hu⟩; rw [hu]; clear hu) | (go_at_call 28; refine Calls.mono HBT.out ?_; rintro e uu ⟨rfl, hu⟩; rw [hu]; clear hu))
        go_ret
        exact ⟨ret_int HR1.out, HBW.out⟩
    rw [if_neg k3] at hR0
    clear HFT HBT
    by_cases k1 : kd = 1
    · subst k1
      simp only [if_true] at hR0
      by_cases hz : tg.size = 0
      · rw [if_pos hz] at hR0
        have hbe := ba_empty hz
        subst hbe
        clear hz hf hr HBB HFD
        generalize gI s.ms c = m at *
        by_cases hy : m.b.size = 0
        · rw [if_pos hy] at hR0
          rw [ba_empty hy] at x1
          clear hy
          have HR1 : Hid _ := hR0
          clear hR0
          go_wp2
          go_ret
          exact ⟨ret_int HR1.out, HBW.out⟩
        · rw [if_neg hy] at hR0
          obtain ⟨hie, hne⟩ := ba_ne hy
          clear hy
          have HR1 : Hid _ := hR0
          clear hR0
          go_wp2
          go_ret
          exact ⟨ret_int HR1.out, HBW.out⟩
      · rw [if_neg hz] at hR0
        obtain ⟨hie, hne⟩ := ba_ne hz
        clear hz hf hr HBB HFD
        have HR1 : Hid _ := hR0
        clear hR0
        go_wp2
        go_ret
        exact ⟨ret_int HR1.out, HBW.out⟩
    rw [if_neg k1] at hR0
    by_cases k2 : kd = 2
    · subst k2
      simp only [if_true] at hR0
      by_cases hz : tg.size = 0
      case neg =>
        rw [if_neg hz] at hR0
        obtain ⟨hie, hne⟩ := ba_ne hz
        clear hz hf hr HBB HFD
        have HR1 : Hid _ := hR0
        clear hR0
        go_wp2
        go_ret
        exact ⟨ret_int HR1.out, HBW.out⟩
      rw [if_pos hz] at hR0
      have hbe := ba_empty hz
      subst hbe
      clear hz
      by_cases hy : (gI s.ms c).b.size = 0
      · rw [if_pos hy] at hR0
        rw [ba_empty hy] at x1
        clear hy hf hr HBB HFD
        have HR1 : Hid _ := hR0
        clear hR0
        go_wp2
        go_ret
        exact ⟨ret_int HR1.out, HBW.out⟩
      rw [if_neg hy] at hR0
      obtain ⟨hie, hne⟩ := ba_ne hy
      obtain ⟨k, hq, hk, _, _⟩ := pth_next (hr.ce c hc) hy
      have hq2 : fdN s.ms (gI s.ms c).b = some k := hq
      have HFB : Hid (Calls Tryz.prog 27 #[.slice (some ⟨g, o, none⟩) s.ms.length cap, .string (gI s.ms c).b] wc.drew fun e w' => e = .returned (.int .i64 (k : Nat)) ∧ w' = wc.drew) := (by
        have := HFD.out wc.drew (gI s.ms c).b (HBC.out.drew)
        rw [show fdI s.ms (gI s.ms c).b = k from by unfold fdI; rw [hq2]] at this
        exact this)
      unfold cmC at hR0
      rw [hq2] at hR0
      simp only at hR0
      obtain ⟨a2, hp2⟩ := HJC.out.pe hk
      obtain ⟨p4, r4, p5, r5, p6, r6, q2, rfl⟩ := hp2.sl
      have HP2 : Hid (PE wc g (o + k * 5) (gI s.ms k) ⟨.slice p4 (gI s.ms k).t.length r4, .slice p5 (gI s.ms k).d.length r5, .slice p6 (gI s.ms k).s.length r6, q2⟩) := hp2
      have hk0 : (0 : Int) ≤ (k : Int) := by omega
      have hk1 : (k : Int) < (s.ms.length : Int) := by omega
      clear hp2 hf hr hq hq2 hk hy HP HFD
      generalize frL s.ms (gI s.ms c).b = F at *
      generalize gI s.ms c = m at *
      generalize gI s.ms k = m2 at *
      by_cases h1 : 1 < F
      · rw [if_pos (.inl h1)] at hR0
        have h1i : (1 : Int) < (F : Int) := by omega
        have HR1 : Hid _ := hR0
        clear hR0
        go_wp2_with (go_at_call 28; refine Calls.mono HBB.out ?_; rintro e uu ⟨rfl, hu⟩; rw [hu]; clear hu)
        go_ret
        exact ⟨ret_int HR1.out, HBW.out⟩
      have h1i : ¬ (1 : Int) < (F : Int) := by omega
      by_cases h2 : 0 < m.s.length
      · rw [if_pos (.inr h2)] at hR0
        have h2i : (0 : Int) < (m.s.length : Int) := by omega
        have HR1 : Hid _ := hR0
        clear hR0
        go_wp2_with (go_at_call 28; refine Calls.mono HBB.out ?_; rintro e uu ⟨rfl, hu⟩; rw [hu]; clear hu)
        go_ret
        exact ⟨ret_int HR1.out, HBW.out⟩
      have h2i : ¬ (0 : Int) < (m.s.length : Int) := by omega
      rw [if_neg (by omega)] at hR0
      have HR : Hid ((if m2.t.length < m.t.length then (2 : Int) else 0) = R0) := hR0
      clear hR0 h2 h1
      go_wp2_with (go_at_call 28; refine Calls.mono HBB.out ?_; rintro e uu ⟨rfl, hu⟩; rw [hu]; clear hu)
      have HDR : Hid (Below wc.heap.size wc wc.drew) := (Below.refl _ _).drew
      have HBX : Hid (wc.cell? ⟨B, 1, none⟩ = some (.string m.b)) := x1
      have HSS : Hid (JP wc.drew b s (.slice (some ⟨g, o, none⟩) s.ms.length cap) gs ∧ PE wc.drew g (o + k * 5) m2 ⟨.slice p4 m2.t.length r4, .slice p5 m2.d.length r5, .slice p6 m2.s.length r6, q2⟩ ∧ wc.drew.cell? ⟨B, 1, none⟩ = some (.string m.b)) := ⟨HJC.out.below HDR.out, HP2.out.below HDR.out, HBX.out⟩
      clear x0 x1 x2 x3 x4
      refine wp_region_held (S := fun w9 => JP w9 b s (.slice (some ⟨g, o, none⟩) s.ms.length cap) gs ∧ PE w9 g (o + k * 5) m2 ⟨.slice p4 m2.t.length r4, .slice p5 m2.d.length r5, .slice p6 m2.s.length r6, q2⟩ ∧ w9.cell? ⟨B, 1, none⟩ = some (.string m.b)) (by kernel_rfl) ?_
      change wpAnyH _ _ _ _ _ _ _ _ (World.drew _)
      refine wpAnyH_take (i := 0) (v := .pointer (some ⟨b, 0, none⟩)) rfl (by kernel_rfl) (by kernel_rfl) (by kernel_rfl) (fun _ _ _ h => h) (Or.inl ⟨by kernel_rfl, fun w9 h9 => ?_⟩) HSS.out ?_
      · go_simp
      refine wpAnyH_take (i := 1) (v := .slice (some ⟨g, o, none⟩) s.ms.length cap) rfl (by kernel_rfl) (by kernel_rfl) (by kernel_rfl) (fun _ _ _ h => h) (Or.inl ⟨by kernel_rfl, fun w9 h9 => ?_⟩) HSS.out ?_
      · obtain ⟨⟨y9, x0, x1, x2, x3, x4, x5, _, _⟩, ⟨yl, y0, y1, y2, y3, y4, _⟩, z9⟩ := h9; simp only at y2 y3 y4; go_simp
      refine wpAnyH_take (i := 2) (v := .pointer (some ⟨b, 0, none⟩)) rfl (by kernel_rfl) (by kernel_rfl) (by kernel_rfl) (fun _ _ _ h => h) (Or.inl ⟨by kernel_rfl, fun w9 h9 => ?_⟩) HSS.out ?_
      · go_simp
      refine wpAnyH_take (i := 3) (v := .slice (some ⟨g, o, none⟩) s.ms.length cap) rfl (by kernel_rfl) (by kernel_rfl) (by kernel_rfl) (fun _ _ _ h => h) (Or.inl ⟨by kernel_rfl, fun w9 h9 => ?_⟩) HSS.out ?_
      · obtain ⟨⟨y9, x0, x1, x2, x3, x4, x5, _, _⟩, ⟨yl, y0, y1, y2, y3, y4, _⟩, z9⟩ := h9; simp only at y2 y3 y4; go_simp
      refine wpAnyH_take (i := 4) (v := .pointer (some ⟨B, 1, none⟩)) rfl (by kernel_rfl) (by kernel_rfl) (by kernel_rfl) (fun _ _ _ h => h) (Or.inl ⟨by kernel_rfl, fun w9 h9 => ?_⟩) HSS.out ?_
      · go_simp
      refine wpAnyH_take (i := 5) (v := .string m.b) rfl (by kernel_rfl) (by kernel_rfl) (by kernel_rfl) (fun _ _ _ h => h) (Or.inl ⟨by kernel_rfl, fun w9 h9 => ?_⟩) HSS.out ?_
      · obtain ⟨⟨y9, x0, x1, x2, x3, x4, x5, _, _⟩, ⟨yl, y0, y1, y2, y3, y4, _⟩, z9⟩ := h9; simp only at y2 y3 y4; go_simp
      refine wpAnyH_take (i := 11) (v := .int .i64 (m.t.length : Nat)) rfl (by kernel_rfl) (by kernel_rfl) (by kernel_rfl) (fun _ _ _ h => h) (Or.inl ⟨by kernel_rfl, fun w9 h9 => ?_⟩) HSS.out ?_
      · go_simp
      refine held_one 6 (by kernel_rfl) rfl (by kernel_rfl) fun K hK => ?_
      go_simp
      go_wp2_with (go_at_call 27; refine Calls.mono HFB.out ?_; rintro e uu2 ⟨rfl, hu⟩; rw [hu]; clear hu)
      refine hK _ _ HSS.out ?_
      clear hK K
      refine wpAnyH_take (i := 7) (v := .pointer (some ⟨g, o + k * 5, none⟩)) rfl (by kernel_rfl) (by kernel_rfl) (by kernel_rfl) (fun _ _ _ h => h) (Or.inl ⟨by kernel_rfl, fun w9 h9 => ?_⟩) HSS.out ?_
      · go_simp
      refine wpAnyH_take (i := 8) (v := .pointer (some ⟨g, o + k * 5 + 2, none⟩)) rfl (by kernel_rfl) (by kernel_rfl) (by kernel_rfl) (fun _ _ _ h => h) (Or.inl ⟨by kernel_rfl, fun w9 h9 => ?_⟩) HSS.out ?_
      · go_simp
      refine wpAnyH_take (i := 9) (v := .slice p4 m2.t.length r4) rfl (by kernel_rfl) (by kernel_rfl) (by kernel_rfl) (fun _ _ _ h => h) (Or.inl ⟨by kernel_rfl, fun w9 h9 => ?_⟩) HSS.out ?_
      · obtain ⟨⟨y9, x0, x1, x2, x3, x4, x5, _, _⟩, ⟨yl, y0, y1, y2, y3, y4, _⟩, z9⟩ := h9; simp only at y2 y3 y4; go_simp
      refine wpAnyH_take (i := 10) (v := .int .i64 (m2.t.length : Nat)) rfl (by kernel_rfl) (by kernel_rfl) (by kernel_rfl) (fun _ _ _ h => h) (Or.inl ⟨by kernel_rfl, fun w9 h9 => ?_⟩) HSS.out ?_
      · go_simp
      refine wpAnyH_take (i := 12) (v := .bool (decide ((m2.t.length : Int) < (m.t.length : Int)))) rfl (by kernel_rfl) (by kernel_rfl) (by kernel_rfl) (fun _ _ _ h => h) (Or.inl ⟨by kernel_rfl, fun w9 h9 => ?_⟩) HSS.out ?_
      · go_simp; all_goals omega
      refine wpAnyH_done (by kernel_rfl) ?_ _
      go_simp
      by_cases ht : m2.t.length < m.t.length
      · have hti : (m2.t.length : Int) < (m.t.length : Int) := by omega
        rw [if_pos ht] at HR
        clear ht
        go_wp2
        go_ret
        exact ⟨ret_int HR.out, HBW.out.drew⟩
      · have hti : ¬ (m2.t.length : Int) < (m.t.length : Int) := by omega
        rw [if_neg ht] at HR
        clear ht
        go_wp2
        go_ret
        exact ⟨ret_int HR.out, HBW.out.drew⟩
    rw [if_neg k2] at hR0
    clear hf hr HBB HFD
    by_cases l1 : kd < 1
    · have HR1 : Hid _ := hR0
      clear hR0
      go_wp2
      go_ret
      exact ⟨ret_int HR1.out, HBW.out⟩
    · have l3 : 3 < kd := by omega
      have HR1 : Hid _ := hR0
      clear hR0
      go_wp2
      go_ret
      exact ⟨ret_int HR1.out, HBW.out⟩
end Go.Proofs.YtomfbiiegcmmlaaGreat
