import Derived.Test.YtomfbiiegcmmlaaGreatJs3
import Derived.Test.YtomfbiiegcmmlaaGreatJl3
import Derived.Test.YtomfbiiegcmmlaaGreatHl
namespace Go.Proofs.YtomfbiiegcmmlaaGreat
open Go.ChangeShapes Go.WideShapes Go.ChangeAt Go.RowKit

theorem JOwn.rw {w : World} {B : Nat} {s : JS} {v : Value} {gs : List IG} (h : JOwn w B s v gs) : IGrow w v gs ∧ IGin w gs s.ms := ⟨IGrow.of h.row, h.inn.inn⟩
theorem JOwn.sl {w : World} {B : Nat} {s : JS} {v : Value} {gs : List IG} (h : JOwn w B s v gs) : ∃ a k, v = .slice a gs.length k := ig_sl h.row
set_option maxRecDepth 100000 in
set_option maxHeartbeats 4000000 in
theorem walkJF {w : World} {s : JS} {v : Value} {gs : List IG} (h : IGrow w v gs) (hi : IGin w gs s.ms) (hm : JMax s) (hx : s.j.x ≤ 9223372036854775807) : Calls Tryz.prog 3 #[jsA v s.a s.j] w fun e w' => e = .returned (.bool true) ∧ Below w.heap.size w w' := by
  obtain ⟨ao, cap, rfl⟩ := h.sl
  have HL1 : Hid (JBox (w.alloc (.cells #[.slice ao gs.length cap, .string s.a, .int .i64 s.j.k, .int .i64 s.j.x, .string s.j.d, .string s.j.g] 26)) w.heap.size 26 s (.slice ao gs.length cap) gs) := JBox.new h hi
  have HB : Hid (Below w.heap.size w (w.alloc (.cells #[.slice ao gs.length cap, .string s.a, .int .i64 s.j.k, .int .i64 s.j.x, .string s.j.d, .string s.j.g] 26))) := (Below.refl _ _).alloc (Nat.le_refl _) _
  have HS : Hid _ := fun q hq => szJobState_any s HL1.out.row HL1.out.inn hm 1048576 (by omega) (by omega) q hq
  clear h hi hm
  have hnn : 0 ≤ totZ s := by
    have := totL_nn s.ms
    unfold totZ totJ
    omega
  by_cases hsz : (1048576 : Int) < totZ s
  · have hS := HS.out (-1) (by rw [if_pos hsz])
    have HS2 : Hid _ := hS
    clear hS HS hsz hnn
    unfold jsA at HS2 ⊢
    go_enter Tryz.func3, Tryz.ntmps3
    go_wp2_with (go_at_call 6; refine Calls.mono HS2.out ?_; rintro e u1 ⟨rfl, hu1⟩; have HB1 : Hid (Below w.heap.size w u1) := HB.out.trans (hu1.mono HB.out.size); clear hu1 HS2)
    go_ret
    exact ⟨rfl, HB1.out⟩
  · have HL : Hid (JLen s) := totZ_len (by omega)
    obtain ⟨q, hq⟩ : ∃ q : Int, q = 1048576 - totZ s := ⟨_, rfl⟩
    have hS := HS.out q (by rw [if_neg hsz, hq])
    have HS2 : Hid _ := hS
    have hr2 : ¬ q < 0 := by omega
    have HX : Hid (s.j.x ≤ 9223372036854775807) := hx
    clear hS HS hsz hnn hq hx
    generalize hres : (if jsB s then (0 : Int) else 1) = res
    have HRES : Hid ((if jsB s then (0 : Int) else 1) = res) := hres
    clear hres
    unfold jsA at HS2 ⊢
    go_enter Tryz.func3, Tryz.ntmps3
    go_wp2_with (first
      | (go_at_call 6; refine Calls.mono HS2.out ?_; rintro e u1 ⟨rfl, hu1⟩; have HB1 : Hid (Below w.heap.size w u1) := HB.out.trans (hu1.mono HB.out.size); have HL2 : Hid (JBox u1 w.heap.size 26 s (.slice ao gs.length cap) gs) := HL1.out.step hu1; obtain ⟨c0, c1, c2, c3, c4, c5, _⟩ := cel6 HL2.out.box; clear hu1 HS2 HL1 HB)
      | (go_at_call 8; have hA := toJobState_any HL2.out.row HL2.out.inn HL.out; unfold jsA at hA; refine Calls.mono hA ?_; clear hA; rintro e u2 ⟨v2, gs2, rfl, ho, hb⟩; obtain ⟨a2, k2, rfl⟩ := ho.sl; have HB2 : Hid (Below w.heap.size w u2) := HB1.out.trans (hb.mono HB1.out.size); have HL3 : Hid (JBox u2 w.heap.size 26 s (.slice ao gs.length cap) gs) := HL2.out.step hb; have HR : Hid (IGrow u2 (.slice a2 gs2.length k2) gs2 ∧ IGin u2 gs2 s.ms) := ho.rw; clear ho hb HL2 HB1)
      | (go_at_call 7; have hA := specJF_any HR.out.1 HR.out.2 HL.out HX.out; rw [HRES.out] at hA; unfold jsA at hA; refine Calls.mono hA ?_; clear hA; rintro e u3 ⟨rfl, hb⟩; have HB3 : Hid (Below w.heap.size w u3) := HB2.out.trans (hb.mono HB2.out.size); have HL4 : Hid (JBox u3 w.heap.size 26 s (.slice ao gs.length cap) gs) := HL3.out.step hb; obtain ⟨y0, y1, y2, y3, y4, y5, _⟩ := cel6 HL4.out.box; clear hb HL3 HR HB2)
      | (go_at_call 8; have hA := toJobState_any HL4.out.row HL4.out.inn HL.out; unfold jsA at hA; refine Calls.mono hA ?_; clear hA; rintro e u4 ⟨v4, gs4, rfl, ho, hb⟩; obtain ⟨a4, k4, rfl⟩ := ho.sl; have HB4 : Hid (Below w.heap.size w (u4.alloc (.cells #[.slice a4 gs4.length k4, .string s.a, .int .i64 s.j.k, .int .i64 s.j.x, .string s.j.d, .string s.j.g] 32))) := (HB3.out.trans (hb.mono HB3.out.size)).alloc (HB3.out.trans (hb.mono HB3.out.size)).size _; have HL5 : Hid (JBox (u4.alloc (.cells #[.slice a4 gs4.length k4, .string s.a, .int .i64 s.j.k, .int .i64 s.j.x, .string s.j.d, .string s.j.g] 32)) w.heap.size 26 s (.slice ao gs.length cap) gs) := (HL4.out.step hb).step ((Below.refl _ _).alloc (Nat.le_refl _) _); have HX5 : Hid (JBox (u4.alloc (.cells #[.slice a4 gs4.length k4, .string s.a, .int .i64 s.j.k, .int .i64 s.j.x, .string s.j.d, .string s.j.g] 32)) u4.heap.size 32 s (.slice a4 gs4.length k4) gs4) := JBox.new ho.rw.1 ho.rw.2; clear ho hb HL4 HB3)
      | (go_at_call 9; have hA := implJF_any HX5.out.row HX5.out.inn HL.out HX.out; rw [HRES.out] at hA; unfold jsA at hA; refine Calls.mono hA ?_; clear hA; rintro e u5 ⟨rfl, hb⟩; have HB5 : Hid (Below w.heap.size w u5) := HB4.out.trans (hb.mono HB4.out.size); have HL6 : Hid (JBox u5 w.heap.size 26 s (.slice ao gs.length cap) gs) := HL5.out.step hb; have HX6 : Hid (JBox u5 u4.heap.size 32 s (.slice a4 gs4.length k4) gs4) := HX5.out.step hb; clear hb HL5 HX5 HB4))
    have HBD : Hid (Below u5.heap.size u5 u5.drew) := (Below.refl _ _).drew
    have HBW : Hid (Below w.heap.size w u5.drew) := HB5.out.trans (HBD.out.mono HB5.out.size)
    have HSS : Hid (∀ u, Below u5.heap.size u5 u → JBox u w.heap.size 26 s (.slice ao gs.length cap) gs ∧ JBox u u4.heap.size 32 s (.slice a4 gs4.length k4) gs4) := fun u hu => ⟨HL6.out.step hu, HX6.out.step hu⟩
    clear c0 c1 c2 c3 c4 c5 y0 y1 y2 y3 y4 y5
    refine wp_region_held (S := fun u => JBox u w.heap.size 26 s (.slice ao gs.length cap) gs ∧ JBox u u4.heap.size 32 s (.slice a4 gs4.length k4) gs4) (by kernel_rfl) ?_
    change wpAnyH _ _ _ _ _ _ _ _ (World.drew _)
    refine wpAnyH_take (i := 0) (v := .agg #[.slice a4 gs4.length k4, .string s.a, .int .i64 s.j.k, .int .i64 s.j.x, .string s.j.d, .string s.j.g]) rfl (by kernel_rfl) (by kernel_rfl) (by kernel_rfl) (fun _ _ _ h => h) (Or.inl ⟨by kernel_rfl, fun w9 h9 => ?_⟩) (HSS.out _ HBD.out) ?_
    · obtain ⟨x0, x1, x2, x3, x4, x5, _⟩ := cel6 h9.2.box
      have xl := h9.2.lt
      clear h9
      go_simp
    refine wpAnyH_take (i := 1) (v := .agg #[.slice ao gs.length cap, .string s.a, .int .i64 s.j.k, .int .i64 s.j.x, .string s.j.d, .string s.j.g]) rfl (by kernel_rfl) (by kernel_rfl) (by kernel_rfl) (fun _ _ _ h => h) (Or.inl ⟨by kernel_rfl, fun w9 h9 => ?_⟩) (HSS.out _ HBD.out) ?_
    · obtain ⟨x0, x1, x2, x3, x4, x5, _⟩ := cel6 h9.1.box
      have xl := h9.1.lt
      clear h9
      go_simp
    refine held_one 2 (by kernel_rfl) rfl (by kernel_rfl) fun K hK => ?_
    go_simp
    go_wp2_with (go_at_call 8; have hA := toJobState_any (HSS.out _ HBD.out).1.row (HSS.out _ HBD.out).1.inn HL.out; unfold jsA at hA; refine Calls.mono hA ?_; clear hA; rintro e u6 ⟨v6, gs6, rfl, ho, hb⟩; obtain ⟨a6, k6, rfl⟩ := ho.sl; have HB6 : Hid (Below u5.heap.size u5 u6) := HBD.out.trans (hb.mono HBD.out.size); have HR6 : Hid (IGrow u6 (.slice a6 gs6.length k6) gs6 ∧ IGin u6 gs6 s.ms) := ho.rw; clear ho hb)
    refine hK _ _ (HSS.out _ HB6.out) ?_
    clear hK K
    refine held_one 3 (by kernel_rfl) rfl (by kernel_rfl) fun K hK => ?_
    go_simp
    go_wp2_with (go_at_call 10; have hA := eqJobState_ok (HSS.out _ HB6.out).2.row (HSS.out _ HB6.out).2.inn HR6.out.1 HR6.out.2 HL.out; unfold jsA at hA; refine Calls.mono hA ?_; clear hA; rintro e u7 ⟨rfl, hb⟩; have HB7 : Hid (Below u5.heap.size u5 u7) := HB6.out.trans (hb.mono HB6.out.size); clear hb)
    refine hK _ _ (HSS.out _ HB7.out) ?_
    clear hK K
    refine held_one 4 (by kernel_rfl) rfl (by kernel_rfl) fun K hK => ?_
    go_simp
    refine hK _ _ (HSS.out _ HB7.out) ?_
    clear hK K
    refine wpAnyH_done (by kernel_rfl) ?_ _
    go_simp
    all_goals go_wp2
    all_goals go_ret
    exact ⟨rfl, HB5.out.trans (HB7.out.mono HB5.out.size)⟩
end Go.Proofs.YtomfbiiegcmmlaaGreat
