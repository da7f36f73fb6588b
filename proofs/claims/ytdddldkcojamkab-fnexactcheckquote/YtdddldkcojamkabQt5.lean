import Derived.Test.YtdddldkcojamkabQt3
import Derived.Test.YtdddldkcojamkabQt4
namespace Go.Proofs.Ytdddldkcojamkab
open Go.ChangeShapes Go.WideShapes Go.ChangeAt Go.RowKit

theorem cQU : Try.prog.cellsOf 32 = 2 := by kernel_rfl
theorem cQi : Try.prog.cellsOf 2 = 1 := by kernel_rfl
theorem array2 {α : Type} {cs : Array α} (h : cs.size = 2) : ∃ c0 c1, cs = #[c0, c1] := by
  obtain ⟨l⟩ := cs
  match l, h with
  | [c0, c1], _ => exact ⟨c0, c1, rfl⟩
set_option maxRecDepth 100000 in
theorem open_quote {H : Type} {enc : TypeId × Value → H} {W : World} {base : Nat} {v : Value} {d : DataW H} {p : List MemPlace} (hv : Value.okWide Try.prog W .any base 32 v)
    (h : DataW.Trod enc Try.prog W 0 (fun _ => true) true 32 v d p) : ∃ R Z : Int, v = .agg #[.int .i64 R, .int .i64 Z] := by
  obtain ⟨cs, rfl, hsz⟩ := okWide_struct Try.underlying32 hv
  obtain ⟨x0, x1, rfl⟩ := array2 (hsz.trans cQU)
  obtain ⟨fuel, hf⟩ := h
  obtain ⟨xs, n, _, hx, _, hlen, hel⟩ := DataW.trod_struct Try.underlying32 hf
  match xs, hlen, hel with
  | [y0, y1], _, hel =>
    have g0 := hel 0 _ rfl
    have g1 := hel 1 _ rfl
    simp only [Value.cells] at g0 g1
    obtain ⟨a0, e0, _⟩ := DataW.trod_int Try.underlying2 g0
    obtain ⟨a1, e1, _⟩ := DataW.trod_int Try.underlying2 g1
    simp [cQi] at e0 e1
    subst e0 e1
    exact ⟨a0, a1, rfl⟩
set_option maxRecDepth 100000 in
set_option maxHeartbeats 4000000 in
theorem toQuote_any (R Z : Int) (w : World) : Calls Try.prog 17 #[.agg #[.int .i64 R, .int .i64 Z]] w fun e w' => e = .returned (.agg #[.int .i64 R, .int .i64 Z]) ∧ Below w.heap.size w w' := by
  go_enter Try.func17, Try.ntmps17
  go_wp2
  refine bodyPost_ret (v := .agg #[.int .i64 R, .int .i64 Z]) ?_ rfl ⟨rfl, (((Below.refl _ _).alloc (Nat.le_refl _) _).alloc (by simp) _).alloc (by simp; omega) _⟩
  simp only [results, Try.results17, go_sem]
  simp [go_sem]
set_option maxRecDepth 100000 in
set_option maxHeartbeats 4000000 in
theorem walkCQ {w : World} {v : Value} {zs : List Int} (h : Irow w v zs) (hl : zs.length ≤ maxLen) (p : Int) (nn : ByteArray) (R Z : Int) :
    Calls Try.prog 5 #[.int .i64 p, .string nn, v, .agg #[.int .i64 R, .int .i64 Z]] w fun e w' => e = .returned (.bool true) ∧ Below w.heap.size w w' := by
  have HR : Hid (Irow w v zs) := h
  obtain ⟨ao, cap, rfl⟩ := h.sl
  clear h
  have hl2 : zs.length ≤ 9223372036854775807 := by unfold maxLen at hl; omega
  clear hl
  have HTS : Hid (∀ u, Calls Try.prog 17 #[.agg #[.int .i64 R, .int .i64 Z]] u fun e w' => e = .returned (.agg #[.int .i64 R, .int .i64 Z]) ∧ Below u.heap.size u w') := fun u => toQuote_any R Z u
  have HL0 : Hid (LG w (w.alloc (.cells #[.int .i64 R, .int .i64 Z] 32)) w.heap.size #[.int .i64 R, .int .i64 Z] 32) := LG.new w _ _
  by_cases h1 : nn.size ≤ 1048576
  · by_cases h2 : zs.length ≤ 1048576
    · have HTO : Hid (∀ u, Aft w u → Calls Try.prog 12 #[.slice ao zs.length cap] u fun e w' => ∃ x, e = .returned x ∧ w'.ownsRow u.heap.size 2 1 x zs.length (iR zs) ∧ Below u.heap.size u w') := fun u hu => toIS_any (HR.out.below hu.out) h2
      have HSP : Hid (∀ u y, Irow u y zs → Calls Try.prog 16 #[.int .i64 p, .string nn, y, .agg #[.int .i64 R, .int .i64 Z]] u fun e w' => e = .returned (.bool (cqV p nn zs R Z)) ∧ Below u.heap.size u w') := fun u y hx => specCheck_any hx h2 p nn R Z
      have HIM : Hid (∀ u y, Irow u y zs → Calls Try.prog 18 #[.int .i64 p, .string nn, y, .agg #[.int .i64 R, .int .i64 Z]] u fun e w' => e = .returned (.bool (cqV p nn zs R Z)) ∧ Below u.heap.size u w') := fun u y hx => implCheck_any hx h2 p nn R Z
      have HEQ : Hid (∀ u x y, Irow u x zs → Irow u y zs → Calls Try.prog 15 #[x, y] u fun e w' => e = .returned (.bool true) ∧ Below u.heap.size u w') := fun u x y hx hy => eqIS_ok hx hy h2
      generalize cqV p nn zs R Z = V at HSP HIM
      have hV : (V != V) = false := by cases V <;> rfl
      have hd1 : decide (1048576 < (nn.size : Int)) = false := decide_eq_false (by omega)
      have hd2 : decide (1048576 < (zs.length : Int)) = false := decide_eq_false (by omega)
      go_enter Try.func5, Try.ntmps5
      go_upto_region 5 with fail
      generalize (w.alloc (.cells #[.int .i64 R, .int .i64 Z] 32)) = u0 at *
      generalize w.heap.size = b0 at *
      refine wp_region_held (S := fun w9 => LG w w9 b0 #[.int .i64 R, .int .i64 Z] 32) (by kernel_rfl) ?_
      change wpAnyH _ _ _ _ _ _ _ _ (World.drew _)
      refine wpAnyH_take (i := 0) (v := .int .i64 p) rfl (by kernel_rfl) (by kernel_rfl) (by kernel_rfl) (fun _ _ _ h => h) (Or.inl ⟨by kernel_rfl, fun w9 h9 => ?_⟩) HL0.out.drew ?_
      · go_simp
      refine wpAnyH_take (i := 1) (v := .string nn) rfl (by kernel_rfl) (by kernel_rfl) (by kernel_rfl) (fun _ _ _ h => h) (Or.inl ⟨by kernel_rfl, fun w9 h9 => ?_⟩) HL0.out.drew ?_
      · go_simp
      refine wpAnyH_take (i := 2) (v := .slice ao zs.length cap) rfl (by kernel_rfl) (by kernel_rfl) (by kernel_rfl) (fun _ _ _ h => h) (Or.inl ⟨by kernel_rfl, fun w9 h9 => ?_⟩) HL0.out.drew ?_
      · go_simp
      refine wpAnyH_take (i := 4) (v := .agg #[.int .i64 R, .int .i64 Z]) rfl (by kernel_rfl) (by kernel_rfl) (by kernel_rfl) (fun _ _ _ h => h) (Or.inl ⟨by kernel_rfl, fun w9 h9 => ?_⟩) HL0.out.drew ?_
      · have x0 := h9.cel 0 _ rfl; have x1 := h9.cel 1 _ rfl; have xl := h9.lt; go_simp
      refine held_one 3 (by kernel_rfl) rfl (by kernel_rfl) fun K hK => ?_
      go_simp
      go_wp2_with (go_at_call 12; refine Calls.mono (HTO.out _ HL0.out.drew.aft) ?_; rintro e v1 ⟨x1, rfl, ho1, hu⟩; have HL1 : Hid (LG w v1 b0 #[.int .i64 R, .int .i64 Z] 32) := HL0.out.drew.step hu; have HX1 : Hid (Irow v1 x1 zs) := Irow.of ho1; obtain ⟨a1, c1, rfl⟩ := i_sl ho1; clear ho1 hu)
      refine hK _ _ HL1.out ?_
      clear hK K
      refine held_one 5 (by kernel_rfl) rfl (by kernel_rfl) fun K hK => ?_
      go_simp
      go_wp2_with (go_at_call 17; refine Calls.mono (HTS.out _) ?_; rintro e v2 ⟨rfl, hu⟩; have HL2 : Hid (LG w v2 b0 #[.int .i64 R, .int .i64 Z] 32) := HL1.out.step hu; have HX2 : Hid (Irow v2 (.slice a1 zs.length c1) zs) := HX1.out.below hu; clear hu)
      refine hK _ _ HL2.out ?_
      clear hK K
      refine held_one 6 (by kernel_rfl) rfl (by kernel_rfl) fun K hK => ?_
      go_simp
      go_wp2_with (go_at_call 16; refine Calls.mono (HSP.out _ _ HX2.out) ?_; rintro e v3 ⟨rfl, hu⟩; have HL3 : Hid (LG w v3 b0 #[.int .i64 R, .int .i64 Z] 32) := HL2.out.step hu; clear hu HX2 HX1 HL1)
      refine hK _ _ HL3.out ?_
      clear hK K
      refine wpAnyH_take (i := 7) (v := .bool V) rfl (by kernel_rfl) (by kernel_rfl) (by kernel_rfl) (fun _ _ _ h => h) (Or.inl ⟨by kernel_rfl, fun w9 h9 => ?_⟩) HL3.out ?_
      · go_simp
      refine wpAnyH_done (by kernel_rfl) ?_ _
      go_simp
      go_wp2_with fail
      refine Calls.mono (HTO.out _ HL3.out.aft) ?_
      rintro e u2 ⟨x2, rfl, ho2, hb2⟩
      have HX2 : Hid (Irow u2 x2 zs) := Irow.of ho2
      have HA2 : Hid (LG w u2 b0 #[.int .i64 R, .int .i64 Z] 32) := HL3.out.step hb2
      obtain ⟨a2, c2, rfl⟩ := i_sl ho2
      clear ho2 hb2 HL3
      have r0 := HA2.out.cel 0 _ rfl
      have r1 := HA2.out.cel 1 _ rfl
      have rlt := HA2.out.lt
      go_wp2_with fail
      refine Calls.mono (HTS.out _) ?_
      rintro e u3 ⟨rfl, hb3⟩
      have HX3 : Hid (Irow u3 (.slice a2 zs.length c2) zs) := HX2.out.below hb3
      have HA3 : Hid (LG w u3 b0 #[.int .i64 R, .int .i64 Z] 32) := HA2.out.step hb3
      clear hb3 HX2 HA2 r0 r1 rlt
      go_wp2_with fail
      refine Calls.mono (HIM.out _ _ HX3.out) ?_
      rintro e u4 ⟨rfl, hb4⟩
      have HX4 : Hid (Irow u4 (.slice a2 zs.length c2) zs) := HX3.out.below hb4
      have HA4 : Hid (LG w u4 b0 #[.int .i64 R, .int .i64 Z] 32) := HA3.out.step hb4
      clear hb4 HX3 HA3
      go_wp2_with fail
      refine Calls.mono (HTO.out _ HA4.out.aft) ?_
      rintro e u8 ⟨x8, rfl, ho8, hb8⟩
      have HX8 : Hid (Irow u8 x8 zs) := Irow.of ho8
      have HX9 : Hid (Irow u8 (.slice a2 zs.length c2) zs) := HX4.out.below hb8
      have HA8 : Hid (LG w u8 b0 #[.int .i64 R, .int .i64 Z] 32) := HA4.out.step hb8
      obtain ⟨a8, c8, rfl⟩ := i_sl ho8
      clear ho8 hb8 HX4 HA4
      go_wp2_with fail
      refine Calls.mono (HEQ.out _ _ _ HX9.out HX8.out) ?_
      rintro e u9 ⟨rfl, hb9⟩
      have HA9 : Hid (LG w u9 b0 #[.int .i64 R, .int .i64 Z] 32) := HA8.out.step hb9
      clear hb9
      go_wp2
      go_ret
      exact ⟨rfl, HA9.out.bel⟩
    · go_enter Try.func5, Try.ntmps5
      go_wp2_with fail
      go_ret
      exact ⟨rfl, HL0.out.bel⟩
  · go_enter Try.func5, Try.ntmps5
    go_wp2_with fail
    go_ret
    exact ⟨rfl, HL0.out.bel⟩
end Go.Proofs.Ytdddldkcojamkab
