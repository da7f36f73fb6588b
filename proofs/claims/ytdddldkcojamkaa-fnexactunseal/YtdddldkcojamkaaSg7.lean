import Derived.Test.YtdddldkcojamkaaSg4
import Derived.Test.YtdddldkcojamkaaSg6
import Derived.Test.YtdddldkcojamkaaAv
namespace Go.Proofs.Ytdddldkcojamkaa
open Go.ChangeShapes Go.WideShapes Go.ChangeAt Go.RowKit

theorem cSE : Try.prog.cellsOf 45 = 4 := by kernel_rfl
theorem cSi : Try.prog.cellsOf 2 = 1 := by kernel_rfl
theorem cSs : Try.prog.cellsOf 9 = 1 := by kernel_rfl
theorem array4 {α : Type} {cs : Array α} (h : cs.size = 4) : ∃ c0 c1 c2 c3, cs = #[c0, c1, c2, c3] := by
  obtain ⟨l⟩ := cs
  match l, h with
  | [c0, c1, c2, c3], _ => exact ⟨c0, c1, c2, c3, rfl⟩
set_option maxRecDepth 100000 in
theorem open_sealed {H : Type} {enc : TypeId × Value → H} {W : World} {base : Nat} {v : Value} {d : DataW H} {p : List MemPlace} (hv : Value.okWide Try.prog W .any base 45 v)
    (h : DataW.Trod enc Try.prog W 0 (fun _ => true) true 45 v d p) : ∃ x : SE, v = seA x ∧ x.data.size ≤ maxLen ∧ x.tag.size ≤ maxLen := by
  obtain ⟨cs, rfl, hsz⟩ := okWide_struct Try.underlying45 hv
  obtain ⟨x0, x1, x2, x3, rfl⟩ := array4 (hsz.trans cSE)
  obtain ⟨fuel, hf⟩ := h
  obtain ⟨xs, n, _, hx, _, hlen, hel⟩ := DataW.trod_struct Try.underlying45 hf
  match xs, hlen, hel with
  | [y0, y1, y2, y3], _, hel =>
    have g0 := hel 0 _ rfl
    have g1 := hel 1 _ rfl
    have g2 := hel 2 _ rfl
    have g3 := hel 3 _ rfl
    simp only [Value.cells] at g0 g1 g2 g3
    obtain ⟨a0, e0, _⟩ := DataW.trod_int Try.underlying2 g0
    obtain ⟨a1, e1, _⟩ := DataW.trod_int Try.underlying2 g1
    obtain ⟨a2, e2, _, w2⟩ := DataW.trod_string Try.underlying9 g2
    obtain ⟨a3, e3, _, w3⟩ := DataW.trod_string Try.underlying9 g3
    simp [cSi, cSs] at e0 e1 e2 e3
    subst e0 e1 e2 e3
    exact ⟨⟨a0, a1, a2, a3⟩, rfl, w2, w3⟩
set_option maxRecDepth 100000 in
set_option maxHeartbeats 4000000 in
theorem toSealed_any (z : SE) (w : World) : Calls Try.prog 30 #[seA z] w fun e w' => e = .returned (seA z) ∧ Below w.heap.size w w' := by
  unfold seA
  go_enter Try.func30, Try.ntmps30
  go_wp2
  refine bodyPost_ret (v := seA z) ?_ rfl ⟨rfl, (((Below.refl _ _).alloc (Nat.le_refl _) _).alloc (by simp) _).alloc (by simp; omega) _⟩
  simp only [results, Try.results30, go_sem]
  simp [go_sem, seA]
/-- What is left of so many bytes behind the two texts. -/
def szS (z : SE) : Int := if 1048576 < (z.data.size : Int) then -1 else if 1048576 - (z.data.size : Int) < (z.tag.size : Int) then -1 else 1048576 - (z.data.size : Int) - (z.tag.size : Int)
set_option maxRecDepth 100000 in
set_option maxHeartbeats 4000000 in
theorem szSealed_any (z : SE) (w : World) (h1 : z.data.size ≤ maxLen) (h2 : z.tag.size ≤ maxLen) : Calls Try.prog 28 #[seA z, .int .i64 1048576] w fun e w' => e = .returned (.int .i64 (szS z)) ∧ Below w.heap.size w w' := by
  obtain ⟨c, m, d, t⟩ := z
  have q1 : d.size ≤ 9223372036854775807 := by unfold maxLen at h1; simp only at h1; omega
  have q2 : t.size ≤ 9223372036854775807 := by unfold maxLen at h2; simp only at h2; omega
  clear h1 h2
  unfold seA
  simp only
  by_cases h3 : 1048576 < (d.size : Int)
  · have E : Hid (szS ⟨c, m, d, t⟩ = -1) := if_pos h3
    have h4 : decide (1048576 - (d.size : Int) < 0) = true := decide_eq_true (by omega)
    go_enter Try.func28, Try.ntmps28
    go_wp2
    go_ret
    exact ⟨ret_int E.out.symm, (Below.refl _ _).alloc (Nat.le_refl _) _⟩
  · have h4 : decide (1048576 - (d.size : Int) < 0) = false := decide_eq_false (by omega)
    by_cases h5 : 1048576 - (d.size : Int) < (t.size : Int)
    · have E : Hid (szS ⟨c, m, d, t⟩ = -1) := (show szS ⟨c, m, d, t⟩ = -1 by unfold szS; rw [if_neg h3, if_pos h5])
      have h6 : decide (1048576 - (d.size : Int) - (t.size : Int) < 0) = true := decide_eq_true (by omega)
      go_enter Try.func28, Try.ntmps28
      go_wp2
      go_ret
      exact ⟨ret_int E.out.symm, (Below.refl _ _).alloc (Nat.le_refl _) _⟩
    · have E : Hid (szS ⟨c, m, d, t⟩ = 1048576 - (d.size : Int) - (t.size : Int)) := (show szS ⟨c, m, d, t⟩ = _ by unfold szS; rw [if_neg h3, if_neg h5])
      have h6 : decide (1048576 - (d.size : Int) - (t.size : Int) < 0) = false := decide_eq_false (by omega)
      go_enter Try.func28, Try.ntmps28
      go_wp2
      go_ret
      exact ⟨ret_int E.out.symm, (Below.refl _ _).alloc (Nat.le_refl _) _⟩
set_option maxRecDepth 100000 in
set_option maxHeartbeats 4000000 in
theorem eqOpened_ok (c : Int) (d : ByteArray) (w : World) : Calls Try.prog 32 #[.agg #[.int .i64 c, .string d], .agg #[.int .i64 c, .string d]] w fun e w' => e = .returned (.bool true) ∧ Below w.heap.size w w' := by
  have e1 : (c != c) = false := by simp
  have e3 : (d.toList == d.toList) = true := by simp
  go_enter Try.func32, Try.ntmps32
  go_wp2
  go_ret
  exact ⟨rfl, ((Below.refl _ _).alloc (Nat.le_refl _) _).alloc (by simp) _⟩
set_option maxRecDepth 100000 in
set_option maxHeartbeats 4000000 in
theorem walkUn {w : World} {v : Value} {zs : List Int} (h : Irow w v zs) (hl : zs.length ≤ maxLen) (root : ByteArray) (x : SE) (m1 : x.data.size ≤ maxLen) (m2 : x.tag.size ≤ maxLen) :
    Calls Try.prog 8 #[.string root, v, seA x] w fun e w' => e = .returned (.bool true) ∧ Below w.heap.size w w' := by
  have HR : Hid (Irow w v zs) := h
  obtain ⟨ao, cap, rfl⟩ := h.sl
  clear h
  have hl2 : zs.length ≤ 9223372036854775807 := by unfold maxLen at hl; omega
  clear hl
  have HSZ : Hid (∀ u, Calls Try.prog 28 #[seA x, .int .i64 1048576] u fun e w' => e = .returned (.int .i64 (szS x)) ∧ Below u.heap.size u w') := fun u => szSealed_any x u m1 m2
  have HTS : Hid (∀ u, Calls Try.prog 30 #[seA x] u fun e w' => e = .returned (seA x) ∧ Below u.heap.size u w') := fun u => toSealed_any x u
  have HL0 : Hid (LBx w (w.alloc (.cells #[.int .i64 x.code, .int .i64 x.mask, .string x.data, .string x.tag] 45)) w.heap.size #[.int .i64 x.code, .int .i64 x.mask, .string x.data, .string x.tag] 45) := LBx.new w _ _
  by_cases h1 : root.size ≤ 1048576
  · by_cases h2 : zs.length ≤ 1048576
    · have HTO : Hid (∀ u, Aft w u → Calls Try.prog 17 #[.slice ao zs.length cap] u fun e w' => ∃ x, e = .returned x ∧ w'.ownsRow u.heap.size 2 1 x zs.length (iR zs) ∧ Below u.heap.size u w') := fun u hu => toIS_any (HR.out.below hu.out) h2
      have HSP : Hid (∀ u y, Irow u y zs → Calls Try.prog 29 #[.string root, y, seA x] u fun e w' => e = .returned (opA (unV root zs x)) ∧ Below u.heap.size u w') := fun u y hx => specUnseal_any hx h2 root x
      have HIM : Hid (∀ u y, Irow u y zs → Calls Try.prog 31 #[.string root, y, seA x] u fun e w' => e = .returned (opA (unV root zs x)) ∧ Below u.heap.size u w') := fun u y hx => implUnseal_any hx h2 root x
      have HEQ : Hid (∀ u x y, Irow u x zs → Irow u y zs → Calls Try.prog 20 #[x, y] u fun e w' => e = .returned (.bool true) ∧ Below u.heap.size u w') := fun u x y hx hy => eqIS_ok hx hy h2
      generalize unV root zs x = R at HSP HIM
      obtain ⟨C, D⟩ := R
      unfold opA at HSP HIM
      obtain ⟨xc, xm, xd, xt⟩ := x
      generalize szS ⟨xc, xm, xd, xt⟩ = L at HSZ
      unfold seA at HSP HIM HSZ HTS ⊢
      simp only at HSP HIM HSZ HTS HL0 ⊢
      clear m1 m2
      have hd1 : decide (1048576 < (root.size : Int)) = false := decide_eq_false (by omega)
      have hd2 : decide (1048576 < (zs.length : Int)) = false := decide_eq_false (by omega)
      cases hL : decide (L < 0)
      · go_enter Try.func8, Try.ntmps8
        go_wp2_with fail
        generalize (w.alloc (.cells #[.int .i64 xc, .int .i64 xm, .string xd, .string xt] 45)) = u0 at *
        generalize w.heap.size = b0 at *
        refine Calls.mono (HSZ.out _) ?_
        rintro e u1 ⟨rfl, hb1⟩
        have HL1 : Hid (LBx w u1 b0 #[.int .i64 xc, .int .i64 xm, .string xd, .string xt] 45) := HL0.out.step hb1
        clear hb1 HL0
        go_wp2_with fail
        refine wp_region_any (by kernel_rfl) ?_
        refine wpAny_inv (fun LL a9 u => ∃ (bb0 bb1 bb2 bb3 bb4 bb5 bb6 bb7 : Bool) (v22 v23 v24 v25 v26 v27 v8 : Value), LL = #[bb0, bb1, bb2, bb3, bb4, bb5, bb6, bb7] ∧ a9 = { tmps := ((Value.string root) :: (Value.slice ao zs.length cap) :: (Value.agg #[Value.int IntKind.i64 xc, Value.int IntKind.i64 xm, Value.string xd, Value.string xt]) :: (undef) :: (undef) :: (Value.pointer (some { block := b0, off := 0 })) :: (Value.bool false) :: (Value.int IntKind.i64 L) :: (v8) :: (undef) :: (undef) :: (Value.string root) :: (Value.int IntKind.i64 ↑root.size) :: (Value.bool false) :: (Value.slice ao zs.length cap) :: (Value.int IntKind.i64 ↑zs.length) :: (Value.bool false) :: (Value.agg #[Value.int IntKind.i64 xc, Value.int IntKind.i64 xm, Value.string xd, Value.string xt]) :: (Value.int IntKind.i64 1048576) :: (Value.int IntKind.i64 L) :: (Value.int IntKind.i64 L) :: (Value.bool false) :: (v22) :: (v23) :: (v24) :: (v25) :: (v26) :: (v27) :: (undef) :: (undef) :: (undef) :: (undef) :: (undef) :: (undef) :: (undef) :: (undef) :: (undef) :: (undef) :: (undef) :: (undef) :: (undef) :: (undef) :: (undef) :: (undef) :: []).toArray, defers := [] } ∧ Below u1.heap.size u1 u ∧ ((bb7 = false ∧ (bb0 = true → v22 = Value.string root) ∧ (bb1 = true → v23 = Value.slice ao zs.length cap) ∧ (bb2 = true → Irow u v24 zs) ∧ (bb3 = true → v25 = .agg #[.int .i64 xc, .int .i64 xm, .string xd, .string xt]) ∧ (bb4 = true → v26 = .agg #[.int .i64 xc, .int .i64 xm, .string xd, .string xt]) ∧ (bb5 = true → v27 = .agg #[.int .i64 C, .string D]) ∧ (bb6 = true → KB u1 u #[.int .i64 0, .string ⟨#[]⟩] 48 v8)) ∨ (bb0 = true ∧ bb1 = true ∧ bb2 = true ∧ bb3 = true ∧ bb4 = true ∧ bb5 = true ∧ bb6 = true ∧ bb7 = true ∧ v22 = Value.string root ∧ v23 = Value.slice ao zs.length cap ∧ True ∧ v25 = .agg #[.int .i64 xc, .int .i64 xm, .string xd, .string xt] ∧ v26 = .agg #[.int .i64 xc, .int .i64 xm, .string xd, .string xt] ∧ v27 = .agg #[.int .i64 C, .string D] ∧ KB u1 u #[.int .i64 C, .string D] 48 v8))) ?hs ?hd _ _ _ _ (by decide) ?st
        case st => exact ⟨false, false, false, false, false, false, false, false, undef, undef, undef, undef, undef, undef, undef, rfl, rfl, (Below.refl _ _).drew, .inl ⟨rfl, (fun e => by cases e), (fun e => by cases e), (fun e => by cases e), (fun e => by cases e), (fun e => by cases e), (fun e => by cases e), (fun e => by cases e)⟩⟩
        case hs =>
          rintro LL a9 u i ⟨bb0, bb1, bb2, bb3, bb4, bb5, bb6, bb7, v22, v23, v24, v25, v26, v27, v8, rfl, rfl, hB, hI⟩ hi
          obtain ⟨hf, o, ho, hall⟩ := mem_ready.1 hi
          have hi8 : i < 8 := (Array.getElem?_eq_some_iff.1 ho).1
          rcases hI with ⟨rfl, h0, h1, h2, h3, h4, h5, h6⟩ | ⟨rfl, rfl, rfl, rfl, rfl, rfl, rfl, rfl, _⟩
          · obtain rfl | rfl | rfl | rfl | rfl | rfl | rfl | rfl : i = 0 ∨ i = 1 ∨ i = 2 ∨ i = 3 ∨ i = 4 ∨ i = 5 ∨ i = 6 ∨ i = 7 := by omega
            · obtain rfl : bb0 = false := hf
              have HB : Hid _ := hB
              have HH1 : Hid (bb1 = true → v23 = Value.slice ao zs.length cap) := h1
              have HH2 : Hid (bb2 = true → Irow u v24 zs) := h2
              have HH3 : Hid (bb3 = true → v25 = .agg #[.int .i64 xc, .int .i64 xm, .string xd, .string xt]) := h3
              have HH4 : Hid (bb4 = true → v26 = .agg #[.int .i64 xc, .int .i64 xm, .string xd, .string xt]) := h4
              have HH5 : Hid (bb5 = true → v27 = .agg #[.int .i64 C, .string D]) := h5
              have HH6 : Hid (bb6 = true → KB u1 u #[.int .i64 0, .string ⟨#[]⟩] 48 v8) := h6
              clear hB hall hi h0 h1 h2 h3 h4 h5 h6
              refine wpOp_step rfl (fun K hK => ?_)
              go_simp
              exact hK _ _ ⟨true, bb1, bb2, bb3, bb4, bb5, bb6, false, _, v23, v24, v25, v26, v27, v8, rfl, rfl, HB.out, .inl ⟨rfl, fun _ => rfl, HH1.out, HH2.out, HH3.out, HH4.out, HH5.out, HH6.out⟩⟩
            · obtain rfl : bb1 = false := hf
              have HB : Hid _ := hB
              have HH0 : Hid (bb0 = true → v22 = Value.string root) := h0
              have HH2 : Hid (bb2 = true → Irow u v24 zs) := h2
              have HH3 : Hid (bb3 = true → v25 = .agg #[.int .i64 xc, .int .i64 xm, .string xd, .string xt]) := h3
              have HH4 : Hid (bb4 = true → v26 = .agg #[.int .i64 xc, .int .i64 xm, .string xd, .string xt]) := h4
              have HH5 : Hid (bb5 = true → v27 = .agg #[.int .i64 C, .string D]) := h5
              have HH6 : Hid (bb6 = true → KB u1 u #[.int .i64 0, .string ⟨#[]⟩] 48 v8) := h6
              clear hB hall hi h0 h1 h2 h3 h4 h5 h6
              refine wpOp_step rfl (fun K hK => ?_)
              go_simp
              exact hK _ _ ⟨bb0, true, bb2, bb3, bb4, bb5, bb6, false, v22, _, v24, v25, v26, v27, v8, rfl, rfl, HB.out, .inl ⟨rfl, HH0.out, fun _ => rfl, HH2.out, HH3.out, HH4.out, HH5.out, HH6.out⟩⟩
            · obtain rfl : bb2 = false := hf
              cases ho
              have hb1 : bb1 = true := hall { on := 1, ground := .data } (by simp) rfl
              have e1 := h1 hb1
              subst e1
              have HC9 : Hid _ := HTO.out u ⟨Below.ups HL1.out.bel hB⟩
              have HB : Hid _ := hB
              have HH0 : Hid (bb0 = true → v22 = Value.string root) := h0
              have HH3 : Hid (bb3 = true → v25 = .agg #[.int .i64 xc, .int .i64 xm, .string xd, .string xt]) := h3
              have HH4 : Hid (bb4 = true → v26 = .agg #[.int .i64 xc, .int .i64 xm, .string xd, .string xt]) := h4
              have HH5 : Hid (bb5 = true → v27 = .agg #[.int .i64 C, .string D]) := h5
              have HH6 : Hid (bb6 = true → KB u1 u #[.int .i64 0, .string ⟨#[]⟩] 48 v8) := h6
              have HH1 : Hid _ := h1
              clear hB hall hi h0 h1 h2 h3 h4 h5 h6
              refine wpOp_step rfl (fun K hK => ?_)
              go_simp
              refine Calls.mono HC9.out ?_
              rintro e9 u5 ⟨y9, rfl, ho9, hb5⟩
              exact hK _ _ ⟨bb0, bb1, true, bb3, bb4, bb5, bb6, false, v22, _, _, v25, v26, v27, v8, rfl, rfl, Below.ups HB.out hb5, .inl ⟨rfl, HH0.out, HH1.out, fun _ => Irow.of ho9, HH3.out, HH4.out, HH5.out, fun e => (HH6.out e).below hb5⟩⟩
            · obtain rfl : bb3 = false := hf
              have c0 := (HL1.out.step hB).cel 0 _ rfl
              have c1 := (HL1.out.step hB).cel 1 _ rfl
              have c2 := (HL1.out.step hB).cel 2 _ rfl
              have c3 := (HL1.out.step hB).cel 3 _ rfl
              have HB : Hid _ := hB
              have HH0 : Hid (bb0 = true → v22 = Value.string root) := h0
              have HH1 : Hid (bb1 = true → v23 = Value.slice ao zs.length cap) := h1
              have HH2 : Hid (bb2 = true → Irow u v24 zs) := h2
              have HH4 : Hid (bb4 = true → v26 = .agg #[.int .i64 xc, .int .i64 xm, .string xd, .string xt]) := h4
              have HH5 : Hid (bb5 = true → v27 = .agg #[.int .i64 C, .string D]) := h5
              have HH6 : Hid (bb6 = true → KB u1 u #[.int .i64 0, .string ⟨#[]⟩] 48 v8) := h6
              clear hB hall hi h0 h1 h2 h3 h4 h5 h6
              refine wpOp_step rfl (fun K hK => ?_)
              go_simp
              exact hK _ _ ⟨bb0, bb1, bb2, true, bb4, bb5, bb6, false, v22, v23, v24, _, v26, v27, v8, rfl, rfl, HB.out, .inl ⟨rfl, HH0.out, HH1.out, HH2.out, fun _ => rfl, HH4.out, HH5.out, HH6.out⟩⟩
            · obtain rfl : bb4 = false := hf
              cases ho
              have hb3 : bb3 = true := hall { on := 3, ground := .data } (by simp) rfl
              have e3 := h3 hb3
              subst e3
              have HC9 : Hid _ := HTS.out u
              have HB : Hid _ := hB
              have HH0 : Hid (bb0 = true → v22 = Value.string root) := h0
              have HH1 : Hid (bb1 = true → v23 = Value.slice ao zs.length cap) := h1
              have HH2 : Hid (bb2 = true → Irow u v24 zs) := h2
              have HH5 : Hid (bb5 = true → v27 = .agg #[.int .i64 C, .string D]) := h5
              have HH6 : Hid (bb6 = true → KB u1 u #[.int .i64 0, .string ⟨#[]⟩] 48 v8) := h6
              have HH3 : Hid _ := h3
              clear hB hall hi h0 h1 h2 h3 h4 h5 h6
              refine wpOp_step rfl (fun K hK => ?_)
              go_simp
              refine Calls.mono HC9.out ?_
              rintro e9 u5 ⟨rfl, hb5⟩
              exact hK _ _ ⟨bb0, bb1, bb2, bb3, true, bb5, bb6, false, v22, v23, v24, _, _, v27, v8, rfl, rfl, Below.ups HB.out hb5, .inl ⟨rfl, HH0.out, HH1.out, fun e => (HH2.out e).below hb5, HH3.out, fun _ => rfl, HH5.out, fun e => (HH6.out e).below hb5⟩⟩
            · obtain rfl : bb5 = false := hf
              cases ho
              have hb0 : bb0 = true := hall { on := 0, ground := .data } (by simp) rfl
              have e0 := h0 hb0
              subst e0
              have hb2 : bb2 = true := hall { on := 2, ground := .data } (by simp) rfl
              have e2 := h2 hb2
              have hb4 : bb4 = true := hall { on := 4, ground := .data } (by simp) rfl
              have e4 := h4 hb4
              subst e4
              have HC9 : Hid _ := HSP.out u _ e2
              have HB : Hid _ := hB
              have HH1 : Hid (bb1 = true → v23 = Value.slice ao zs.length cap) := h1
              have HH3 : Hid (bb3 = true → v25 = .agg #[.int .i64 xc, .int .i64 xm, .string xd, .string xt]) := h3
              have HH6 : Hid (bb6 = true → KB u1 u #[.int .i64 0, .string ⟨#[]⟩] 48 v8) := h6
              have HH0 : Hid _ := h0
              have HH2 : Hid _ := h2
              have HH4 : Hid _ := h4
              clear hB hall hi h0 h1 h2 h3 h4 h5 h6
              refine wpOp_step rfl (fun K hK => ?_)
              go_simp
              refine Calls.mono HC9.out ?_
              rintro e9 u5 ⟨rfl, hb5⟩
              exact hK _ _ ⟨bb0, bb1, bb2, bb3, bb4, true, bb6, false, _, v23, _, v25, _, _, v8, rfl, rfl, Below.ups HB.out hb5, .inl ⟨rfl, HH0.out, HH1.out, fun e => (HH2.out e).below hb5, HH3.out, HH4.out, fun _ => rfl, fun e => (HH6.out e).below hb5⟩⟩
            · obtain rfl : bb6 = false := hf
              have HB : Hid _ := hB
              have HH0 : Hid (bb0 = true → v22 = Value.string root) := h0
              have HH1 : Hid (bb1 = true → v23 = Value.slice ao zs.length cap) := h1
              have HH2 : Hid (bb2 = true → Irow u v24 zs) := h2
              have HH3 : Hid (bb3 = true → v25 = .agg #[.int .i64 xc, .int .i64 xm, .string xd, .string xt]) := h3
              have HH4 : Hid (bb4 = true → v26 = .agg #[.int .i64 xc, .int .i64 xm, .string xd, .string xt]) := h4
              have HH5 : Hid (bb5 = true → v27 = .agg #[.int .i64 C, .string D]) := h5
              clear hB hall hi h0 h1 h2 h3 h4 h5 h6
              refine wpOp_step rfl (fun K hK => ?_)
              go_simp
              exact hK _ _ ⟨bb0, bb1, bb2, bb3, bb4, bb5, true, false, v22, v23, v24, v25, v26, v27, _, rfl, rfl, Below.ups HB.out (bx1 _ _), .inl ⟨rfl, HH0.out, HH1.out, fun e => (HH2.out e).below (bx1 _ _), HH3.out, HH4.out, HH5.out, fun _ => KB.new _ _ HB.out.size⟩⟩
            · cases ho
              obtain rfl : bb0 = true := hall { on := 0, ground := .phase } (by simp) rfl
              obtain rfl : bb1 = true := hall { on := 1, ground := .phase } (by simp) rfl
              obtain rfl : bb2 = true := hall { on := 2, ground := .phase } (by simp) rfl
              obtain rfl : bb3 = true := hall { on := 3, ground := .phase } (by simp) rfl
              obtain rfl : bb4 = true := hall { on := 4, ground := .phase } (by simp) rfl
              obtain rfl : bb5 = true := hall { on := 5, ground := .phase } (by simp) rfl
              obtain rfl : bb6 = true := hall { on := 6, ground := .phase } (by simp) rfl
              have e6 := h6 rfl
              obtain ⟨p6, rfl, p6b, p6c⟩ := (e6).ex
              have e5 := h5 rfl
              subst e5
              have z0 := put_cel p6c 0 _ rfl
              have y0 := put_frz p6c 0
              have z1 := put_cel p6c 1 _ rfl
              have y1 := put_frz p6c 1
              have plt : p6 < u.heap.size := (Array.getElem?_eq_some_iff.1 p6c).1
              have HB : Hid _ := hB
              have HH0 : Hid (v22 = Value.string root) := h0 rfl
              have HH1 : Hid (v23 = Value.slice ao zs.length cap) := h1 rfl
              have HH3 : Hid (v25 = .agg #[.int .i64 xc, .int .i64 xm, .string xd, .string xt]) := h3 rfl
              have HH4 : Hid (v26 = .agg #[.int .i64 xc, .int .i64 xm, .string xd, .string xt]) := h4 rfl
              have HPC : Hid _ := p6c
              have HPB : Hid _ := p6b
              clear hB hall hi p6c p6b h0 h1 h2 h3 h4 h5 h6
              refine wpOp_step rfl (fun K hK => ?_)
              go_simp
              exact hK _ _ ⟨true, true, true, true, true, true, true, true, v22, v23, v24, v25, v26, _, _, rfl, rfl, ((HB.out.setCell HPB.out _).setCell HPB.out _), .inr ⟨rfl, rfl, rfl, rfl, rfl, rfl, rfl, rfl, HH0.out, HH1.out, trivial, HH3.out, HH4.out, rfl, ⟨p6, rfl, HPB.out, (heap_put (heap_put HPC.out))⟩⟩⟩
          · exfalso
            obtain rfl | rfl | rfl | rfl | rfl | rfl | rfl | rfl : i = 0 ∨ i = 1 ∨ i = 2 ∨ i = 3 ∨ i = 4 ∨ i = 5 ∨ i = 6 ∨ i = 7 := by omega
            all_goals exact absurd hf (by decide)
        case hd =>
          rintro LL a9 u ⟨bb0, bb1, bb2, bb3, bb4, bb5, bb6, bb7, v22, v23, v24, v25, v26, v27, v8, rfl, rfl, hB, hI⟩ hr
          have hall2 := (fun he hL => all_up (md := _) he hL hr) (by kernel_rfl) rfl
          rcases hI with ⟨rfl, _⟩ | ⟨rfl, rfl, rfl, rfl, rfl, rfl, rfl, rfl, g22, g23, g24, g25, g26, g27, g8⟩
          · exact Bool.noConfusion (show false = true from hall2 7 (by decide))
          clear hr hall2
          obtain ⟨b8, rfl, hge8, hc8⟩ := g8.ex
          have HA : Hid (LBx w u b0 #[.int .i64 xc, .int .i64 xm, .string xd, .string xt] 45) := HL1.out.step hB
          have HW : Hid (LBx w u b8 #[.int .i64 C, .string D] 48) := ⟨HA.out.bel, hc8⟩
          clear g8 hc8 hB HL1 hge8
          go_wp2_with fail
          refine Calls.mono (HTO.out _ HA.out.aft) ?_
          rintro e u2 ⟨x2, rfl, ho2, hb2⟩
          have HX2 : Hid (Irow u2 x2 zs) := Irow.of ho2
          have HA2 : Hid (LBx w u2 b0 #[.int .i64 xc, .int .i64 xm, .string xd, .string xt] 45) := HA.out.step hb2
          have HW2 : Hid (LBx w u2 b8 #[.int .i64 C, .string D] 48) := HW.out.step hb2
          obtain ⟨a2, c2, rfl⟩ := i_sl ho2
          clear ho2 hb2 HA HW
          have r0 := HA2.out.cel 0 _ rfl
          have r1 := HA2.out.cel 1 _ rfl
          have r2 := HA2.out.cel 2 _ rfl
          have r3 := HA2.out.cel 3 _ rfl
          have rlt := HA2.out.lt
          go_wp2_with fail
          refine Calls.mono (HTS.out _) ?_
          rintro e u3 ⟨rfl, hb3⟩
          have HX3 : Hid (Irow u3 (.slice a2 zs.length c2) zs) := HX2.out.below hb3
          have HW3 : Hid (LBx w u3 b8 #[.int .i64 C, .string D] 48) := HW2.out.step hb3
          clear hb3 HX2 HA2 HW2 r0 r1 r2 r3 rlt
          go_wp2_with fail
          refine Calls.mono (HIM.out _ _ HX3.out) ?_
          rintro e u4 ⟨rfl, hb4⟩
          have HX4 : Hid (Irow u4 (.slice a2 zs.length c2) zs) := HX3.out.below hb4
          have HW4 : Hid (LBx w u4 b8 #[.int .i64 C, .string D] 48) := HW3.out.step hb4
          clear hb4 HX3 HW3
          have HX5 : Hid (Irow (u4.alloc (.cells #[.int .i64 C, .string D] 48)) (.slice a2 zs.length c2) zs) := HX4.out.below (bx1 _ _)
          have HW5 : Hid (LBx w (u4.alloc (.cells #[.int .i64 C, .string D] 48)) b8 #[.int .i64 C, .string D] 48) := HW4.out.step (bx1 _ _)
          have r0 := HW4.out.cel 0 _ rfl
          have r1 := HW4.out.cel 1 _ rfl
          have rlt := HW4.out.lt
          go_wp2_with fail
          refine Calls.mono (eqOpened_ok _ _ _) ?_
          rintro e u6 ⟨rfl, hb6⟩
          have HX6 : Hid (Irow u6 (.slice a2 zs.length c2) zs) := HX5.out.below hb6
          have HW6 : Hid (LBx w u6 b8 #[.int .i64 C, .string D] 48) := HW5.out.step hb6
          clear hb6 HX4 HX5 HW4 HW5 r0 r1 rlt
          go_wp2_with fail
          refine Calls.mono (HTO.out _ HW6.out.aft) ?_
          rintro e u8 ⟨x8, rfl, ho8, hb8⟩
          have HX8 : Hid (Irow u8 x8 zs) := Irow.of ho8
          have HX9 : Hid (Irow u8 (.slice a2 zs.length c2) zs) := HX6.out.below hb8
          have HW8 : Hid (LBx w u8 b8 _ _) := HW6.out.step hb8
          obtain ⟨a8, c8, rfl⟩ := i_sl ho8
          clear ho8 hb8 HX6 HW6
          go_wp2_with fail
          refine Calls.mono (HEQ.out _ _ _ HX9.out HX8.out) ?_
          rintro e u9 ⟨rfl, hb9⟩
          have HW9 : Hid (LBx w u9 b8 _ _) := HW8.out.step hb9
          clear hb9
          go_wp2
          go_ret
          exact ⟨rfl, HW9.out.bel⟩
      · go_enter Try.func8, Try.ntmps8
        go_wp2_with fail
        generalize (w.alloc (.cells #[.int .i64 xc, .int .i64 xm, .string xd, .string xt] 45)) = u0 at *
        generalize w.heap.size = b0 at *
        refine Calls.mono (HSZ.out _) ?_
        rintro e u1 ⟨rfl, hb1⟩
        have HL1 : Hid (LBx w u1 b0 #[.int .i64 xc, .int .i64 xm, .string xd, .string xt] 45) := HL0.out.step hb1
        clear hb1 HL0
        go_wp2_with fail
        go_ret
        exact ⟨rfl, HL1.out.bel⟩
    · go_enter Try.func8, Try.ntmps8
      unfold seA
      go_wp2_with fail
      go_ret
      exact ⟨rfl, HL0.out.bel⟩
  · go_enter Try.func8, Try.ntmps8
    unfold seA
    go_wp2_with fail
    go_ret
    exact ⟨rfl, HL0.out.bel⟩
end Go.Proofs.Ytdddldkcojamkaa
