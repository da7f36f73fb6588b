import Derived.Test.YtegcbghhcidcaaaDoorCp1
import Derived.Lib.BufferOwn
namespace Go.Proofs.YtegcbghhcidcaaaDoor
open Go.ChangeShapes Go.WideShapes Go.ChangeAt Go.RowKit

/-- What has not made a whole yet, as a clock goes on. -/
def pP (c : CK) (t : Int) : Int := if c.frz = true then c.part else c.part + c.num * (t - c.host)
def adv (c : CK) (t : Int) : CK := ⟨t, c.guest + pP c t / c.den, c.num, c.den, pP c t % c.den, c.frz, c.ts⟩
/-- A clock that may go on to a time. -/
structure May (c : CK) (t : Int) : Prop where
  t0 : c.host ≤ t
  t1 : t ≤ 1099511627776
  h0 : 0 ≤ c.host
  g0 : 0 ≤ c.guest
  n0 : 0 ≤ c.num
  n1 : c.num ≤ 1000
  d0 : 1 ≤ c.den
  d1 : c.den ≤ 1000
  p0 : 0 ≤ c.part
  p1 : c.part < c.den
  gm : c.guest + pP c t / c.den ≤ 1099511627776
theorem gsetK {u w : World} {b : Nat} (h : u.grownBy w (some b)) (i : Nat) (v : Value) : u.grownBy (w.setCell ⟨b, i, none⟩ v) (some b) := Lib.grownBy_setB h i v
theorem gdnK {u w : World} {r : Option Nat} (h : u.grownBy w r) (q : Nat) : u.grownBy (w.drewN q) r := ⟨h.os, h.tape, h.output, h.size, h.block⟩
theorem gdrK {u w : World} {r : Option Nat} (h : u.grownBy w r) : u.grownBy w.drew r := ⟨h.os, h.tape, h.output, h.size, h.block⟩
theorem mul_b {n x : Int} (n0 : 0 ≤ n) (n1 : n ≤ 1000) (x0 : 0 ≤ x) (x1 : x ≤ 1099511627776) : 0 ≤ n * x ∧ n * x ≤ 1099511627776000 := by
  refine ⟨Int.mul_nonneg n0 x0, ?_⟩
  have h1 : n * x ≤ 1000 * x := Int.mul_le_mul_of_nonneg_right n1 x0
  omega
theorem quo_b {P d : Int} (h0 : 0 ≤ P) (h1 : 1 ≤ d) : P.tdiv d = P / d ∧ P.tmod d = P % d ∧ 0 ≤ P / d ∧ P / d ≤ P ∧ 0 ≤ P % d ∧ P % d < d :=
  ⟨Int.tdiv_eq_ediv_of_nonneg h0, Int.tmod_eq_emod_of_nonneg h0, Int.ediv_nonneg h0 (by omega), Int.ediv_le_self d h0, Int.emod_nonneg _ (by omega), Int.emod_lt_of_pos _ (by omega)⟩
set_option maxRecDepth 100000 in
set_option maxHeartbeats 4000000 in
theorem advance0 {w : World} {B : Nat} {c : CK} {ao : Option Addr} {cap : Nat} {t : Int} (h : BoxK w B 25 c (.slice ao 0 cap)) (hm : May c t) : Calls Tryd.prog 31 #[.pointer (some ⟨B, 0, none⟩), .int .i64 t] w fun e w' => e = .returned (.tuple #[.slice none 0 0, .nilIface]) ∧ BoxK w' B 25 (adv c t) (.slice ao 0 cap) ∧ w.grownBy w' (some B) := by
  have HX : Hid (BoxK w B 25 c (.slice ao 0 cap)) := h
  have hlt := h.lt
  obtain ⟨c0, c1, c2, c3, c4, c5, c6, cf⟩ := h.cel
  clear h
  obtain ⟨t0, t1, h0, g0, n0, n1, d0, d1, p0, p1, gm⟩ := hm
  obtain ⟨ho, gu, nu, de, pa, fz, ts⟩ := c
  simp only at *
  have hX := mul_b n0 n1 (show 0 ≤ t - ho by omega) (by omega)
  obtain ⟨x0, x1⟩ := hX
  unfold adv
  have HPP : Hid (pP ⟨ho, gu, nu, de, pa, fz, ts⟩ t = if fz = true then pa else pa + nu * (t - ho)) := rfl
  rw [HPP.out] at gm
  simp only
  rw [HPP.out]
  clear HPP
  generalize hX : nu * (t - ho) = X at *
  have l1 : decide (t < ho) = false := decide_eq_false (by omega)
  have l2 : decide (1099511627776 < t) = false := decide_eq_false (by omega)
  have dn : ¬ de = 0 := by omega
  cases fz
  · simp only [Bool.false_eq_true, if_false] at gm ⊢
    obtain ⟨q1, q2, q3, q4, q5, q6⟩ := quo_b (show 0 ≤ pa + X by omega) d0
    generalize (pa + X) / de = Q at *
    generalize (pa + X) % de = R at *
    have l3 : decide (1099511627776 < gu + Q) = false := decide_eq_false (by omega)
    go_enter Tryd.func31, Tryd.ntmps31
    go_wp2_with fail
    go_quiet (fail)
    have HU1 : Hid (BoxK (w.drewN nq) B 25 ⟨ho, gu, nu, de, pa, false, ts⟩ (.slice ao 0 cap)) := HX.out
    have HG1 : Hid (w.grownBy (w.drewN nq) (some B)) := gdnK (World.grownBy.refl _ _) nq
    generalize w.drewN nq = u1 at *
    clear c0 c1 c2 c3 c4 c5 c6 cf hlt
    obtain ⟨c0, c1, c2, c3, c4, c5, c6, cf⟩ := HU1.out.cel
    have hlt := HU1.out.lt
    simp only at c0 c1 c2 c3 c4 c5
    go_wp2_with fail
    go_quiet (fail)
    have HU2 : Hid (BoxK (u1.drewN nq) B 25 ⟨ho, gu, nu, de, pa, false, ts⟩ (.slice ao 0 cap)) := HU1.out
    have HG2 : Hid (w.grownBy (u1.drewN nq) (some B)) := gdnK HG1.out nq
    generalize u1.drewN nq = u2 at *
    clear c0 c1 c2 c3 c4 c5 c6 cf hlt
    obtain ⟨c0, c1, c2, c3, c4, c5, c6, cf⟩ := HU2.out.cel
    have hlt := HU2.out.lt
    simp only at c0 c1 c2 c3 c4 c5
    have HW1 : Hid (BoxK (u2.setCell ⟨B, 0, none⟩ (.int .i64 t)).drew B 25 ⟨t, gu, nu, de, pa, false, ts⟩ (.slice ao 0 cap)) := blk_set HU2.out 0 _
    have HW2 : Hid (BoxK ((u2.setCell ⟨B, 0, none⟩ (.int .i64 t)).setCell ⟨B, 1, none⟩ (.int .i64 (gu + Q))).drew B 25 ⟨t, gu + Q, nu, de, pa, false, ts⟩ (.slice ao 0 cap)) := blk_set HW1.out 1 _
    have HW3 : Hid (BoxK (((u2.setCell ⟨B, 0, none⟩ (.int .i64 t)).setCell ⟨B, 1, none⟩ (.int .i64 (gu + Q))).setCell ⟨B, 4, none⟩ (.int .i64 R)).drew B 25 ⟨t, gu + Q, nu, de, R, false, ts⟩ (.slice ao 0 cap)) := blk_set HW2.out 4 _
    have HG3 : Hid (w.grownBy (((u2.setCell ⟨B, 0, none⟩ (.int .i64 t)).setCell ⟨B, 1, none⟩ (.int .i64 (gu + Q))).setCell ⟨B, 4, none⟩ (.int .i64 R)).drew (some B)) := gdrK (gsetK (gsetK (gsetK HG2.out 0 _) 1 _) 4 _)
    have k1 := HW1.out.cel.2.2.2.1
    have k2 := HW2.out.cel.2.2.2.1
    have k3 := HW3.out.cel.2.2.2.1
    simp only at k1 k2 k3
    go_wp2_with fail
    clear HW1 HW2
    go_region_held3 (fun w' => w'.cell? ⟨B, 3, none⟩ = some (.int .i64 de)) (go_keep) (fail)
    all_goals skip
    generalize (((u2.setCell ⟨B, 0, none⟩ (.int .i64 t)).setCell ⟨B, 1, none⟩ (.int .i64 (gu + Q))).setCell ⟨B, 4, none⟩ (.int .i64 R)).drew = u3 at *
    clear c0 c1 c2 c3 c4 c5 c6 cf k1 k2 k3
    have HTK : Hid _ := tickAll0 HW3.out
    go_wp2_with fail
    refine Calls.mono HTK.out ?_
    rintro e u4 ⟨rfl, hx, hg⟩
    have HX4 : Hid (BoxK u4 B 25 ⟨t, gu + Q, nu, de, R, false, ts⟩ (.slice ao 0 cap)) := hx
    have HG4 : Hid (w.grownBy u4 (some B)) := Lib.grownBy_trans HG3.out hg
    clear hx hg
    go_wp2_with fail
    go_ret2
    exact ⟨rfl, HX4.out, HG4.out⟩
  · simp only [if_true] at gm ⊢
    obtain ⟨q1, q2, q3, q4, q5, q6⟩ := quo_b p0 d0
    generalize pa / de = Q at *
    generalize pa % de = R at *
    have l3 : decide (1099511627776 < gu + Q) = false := decide_eq_false (by omega)
    go_enter Tryd.func31, Tryd.ntmps31
    go_wp2_with fail
    go_quiet (fail)
    have HU2 : Hid (BoxK (w.drewN nq) B 25 ⟨ho, gu, nu, de, pa, true, ts⟩ (.slice ao 0 cap)) := HX.out
    have HG2 : Hid (w.grownBy (w.drewN nq) (some B)) := gdnK (World.grownBy.refl _ _) nq
    generalize w.drewN nq = u2 at *
    clear c0 c1 c2 c3 c4 c5 c6 cf hlt
    obtain ⟨c0, c1, c2, c3, c4, c5, c6, cf⟩ := HU2.out.cel
    have hlt := HU2.out.lt
    simp only at c0 c1 c2 c3 c4 c5
    have HW1 : Hid (BoxK (u2.setCell ⟨B, 0, none⟩ (.int .i64 t)).drew B 25 ⟨t, gu, nu, de, pa, true, ts⟩ (.slice ao 0 cap)) := blk_set HU2.out 0 _
    have HW2 : Hid (BoxK ((u2.setCell ⟨B, 0, none⟩ (.int .i64 t)).setCell ⟨B, 1, none⟩ (.int .i64 (gu + Q))).drew B 25 ⟨t, gu + Q, nu, de, pa, true, ts⟩ (.slice ao 0 cap)) := blk_set HW1.out 1 _
    have HW3 : Hid (BoxK (((u2.setCell ⟨B, 0, none⟩ (.int .i64 t)).setCell ⟨B, 1, none⟩ (.int .i64 (gu + Q))).setCell ⟨B, 4, none⟩ (.int .i64 R)).drew B 25 ⟨t, gu + Q, nu, de, R, true, ts⟩ (.slice ao 0 cap)) := blk_set HW2.out 4 _
    have HG3 : Hid (w.grownBy (((u2.setCell ⟨B, 0, none⟩ (.int .i64 t)).setCell ⟨B, 1, none⟩ (.int .i64 (gu + Q))).setCell ⟨B, 4, none⟩ (.int .i64 R)).drew (some B)) := gdrK (gsetK (gsetK (gsetK HG2.out 0 _) 1 _) 4 _)
    have k1 := HW1.out.cel.2.2.2.1
    have k2 := HW2.out.cel.2.2.2.1
    have k3 := HW3.out.cel.2.2.2.1
    simp only at k1 k2 k3
    go_wp2_with fail
    clear HW1 HW2
    go_region_held3 (fun w' => w'.cell? ⟨B, 3, none⟩ = some (.int .i64 de)) (go_keep) (fail)
    all_goals skip
    generalize (((u2.setCell ⟨B, 0, none⟩ (.int .i64 t)).setCell ⟨B, 1, none⟩ (.int .i64 (gu + Q))).setCell ⟨B, 4, none⟩ (.int .i64 R)).drew = u3 at *
    clear c0 c1 c2 c3 c4 c5 c6 cf k1 k2 k3
    have HTK : Hid _ := tickAll0 HW3.out
    go_wp2_with fail
    refine Calls.mono HTK.out ?_
    rintro e u4 ⟨rfl, hx, hg⟩
    have HX4 : Hid (BoxK u4 B 25 ⟨t, gu + Q, nu, de, R, true, ts⟩ (.slice ao 0 cap)) := hx
    have HG4 : Hid (w.grownBy u4 (some B)) := Lib.grownBy_trans HG3.out hg
    clear hx hg
    go_wp2_with fail
    go_ret2
    exact ⟨rfl, HX4.out, HG4.out⟩
end Go.Proofs.YtegcbghhcidcaaaDoor
