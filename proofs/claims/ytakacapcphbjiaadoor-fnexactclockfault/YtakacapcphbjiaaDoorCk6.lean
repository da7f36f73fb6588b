import Derived.Test.YtakacapcphbjiaaDoorCk3
import Derived.Test.YtakacapcphbjiaaDoorCk4
import Derived.Test.YtakacapcphbjiaaDoorCk5
import Derived.OrdersHeld
import Derived.Deep.DeepCutAuto
namespace Go.Proofs.YtakacapcphbjiaaDoor
open Go.ChangeShapes Go.WideShapes Go.ChangeAt Go.RowKit

theorem held_step {P : Program} {md : Region.Mode} {ops : Array Oper} {Q : Exit → Act → World → Prop} {S : World → Prop} {fuel : Nat} {listed : Array Bool} {a : Act} {w : World} {i : Nat} {o : Oper} (ho : ops[i]? = some o)
    (hw : Region.wanted o (yielded ops a.tmps) = true) (h : ∀ K : Act → World → Prop, (∀ a' w', S w' → wpAnyH P md ops Q S fuel (listed.setIfInBounds i true) a' w' → K a' w') → o.wp P a w K Q) :
    wpOp P ops Q i (fun a' w' => S w' ∧ wpAnyH P md ops Q S fuel (listed.setIfInBounds i true) a' w') a w := by
  unfold wpOp
  rw [ho]
  simp only [hw, if_true]
  exact Or.inl (h _ fun a' w' h1 h2 => ⟨h1, h2⟩)
theorem all_two {p : Nat → Prop} {i j : Nat} (h1 : p i) (h2 : p j) : ∀ k ∈ [i, j], p k := by
  intro k hk
  rcases List.mem_cons.1 hk with rfl | hk
  · exact h1
  · rw [List.mem_singleton.1 hk]; exact h2
theorem all_one {p : Nat → Prop} {i : Nat} (h1 : p i) : ∀ k ∈ [i], p k := by
  intro k hk
  rw [List.mem_singleton.1 hk]; exact h1
theorem held_one {P : Program} {md : Region.Mode} {ops : Array Oper} {Q : Exit → Act → World → Prop} {S : World → Prop} {fuel : Nat} {listed : Array Bool} {a : Act} {w : World} (i : Nat) {o : Oper} (hr : Region.ready md ops listed = [i]) (ho : ops[i]? = some o)
    (hw : Region.wanted o (yielded ops a.tmps) = true) (h : ∀ K : Act → World → Prop, (∀ a' w', S w' → wpAnyH P md ops Q S fuel (listed.setIfInBounds i true) a' w' → K a' w') → o.wp P a w K Q) : wpAnyH P md ops Q S (fuel + 1) listed a w :=
  wpAnyH_all hr (by simp) (all_one (held_step ho hw h))
/-- A law's clock in its box, beside the program's errors. -/
structure LC (w u : World) (a : Nat → Addr) (c : CK) (v : Value) : Prop where
  bel : Below w.heap.size w u
  box : BoxK u w.heap.size 24 c v
  row : TMrow u v c.ts
  er : E5 u a
theorem LC.lt {w u : World} {a : Nat → Addr} {c : CK} {v : Value} (h : LC w u a c v) : w.heap.size < u.heap.size := h.box.lt
theorem LC.step {w u u' : World} {a : Nat → Addr} {c : CK} {v : Value} (h : LC w u a c v) (hb : Below u.heap.size u u') : LC w u' a c v := ⟨h.bel.trans (hb.mono h.bel.size), h.box.below hb, h.row.below hb, h.er.step hb⟩
theorem LC.new {w : World} {a : Nat → Addr} {c : CK} {v : Value} (h : TMrow w v c.ts) (he : E5 w a) : LC w (w.alloc (.cells #[.int .i64 c.host, .int .i64 c.guest, .int .i64 c.num, .int .i64 c.den, .int .i64 c.part, .bool c.frz, v] 24)) a c v := ⟨bx1 _ _, heap_new _ _, h.below (bx1 _ _), he.step (bx1 _ _)⟩
/-- A clock of the program's in its box. -/
structure XC (u : World) (b : Nat) (c : CK) (v : Value) : Prop where
  box : BoxK u b 29 c v
  row : TMrow u v c.ts
theorem XC.below {u u' : World} {b : Nat} {c : CK} {v : Value} (h : XC u b c v) (hb : Below u.heap.size u u') : XC u' b c v := ⟨h.box.below hb, h.row.below hb⟩
theorem XC.new {u : World} {c : CK} {v : Value} (h : TMrow u v c.ts) : XC (u.alloc (.cells #[.int .i64 c.host, .int .i64 c.guest, .int .i64 c.num, .int .i64 c.den, .int .i64 c.part, .bool c.frz, v] 29)) u.heap.size c v := ⟨heap_new _ _, h.below (bx1 _ _)⟩
theorem drwB (u : World) : Below u.heap.size u u.drew := (Below.refl _ _).drew
set_option maxRecDepth 100000 in
set_option maxHeartbeats 4000000 in
theorem walkCF {w : World} {a : Nat → Addr} {c : CK} {v : Value} (he : E5 w a) (h : TMrow w v c.ts) (hm : c.ts.length ≤ maxLen) : Calls Tryd.prog 3 #[ckA c v] w fun e w' => e = .returned (.bool true) ∧ Below w.heap.size w w' := by
  obtain ⟨ao, cap, rfl⟩ := h.sl
  have HL1 : Hid (LC w (w.alloc (.cells #[.int .i64 c.host, .int .i64 c.guest, .int .i64 c.num, .int .i64 c.den, .int .i64 c.part, .bool c.frz, .slice ao c.ts.length cap] 24)) a c (.slice ao c.ts.length cap)) := LC.new h he
  have HS : Hid _ := szClock_any HL1.out.row hm
  clear h hm he
  cases hsz : szK c
  · rw [hsz] at HS
    unfold ckA at HS ⊢
    go_enter Tryd.func3, Tryd.ntmps3
    go_wp2_with (go_at_call 6; refine Calls.mono HS.out ?_; rintro e u1 ⟨q, rfl, hr, hu1⟩; have HB1 : Hid (Below w.heap.size w u1) := HL1.out.bel.trans (hu1.mono HL1.out.bel.size); have hr2 : q < 0 := (by simpa using hr); clear hu1 HS hr)
    go_ret
    exact ⟨rfl, HB1.out⟩
  · rw [hsz] at HS
    have hl : c.ts.length ≤ 1048576 := by unfold szK at hsz; have := of_decide_eq_true hsz; omega
    have HL : Hid (c.ts.length ≤ 1048576) := hl
    clear hsz hl
    unfold ckA at HS ⊢
    go_enter Tryd.func3, Tryd.ntmps3
    go_wp2_with fail
    refine Calls.mono HS.out ?_
    generalize (w.alloc (.cells #[.int .i64 c.host, .int .i64 c.guest, .int .i64 c.num, .int .i64 c.den, .int .i64 c.part, .bool c.frz, .slice ao c.ts.length cap] 24)) = u0 at *
    rintro e u1 ⟨q, rfl, hr, hu1⟩
    have HL2 : Hid (LC w u1 a c (.slice ao c.ts.length cap)) := HL1.out.step hu1
    have hr2 : ¬ q < 0 := by simpa using hr
    obtain ⟨c0, c1, c2, c3, c4, c5, c6, cf⟩ := HL2.out.box.cel
    have lt2 := HL2.out.lt
    clear hu1 HS hr HL1
    have HTO2 : Hid _ := toClock_any HL2.out.row HL.out
    unfold ckA at HTO2
    go_wp2_with fail
    refine Calls.mono HTO2.out ?_
    rintro e u2 ⟨x1, rfl, ho, hb⟩
    obtain ⟨a3, k3, rfl⟩ := ti_sl ho
    have HL3 : Hid (LC w u2 a c (.slice ao c.ts.length cap)) := HL2.out.step hb
    have HR3 : Hid (TMrow u2 (.slice a3 c.ts.length k3) c.ts) := TMrow.of ho
    clear ho hb HL2 HTO2 c0 c1 c2 c3 c4 c5 c6 cf lt2 hr2
    have HSF : Hid _ := specClockFault_any HR3.out HL.out
    unfold ckA at HSF
    go_wp2_with fail
    refine Calls.mono HSF.out ?_
    rintro e u3 ⟨rfl, hb⟩
    have HL4 : Hid (LC w u3 a c (.slice ao c.ts.length cap)) := HL3.out.step hb
    clear hb HL3 HR3 HSF
    have HTO4 : Hid _ := toClock_any HL4.out.row HL.out
    unfold ckA at HTO4
    obtain ⟨c0, c1, c2, c3, c4, c5, c6, cf⟩ := HL4.out.box.cel
    have lt4 := HL4.out.lt
    go_wp2_with fail
    refine Calls.mono HTO4.out ?_
    rintro e u4 ⟨x2, rfl, ho, hb⟩
    obtain ⟨a4, k4, rfl⟩ := ti_sl ho
    have HL5 : Hid (LC w (u4.alloc (.cells #[.int .i64 c.host, .int .i64 c.guest, .int .i64 c.num, .int .i64 c.den, .int .i64 c.part, .bool c.frz, .slice a4 c.ts.length k4] 29)) a c (.slice ao c.ts.length cap)) := (HL4.out.step hb).step (bx1 _ _)
    have HX5 : Hid (XC (u4.alloc (.cells #[.int .i64 c.host, .int .i64 c.guest, .int .i64 c.num, .int .i64 c.den, .int .i64 c.part, .bool c.frz, .slice a4 c.ts.length k4] 29)) u4.heap.size c (.slice a4 c.ts.length k4)) := XC.new (TMrow.of ho)
    clear ho hb HL4 HTO4 c0 c1 c2 c3 c4 c5 c6 cf lt4
    have HIF : Hid _ := implClockFault_any HL5.out.er HX5.out.row HL.out
    unfold ckA at HIF
    go_wp2_with fail
    generalize (u4.alloc (.cells #[.int .i64 c.host, .int .i64 c.guest, .int .i64 c.num, .int .i64 c.den, .int .i64 c.part, .bool c.frz, .slice a4 c.ts.length k4] 29)) = V4 at *
    refine Calls.mono HIF.out ?_
    rintro e u5 ⟨rfl, hb⟩
    have HL6 : Hid (LC w u5 a c (.slice ao c.ts.length cap)) := HL5.out.step hb
    have HX6 : Hid (XC u5 u4.heap.size c (.slice a4 c.ts.length k4)) := HX5.out.below hb
    clear hb HL5 HX5 HIF
    generalize fcB c = FC at *
    go_wp2_with fail
    obtain ⟨p0, p1, p2, p3, p4, p5, p6, _⟩ := HL6.out.box.cel
    obtain ⟨q0, q1, q2, q3, q4, q5, q6, _⟩ := HX6.out.box.cel
    have HSB : Hid (u5.drew.cell? ⟨w.heap.size, 0, none⟩ = some (.int .i64 c.host) ∧ u5.drew.cell? ⟨w.heap.size, 1, none⟩ = some (.int .i64 c.guest) ∧ u5.drew.cell? ⟨w.heap.size, 2, none⟩ = some (.int .i64 c.num) ∧ u5.drew.cell? ⟨w.heap.size, 3, none⟩ = some (.int .i64 c.den) ∧ u5.drew.cell? ⟨w.heap.size, 4, none⟩ = some (.int .i64 c.part) ∧ u5.drew.cell? ⟨w.heap.size, 5, none⟩ = some (.bool c.frz) ∧ u5.drew.cell? ⟨w.heap.size, 6, none⟩ = some (.slice ao c.ts.length cap) ∧ u5.drew.cell? ⟨u4.heap.size, 0, none⟩ = some (.int .i64 c.host) ∧ u5.drew.cell? ⟨u4.heap.size, 1, none⟩ = some (.int .i64 c.guest) ∧ u5.drew.cell? ⟨u4.heap.size, 2, none⟩ = some (.int .i64 c.num) ∧ u5.drew.cell? ⟨u4.heap.size, 3, none⟩ = some (.int .i64 c.den) ∧ u5.drew.cell? ⟨u4.heap.size, 4, none⟩ = some (.int .i64 c.part) ∧ u5.drew.cell? ⟨u4.heap.size, 5, none⟩ = some (.bool c.frz) ∧ u5.drew.cell? ⟨u4.heap.size, 6, none⟩ = some (.slice a4 c.ts.length k4)) := ⟨p0, p1, p2, p3, p4, p5, p6, q0, q1, q2, q3, q4, q5, q6⟩
    refine wp_region_held (S := fun w' => w'.cell? ⟨w.heap.size, 0, none⟩ = some (.int .i64 c.host) ∧ w'.cell? ⟨w.heap.size, 1, none⟩ = some (.int .i64 c.guest) ∧ w'.cell? ⟨w.heap.size, 2, none⟩ = some (.int .i64 c.num) ∧ w'.cell? ⟨w.heap.size, 3, none⟩ = some (.int .i64 c.den) ∧ w'.cell? ⟨w.heap.size, 4, none⟩ = some (.int .i64 c.part) ∧ w'.cell? ⟨w.heap.size, 5, none⟩ = some (.bool c.frz) ∧ w'.cell? ⟨w.heap.size, 6, none⟩ = some (.slice ao c.ts.length cap) ∧ w'.cell? ⟨u4.heap.size, 0, none⟩ = some (.int .i64 c.host) ∧ w'.cell? ⟨u4.heap.size, 1, none⟩ = some (.int .i64 c.guest) ∧ w'.cell? ⟨u4.heap.size, 2, none⟩ = some (.int .i64 c.num) ∧ w'.cell? ⟨u4.heap.size, 3, none⟩ = some (.int .i64 c.den) ∧ w'.cell? ⟨u4.heap.size, 4, none⟩ = some (.int .i64 c.part) ∧ w'.cell? ⟨u4.heap.size, 5, none⟩ = some (.bool c.frz) ∧ w'.cell? ⟨u4.heap.size, 6, none⟩ = some (.slice a4 c.ts.length k4)) (by kernel_rfl) ?_
    change wpAnyH _ _ _ _ _ _ _ _ (World.drew _)
    refine wpAnyH_take (i := 0) (v := .agg #[.int .i64 c.host, .int .i64 c.guest, .int .i64 c.num, .int .i64 c.den, .int .i64 c.part, .bool c.frz, .slice a4 c.ts.length k4]) rfl (by kernel_rfl) (by kernel_rfl) (by kernel_rfl) (fun _ _ _ h => h) (Or.inl ⟨by kernel_rfl, fun w9 h9 => ?_⟩) HSB.out ?_
    · obtain ⟨_, _, _, _, _, _, _, h90, h91, h92, h93, h94, h95, h96⟩ := h9
      clear p0 p1 p2 p3 p4 p5 p6 q0 q1 q2 q3 q4 q5 q6
      go_simp
    refine wpAnyH_take (i := 1) (v := .agg #[.int .i64 c.host, .int .i64 c.guest, .int .i64 c.num, .int .i64 c.den, .int .i64 c.part, .bool c.frz, .slice ao c.ts.length cap]) rfl (by kernel_rfl) (by kernel_rfl) (by kernel_rfl) (fun _ _ _ h => h) (Or.inl ⟨by kernel_rfl, fun w9 h9 => ?_⟩) HSB.out ?_
    · obtain ⟨h90, h91, h92, h93, h94, h95, h96, _, _, _, _, _, _, _⟩ := h9
      clear p0 p1 p2 p3 p4 p5 p6 q0 q1 q2 q3 q4 q5 q6
      go_simp
    clear p0 p1 p2 p3 p4 p5 p6 q0 q1 q2 q3 q4 q5 q6
    have HTO6 : Hid _ := toClock_any (w := u5.drew) (HL6.out.row.below (drwB _)) HL.out
    unfold ckA at HTO6
    refine held_one 2 (by kernel_rfl) rfl (by kernel_rfl) fun K hK => ?_
    go_simp
    refine Calls.mono HTO6.out ?_
    rintro e u6 ⟨x3, rfl, ho, hb⟩
    obtain ⟨a6, k6, rfl⟩ := ti_sl ho
    have hb6 : Below u5.heap.size u5 u6 := ⟨hb.os, hb.tape, hb.output, hb.size, hb.block⟩
    have HL7 : Hid (LC w u6 a c (.slice ao c.ts.length cap)) := HL6.out.step hb6
    have HX7 : Hid (XC u6 u4.heap.size c (.slice a4 c.ts.length k4)) := HX6.out.below hb6
    have HR7 : Hid (TMrow u6 (.slice a6 c.ts.length k6) c.ts) := TMrow.of ho
    clear ho hb hb6 HL6 HX6 HTO6
    obtain ⟨p0, p1, p2, p3, p4, p5, p6, _⟩ := HL7.out.box.cel
    obtain ⟨q0, q1, q2, q3, q4, q5, q6, _⟩ := HX7.out.box.cel
    go_simp
    refine hK _ _ ⟨p0, p1, p2, p3, p4, p5, p6, q0, q1, q2, q3, q4, q5, q6⟩ ?_
    clear hK K p0 p1 p2 p3 p4 p5 p6 q0 q1 q2 q3 q4 q5 q6
    have HEQ : Hid _ := eqClock_ok HX7.out.row HR7.out HL.out
    unfold ckA at HEQ
    refine held_one 3 (by kernel_rfl) rfl (by kernel_rfl) fun K hK => ?_
    go_simp
    refine Calls.mono HEQ.out ?_
    rintro e u7 ⟨rfl, hb⟩
    have HL8 : Hid (LC w u7 a c (.slice ao c.ts.length cap)) := HL7.out.step hb
    have HX8 : Hid (XC u7 u4.heap.size c (.slice a4 c.ts.length k4)) := HX7.out.below hb
    clear hb HL7 HX7 HEQ
    obtain ⟨p0, p1, p2, p3, p4, p5, p6, _⟩ := HL8.out.box.cel
    obtain ⟨q0, q1, q2, q3, q4, q5, q6, _⟩ := HX8.out.box.cel
    go_simp
    refine hK _ _ ⟨p0, p1, p2, p3, p4, p5, p6, q0, q1, q2, q3, q4, q5, q6⟩ ?_
    clear hK K
    refine held_one 4 (by kernel_rfl) rfl (by kernel_rfl) fun K hK => ?_
    go_simp
    refine hK _ _ ⟨p0, p1, p2, p3, p4, p5, p6, q0, q1, q2, q3, q4, q5, q6⟩ ?_
    clear hK K
    refine wpAnyH_done (by kernel_rfl) ?_ _
    go_simp
    all_goals go_wp2
    all_goals go_ret
    exact ⟨rfl, HL8.out.bel⟩
end Go.Proofs.YtakacapcphbjiaaDoor
