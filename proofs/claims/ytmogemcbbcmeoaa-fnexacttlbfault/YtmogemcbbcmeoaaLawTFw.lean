import Derived.Test.YtmogemcbbcmeoaaLawTF
namespace Go.Proofs.Ytmogemcbbcmeoaa
open Go.ChangeShapes Go.WideShapes Go.ChangeAt Go.RowKit

/-- What a law over a cache keeps: its box, its row. -/
structure LT (w wr : World) (v : Value) (nx : Int) (zs : List TE) : Prop where
  bel : Below w.heap.size w wr
  box : wr.heap[w.heap.size]? = some (.cells #[v, .int .i64 nx] 53 (0, 0))
  row : TErow wr v zs
theorem LT.new {w : World} {v : Value} {nx : Int} {zs : List TE} (h : TErow w v zs) : LT w (w.alloc (.cells #[v, .int .i64 nx] 53)) v nx zs :=
  ⟨(Below.refl _ _).alloc (Nat.le_refl _) _, heap_new _ _, h.below ((Below.refl _ _).alloc (Nat.le_refl _) _)⟩
theorem LT.lt {w wr : World} {v : Value} {nx : Int} {zs : List TE} (h : LT w wr v nx zs) : w.heap.size < wr.heap.size := (Array.getElem?_eq_some_iff.1 h.box).1
theorem LT.step {w wr u : World} {v : Value} {nx : Int} {zs : List TE} (h : LT w wr v nx zs) (hb : Below wr.heap.size wr u) : LT w u v nx zs :=
  ⟨h.bel.trans (hb.mono h.bel.size), (hb.block _ h.lt).trans h.box, h.row.below hb⟩
set_option maxRecDepth 100000 in
set_option maxHeartbeats 4000000 in
theorem walkTF {w : World} {v : Value} {zs : List TE} (h : TErow w v zs) (nx : Int) (hm : zs.length ≤ maxLen) : Calls Try.prog 7 #[tlA v nx] w fun e w' => e = .returned (.bool true) ∧ Below w.heap.size w w' := by
  obtain ⟨ao, cap, rfl⟩ := h.sl
  have HL1 : Hid (LT w (w.alloc (.cells #[.slice ao zs.length cap, .int .i64 nx] 53)) (.slice ao zs.length cap) nx zs) := LT.new h
  have HSZ := szTlb_any HL1.out.row nx 1048576 (by decide) (by decide) hm
  by_cases hl : zs.length ≤ 1048576
  · rw [if_neg (by omega)] at HSZ
    obtain ⟨r, hr⟩ : ∃ r, (1048576 : Int) - (zs.length : Int) = r := ⟨_, rfl⟩
    have hr0 : ¬ r < 0 := by omega
    rw [hr] at HSZ
    have HS : Hid _ := HSZ
    have HL : Hid (zs.length ≤ 1048576) := hl
    clear HSZ h hm hl hr
    unfold tlA at HS ⊢
    go_enter Try.func7, Try.ntmps7
    go_wp2_with (first
      | (go_at_call 31; refine Calls.mono HS.out ?_; rintro e u1 ⟨rfl, hu1⟩; have HL2 : Hid (LT w u1 (.slice ao zs.length cap) nx zs) := HL1.out.step hu1; obtain ⟨c0, c1⟩ := cel2 HL2.out.box; have hw1 := HL2.out.lt; clear hu1 HS)
      | (go_at_call 33; have hA := toTlb_any HL2.out.row nx HL.out; refine Calls.mono hA ?_; clear hA; rintro e u2 ⟨a1, c1, rfl, ho, hb⟩; have HL3 : Hid (LT w u2 (.slice ao zs.length cap) nx zs) := HL2.out.step hb; have HR : Hid (TErow u2 (.slice a1 zs.length c1) zs) := TErow.of ho; obtain ⟨c2, c3⟩ := cel2 HL3.out.box; clear ho hb HL2; unfold tlA)
      | (go_at_call 32; have hA := specFaultT_any HR.out nx HL.out; refine Calls.mono hA ?_; clear hA; rintro e u3 ⟨rfl, hb⟩; have HL4 : Hid (LT w u3 (.slice ao zs.length cap) nx zs) := HL3.out.step hb; obtain ⟨c4, c5⟩ := cel2 HL4.out.box; clear hb HL3 HR)
      | (go_at_call 33; have hA := toTlb_any HL4.out.row nx HL.out; refine Calls.mono hA ?_; clear hA; rintro e u4 ⟨a2, c6, rfl, ho, hb⟩; have HL5 : Hid (LT w (u4.alloc (.cells #[.slice a2 zs.length c6, .int .i64 nx] 58)) (.slice ao zs.length cap) nx zs) := (HL4.out.step hb).step ((Below.refl _ _).alloc (Nat.le_refl _) _); have HR5 : Hid (TErow (u4.alloc (.cells #[.slice a2 zs.length c6, .int .i64 nx] 58)) (.slice a2 zs.length c6) zs) := (TErow.of ho).below ((Below.refl _ _).alloc (Nat.le_refl _) _); have HX5 : Hid (BoxT (u4.alloc (.cells #[.slice a2 zs.length c6, .int .i64 nx] 58)) u4.heap.size (.slice a2 zs.length c6) nx) := heap_new _ _; clear ho hb HL4; unfold tlA)
      | (go_at_call 34; have hA := implFaultT_any HR5.out nx HL.out; refine Calls.mono hA ?_; clear hA; rintro e u5 ⟨rfl, hb⟩; have HL6 : Hid (LT w u5 (.slice ao zs.length cap) nx zs) := HL5.out.step hb; have HR6 : Hid (TErow u5 (.slice a2 zs.length c6) zs) := HR5.out.below hb; have HX6 : Hid (BoxT u5 u4.heap.size (.slice a2 zs.length c6) nx) := HX5.out.below hb HX5.out.lt; clear hb HL5 HR5 HX5))
    obtain ⟨p0, p1⟩ := cel2 HL6.out.box
    obtain ⟨q0, q1⟩ := HX6.out.cel
    have hq := HX6.out.lt
    have hp := HL6.out.lt
    go_region_held3 (fun w' => w'.cell? ⟨w.heap.size, 0, none⟩ = some (.slice ao zs.length cap) ∧ w'.cell? ⟨w.heap.size, 1, none⟩ = some (.int .i64 nx) ∧ w'.cell? ⟨u4.heap.size, 0, none⟩ = some (.slice a2 zs.length c6) ∧ w'.cell? ⟨u4.heap.size, 1, none⟩ = some (.int .i64 nx)) (go_keep) ((first
      | (go_at_call 33; have hA := toTlb_any (w := u5.drew) (HL6.out.row.below (Below.refl _ _).drew) nx HL.out; refine Calls.mono hA ?_; clear hA; rintro e u6 ⟨a3, c7, rfl, ho, hb⟩; have hb6 : Below u5.heap.size u5 u6 := ⟨hb.os, hb.tape, hb.output, hb.size, hb.block⟩; have HL7 : Hid (LT w u6 (.slice ao zs.length cap) nx zs) := HL6.out.step hb6; have HR7 : Hid (TErow u6 (.slice a2 zs.length c6) zs) := HR6.out.below hb6; have HO7 : Hid (TErow u6 (.slice a3 zs.length c7) zs) := TErow.of ho; have HX7 : Hid (BoxT u6 u4.heap.size (.slice a2 zs.length c6) nx) := HX6.out.below hb6 hq; obtain ⟨p2, p3⟩ := cel2 HL7.out.box; obtain ⟨q2, q3⟩ := HX7.out.cel; clear ho hb hb6 HL6 HR6; unfold tlA)
      | (go_at_call 35; have hA := eqTlb_ok nx HR7.out HO7.out HL.out; refine Calls.mono hA ?_; clear hA; rintro e u7 ⟨rfl, hb⟩; have HL8 : Hid (LT w u7 (.slice ao zs.length cap) nx zs) := HL7.out.step hb; have HX8 : Hid (BoxT u7 u4.heap.size (.slice a2 zs.length c6) nx) := HX7.out.below hb HX7.out.lt; obtain ⟨p4, p5⟩ := cel2 HL8.out.box; obtain ⟨q4, q5⟩ := HX8.out.cel; clear hb HL7 HR7)))
    all_goals go_wp2
    all_goals go_ret
    exact ⟨rfl, HL8.out.bel⟩
  · rw [if_pos (by omega)] at HSZ
    have HS : Hid _ := HSZ
    clear HSZ h hm
    unfold tlA at HS ⊢
    go_enter Try.func7, Try.ntmps7
    go_wp2_with (go_at_call 31; refine Calls.mono HS.out ?_; rintro e u1 ⟨rfl, hu1⟩; have HL2 : Hid (LT w u1 (.slice ao zs.length cap) nx zs) := HL1.out.step hu1; clear hu1 HS)
    go_ret
    exact ⟨rfl, HL2.out.bel⟩
end Go.Proofs.Ytmogemcbbcmeoaa
