import Derived.Test.YtmogemcbbcmeoabSFn2
import Derived.Test.YtmogemcbbcmeoabLawT0
namespace Go.Proofs.Ytmogemcbbcmeoab
open Go.ChangeShapes Go.WideShapes Go.ChangeAt Go.RowKit

/-- What TlbFind answers. -/
def tfA (zs : List TE) (nx asid va acc : Int) (user : Bool) : Value := if tlbC zs nx = 0 ∧ 0 ≤ asid ∧ asid ≤ 255 ∧ 0 ≤ va ∧ va < 262144 ∧ 1 ≤ acc ∧ acc ≤ 3 then tfV zs asid va acc user else hitA false 0 0
theorem tfA_form (zs : List TE) (nx asid va acc : Int) (user : Bool) : ∃ g pa k, tfA zs nx asid va acc user = hitA g pa k := by
  unfold tfA
  split
  · unfold tfV
    split
    · unfold tfR
      split
      · exact ⟨_, _, _, rfl⟩
      · exact ⟨_, _, _, rfl⟩
    · exact ⟨_, _, _, rfl⟩
  · exact ⟨_, _, _, rfl⟩
theorem specFind_any {w : World} {ao : Option Addr} {cap : Nat} {zs : List TE} (h : TErow w (.slice ao zs.length cap) zs) (nx asid va acc : Int) (user : Bool) (hl : zs.length ≤ 1048576) :
    Calls Try.prog 10 #[tlA (.slice ao zs.length cap) nx, .int .i64 asid, .int .i64 va, .int .i64 acc, .bool user] w fun e w' => e = .returned (tfA zs nx asid va acc user) ∧ Below w.heap.size w w' := by
  unfold tfA
  split
  · rename_i hq
    obtain ⟨q0, q1, q2, q3, q4, q5, q6⟩ := hq
    exact specFind_go h nx asid va acc user hl q0 q1 q2 q3 q4 q5 q6
  · rename_i hq
    exact specFind_bad h nx asid va acc user hl (fun h => hq ⟨h.1, h.2.1, h.2.2.1, h.2.2.2.1, by have := of_decide_eq_false h.2.2.2.2.1; omega, of_decide_eq_true h.2.2.2.2.2⟩)
theorem implFind_any {w : World} {ao : Option Addr} {cap : Nat} {zs : List TE} (h : TErow w (.slice ao zs.length cap) zs) (nx asid va acc : Int) (user : Bool) (hl : zs.length ≤ 1048576) :
    Calls Try.prog 12 #[tlA (.slice ao zs.length cap) nx, .int .i64 asid, .int .i64 va, .int .i64 acc, .bool user] w fun e w' => e = .returned (tfA zs nx asid va acc user) ∧ Below w.heap.size w w' := by
  unfold tfA
  split
  · rename_i hq
    obtain ⟨q0, q1, q2, q3, q4, q5, q6⟩ := hq
    cases hx : zs.findIdx? (fP asid va) with
    | none =>
      have e : tfV zs asid va acc user = hitA false 0 0 := by simp [tfV, hx]
      rw [e]
      exact implFind_none h nx asid va acc user hl q0 q1 q2 q3 q4 q5 q6 (by simp [idxI, hx])
    | some k =>
      have hk := (List.findIdx?_eq_some_iff_getElem.1 hx).1
      have e : tfV zs asid va acc user = tfR zs[k] va acc user k := by simp [tfV, hx, List.getD, List.getElem?_eq_getElem hk]
      rw [e]
      exact implFind_at h nx asid va acc user hl q0 q1 q2 q3 q4 q5 q6 k hk (by simp [idxI, hx])
  · rename_i hq
    exact implFind_bad h nx asid va acc user hl (fun h => hq ⟨h.1, h.2.1, h.2.2.1, of_decide_eq_true (Bool.and_eq_true _ _ ▸ h.2.2.2.1).1, of_decide_eq_true (Bool.and_eq_true _ _ ▸ h.2.2.2.1).2, of_decide_eq_true h.2.2.2.2⟩)
set_option maxRecDepth 100000 in
set_option maxHeartbeats 4000000 in
theorem eqHit_ok (g : Bool) (pa k : Int) (w : World) : Calls Try.prog 13 #[hitA g pa k, hitA g pa k] w fun e w' => e = .returned (.bool true) ∧ Below w.heap.size w w' := by
  unfold hitA
  go_enter Try.func13, Try.ntmps13
  go_wp2
  go_ret
  exact ⟨rfl, ((Below.refl _ _).alloc (Nat.le_refl _) _).alloc (by simp) _⟩
set_option maxRecDepth 100000 in
set_option maxHeartbeats 4000000 in
theorem walkTFn {w : World} {v : Value} {zs : List TE} (h : TErow w v zs) (nx asid va acc : Int) (user : Bool) (hm : zs.length ≤ maxLen) : Calls Try.prog 3 #[tlA v nx, .int .i64 asid, .int .i64 va, .int .i64 acc, .bool user] w fun e w' => e = .returned (.bool true) ∧ Below w.heap.size w w' := by
  obtain ⟨ao, cap, rfl⟩ := h.sl
  have HL1 : Hid (LT w (w.alloc (.cells #[.slice ao zs.length cap, .int .i64 nx] 24)) (.slice ao zs.length cap) nx zs) := LT.new h
  have HSZ := szTlb_any HL1.out.row nx 1048576 (by decide) (by decide) hm
  by_cases hl : zs.length ≤ 1048576
  · rw [if_neg (by omega)] at HSZ
    obtain ⟨r, hr⟩ : ∃ r, (1048576 : Int) - (zs.length : Int) = r := ⟨_, rfl⟩
    have hr0 : ¬ r < 0 := by omega
    rw [hr] at HSZ
    have HS : Hid _ := HSZ
    have HL : Hid (zs.length ≤ 1048576) := hl
    obtain ⟨gg, pp, kk, hta⟩ := tfA_form zs nx asid va acc user
    have HTA : Hid (tfA zs nx asid va acc user = hitA gg pp kk) := hta
    clear hta
    clear HSZ h hm hl hr
    unfold tlA at HS ⊢
    go_enter Try.func3, Try.ntmps3
    go_wp2_with (first
      | (go_at_call 9; refine Calls.mono HS.out ?_; rintro e u1 ⟨rfl, hu1⟩; have HL2 : Hid (LT w u1 (.slice ao zs.length cap) nx zs) := HL1.out.step hu1; obtain ⟨c0, c1⟩ := cel2 HL2.out.box; have hw1 := HL2.out.lt; clear hu1 HS)
      | (go_at_call 11; have hA := toTlb_any HL2.out.row nx HL.out; refine Calls.mono hA ?_; clear hA; rintro e u2 ⟨a1, c1, rfl, ho, hb⟩; have HL3 : Hid (LT w u2 (.slice ao zs.length cap) nx zs) := HL2.out.step hb; have HR : Hid (TErow u2 (.slice a1 zs.length c1) zs) := TErow.of ho; obtain ⟨c2, c3⟩ := cel2 HL3.out.box; clear ho hb HL2; unfold tlA)
      | (go_at_call 10; have hA := specFind_any HR.out nx asid va acc user HL.out; rw [HTA.out] at hA; refine Calls.mono hA ?_; clear hA; rintro e u3 ⟨rfl, hb⟩; have HL4 : Hid (LT w (u3.alloc (.cells #[.bool gg, .int .i64 pp, .int .i64 kk] 27)) (.slice ao zs.length cap) nx zs) := (HL3.out.step hb).step ((Below.refl _ _).alloc (Nat.le_refl _) _); have HH4 : Hid ((u3.alloc (.cells #[.bool gg, .int .i64 pp, .int .i64 kk] 27)).heap[u3.heap.size]? = some (.cells #[.bool gg, .int .i64 pp, .int .i64 kk] 27)) := heap_new _ _; obtain ⟨c4, c5⟩ := cel2 HL4.out.box; clear hb HL3 HR; unfold hitA)
      | (go_at_call 11; have hA := toTlb_any HL4.out.row nx HL.out; refine Calls.mono hA ?_; clear hA; rintro e u4 ⟨a2, c6, rfl, ho, hb⟩; have HL5 : Hid (LT w (u4.alloc (.cells #[.slice a2 zs.length c6, .int .i64 nx] 31)) (.slice ao zs.length cap) nx zs) := (HL4.out.step hb).step ((Below.refl _ _).alloc (Nat.le_refl _) _); have HR5 : Hid (TErow (u4.alloc (.cells #[.slice a2 zs.length c6, .int .i64 nx] 31)) (.slice a2 zs.length c6) zs) := (TErow.of ho).below ((Below.refl _ _).alloc (Nat.le_refl _) _); have HX5 : Hid (BoxT (u4.alloc (.cells #[.slice a2 zs.length c6, .int .i64 nx] 31)) u4.heap.size (.slice a2 zs.length c6) nx) := heap_new _ _; have HH5 : Hid ((u4.alloc (.cells #[.slice a2 zs.length c6, .int .i64 nx] 31)).heap[u3.heap.size]? = some (.cells #[.bool gg, .int .i64 pp, .int .i64 kk] 27)) := (Below.heap_alloc _ _ _ (by have := hb.size; simp at this; omega)).trans ((hb.block _ (by simp)).trans HH4.out); clear ho hb HL4 HH4; unfold tlA)
      | (go_at_call 12; have hA := implFind_any HR5.out nx asid va acc user HL.out; rw [HTA.out] at hA; refine Calls.mono hA ?_; clear hA; rintro e u5 ⟨rfl, hb⟩; have hb2 : Below (u4.alloc (.cells #[.slice a2 zs.length c6, .int .i64 nx] 31)).heap.size (u4.alloc (.cells #[.slice a2 zs.length c6, .int .i64 nx] 31)) (u5.alloc (.cells #[.bool gg, .int .i64 pp, .int .i64 kk] 27)) := hb.alloc hb.size _; have HL6 : Hid (LT w (u5.alloc (.cells #[.bool gg, .int .i64 pp, .int .i64 kk] 27)) (.slice ao zs.length cap) nx zs) := HL5.out.step hb2; have HR6 : Hid (TErow (u5.alloc (.cells #[.bool gg, .int .i64 pp, .int .i64 kk] 27)) (.slice a2 zs.length c6) zs) := HR5.out.below hb2; have HX6 : Hid (BoxT (u5.alloc (.cells #[.bool gg, .int .i64 pp, .int .i64 kk] 27)) u4.heap.size (.slice a2 zs.length c6) nx) := HX5.out.below hb2 HX5.out.lt; have hh3 : u3.heap.size < u5.heap.size := Nat.lt_of_lt_of_le (Array.getElem?_eq_some_iff.1 HH5.out).1 hb.size; obtain ⟨h30, h31, h32, _⟩ := cel3 ((hb.block _ (Array.getElem?_eq_some_iff.1 HH5.out).1).trans HH5.out); clear hb2; clear hb HL5 HR5 HX5 HH5; unfold hitA)
      | (go_at_call 13; have hA := eqHit_ok gg pp kk (u5.alloc (.cells #[.bool gg, .int .i64 pp, .int .i64 kk] 27)); unfold hitA at hA; refine Calls.mono hA ?_; clear hA; rintro e u9 ⟨rfl, hb⟩; have HL9 : Hid (LT w u9 (.slice ao zs.length cap) nx zs) := HL6.out.step hb; have HR9 : Hid (TErow u9 (.slice a2 zs.length c6) zs) := HR6.out.below hb; have HX9 : Hid (BoxT u9 u4.heap.size (.slice a2 zs.length c6) nx) := HX6.out.below hb HX6.out.lt; clear hb HL6 HR6 HX6))
    obtain ⟨p0, p1⟩ := cel2 HL9.out.box
    obtain ⟨q0, q1⟩ := HX9.out.cel
    have hq := HX9.out.lt
    have hp := HL9.out.lt
    go_region_held3 (fun w' => w'.cell? ⟨w.heap.size, 0, none⟩ = some (.slice ao zs.length cap) ∧ w'.cell? ⟨w.heap.size, 1, none⟩ = some (.int .i64 nx) ∧ w'.cell? ⟨u4.heap.size, 0, none⟩ = some (.slice a2 zs.length c6) ∧ w'.cell? ⟨u4.heap.size, 1, none⟩ = some (.int .i64 nx)) (go_keep) ((first
      | (go_at_call 11; have hA := toTlb_any (w := u9.drew) (HL9.out.row.below (Below.refl _ _).drew) nx HL.out; refine Calls.mono hA ?_; clear hA; rintro e u6 ⟨a3, c7, rfl, ho, hb⟩; have hb6 : Below u9.heap.size u9 u6 := ⟨hb.os, hb.tape, hb.output, hb.size, hb.block⟩; have HL7 : Hid (LT w u6 (.slice ao zs.length cap) nx zs) := HL9.out.step hb6; have HR7 : Hid (TErow u6 (.slice a2 zs.length c6) zs) := HR9.out.below hb6; have HO7 : Hid (TErow u6 (.slice a3 zs.length c7) zs) := TErow.of ho; have HX7 : Hid (BoxT u6 u4.heap.size (.slice a2 zs.length c6) nx) := HX9.out.below hb6 hq; obtain ⟨p2, p3⟩ := cel2 HL7.out.box; obtain ⟨q2, q3⟩ := HX7.out.cel; clear ho hb hb6 HL9 HR9; unfold tlA)
      | (go_at_call 14; have hA := eqTlb_ok nx HR7.out HO7.out HL.out; refine Calls.mono hA ?_; clear hA; rintro e u7 ⟨rfl, hb⟩; have HL8 : Hid (LT w u7 (.slice ao zs.length cap) nx zs) := HL7.out.step hb; have HX8 : Hid (BoxT u7 u4.heap.size (.slice a2 zs.length c6) nx) := HX7.out.below hb HX7.out.lt; obtain ⟨p4, p5⟩ := cel2 HL8.out.box; obtain ⟨q4, q5⟩ := HX8.out.cel; clear hb HL7 HR7)))
    all_goals go_wp2
    all_goals go_ret
    exact ⟨rfl, HL8.out.bel⟩
  · rw [if_pos (by omega)] at HSZ
    have HS : Hid _ := HSZ
    clear HSZ h hm
    unfold tlA at HS ⊢
    go_enter Try.func3, Try.ntmps3
    go_wp2_with (go_at_call 9; refine Calls.mono HS.out ?_; rintro e u1 ⟨rfl, hu1⟩; have HL2 : Hid (LT w u1 (.slice ao zs.length cap) nx zs) := HL1.out.step hu1; clear hu1 HS)
    go_ret
    exact ⟨rfl, HL2.out.bel⟩
end Go.Proofs.Ytmogemcbbcmeoab
