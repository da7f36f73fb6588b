import Derived.Test.YtjaelkagacmpkaaTlbF4
import Derived.Test.YtjaelkagacmpkaaRowTE4
namespace Go.Proofs.Ytjaelkagacmpkaa
open Go.ChangeShapes Go.WideShapes Go.ChangeAt Go.RowKit

set_option maxRecDepth 100000 in
set_option maxHeartbeats 4000000 in
theorem szTlb_any {w : World} {v : Value} {zs : List TE} (h : TErow w v zs) (nx : Int) (l : Int) (h0 : 0 ≤ l) (h1 : l ≤ 1048576) (hm : zs.length ≤ maxLen) : Calls Try.prog 29 #[tlA v nx, .int .i64 l] w fun e w' => e = .returned (.int .i64 (if l < (zs.length : Int) then -1 else l - zs.length)) ∧ Below w.heap.size w w' := by
  obtain ⟨ao, cap, rfl⟩ := h.sl
  have HS : Hid _ := fun w' => szTES_any ao zs.length cap l w' h0 h1 hm
  unfold tlA
  by_cases hq : l < (zs.length : Int)
  · rw [if_pos hq] at HS ⊢
    clear h hm h0 h1 hq
    go_enter Try.func29, Try.ntmps29
    go_wp2_with (go_at_call 75; refine Calls.mono (HS.out _) ?_; rintro e u5 ⟨rfl, hu5⟩; rw [hu5]; clear hu5)
    go_ret
    exact ⟨rfl, (Below.refl _ _).alloc (Nat.le_refl _) _⟩
  · rw [if_neg hq] at HS ⊢
    obtain ⟨r, hr⟩ : ∃ r, l - (zs.length : Int) = r := ⟨_, rfl⟩
    have hr0 : ¬ r < 0 := by omega
    rw [hr] at HS ⊢
    clear h hm h0 h1 hq hr
    go_enter Try.func29, Try.ntmps29
    go_wp2_with (go_at_call 75; refine Calls.mono (HS.out _) ?_; rintro e u5 ⟨rfl, hu5⟩; rw [hu5]; clear hu5)
    go_ret
    exact ⟨rfl, (Below.refl _ _).alloc (Nat.le_refl _) _⟩
theorem cel2 {u : World} {b t : Nat} {a0 a1 : Value} (h : u.heap[b]? = some (.cells #[a0, a1] t (0, 0))) : u.cell? ⟨b, 0, none⟩ = some a0 ∧ u.cell? ⟨b, 1, none⟩ = some a1 := by
  simp [World.cell?, h]
theorem al3 (w : World) (a b c : Obj) : (((w.alloc a).alloc b).alloc c).heap[w.heap.size]? = some a ∧ (((w.alloc a).alloc b).alloc c).heap[w.heap.size + 1]? = some b ∧ (((w.alloc a).alloc b).alloc c).heap[w.heap.size + 2]? = some c ∧ (((w.alloc a).alloc b).alloc c).heap.size = w.heap.size + 3 := by
  refine ⟨?_, ?_, ?_, by simp⟩
  · rw [Below.heap_alloc _ _ _ (by simp; omega), Below.heap_alloc _ _ _ (by simp)]
    exact heap_new _ _
  · rw [Below.heap_alloc _ _ _ (by simp)]
    have := heap_new (w.alloc a) b
    simpa using this
  · have := heap_new ((w.alloc a).alloc b) c
    simpa using this
set_option maxRecDepth 100000 in
set_option maxHeartbeats 4000000 in
theorem toTlb_any {w : World} {v : Value} {zs : List TE} (h : TErow w v zs) (nx : Int) (hl : zs.length ≤ 1048576) : Calls Try.prog 31 #[tlA v nx] w fun e w' => ∃ ao cap, e = .returned (tlA (.slice ao zs.length cap) nx) ∧ w'.ownsRow w.heap.size 60 5 (.slice ao zs.length cap) zs.length (teR zs) ∧ Below w.heap.size w w' := by
  obtain ⟨ao, cap, rfl⟩ := h.sl
  unfold tlA
  have hal : Below w.heap.size w (((w.alloc (.cells #[.slice ao zs.length cap, .int .i64 nx] 51)).alloc (.cells #[.slice none 0 0, .int .i64 0] 57)).alloc (.cells #[.slice none 0 0, .int .i64 0] 57)) := (((Below.refl _ _).alloc (Nat.le_refl _) _).alloc (by simp) _).alloc (by simp; omega) _
  obtain ⟨b0, b1, b2, bs⟩ := al3 w (.cells #[.slice ao zs.length cap, .int .i64 nx] 51) (.cells #[.slice none 0 0, .int .i64 0] 57) (.cells #[.slice none 0 0, .int .i64 0] 57)
  have HC := toTES_any (h.below hal) hl
  have HCH : Hid (Calls Try.prog 78 #[.slice ao zs.length cap] (((w.alloc (.cells #[.slice ao zs.length cap, .int .i64 nx] 51)).alloc (.cells #[.slice none 0 0, .int .i64 0] 57)).alloc (.cells #[.slice none 0 0, .int .i64 0] 57)) fun e w' => ∃ u, e = .returned u ∧ w'.ownsRow (((w.alloc (.cells #[.slice ao zs.length cap, .int .i64 nx] 51)).alloc (.cells #[.slice none 0 0, .int .i64 0] 57)).alloc (.cells #[.slice none 0 0, .int .i64 0] 57)).heap.size 60 5 u zs.length (teR zs) ∧ Below (((w.alloc (.cells #[.slice ao zs.length cap, .int .i64 nx] 51)).alloc (.cells #[.slice none 0 0, .int .i64 0] 57)).alloc (.cells #[.slice none 0 0, .int .i64 0] 57)).heap.size (((w.alloc (.cells #[.slice ao zs.length cap, .int .i64 nx] 51)).alloc (.cells #[.slice none 0 0, .int .i64 0] 57)).alloc (.cells #[.slice none 0 0, .int .i64 0] 57)) w') := HC
  have HAL : Hid _ := hal
  have HB0 : Hid _ := b0
  have HB1 : Hid _ := b1
  have HB2 : Hid _ := b2
  have HBS : Hid _ := bs
  clear h HC hal b0 b1 b2 bs
  go_enter Try.func31, Try.ntmps31
  go_wp2_with fail
  generalize (((w.alloc (.cells #[.slice ao zs.length cap, .int .i64 nx] 51)).alloc (.cells #[.slice none 0 0, .int .i64 0] 57)).alloc (.cells #[.slice none 0 0, .int .i64 0] 57)) = W at *
  refine Calls.mono HCH.out ?_
  rintro e u ⟨uv, rfl, ho, hb⟩
  obtain ⟨ao2, cap2, rfl⟩ := te_sl ho
  have hsz : W.heap.size = w.heap.size + 3 := HBS.out
  have k0 := (hb.block w.heap.size (by omega)).trans HB0.out
  have k1 := (hb.block (w.heap.size + 1) (by omega)).trans HB1.out
  have k2 := (hb.block (w.heap.size + 2) (by omega)).trans HB2.out
  obtain ⟨c0, c1⟩ := cel2 k0
  obtain ⟨x0, x1⟩ := cel2 k1
  obtain ⟨y0, y1⟩ := cel2 k2
  have fz : ∀ b x a1 a2 t, u.heap[b]? = some (.cells #[a1, a2] t (0, 0)) → u.frozen? ⟨b, x, none⟩ = false := fun b x a1 a2 t h => by simp [World.frozen?, h]
  have f10 := fz _ 0 _ _ _ k1
  have f11 := fz _ 1 _ _ _ k1
  have f20 := fz _ 0 _ _ _ k2
  have f21 := fz _ 1 _ _ _ k2
  have HO : Hid (u.ownsRow W.heap.size 60 5 (.slice ao2 zs.length cap2) zs.length (teR zs)) := ho
  have HB : Hid (Below w.heap.size w u) := HAL.out.trans (hb.mono (by omega))
  have hne : w.heap.size + 1 ≠ w.heap.size + 2 := by omega
  have hs3 : w.heap.size + 3 ≤ u.heap.size := by have := hb.size; omega
  have s0 : w.heap.size < u.heap.size := by omega
  have s1 : w.heap.size + 1 < u.heap.size := by omega
  have s2 : w.heap.size + 2 < u.heap.size := by omega
  clear ho hb k0 k1 k2 fz HB0 HB1 HB2 HBS HAL HCH
  go_wp2
  have hnb : ∀ b, b < w.heap.size + 3 → (Value.slice ao2 zs.length cap2).ownBlock ≠ some b := fun b hb e => by
    have := (HO.out.lt b e).1
    omega
  refine bodyPost_ret (v := .agg #[.slice ao2 zs.length cap2, .int .i64 nx]) (by simp [results, Try.results31, go_sem, x0, x1]) rfl ⟨ao2, cap2, rfl, te_weak (own_set (own_set (own_set (own_set HO.out (hnb _ (by simp))) (hnb _ (by simp))) (hnb _ (by simp))) (hnb _ (by simp))) (by omega), ?_⟩
  exact (((HB.out.setCell (by simp; omega) _).setCell (by simp; omega) _).setCell (by simp) _).setCell (by simp) _
set_option maxRecDepth 100000 in
set_option maxHeartbeats 4000000 in
theorem eqTlb_ok {w : World} {ao ao2 : Option Addr} {cap cap2 : Nat} {zs : List TE} (nx : Int) (h : TErow w (.slice ao zs.length cap) zs) (h' : TErow w (.slice ao2 zs.length cap2) zs) (hl : zs.length ≤ 1048576) :
    Calls Try.prog 34 #[tlA (.slice ao zs.length cap) nx, tlA (.slice ao2 zs.length cap2) nx] w fun e w' => e = .returned (.bool true) ∧ Below w.heap.size w w' := by
  unfold tlA
  have hal : Below w.heap.size w ((w.alloc (.cells #[.slice ao zs.length cap, .int .i64 nx] 57)).alloc (.cells #[.slice ao2 zs.length cap2, .int .i64 nx] 57)) := ((Below.refl _ _).alloc (Nat.le_refl _) _).alloc (by simp) _
  have b1 : ((w.alloc (.cells #[.slice ao zs.length cap, .int .i64 nx] 57)).alloc (.cells #[.slice ao2 zs.length cap2, .int .i64 nx] 57)).heap[w.heap.size]? = some (.cells #[.slice ao zs.length cap, .int .i64 nx] 57) := (Below.heap_alloc _ _ _ (by simp)).trans (heap_new _ _)
  have b2 : ((w.alloc (.cells #[.slice ao zs.length cap, .int .i64 nx] 57)).alloc (.cells #[.slice ao2 zs.length cap2, .int .i64 nx] 57)).heap[w.heap.size + 1]? = some (.cells #[.slice ao2 zs.length cap2, .int .i64 nx] 57) := by simpa using heap_new (w.alloc (.cells #[.slice ao zs.length cap, .int .i64 nx] 57)) (.cells #[.slice ao2 zs.length cap2, .int .i64 nx] 57)
  have HE : Hid _ := eqTES_ok (h.below hal) (h'.below hal) hl
  have HAL : Hid _ := hal
  have bs : ((w.alloc (.cells #[.slice ao zs.length cap, .int .i64 nx] 57)).alloc (.cells #[.slice ao2 zs.length cap2, .int .i64 nx] 57)).heap.size = w.heap.size + 2 := by simp
  have HB1 : Hid _ := b1
  have HB2 : Hid _ := b2
  have HBS : Hid _ := bs
  clear h h' b1 b2 bs hal
  go_enter Try.func34, Try.ntmps34
  go_wp2_with fail
  generalize ((w.alloc (.cells #[.slice ao zs.length cap, .int .i64 nx] 57)).alloc (.cells #[.slice ao2 zs.length cap2, .int .i64 nx] 57)) = W at *
  refine Calls.mono HE.out ?_
  rintro e u ⟨rfl, hb⟩
  have hsz : W.heap.size = w.heap.size + 2 := HBS.out
  obtain ⟨c0, c1⟩ := cel2 ((hb.block w.heap.size (by omega)).trans HB1.out)
  obtain ⟨d0, d1⟩ := cel2 ((hb.block (w.heap.size + 1) (by omega)).trans HB2.out)
  have HB : Hid (Below w.heap.size w u) := HAL.out.trans (hb.mono (by omega))
  clear hb HE HAL HB1 HB2 HBS
  go_wp2
  go_ret
  exact ⟨rfl, HB.out⟩
end Go.Proofs.Ytjaelkagacmpkaa
