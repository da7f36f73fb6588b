import Derived.Test.YtefeahilamiiaaaRt1
import Derived.OrdersHeld
import Derived.Deep.DeepCutAuto
namespace Go.Proofs.Ytefeahilamiiaaa
open Go.ChangeShapes Go.WideShapes Go.ChangeAt Go.RowKit

theorem held_step {P : Program} {md : Region.Mode} {ops : Array Oper} {Q : Exit → Act → World → Prop} {S : World → Prop} {fuel : Nat} {listed : Array Bool} {a : Act} {w : World} {i : Nat} {o : Oper} (ho : ops[i]? = some o)
    (hw : Region.wanted o (yielded ops a.tmps) = true) (h : ∀ K : Act → World → Prop, (∀ a' w', S w' → wpAnyH P md ops Q S fuel (listed.setIfInBounds i true) a' w' → K a' w') → o.wp P a w K Q) :
    wpOp P ops Q i (fun a' w' => S w' ∧ wpAnyH P md ops Q S fuel (listed.setIfInBounds i true) a' w') a w := by
  unfold wpOp
  rw [ho]
  simp only [hw, if_true]
  exact Or.inl (h _ fun a' w' h1 h2 => ⟨h1, h2⟩)
theorem all_two {p : Nat → Prop} {i j : Nat} (h1 : p i) (h2 : p j) : ∀ k ∈ [i, j], p k := by
  intro k hk
  rcases List.mem_cons.1 hk with rfl | hk
  · exact h1
  · rw [List.mem_singleton.1 hk]; exact h2
theorem all_one {p : Nat → Prop} {i : Nat} (h1 : p i) : ∀ k ∈ [i], p k := by
  intro k hk
  rw [List.mem_singleton.1 hk]; exact h1
theorem held_one {P : Program} {md : Region.Mode} {ops : Array Oper} {Q : Exit → Act → World → Prop} {S : World → Prop} {fuel : Nat} {listed : Array Bool} {a : Act} {w : World} (i : Nat) {o : Oper} (hr : Region.ready md ops listed = [i]) (ho : ops[i]? = some o)
    (hw : Region.wanted o (yielded ops a.tmps) = true) (h : ∀ K : Act → World → Prop, (∀ a' w', S w' → wpAnyH P md ops Q S fuel (listed.setIfInBounds i true) a' w' → K a' w') → o.wp P a w K Q) : wpAnyH P md ops Q S (fuel + 1) listed a w :=
  wpAnyH_all hr (by simp) (all_one (held_step ho hw h))
/-- The first of two that is not zero. -/
def orI (x y : Int) : Int := if x = 0 then y else x
set_option maxRecDepth 100000 in
set_option maxHeartbeats 4000000 in
theorem cmpOr_any (g : Nat) (x y : Int) (w : World) (h0 : w.cell? ⟨g, 0, none⟩ = some (.int .i64 x)) (h1 : w.cell? ⟨g, 1, none⟩ = some (.int .i64 y)) : Calls Try.prog 68 #[.slice (some ⟨g, 0, none⟩) 2 2] w fun e w' => e = .returned (.int .i64 (orI x y)) ∧ w' = w := by
  unfold orI
  go_enter Try.func68, Try.ntmps68
  go_wp2
  go_loopw [8] (fun i wr => wr = w ∧ (i = .int .i64 0 ∨ (i = .int .i64 1 ∧ x = 0) ∨ (i = .int .i64 2 ∧ x = 0 ∧ y = 0))) (fun i _ => 2 - (intOf i).toNat)
  case atStart => exact ⟨rfl, .inl rfl⟩
  case round =>
    obtain ⟨rfl, rfl | ⟨rfl, hx⟩ | ⟨rfl, hx, hy⟩⟩ := hrel
    · by_cases hx : x = 0
      · subst hx
        go_wp2
        go_roundw
        case rel => simp
        case measure => simp [intOf]
      · go_wp2
        go_ret
        exact ⟨ret_int (by simp), rfl⟩
    · subst hx
      by_cases hy : y = 0
      · subst hy
        go_wp2
        go_roundw
        case rel => simp
        case measure => simp [intOf]
      · go_wp2
        go_ret
        exact ⟨ret_int (by simp), rfl⟩
    · subst hx hy
      go_wp2
      go_ret
      exact ⟨ret_int (by simp), rfl⟩
theorem cel0 {u : World} {b t : Nat} {a0 a1 : Value} (h : u.heap[b]? = some (.cells #[a0, a1] t (0, 0))) : u.cell? ⟨b, 0, none⟩ = some a0 := by simp [World.cell?, h]
theorem cel1 {u : World} {b t : Nat} {a0 a1 : Value} (h : u.heap[b]? = some (.cells #[a0, a1] t (0, 0))) : u.cell? ⟨b, 1, none⟩ = some a1 := by simp [World.cell?, h]
/-- Remaps by their order. -/
def cmpR (a b : RM) : Int := orI (cmpI a.dev b.dev) (cmpI a.idx b.idx)
set_option maxRecDepth 100000 in
set_option maxHeartbeats 4000000 in
theorem compareRemaps_any (a b : RM) (w : World) : Calls Try.prog 48 #[rmA a, rmA b] w fun e w' => e = .returned (.int .i64 (cmpR a b)) ∧ Below w.heap.size w w' := by
  obtain ⟨a0, a1, a2, a3⟩ := a
  obtain ⟨b0, b1, b2, b3⟩ := b
  unfold rmA cmpR
  simp only
  generalize h1 : cmpI a0 b0 = x
  generalize h2 : cmpI a1 b1 = y
  have HC1 : Hid _ := fun w' => compare_any a0 b0 w'
  have HC2 : Hid _ := fun w' => compare_any a1 b1 w'
  rw [h1] at HC1
  rw [h2] at HC2
  have HB : Hid (Below w.heap.size w ((w.alloc (.cells #[.int .i64 a0, .int .i64 a1, .int .i64 a2, .int .i64 a3] 61)).alloc (.cells #[.int .i64 b0, .int .i64 b1, .int .i64 b2, .int .i64 b3] 61))) := ((Below.refl _ _).alloc (Nat.le_refl _) _).alloc (by simp) _
  have HA : Hid (((w.alloc (.cells #[.int .i64 a0, .int .i64 a1, .int .i64 a2, .int .i64 a3] 61)).alloc (.cells #[.int .i64 b0, .int .i64 b1, .int .i64 b2, .int .i64 b3] 61)).heap[w.heap.size]? = some (.cells #[.int .i64 a0, .int .i64 a1, .int .i64 a2, .int .i64 a3] 61 (0, 0))) := (Below.heap_alloc _ _ _ (by simp)).trans (heap_new _ _)
  have hA2 : ((w.alloc (.cells #[.int .i64 a0, .int .i64 a1, .int .i64 a2, .int .i64 a3] 61)).alloc (.cells #[.int .i64 b0, .int .i64 b1, .int .i64 b2, .int .i64 b3] 61)).heap[w.heap.size + 1]? = some (.cells #[.int .i64 b0, .int .i64 b1, .int .i64 b2, .int .i64 b3] 61 (0, 0)) := by simpa using heap_new (w.alloc (.cells #[.int .i64 a0, .int .i64 a1, .int .i64 a2, .int .i64 a3] 61)) (.cells #[.int .i64 b0, .int .i64 b1, .int .i64 b2, .int .i64 b3] 61)
  have HA2 : Hid (((w.alloc (.cells #[.int .i64 a0, .int .i64 a1, .int .i64 a2, .int .i64 a3] 61)).alloc (.cells #[.int .i64 b0, .int .i64 b1, .int .i64 b2, .int .i64 b3] 61)).heap[w.heap.size + 1]? = some (.cells #[.int .i64 b0, .int .i64 b1, .int .i64 b2, .int .i64 b3] 61 (0, 0))) := hA2
  clear hA2
  go_enter Try.func48, Try.ntmps48
  go_wp2_with fail
  generalize ((w.alloc (.cells #[.int .i64 a0, .int .i64 a1, .int .i64 a2, .int .i64 a3] 61)).alloc (.cells #[.int .i64 b0, .int .i64 b1, .int .i64 b2, .int .i64 b3] 61)) = W at *
  have hlt : w.heap.size + 1 < W.heap.size := (Array.getElem?_eq_some_iff.1 HA2.out).1
  have HSB : Hid (∀ u : World, Below W.heap.size W u → u.cell? ⟨w.heap.size, 0, none⟩ = some (.int .i64 a0) ∧ u.cell? ⟨w.heap.size, 1, none⟩ = some (.int .i64 a1) ∧ u.cell? ⟨w.heap.size + 1, 0, none⟩ = some (.int .i64 b0) ∧ u.cell? ⟨w.heap.size + 1, 1, none⟩ = some (.int .i64 b1)) := fun u hu => by
    have e1 := (hu.block w.heap.size (by omega)).trans HA.out
    have e2 := (hu.block (w.heap.size + 1) (by omega)).trans HA2.out
    simp [World.cell?, e1, e2]
  have HS : Hid (W.drew.cell? ⟨w.heap.size, 0, none⟩ = some (.int .i64 a0) ∧ W.drew.cell? ⟨w.heap.size, 1, none⟩ = some (.int .i64 a1) ∧ W.drew.cell? ⟨w.heap.size + 1, 0, none⟩ = some (.int .i64 b0) ∧ W.drew.cell? ⟨w.heap.size + 1, 1, none⟩ = some (.int .i64 b1)) := HSB.out _ (Below.refl _ _).drew
  clear HA HA2
  refine wp_region_held (S := fun w' => w'.cell? ⟨w.heap.size, 0, none⟩ = some (.int .i64 a0) ∧ w'.cell? ⟨w.heap.size, 1, none⟩ = some (.int .i64 a1) ∧ w'.cell? ⟨w.heap.size + 1, 0, none⟩ = some (.int .i64 b0) ∧ w'.cell? ⟨w.heap.size + 1, 1, none⟩ = some (.int .i64 b1)) (by kernel_rfl) ?_
  change wpAnyH _ _ _ _ _ _ _ _ (World.drew _)
  refine wpAnyH_take (i := 0) (v := .pointer (some ⟨w.heap.size, 0, none⟩)) rfl (by kernel_rfl) (by kernel_rfl) (by kernel_rfl) (fun _ _ _ h => h) (Or.inl ⟨by rfl, fun w9 _ => ?_⟩) HS.out ?_
  · go_simp
  refine wpAnyH_take (i := 2) (v := .pointer (some ⟨w.heap.size + 1, 0, none⟩)) rfl (by kernel_rfl) (by kernel_rfl) (by kernel_rfl) (fun _ _ _ h => h) (Or.inl ⟨by rfl, fun w9 _ => ?_⟩) HS.out ?_
  · go_simp
  refine wpAnyH_take (i := 5) (v := .pointer (some ⟨w.heap.size, 1, none⟩)) rfl (by kernel_rfl) (by kernel_rfl) (by kernel_rfl) (fun _ _ _ h => h) (Or.inl ⟨by rfl, fun w9 _ => ?_⟩) HS.out ?_
  · go_simp
  refine wpAnyH_take (i := 7) (v := .pointer (some ⟨w.heap.size + 1, 1, none⟩)) rfl (by kernel_rfl) (by kernel_rfl) (by kernel_rfl) (fun _ _ _ h => h) (Or.inl ⟨by rfl, fun w9 _ => ?_⟩) HS.out ?_
  · go_simp
  refine wpAnyH_take (i := 1) (v := .int .i64 a0) rfl (by kernel_rfl) (by kernel_rfl) (by kernel_rfl) (fun _ _ _ h => h) (Or.inl ⟨by rfl, fun w9 h9 => ?_⟩) HS.out ?_
  · have h91 := h9.1
    go_simp
  refine wpAnyH_take (i := 3) (v := .int .i64 b0) rfl (by kernel_rfl) (by kernel_rfl) (by kernel_rfl) (fun _ _ _ h => h) (Or.inl ⟨by rfl, fun w9 h9 => ?_⟩) HS.out ?_
  · have h91 := h9.2.2.1
    go_simp
  refine wpAnyH_take (i := 6) (v := .int .i64 a1) rfl (by kernel_rfl) (by kernel_rfl) (by kernel_rfl) (fun _ _ _ h => h) (Or.inl ⟨by rfl, fun w9 h9 => ?_⟩) HS.out ?_
  · have h91 := h9.2.1
    go_simp
  refine wpAnyH_take (i := 8) (v := .int .i64 b1) rfl (by kernel_rfl) (by kernel_rfl) (by kernel_rfl) (fun _ _ _ h => h) (Or.inl ⟨by rfl, fun w9 h9 => ?_⟩) HS.out ?_
  · have h91 := h9.2.2.2
    go_simp
  refine held_one 4 (by kernel_rfl) rfl (by rfl) fun K hK => ?_
  go_simp
  go_wp2_with (go_at_call 69; refine Calls.mono (HC1.out _) ?_; rintro e u1 ⟨rfl, hu1⟩; rw [hu1]; clear hu1)
  refine hK _ _ HS.out ?_
  clear hK K
  refine held_one 9 (by kernel_rfl) rfl (by rfl) fun K hK => ?_
  go_simp
  go_wp2_with (go_at_call 69; refine Calls.mono (HC2.out _) ?_; rintro e u2 ⟨rfl, hu2⟩; rw [hu2]; clear hu2)
  refine hK _ _ HS.out ?_
  clear hK K
  refine held_one 10 (by kernel_rfl) rfl (by rfl) fun K hK => ?_
  have HB9 : Hid (Below W.heap.size W (W.alloc (.cells #[.int .i64 x, .int .i64 y] 3)).drew) := ((Below.refl _ _).alloc (Nat.le_refl _) _).drew
  have hn : (W.alloc (.cells #[.int .i64 x, .int .i64 y] 3)).drew.heap[W.heap.size]? = some (.cells #[.int .i64 x, .int .i64 y] 3 (0, 0)) := heap_new _ _
  have HN0 : Hid ((W.alloc (.cells #[.int .i64 x, .int .i64 y] 3)).drew.cell? ⟨W.heap.size, 0, none⟩ = some (.int .i64 x)) := cel0 hn
  have HN1 : Hid ((W.alloc (.cells #[.int .i64 x, .int .i64 y] 3)).drew.cell? ⟨W.heap.size, 1, none⟩ = some (.int .i64 y)) := cel1 hn
  clear hn
  go_simp
  refine hK _ _ (HSB.out _ HB9.out) ?_
  clear hK K
  generalize (W.alloc (.cells #[.int .i64 x, .int .i64 y] 3)).drew = W2 at *
  refine held_one 11 (by kernel_rfl) rfl (by rfl) fun K hK => ?_
  go_simp
  go_wp2_with (go_at_call 68; refine Calls.mono (cmpOr_any _ x y _ HN0.out HN1.out) ?_; rintro e u3 ⟨rfl, hu3⟩; rw [hu3]; clear hu3)
  refine hK _ _ (HSB.out _ HB9.out) ?_
  clear hK K
  refine held_one 12 (by kernel_rfl) rfl (by rfl) fun K hK => ?_
  go_simp
  refine hK _ _ (HSB.out _ HB9.out) ?_
  clear hK K
  refine wpAnyH_done (by kernel_rfl) ?_ _
  go_simp
  go_wp2
  go_ret
  exact ⟨rfl, HB.out.trans (HB9.out.mono HB.out.size)⟩
end Go.Proofs.Ytefeahilamiiaaa
