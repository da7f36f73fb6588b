import Derived.Test.YtfagohdmepnkkaaTFn1
namespace Go.Proofs.Ytfagohdmepnkkaa
open Go.ChangeShapes Go.WideShapes Go.ChangeAt Go.RowKit

def hitA (g : Bool) (pa at_ : Int) : Value := .agg #[.bool g, .int .i64 pa, .int .i64 at_]
theorem isAccess_any (acc : Int) (w : World) : Calls Try.prog 46 #[.int .i64 acc] w fun e w' => e = .returned (.bool (decide (1 ≤ acc ∧ acc ≤ 3))) ∧ w' = w := by
  by_cases h : 1 ≤ acc ∧ acc ≤ 3
  · rw [decide_eq_true h]
    exact isAccess_yes acc w h.1 h.2
  · rw [decide_eq_false h]
    exact isAccess_no acc w h
theorem l03Acc_any (acc : Int) (w : World) : Calls Try.prog 37 #[.int .i64 acc] w fun e w' => e = .returned (.bool (decide (1 ≤ acc ∧ acc ≤ 3))) ∧ w' = w := by
  by_cases h : 1 ≤ acc ∧ acc ≤ 3
  · rw [decide_eq_true h]
    exact l03Acc_yes acc w h.1 h.2
  · rw [decide_eq_false h]
    exact l03Acc_no acc w h
theorem al4 (w : World) (a b c d : Obj) : ((((w.alloc a).alloc b).alloc c).alloc d).heap[w.heap.size]? = some a ∧ ((((w.alloc a).alloc b).alloc c).alloc d).heap[w.heap.size + 1]? = some b ∧ ((((w.alloc a).alloc b).alloc c).alloc d).heap[w.heap.size + 2]? = some c ∧ ((((w.alloc a).alloc b).alloc c).alloc d).heap[w.heap.size + 3]? = some d ∧ ((((w.alloc a).alloc b).alloc c).alloc d).heap.size = w.heap.size + 4 := by
  obtain ⟨h0, h1, h2, h3⟩ := al3 w a b c
  refine ⟨?_, ?_, ?_, ?_, by simp⟩
  · rw [Below.heap_alloc _ _ _ (by omega)]; exact h0
  · rw [Below.heap_alloc _ _ _ (by omega)]; exact h1
  · rw [Below.heap_alloc _ _ _ (by omega)]; exact h2
  · have := heap_new (((w.alloc a).alloc b).alloc c) d
    rw [h3] at this
    exact this
theorem cel1 {u : World} {b t : Nat} {a0 : Value} (h : u.heap[b]? = some (.cells #[a0] t (0, 0))) : u.cell? ⟨b, 0, none⟩ = some a0 := by
  simp [World.cell?, h]
theorem cel3 {u : World} {b t : Nat} {a0 a1 a2 : Value} (h : u.heap[b]? = some (.cells #[a0, a1, a2] t (0, 0))) : u.cell? ⟨b, 0, none⟩ = some a0 ∧ u.cell? ⟨b, 1, none⟩ = some a1 ∧ u.cell? ⟨b, 2, none⟩ = some a2 ∧ ∀ x, u.frozen? ⟨b, x, none⟩ = false := by
  refine ⟨?_, ?_, ?_, fun x => ?_⟩ <;> simp [World.cell?, World.frozen?, h]
/-- The four boxes of TlbFind. -/
structure FX (w u : World) (v : Value) (nx asid va : Int) : Prop where
  bel : Below w.heap.size w u
  b0 : u.heap[w.heap.size]? = some (.cells #[v, .int .i64 nx] 61 (0, 0))
  b1 : u.heap[w.heap.size + 1]? = some (.cells #[.int .i64 asid] 2 (0, 0))
  b2 : u.heap[w.heap.size + 2]? = some (.cells #[.int .i64 va] 2 (0, 0))
  b3 : u.heap[w.heap.size + 3]? = some (.cells #[.bool false, .int .i64 0, .int .i64 0] 70 (0, 0))
theorem FX.lt {w u : World} {v : Value} {nx asid va : Int} (h : FX w u v nx asid va) : w.heap.size + 3 < u.heap.size := (Array.getElem?_eq_some_iff.1 h.b3).1
theorem FX.step {w u u' : World} {v : Value} {nx asid va : Int} (h : FX w u v nx asid va) (hb : Below u.heap.size u u') : FX w u' v nx asid va := by
  have := h.lt
  exact ⟨h.bel.trans (hb.mono h.bel.size), (hb.block _ (by omega)).trans h.b0, (hb.block _ (by omega)).trans h.b1, (hb.block _ (by omega)).trans h.b2, (hb.block _ (by omega)).trans h.b3⟩
theorem FX.new (w : World) (ao : Option Addr) (n cap : Nat) (nx asid va : Int) : FX w ((((w.alloc (.cells #[.slice ao n cap, .int .i64 nx] 61)).alloc (.cells #[.int .i64 asid] 2)).alloc (.cells #[.int .i64 va] 2)).alloc (.cells #[.bool false, .int .i64 0, .int .i64 0] 70)) (.slice ao n cap) nx asid va := by
  obtain ⟨h0, h1, h2, h3, _⟩ := al4 w (.cells #[.slice ao n cap, .int .i64 nx] 61) (.cells #[.int .i64 asid] 2) (.cells #[.int .i64 va] 2) (.cells #[.bool false, .int .i64 0, .int .i64 0] 70)
  exact ⟨((((Below.refl _ _).alloc (Nat.le_refl _) _).alloc (by simp) _).alloc (by simp; omega) _).alloc (by simp; omega) _, h0, h1, h2, h3⟩
set_option maxRecDepth 100000 in
set_option maxHeartbeats 4000000 in
theorem implFind_bad {w : World} {ao : Option Addr} {cap : Nat} {zs : List TE} (h : TErow w (.slice ao zs.length cap) zs) (nx asid va acc : Int) (user : Bool) (hl : zs.length ≤ 1048576) (hb : ¬ (tlbC zs nx = 0 ∧ 0 ≤ asid ∧ asid ≤ 255 ∧ (decide (0 ≤ va) && decide (va < 262144)) = true ∧ decide (1 ≤ acc ∧ acc ≤ 3) = true)) :
    Calls Try.prog 35 #[tlA (.slice ao zs.length cap) nx, .int .i64 asid, .int .i64 va, .int .i64 acc, .bool user] w fun e w' => e = .returned (hitA false 0 0) ∧ Below w.heap.size w w' := by
  have HX0 : Hid (FX w ((((w.alloc (.cells #[.slice ao zs.length cap, .int .i64 nx] 61)).alloc (.cells #[.int .i64 asid] 2)).alloc (.cells #[.int .i64 va] 2)).alloc (.cells #[.bool false, .int .i64 0, .int .i64 0] 70)) (.slice ao zs.length cap) nx asid va) := FX.new w ao zs.length cap nx asid va
  have HF : Hid _ := implFaultT_any (h.below (HX0.out.bel)) nx hl
  have HV : Hid _ := fun w' => isVirtual_any va w'
  have HA : Hid _ := fun w' => isAccess_any acc w'
  generalize (decide (0 ≤ va) && decide (va < 262144)) = vb at *
  generalize decide (1 ≤ acc ∧ acc ≤ 3) = ab at *
  generalize tlbC zs nx = c at *
  clear h
  unfold tlA at HF ⊢
  go_enter Try.func35, Try.ntmps35
  go_wp2_with (first | (go_at_call 31; refine Calls.mono HF.out ?_; rintro e u1 ⟨rfl, hu1⟩; have HX : Hid (FX w u1 (.slice ao zs.length cap) nx asid va) := HX0.out.step hu1; obtain ⟨z0, z1⟩ := cel2 HX.out.b0; have x1 := cel1 HX.out.b1; have x2 := cel1 HX.out.b2; obtain ⟨y0, y1, y2, yf⟩ := cel3 HX.out.b3; have yl := HX.out.lt; clear hu1 HF HX0) | (go_at_call 45; refine Calls.mono (HV.out _) ?_; rintro e u2 ⟨rfl, hu2⟩; rw [hu2]; clear hu2) | (go_at_call 46; refine Calls.mono (HA.out _) ?_; rintro e u3 ⟨rfl, hu3⟩; rw [hu3]; clear hu3))
  all_goals first
    | (refine bodyPost_ret (v := hitA false 0 0) ?_ rfl ⟨rfl, ((HX.out.bel.setCell (by simp; omega) _).setCell (by simp; omega) _).setCell (by simp; omega) _⟩; simp [results, Try.results35, go_sem, hitA, y0, y1, y2])
    | (exfalso; apply hb; refine ⟨by assumption, by omega, by omega, by assumption, ?_⟩; simp_all)
end Go.Proofs.Ytfagohdmepnkkaa
