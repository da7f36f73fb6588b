import Derived.Test.YtmogemcbbcmeoabTFn3
namespace Go.Proofs.Ytmogemcbbcmeoab
open Go.ChangeShapes Go.WideShapes Go.ChangeAt Go.RowKit

/-- The two boxes of the specification's TlbFind. -/
structure GX (w u : World) (v : Value) (nx : Int) : Prop where
  bel : Below w.heap.size w u
  b0 : u.heap[w.heap.size]? = some (.cells #[v, .int .i64 nx] 31 (0, 0))
  b1 : u.heap[w.heap.size + 1]? = some (.cells #[.bool false, .int .i64 0, .int .i64 0] 27 (0, 0))
theorem GX.lt {w u : World} {v : Value} {nx : Int} (h : GX w u v nx) : w.heap.size + 1 < u.heap.size := (Array.getElem?_eq_some_iff.1 h.b1).1
theorem GX.step {w u u' : World} {v : Value} {nx : Int} (h : GX w u v nx) (hb : Below u.heap.size u u') : GX w u' v nx := by
  have := h.lt
  exact ⟨h.bel.trans (hb.mono h.bel.size), (hb.block _ (by omega)).trans h.b0, (hb.block _ (by omega)).trans h.b1⟩
theorem GX.new (w : World) (ao : Option Addr) (n cap : Nat) (nx : Int) : GX w ((w.alloc (.cells #[.slice ao n cap, .int .i64 nx] 31)).alloc (.cells #[.bool false, .int .i64 0, .int .i64 0] 27)) (.slice ao n cap) nx :=
  ⟨((Below.refl _ _).alloc (Nat.le_refl _) _).alloc (by simp) _, (Below.heap_alloc _ _ _ (by simp)).trans (heap_new _ _), by simpa using heap_new (w.alloc (.cells #[.slice ao n cap, .int .i64 nx] 31)) (.cells #[.bool false, .int .i64 0, .int .i64 0] 27)⟩
set_option maxRecDepth 100000 in
set_option maxHeartbeats 4000000 in
theorem specFind_bad {w : World} {ao : Option Addr} {cap : Nat} {zs : List TE} (h : TErow w (.slice ao zs.length cap) zs) (nx asid va acc : Int) (user : Bool) (hl : zs.length ≤ 1048576) (hb : ¬ (tlbC zs nx = 0 ∧ 0 ≤ asid ∧ asid ≤ 255 ∧ 0 ≤ va ∧ decide (262144 ≤ va) = false ∧ decide (1 ≤ acc ∧ acc ≤ 3) = true)) :
    Calls Try.prog 10 #[tlA (.slice ao zs.length cap) nx, .int .i64 asid, .int .i64 va, .int .i64 acc, .bool user] w fun e w' => e = .returned (hitA false 0 0) ∧ Below w.heap.size w w' := by
  have HX0 : Hid (GX w ((w.alloc (.cells #[.slice ao zs.length cap, .int .i64 nx] 31)).alloc (.cells #[.bool false, .int .i64 0, .int .i64 0] 27)) (.slice ao zs.length cap) nx) := GX.new w ao zs.length cap nx
  have HF : Hid _ := specFaultT_any (h.below (HX0.out.bel)) nx hl
  have HA : Hid _ := fun w' => l03Acc_any acc w'
  obtain ⟨vb, hvb⟩ : ∃ vb, decide (262144 ≤ va) = vb := ⟨_, rfl⟩
  rw [hvb] at hb
  generalize decide (1 ≤ acc ∧ acc ≤ 3) = ab at *
  generalize tlbC zs nx = c at *
  clear h
  unfold tlA at HF ⊢
  go_enter Try.func10, Try.ntmps10
  go_wp2_with (first | (go_at_call 34; refine Calls.mono HF.out ?_; rintro e u1 ⟨rfl, hu1⟩; have HX : Hid (GX w u1 (.slice ao zs.length cap) nx) := HX0.out.step hu1; obtain ⟨z0, z1⟩ := cel2 HX.out.b0; obtain ⟨y0, y1, y2, yf⟩ := cel3 HX.out.b1; have yl := HX.out.lt; clear hu1 HF HX0) | (go_at_call 35; refine Calls.mono (HA.out _) ?_; rintro e u3 ⟨rfl, hu3⟩; rw [hu3]; clear hu3))
  all_goals first
    | (refine bodyPost_ret (v := hitA false 0 0) ?_ rfl ⟨rfl, ((HX.out.bel.setCell (by simp) _).setCell (by simp) _).setCell (by simp) _⟩; simp [results, Try.results10, go_sem, hitA, y0, y1, y2])
    | (exfalso; apply hb; refine ⟨by assumption, by omega, by omega, by omega, by simp_all, ?_⟩; simp_all)
end Go.Proofs.Ytmogemcbbcmeoab
