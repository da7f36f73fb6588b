import Derived.Test.YtfagohdmepnkkaaSTwo
namespace Go.Proofs.Ytfagohdmepnkkaa
open Go.ChangeShapes Go.WideShapes Go.ChangeAt Go.RowKit

/-- What two walks answer. -/
structure TV where
  fault : Int
  gpa : Int
  hpa : Int
  steps : Int
  mem : ByteArray
def twA (t : TV) : Value := .agg #[.int .i64 t.fault, .int .i64 t.gpa, .int .i64 t.hpa, .int .i64 t.steps, .string t.mem]
theorem cel5 {u : World} {b t : Nat} {a0 a1 a2 a3 a4 : Value} (h : u.heap[b]? = some (.cells #[a0, a1, a2, a3, a4] t (0, 0))) : u.cell? ⟨b, 0, none⟩ = some a0 ∧ u.cell? ⟨b, 1, none⟩ = some a1 ∧ u.cell? ⟨b, 2, none⟩ = some a2 ∧
    u.cell? ⟨b, 3, none⟩ = some a3 ∧ u.cell? ⟨b, 4, none⟩ = some a4 ∧ ∀ o, u.frozen? ⟨b, o, none⟩ = false := by
  simp [World.cell?, World.frozen?, h]
/-- The specification's two walks under way, w0 the world ahead of the answer's box. -/
structure TW (w0 : World) (x : TS) (u : World) : Prop where
  bel : Below w0.heap.size w0 u
  res : u.heap[w0.heap.size]? = some (.cells #[.int .i64 0, .int .i64 0, .int .i64 0, .int .i64 0, .string ⟨#[]⟩] 23 (0, 0))
  box : TBx u (w0.heap.size + 1) x
theorem TW.new (w : World) (s : ByteArray) (host : Nat) : TW w ⟨s, host, 0, 0⟩ ((w.alloc (.cells #[.int .i64 0, .int .i64 0, .int .i64 0, .int .i64 0, .string ⟨#[]⟩] 23)).alloc (.cells #[.string s, .int .i64 host, .int .i64 0, .int .i64 0] 77)) := by
  have h1 : Below w.heap.size w (w.alloc (.cells #[.int .i64 0, .int .i64 0, .int .i64 0, .int .i64 0, .string ⟨#[]⟩] 23)) := (Below.refl _ _).alloc (Nat.le_refl _) _
  refine ⟨h1.alloc h1.size _, ?_, ?_⟩
  · rw [Below.heap_alloc _ _ _ (by simp)]
    exact heap_new _ _
  · have h2 := heap_new (w.alloc (.cells #[.int .i64 0, .int .i64 0, .int .i64 0, .int .i64 0, .string ⟨#[]⟩] 23)) (.cells #[.string s, .int .i64 host, .int .i64 0, .int .i64 0] 77)
    rw [World.size_alloc] at h2
    exact h2
theorem TW.below {w0 u v : World} {x : TS} (h : TW w0 x u) (hb : Below u.heap.size u v) : TW w0 x v :=
  ⟨h.bel.trans (hb.mono h.bel.size), (hb.block _ (Array.getElem?_eq_some_iff.1 h.res).1).trans h.res, h.box.block (hb.block _ h.box.lt)⟩
theorem TW.grown {w0 u v : World} {x y : TS} (h : TW w0 x u) (hg : u.grownBy v (some (w0.heap.size + 1))) (hx : TBx v (w0.heap.size + 1) y) : TW w0 y v :=
  ⟨⟨hg.os.trans h.bel.os, hg.tape.trans h.bel.tape, hg.output.trans h.bel.output, Nat.le_trans h.bel.size hg.size, fun k hk => (hg.block k (Nat.lt_of_lt_of_le hk h.bel.size) (fun e => by have := Option.some.inj e; omega)).trans (h.bel.block k hk)⟩, (hg.block _ (Array.getElem?_eq_some_iff.1 h.res).1 (fun e => by have := Option.some.inj e; omega)).trans h.res, hx⟩
theorem TW.put0 {w0 u : World} {x : TS} (h : TW w0 x u) (y : ByteArray) : TW w0 { x with mem := y } (u.setCell ⟨w0.heap.size + 1, 0, none⟩ (.string y)) :=
  ⟨h.bel.setCell (by simp) _, (Below.heap_setCell _ _ _ _ (by simp)).trans h.res, h.box.put0 y⟩
theorem TW.put2 {w0 u : World} {x : TS} (h : TW w0 x u) (y : Int) : TW w0 { x with steps := y } (u.setCell ⟨w0.heap.size + 1, 2, none⟩ (.int .i64 y)) :=
  ⟨h.bel.setCell (by simp) _, (Below.heap_setCell _ _ _ _ (by simp)).trans h.res, h.box.put2 y⟩
theorem place_tw {w0 u : World} {x : TS} (h : TW w0 x u) (g : Nat) (X : Int) (hX : X = g) (acc : Int) (hm : memOk x.mem = true) (hh : x.host ≤ 255) (hg : g ≤ 262143) (a1 : 1 ≤ acc) (a2 : acc ≤ 3) (hst0 : 0 ≤ x.steps) (hst : x.steps ≤ 1000) :
    Calls Try.prog 38 #[.pointer (some ⟨w0.heap.size + 1, 0, none⟩), .int .i64 X, .int .i64 acc] u fun e u' =>
      ((walkV x.mem x.host g acc false).fault = 0 → e = .returned (.int .i64 (walkV x.mem x.host g acc false).pa) ∧ TW w0 { x with mem := (walkV x.mem x.host g acc false).mem, steps := x.steps + (walkV x.mem x.host g acc false).reads.length } u') ∧
      (¬ (walkV x.mem x.host g acc false).fault = 0 → e = .returned (.int .i64 (-1)) ∧ TW w0 { x with steps := x.steps + (walkV x.mem x.host g acc false).reads.length, bad := g } u') := by
  subst hX
  refine Calls.mono (place_ok h.box g acc hm hh hg a1 a2 hst0 hst) ?_
  rintro e u' ⟨hgr, h1, h2⟩
  exact ⟨fun hf => ⟨(h1 hf).1, h.grown hgr (h1 hf).2⟩, fun hf => ⟨(h2 hf).1, h.grown hgr (h2 hf).2⟩⟩
set_option maxRecDepth 100000 in
set_option maxHeartbeats 4000000 in
theorem answer_tw {w0 u : World} {x : TS} (h : TW w0 x u) (f gp hp : Int) :
    Calls Try.prog 39 #[.pointer (some ⟨w0.heap.size + 1, 0, none⟩), .int .i64 f, .int .i64 gp, .int .i64 hp] u fun e u' => e = .returned (twA ⟨f, gp, hp, x.steps, x.mem⟩) ∧ TW w0 x u' := by
  obtain ⟨mem, host, steps, bad⟩ := x
  obtain ⟨c0, c1, c2, c3, cf⟩ := h.box.cells
  have hlt := h.box.lt
  simp only at *
  have HB : Hid _ := h
  have hne : ¬ w0.heap.size + 1 = u.heap.size := by omega
  clear h
  go_enter Try.func39, Try.ntmps39
  go_wp2
  go_region
  all_goals
    go_wp2
    refine bodyPost_ret (v := twA ⟨f, gp, hp, steps, mem⟩) (by simp [results, Try.results39, go_sem, twA]) rfl ⟨rfl, ?_⟩
    exact HB.out.below ⟨rfl, rfl, rfl, by simp, fun k hk => Below.heap_alloc _ _ _ hk⟩
end Go.Proofs.Ytfagohdmepnkkaa
