import Derived.Test.YtohmejfpebjlaaaDoorTie
import Derived.Test.YtohmejfpebjlaaaDoorCards
import Derived.Test.YtohmejfpebjlaaaDoorLaid
import Derived.Test.YtohmejfpebjlaaaDoorPFault
import Derived.SevenTiedAt
namespace Go.Proofs.YtohmejfpebjlaaaDoor
open Go.ChangeShapes Go.WideShapes Go.ChangeAt Go.WideMaps Go.WideElems Go.RowKit

theorem own : ownKnob Tryd.prog.godebug = none := by kernel_rfl
set_option maxRecDepth 100000 in
theorem toInstr_any (op a b c imm : Int) (w : World) : Calls Tryd.prog 8 #[ins op a b c imm] w fun e w' => e = .returned (ins op a b c imm) ∧ Below w.heap.size w w' := by
  unfold ins
  go_enter Tryd.func8, Tryd.ntmps8
  go_wp2
  refine bodyPost_ret (v := ins op a b c imm) (by simp [results, Tryd.results8, go_sem, ins]) rfl ⟨rfl, ?_⟩
  exact (((Below.refl _ _).alloc (Nat.le_refl _) _).alloc (by simp) _).alloc (by simp; omega) _
/-- What a law with an instruction as its argument keeps: its box. -/
structure LB (w u : World) (op a b c imm : Int) : Prop where
  bel : Below w.heap.size w u
  one : w.heap.size < u.heap.size
  box : u.heap[w.heap.size]? = some (.cells #[.int .i64 op, .int .i64 a, .int .i64 b, .int .i64 c, .int .i64 imm] 23 (0, 0))
theorem LB.new (w : World) (op a b c imm : Int) : LB w (w.alloc (.cells #[.int .i64 op, .int .i64 a, .int .i64 b, .int .i64 c, .int .i64 imm] 23)) op a b c imm :=
  ⟨(Below.refl _ _).alloc (Nat.le_refl _) _, by simp, heap_new _ _⟩
theorem LB.step {w u v : World} {op a b c imm : Int} (h : LB w u op a b c imm) (hb : Below u.heap.size u v) : LB w v op a b c imm :=
  ⟨h.bel.trans (hb.mono h.bel.size), Nat.lt_of_lt_of_le h.one hb.size, (hb.block _ h.one).trans h.box⟩
theorem LB.cells {w u : World} {op a b c imm : Int} (h : LB w u op a b c imm) : u.cell? ⟨w.heap.size, 0, none⟩ = some (.int .i64 op) ∧ u.cell? ⟨w.heap.size, 1, none⟩ = some (.int .i64 a) ∧ u.cell? ⟨w.heap.size, 2, none⟩ = some (.int .i64 b) ∧
    u.cell? ⟨w.heap.size, 3, none⟩ = some (.int .i64 c) ∧ u.cell? ⟨w.heap.size, 4, none⟩ = some (.int .i64 imm) := by
  have := h.box
  simp [World.cell?, this]

theorem c23 : Tryd.prog.cellsOf 23 = 5 := by kernel_rfl
theorem c2 : Tryd.prog.cellsOf 2 = 1 := by kernel_rfl
theorem array5 {α : Type} {cs : Array α} (h : cs.size = 5) : ∃ c0 c1 c2 c3 c4, cs = #[c0, c1, c2, c3, c4] := by
  obtain ⟨l⟩ := cs
  match l, h with
  | [c0, c1, c2, c3, c4], _ => exact ⟨c0, c1, c2, c3, c4, rfl⟩
theorem open_ins {H : Type} {enc : TypeId × Value → H} {W : World} {base : Nat} {v : Value} {d : DataW H} {p : List MemPlace} (hv : Value.okWide Tryd.prog W .any base 23 v)
    (h : DataW.Trod enc Tryd.prog W 0 (fun _ => true) true 23 v d p) : ∃ op a b c imm : Int, v = ins op a b c imm ∧ p = [] ∧
      (-9223372036854775808 ≤ op ∧ op ≤ 9223372036854775807) ∧ (-9223372036854775808 ≤ a ∧ a ≤ 9223372036854775807) ∧ (-9223372036854775808 ≤ b ∧ b ≤ 9223372036854775807) ∧ (-9223372036854775808 ≤ c ∧ c ≤ 9223372036854775807) ∧ (-9223372036854775808 ≤ imm ∧ imm ≤ 9223372036854775807) := by
  obtain ⟨cs, rfl, hsz⟩ := okWide_struct Tryd.underlying23 hv
  obtain ⟨x0, x1, x2, x3, x4, rfl⟩ := array5 (hsz.trans c23)
  obtain ⟨fuel, hf⟩ := h
  obtain ⟨xs, n, _, hx, _, hlen, hel⟩ := DataW.trod_struct Tryd.underlying23 hf
  simp only [Prod.mk.injEq] at hx
  match xs, hlen, hel, hx with
  | [y0, y1, y2, y3, y4], _, hel, hx =>
    have g0 := hel 0 _ rfl
    have g1 := hel 1 _ rfl
    have g2 := hel 2 _ rfl
    have g3 := hel 3 _ rfl
    have g4 := hel 4 _ rfl
    simp only [Value.cells] at g0 g1 g2 g3 g4
    obtain ⟨op, e0, f0, b0⟩ := DataW.trod_int Tryd.underlying2 g0
    obtain ⟨a, e1, f1, b1⟩ := DataW.trod_int Tryd.underlying2 g1
    obtain ⟨b, e2, f2, b2⟩ := DataW.trod_int Tryd.underlying2 g2
    obtain ⟨c, e3, f3, b3⟩ := DataW.trod_int Tryd.underlying2 g3
    obtain ⟨imm, e4, f4, b4⟩ := DataW.trod_int Tryd.underlying2 g4
    simp [c2] at e0 e1 e2 e3 e4
    subst e0 e1 e2 e3 e4 f0 f1 f2 f3 f4
    exact ⟨op, a, b, c, imm, rfl, by simpa using hx.2, wf_b b0, wf_b b1, wf_b b2, wf_b b3, wf_b b4⟩

theorem laidOut : laidOutB Tryd.prog = true := by kernel_rfl
theorem of_laid1 {W : World} (h : laidMetH Tryd.prog Rows.fnExactInstrFaultRow.laid W) : Names W ∧ 0 < W.heap.size := by
  change laidMetH Tryd.prog [("loop.example/g00038/impl.opNames", Rows.laid_loop_example_g00038_impl_opNames)] W at h
  rw [MakeChecks.laidMetH_plain _ _ _ (by kernel_rfl)] at h
  obtain ⟨ps, ⟨g0, t0, cs0, f0, p0, q0, hg0, ht0, hv0, hd0, _, _⟩, _, _⟩ := h
  obtain rfl := Option.some.inj (gNames.symm.trans hg0)
  obtain rfl := Option.some.inj (tNames.symm.trans ht0)
  have hn := names_of hv0 hd0
  refine ⟨hn, ?_⟩
  have := hn 0 (by omega)
  cases hh : W.heap[0]? with
  | none => simp [World.cell?, hh] at this
  | some o => exact (Array.getElem?_eq_some_iff.1 hh).1

theorem door_met1 (os : Os) (args : Array Value) : laidMetH Tryd.prog Rows.fnExactInstrFaultRow.laid ((World.doorLaid Tryd.prog 400 os).forCall (fun _ _ => 0) ⟨#[], args, []⟩).memory :=
  laidMetH_of_parts3 (fuel := 8) (laidMet_of_run' 8 (by kernel_rfl) (by kernel_rfl)) (by kernel_rfl) (by kernel_rfl)
end Go.Proofs.YtohmejfpebjlaaaDoor
