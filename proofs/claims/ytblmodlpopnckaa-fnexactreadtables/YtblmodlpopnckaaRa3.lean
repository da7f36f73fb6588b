import Derived.Test.YtblmodlpopnckaaRa2
import Derived.Test.YtblmodlpopnckaaNe0
import Derived.Test.YtblmodlpopnckaaCkL
import Derived.Test.YtblmodlpopnckaaRowFZ
import Derived.Deep.RegionWith
import Derived.WalkMore
import Derived.Lib.BufferRead
namespace Go.Proofs.Ytblmodlpopnckaa
open Go.ChangeShapes Go.WideShapes Go.ChangeAt Go.RowKit

theorem own_geU {w : World} {B e sz n : Nat} {v : Value} {xs : List Value} (h : w.ownsRow B e sz v n xs) : ∀ j, v.ownBlock = some j → B ≤ j := by
  intro j hj
  rcases h.2 with ⟨rfl, _⟩ | ⟨g, cap, cur, rfl, hg, _⟩
  · simp [Value.ownBlock] at hj
  · simp [Value.ownBlock] at hj
    omega
theorem own_keepB {w u : World} {B e sz n b : Nat} {v : Value} {xs : List Value} (h : w.ownsRow B e sz v n xs) (hg : w.grownBy u (some b)) (hb : b < B) : u.ownsRow B e sz v n xs :=
  h.kept hg (by
    cases ho : v.ownBlock with
    | none => exact .inl rfl
    | some j =>
      refine .inr (fun e => ?_)
      have := own_geU h j ho
      injection e with e
      omega)
theorem RD.self {U u : World} {b : Nat} {m : ByteArray} {a : Nat} {sm : Int} (h : RD U u b m a sm) : RD u u b m a sm := ⟨⟨rfl, rfl, rfl, Nat.le_refl _, fun _ _ _ => rfl⟩, h.box⟩
theorem RD.trans {U V u : World} {b : Nat} {m m2 : ByteArray} {a a2 : Nat} {sm sm2 : Int} (h : RD U V b m a sm) (k : RD V u b m2 a2 sm2) : RD U u b m2 a2 sm2 := ⟨h.g.trans k.g, k.box⟩
theorem u8_sum (x y : Int) : IntKind.u8.wrap (x % 256 + y) = (x + y) % 256 := by rw [IntKind.wrap_u8]; omega
theorem allP_iff {p : Nat → Bool} {m : Nat} : allP p m = true ↔ ∀ k, k < m → p k = true := by
  unfold allP
  rw [List.all_eq_true]
  exact ⟨fun h k hk => h k (List.mem_range.2 hk), fun h k hk => h k (List.mem_range.1 hk)⟩
/-- A scope that is left by gotos to labels behind, from which no goto follows. -/
theorem wp_scope_fwd {P : Program} {a : Act} {w : World} {Q : Exit → Act → World → Prop} {c : Code} (h : ∀ fe : Exit → Act → World → Prop, (∀ a w, Q .ret a w → fe .ret a w) → (∀ l a w, (∃ rest, findLabel c l = some rest ∧ rest.wp P (Exit.noGoto Q) a w) → fe (.goto l) a w) → c.wp P fe a w) : (Code.scope c).wp P Q a w := by
  intro b k cs
  have h1 := h (fun e a' w' => match e with
    | .goto l => ∃ rest, findLabel c l = some rest ∧ rest.wp P (Exit.noGoto Q) a' w'
    | e => Q e a' w') (fun a w hq => hq) (fun l a w hq => hq)
  obtain ⟨e, a₁, w₁, hq, harr⟩ := h1 b (.inScope c :: k) cs
  cases e with
  | normal => exact ⟨.normal, a₁, w₁, hq, .head step_scope (Steps.trans harr (.one step_inScope))⟩
  | exit id => exact ⟨.exit id, a₁, w₁, hq, fun k' hk => .head step_scope (harr k' (by simp [exitTo, hk]))⟩
  | ret => exact ⟨_, a₁, w₁, hq, .of_steps (.one step_scope) harr⟩
  | panic ch => exact ⟨_, a₁, w₁, hq, .of_steps (.one step_scope) harr⟩
  | outgrown => exact ⟨_, a₁, w₁, hq, .of_steps (.one step_scope) harr⟩
  | goto l =>
    obtain ⟨rest, hf, hr⟩ := hq
    have hg : gotoIn l (.inScope c :: k) = some (.code rest :: .inScope c :: k) := by simp [gotoIn, hf]
    obtain ⟨e2, a₂, w₂, hq₂, harr₂⟩ := hr b (.inScope c :: k) cs
    cases e2 with
    | normal => exact ⟨.normal, a₂, w₂, hq₂, .head step_scope (Steps.trans (harr _ hg) (Steps.trans harr₂ (.one step_inScope)))⟩
    | exit id => exact ⟨.exit id, a₂, w₂, hq₂, fun k' hk => .head step_scope (Steps.trans (harr _ hg) (harr₂ k' (by simp [exitTo, hk])))⟩
    | goto l' => exact hq₂.elim
    | ret => exact ⟨_, a₂, w₂, hq₂, .of_steps (.head step_scope (harr _ hg)) harr₂⟩
    | panic ch => exact ⟨_, a₂, w₂, hq₂, .of_steps (.head step_scope (harr _ hg)) harr₂⟩
    | outgrown => exact ⟨_, a₂, w₂, hq₂, .of_steps (.head step_scope (harr _ hg)) harr₂⟩
theorem cells_u8 {u : World} {B n g cap : Nat} {xs : List Int} (h : u.ownsRow B 5 1 (.slice (some ⟨g, 0, none⟩) n cap) n (ubR xs)) : ∀ j (hj : j < xs.length), u.cell? ⟨g, j, none⟩ = some (.int .u8 xs[j]) := by
  intro j hj
  have h2 := (World.ownsRowF_of h).cells (g := g) rfl j (.int .u8 xs[j]) (by simp [ubR, hj])
  have hadd : (⟨g, 0, none⟩ : Addr).add j = ⟨g, j, none⟩ := by unfold Addr.add; split <;> simp_all
  rw [hadd] at h2
  exact h2
/-- In the first loop. -/
structure T1 (w u : World) (b : Nat) (m : ByteArray) (p a : Nat) (sm : Int) (v : Value) (n : Nat) : Prop where
  rd : RD w u b m a sm
  bx : u.heap[w.heap.size]? = some (.cells #[.string ⟨#[]⟩, .int .i64 0, .string ⟨#[]⟩] 40)
  ow : u.ownsRow (w.heap.size + 1) 5 1 v n (ubR (btL m p n))
theorem T1.next {w u u' : World} {b : Nat} {m : ByteArray} {p a a' : Nat} {sm sm' : Int} {v : Value} {n : Nat} (h : T1 w u b m p a sm v n) (hb : b < w.heap.size) (h' : RD u u' b m a' sm') : T1 w u' b m p a' sm' v n :=
  ⟨h.rd.trans h', (h'.g.block _ (Array.getElem?_eq_some_iff.1 h.bx).1 (fun e => by injection e with e; omega)).trans h.bx, own_keepB h.ow h'.g (by omega)⟩
theorem T1.app {w u u' : World} {b : Nat} {m : ByteArray} {p a : Nat} {sm : Int} {v v' : Value} {n : Nat} {o : Obj} (h : T1 w u b m p a sm v n) (hb : b < w.heap.size) (ho : u'.ownsRow (w.heap.size + 1) 5 1 v' (n + 1) (ubR (btL m p n) ++ [.int .u8 (bt m (p + n))])) (hg : (u.alloc o).grownBy u' v.ownBlock) : T1 w u' b m p a sm v' (n + 1) := by
  have hs : (u.alloc o).heap.size = u.heap.size + 1 := by simp
  have hlt := (Array.getElem?_eq_some_iff.1 h.bx).1
  have hne : ∀ k, k ≤ w.heap.size → some k ≠ v.ownBlock := fun k hk e => by
    have := own_geU h.ow k e.symm
    omega
  have hk : ∀ k, k ≤ w.heap.size → u'.heap[k]? = u.heap[k]? := fun k hk => by
    rw [hg.block k (by omega) (hne k hk)]
    exact (bx1 u o).block k (by omega)
  refine ⟨⟨⟨hg.os.trans h.rd.g.os, hg.tape.trans h.rd.g.tape, hg.output.trans h.rd.g.output, by have := hg.size; have := h.rd.g.size; omega, fun k h1 h2 => (hk k (by omega)).trans (h.rd.g.block k h1 h2)⟩, (hk b (by omega)).trans h.rd.box⟩, (hk _ (Nat.le_refl _)).trans h.bx, ?_⟩
  rw [btL_succ, ubR_snoc]
  exact ho
/-- In the second loop. -/
structure T2 (w u : World) (b : Nat) (m : ByteArray) (p a : Nat) (sm : Int) (g C : Nat) (v : Value) (n : Nat) : Prop where
  rd : RD w u b m a sm
  bx : u.heap[w.heap.size]? = some (.cells #[.string ⟨#[]⟩, .int .i64 0, .string ⟨#[]⟩] 40)
  lo : w.heap.size < g
  hi : g < C
  hc : C ≤ u.heap.size
  nm : ∀ j, j < 4 → u.cell? ⟨g, j, none⟩ = some (.int .u8 (bt m (p + j)))
  ow : u.ownsRow C 5 1 v n (ubR (btL m (p + 8) n))
theorem cell_same {u u' : World} {k : Nat} (h : u'.heap[k]? = u.heap[k]?) (j : Nat) : u'.cell? ⟨k, j, none⟩ = u.cell? ⟨k, j, none⟩ := by simp [World.cell?, h]
theorem T2.next {w u u' : World} {b : Nat} {m : ByteArray} {p a a' : Nat} {sm sm' : Int} {g C : Nat} {v : Value} {n : Nat} (h : T2 w u b m p a sm g C v n) (hb : b < w.heap.size) (h' : RD u u' b m a' sm') : T2 w u' b m p a' sm' g C v n :=
  have lo := h.lo
  have hi := h.hi
  have hc := h.hc
  ⟨h.rd.trans h', (h'.g.block _ (by omega) (fun e => by injection e with e; omega)).trans h.bx, h.lo, h.hi, Nat.le_trans hc h'.g.size, fun j hj => (cell_same (h'.g.block g (by omega) (fun e => by injection e with e; omega)) j).trans (h.nm j hj), own_keepB h.ow h'.g (by omega)⟩
theorem T2.app {w u u' : World} {b : Nat} {m : ByteArray} {p a : Nat} {sm : Int} {g C : Nat} {v v' : Value} {n : Nat} {o : Obj} (h : T2 w u b m p a sm g C v n) (hb : b < w.heap.size) (ho : u'.ownsRow C 5 1 v' (n + 1) (ubR (btL m (p + 8) n) ++ [.int .u8 (bt m (p + 8 + n))])) (hg : (u.alloc o).grownBy u' v.ownBlock) : T2 w u' b m p a sm g C v' (n + 1) := by
  have hs : (u.alloc o).heap.size = u.heap.size + 1 := by simp
  have lo := h.lo
  have hi := h.hi
  have hc := h.hc
  have hne : ∀ k, k < C → some k ≠ v.ownBlock := fun k hk e => by
    have := own_geU h.ow k e.symm
    omega
  have hk : ∀ k, k < C → u'.heap[k]? = u.heap[k]? := fun k hk => by
    rw [hg.block k (by omega) (hne k hk)]
    exact (bx1 u o).block k (by omega)
  refine ⟨⟨⟨hg.os.trans h.rd.g.os, hg.tape.trans h.rd.g.tape, hg.output.trans h.rd.g.output, by have := hg.size; have := h.rd.g.size; omega, fun k h1 h2 => (hk k (by omega)).trans (h.rd.g.block k h1 h2)⟩, (hk b (by omega)).trans h.rd.box⟩, (hk _ (by omega)).trans h.bx, lo, hi, by have := hg.size; omega, fun j hj => (cell_same (hk g hi) j).trans (h.nm j hj), ?_⟩
  rw [btL_succ, ubR_snoc]
  exact ho
/-- The first loop's end, the second one's start. -/
theorem T1.two {w u : World} {b : Nat} {m : ByteArray} {p a : Nat} {sm : Int} {g cap : Nat} (h : T1 w u b m p a sm (.slice (some ⟨g, 0, none⟩) 4 cap) 4) : T2 w u b m p a sm g u.heap.size (.slice none 0 0) 0 := by
  have hg1 := own_geU h.ow g rfl
  have hg2 := ((World.ownsRowF_of h.ow).lt g rfl).2
  refine ⟨h.rd, h.bx, by omega, hg2, Nat.le_refl _, fun j hj => ?_, World.ownsRow_nil _ _ _ _⟩
  have h9 := cells_u8 h.ow j (by rw [btL_len]; exact hj)
  rw [h9]
  simp [btL]
theorem conv_row {u : World} {B n : Nat} {v : Value} {m : ByteArray} {a : Nat} (h : u.ownsRow B 5 1 v n (ubR (btL m a n))) (hle : a + n ≤ m.size) : Sem.run Try.prog (convert 71 9 v) u = .ok (.string (m.extract a (a + n))) u := by
  rcases h.2 with ⟨rfl, e0⟩ | ⟨g, cap, cur, rfl, _⟩
  · subst e0
    have e : m.extract a (a + 0) = ⟨#[]⟩ := by
      apply ByteArray.ext
      have hz : (m.extract a (a + 0)).size = 0 := by rw [ByteArray.size_extract]; omega
      exact Array.eq_empty_of_size_eq_zero hz
    rw [e]
    exact Lib.run_convert_nil_bytes u 71 9 5 0 Try.underlying71 Try.underlying5 Try.underlying9
  · refine conv_ex hle fun j hj => ?_
    have h9 := cells_u8 h j (by rw [btL_len]; exact hj)
    rw [h9]
    simp [btL]
end Go.Proofs.Ytblmodlpopnckaa
