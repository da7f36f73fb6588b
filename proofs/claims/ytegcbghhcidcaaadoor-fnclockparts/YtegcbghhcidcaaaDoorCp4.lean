import Derived.Test.YtegcbghhcidcaaaDoorCp3
import Derived.OwnWalk
namespace Go.Proofs.YtegcbghhcidcaaaDoor
open Go.ChangeShapes Go.WideShapes Go.ChangeAt Go.RowKit

theorem wl_append_ex {P : Program} {ops : Array Oper} {rest : List Oper} {o : Oper} {a : Act} {w : World} {Q : Exit → Act → World → Prop} (hgd : o.guard = none) (s x : Operand) (t : TypeId)
    (ho : o.op = .call { callee := .builtin .append, args := #[s, x], argTypes := #[t, t] }) (v v2 : Value) (hs : a.eval s = v) (hx : a.eval x = v2) {R : Value → World → Prop}
    (hr : ∃ v' w', (Builtin.append_ #[t, t] o.type #[v, v2]).run P w = .ok v' w' ∧ R v' w') (h : ∀ v' w', R v' w' → wpList P ops Q rest (a.put o.dst v') w') : wpList P ops Q (o :: rest) a w :=
  wpList_plain hgd fun _ hK => by
    obtain ⟨v', w', hr, hR⟩ := hr
    unfold Oper.wp execOp
    simp only [ho, resolve, invoke, builtin, Sem.run_bind, Sem.run_pure, Result.andThen_ok, List.map_toArray, List.map_cons, List.map_nil, hs, hx, hr]
    exact hK _ _ (h v' w' hR)
theorem Tryd.info55 : (Tryd.prog.info? 55).map (fun i => (i.zero, i.size, i.bytes)) = some (some (.agg #[.int .i64 0, .int .i64 0, .slice none 0 0]), 3, 40) := by kernel_rfl
theorem cel3x {u : World} {b t : Nat} {a0 a1 a2 : Value} (h : u.heap[b]? = some (.cells #[a0, a1, a2] t (0, 0))) : u.cell? ⟨b, 0, none⟩ = some a0 ∧ u.cell? ⟨b, 1, none⟩ = some a1 ∧ u.cell? ⟨b, 2, none⟩ = some a2 := by simp [World.cell?, h]
/-- One answer more. -/
theorem appO {w : World} {lo n : Nat} {v : Value} {ys : List Value} (h : w.ownsRow lo 55 3 v n ys) (hn : n ≤ 1048576) (hlo : lo ≤ w.heap.size) (x0 x1 : Int) (a2 : Option Addr) (l2 k2 : Nat) : ∃ v' u', (Builtin.append_ #[29, 29] 29 #[v, .slice (some ⟨w.heap.size, 0, none⟩) 1 1]).run Tryd.prog (w.alloc (.cells #[.int .i64 x0, .int .i64 x1, .slice a2 l2 k2] 55)) = .ok v' u' ∧ (u'.ownsRow lo 55 3 v' (n + 1) (ys ++ [.int .i64 x0, .int .i64 x1, .slice a2 l2 k2]) ∧ (w.alloc (.cells #[.int .i64 x0, .int .i64 x1, .slice a2 l2 k2] 55)).grownBy u' v.ownBlock) := by
  obtain ⟨i0, hi0, hz0, hz1, hz2⟩ := info_parts Tryd.info55
  have hn1 := heap_new w (.cells #[.int .i64 x0, .int .i64 x1, .slice a2 l2 k2] 55)
  obtain ⟨v', w', hr, h2, h3, _⟩ := run_append_own (P := Tryd.prog) (w.alloc (.cells #[.int .i64 x0, .int .i64 x1, .slice a2 l2 k2] 55)) lo 29 29 55 i0 (.agg #[.int .i64 0, .int .i64 0, .slice none 0 0]) 3 40 Tryd.underlying29 hi0 hz0 hz1 hz2 rfl (by decide) v n ys (h.alloc _) ⟨w.heap.size, 0, none⟩ 1 1 [.int .i64 x0, .int .i64 x1, .slice a2 l2 k2] rfl (fun j u hj => by
    match j, hj with
    | 0, hj => obtain rfl := Option.some.inj hj; exact (cel3x hn1).1
    | 1, hj => obtain rfl := Option.some.inj hj; exact (cel3x hn1).2.1
    | 2, hj => obtain rfl := Option.some.inj hj; exact (cel3x hn1).2.2
    | j + 3, hj => simp at hj) (fun u hu => by
    simp at hu
    rcases hu with rfl | rfl | rfl <;> rfl) (by unfold maxLen; omega) (by omega) (by simp; omega)
  exact ⟨v', w', hr, h2, h3⟩
def Mays (c : CK) : List Int → Prop
  | [] => True
  | t :: ts => May c t ∧ Mays (adv c t) ts
def advs (c : CK) (xs : List Int) : CK := xs.foldl adv c
theorem Mays.at {c : CK} {xs : List Int} (h : Mays c xs) (k : Nat) (hk : k < xs.length) : May (advs c (xs.take k)) xs[k] := by
  induction xs generalizing c k with
  | nil => simp at hk
  | cons x xs ih =>
    cases k with
    | zero => exact h.1
    | succ k =>
      have := ih h.2 k (by simpa using hk)
      simpa [advs] using this
theorem advs_succ (c : CK) (xs : List Int) (k : Nat) (hk : k < xs.length) : advs c (xs.take (k + 1)) = adv (advs c (xs.take k)) xs[k] := by
  unfold advs
  rw [List.take_succ_eq_append_getElem hk, List.foldl_append]
  rfl
theorem advs_ts (c : CK) (xs : List Int) : (advs c xs).ts = c.ts := by
  unfold advs
  induction xs generalizing c with
  | nil => rfl
  | cons x xs ih => exact ih (adv c x)
/-- A row of ops that go on. -/
def OpsAt (w : World) (g : Nat) (xs : List Int) : Prop := ∀ k (hk : k < xs.length), w.cell? ⟨g, k * 7, none⟩ = some (.int .i64 1) ∧ w.cell? ⟨g, k * 7 + 1, none⟩ = some (.int .i64 xs[k]) ∧ w.cell? ⟨g, k * 7 + 2, none⟩ = some (.int .i64 0) ∧ w.cell? ⟨g, k * 7 + 3, none⟩ = some (.int .i64 0) ∧ w.cell? ⟨g, k * 7 + 4, none⟩ = some (.int .i64 0) ∧ w.cell? ⟨g, k * 7 + 5, none⟩ = some (.int .i64 0) ∧ w.cell? ⟨g, k * 7 + 6, none⟩ = some (.int .i64 0)
theorem OpsAt.kept {w w' : World} {g : Nat} {xs : List Int} {r : Option Nat} (h : OpsAt w g xs) (hg : w.grownBy w' r) (hr : some g ≠ r) : OpsAt w' g xs := fun k hk => by
  obtain ⟨a0, a1, a2, a3, a4, a5, a6⟩ := h k hk
  exact ⟨hg.cell a0 hr, hg.cell a1 hr, hg.cell a2 hr, hg.cell a3 hr, hg.cell a4 hr, hg.cell a5 hr, hg.cell a6 hr⟩
theorem BoxK.kept {w w' : World} {b : Nat} {t : TypeId} {c : CK} {v : Value} {r : Option Nat} (h : BoxK w b t c v) (hg : w.grownBy w' r) (hr : some b ≠ r) : BoxK w' b t c v := (hg.block b h.lt hr).trans h
end Go.Proofs.YtegcbghhcidcaaaDoor
