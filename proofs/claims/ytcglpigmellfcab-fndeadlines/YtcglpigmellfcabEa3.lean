import Derived.Test.YtcglpigmellfcabEa2
import Derived.Test.YtcglpigmellfcabVa2
import Derived.Test.YtcglpigmellfcabLG
import Derived.OwnWalk
namespace Go.Proofs.Ytcglpigmellfcab
open Go.ChangeShapes Go.WideShapes Go.ChangeAt Go.RowKit

theorem wl_append_ex {P : Program} {ops : Array Oper} {rest : List Oper} {o : Oper} {a : Act} {w : World} {Q : Exit → Act → World → Prop} (hgd : o.guard = none) (s x : Operand) (t : TypeId)
    (ho : o.op = .call { callee := .builtin .append, args := #[s, x], argTypes := #[t, t] }) (v v2 : Value) (hs : a.eval s = v) (hx : a.eval x = v2) {R : Value → World → Prop}
    (hr : ∃ v' w', (Builtin.append_ #[t, t] o.type #[v, v2]).run P w = .ok v' w' ∧ R v' w') (h : ∀ v' w', R v' w' → wpList P ops Q rest (a.put o.dst v') w') : wpList P ops Q (o :: rest) a w :=
  wpList_plain hgd fun _ hK => by
    obtain ⟨v', w', hr, hR⟩ := hr
    unfold Oper.wp execOp
    simp only [ho, resolve, invoke, builtin, Sem.run_bind, Sem.run_pure, Result.andThen_ok, List.map_toArray, List.map_cons, List.map_nil, hs, hx, hr]
    exact hK _ _ (h v' w' hR)
/-- One number more. -/
theorem appI {w : World} {lo n : Nat} {v : Value} {ys : List Int} (h : w.ownsRow lo 2 1 v n (iR ys)) (hn : n ≤ 1048576) (hlo : lo ≤ w.heap.size) (x : Int) : ∃ v' u', (Builtin.append_ #[27, 27] 27 #[v, .slice (some ⟨w.heap.size, 0, none⟩) 1 1]).run Try.prog (w.alloc (.cells #[.int .i64 x] 2)) = .ok v' u' ∧ (u'.ownsRow lo 2 1 v' (n + 1) (iR (ys ++ [x])) ∧ (w.alloc (.cells #[.int .i64 x] 2)).grownBy u' v.ownBlock) := by
  obtain ⟨i0, hi0, hz0, hz1, hz2⟩ := info_parts Try.info2
  have hn1 := heap_new w (.cells #[.int .i64 x] 2)
  have hc1 := (LG.new w #[.int .i64 x] 2).cel 0 _ rfl
  obtain ⟨v', w', hr, h2, h3, _⟩ := run_append_own (P := Try.prog) (w.alloc (.cells #[.int .i64 x] 2)) lo 27 27 2 i0 (.int .i64 0) 1 8 Try.underlying27 hi0 hz0 hz1 hz2 rfl (by decide) v n (iR ys) (h.alloc _) ⟨w.heap.size, 0, none⟩ 1 1 [.int .i64 x] rfl (fun j u hj => by
    match j, hj with
    | 0, hj => obtain rfl := Option.some.inj hj; exact hc1
    | j + 1, hj => simp at hj) (fun u hu => by
    simp at hu
    rcases hu with rfl <;> rfl) (by unfold maxLen; omega) (by omega) (by simp; omega)
  have e : iR ys ++ [.int .i64 x] = iR (ys ++ [x]) := by simp [iR]
  rw [e] at h2
  exact ⟨v', w', hr, h2, h3⟩
theorem lsF_rdL (zs : List TK) : ∀ k, lsF (fun x => (zs.getD x.toNat tk0).fin) (rdL zs k) = if nx zs k < 0 then none else some (nx zs k)
  | 0 => by simp [rdL, nx, lsF]
  | k + 1 => by
    have ih := lsF_rdL zs k
    by_cases hl : 0 < (zs.getD k tk0).left
    · have er : rdL zs (k + 1) = rdL zs k ++ [(k : Int)] := by rw [rdL, if_pos hl]
      by_cases hn : nx zs k < 0
      · have e : nx zs (k + 1) = (k : Int) := by rw [nx, if_pos ⟨hl, .inl hn⟩]
        rw [er, e, lsF_snoc, ih, if_pos hn, if_neg (by omega)]
        rfl
      · by_cases hf : (zs.getD k tk0).fin < (zs.getD (nx zs k).toNat tk0).fin
        · have e : nx zs (k + 1) = (k : Int) := by rw [nx, if_pos ⟨hl, .inr hf⟩]
          rw [er, e, lsF_snoc, ih, if_neg hn, if_neg (by omega)]
          simp only [lsS, Int.toNat_natCast]
          rw [if_pos hf]
        · have e : nx zs (k + 1) = nx zs k := by rw [nx, if_neg (fun h => h.2.elim hn hf)]
          rw [er, e, lsF_snoc, ih, if_neg hn]
          simp only [lsS, Int.toNat_natCast]
          rw [if_neg hf]
    · have er : rdL zs (k + 1) = rdL zs k := by rw [rdL, if_neg hl]
      have e : nx zs (k + 1) = nx zs k := by rw [nx, if_neg (fun h => hl h.1)]
      rw [er, e]
      exact ih
theorem cfN : ∀ (xs : Array Value) (w' : World), (callFunc 160 xs).run Try.prog w' = .ok (.enter 160 xs) w' := by
  intro xs w'
  kernel_rfl
set_option maxRecDepth 100000 in
set_option maxHeartbeats 4000000 in
theorem next1_any {w : World} {b g o n c : Nat} {x : Nat} {f : Int} (hb : w.cell? ⟨b, 0, none⟩ = some (.slice (some ⟨g, o, none⟩) n c)) (hx : x < n) (hf : w.cell? ⟨g, o + x * 6 + 4, none⟩ = some (.int .i64 f)) :
    Calls Try.prog 160 #[.int .i64 (x : Int), .pointer (some ⟨b, 0, none⟩)] w fun e w' => e = .returned (.int .i64 f) ∧ Below w.heap.size w w' := by
  have h0 : (0 : Int) ≤ (x : Int) := by omega
  have h1 : (x : Int) < (n : Int) := by omega
  go_enter Try.func160, Try.ntmps160
  go_wp2
  go_ret
  exact ⟨rfl, Below.refl _ _⟩
end Go.Proofs.Ytcglpigmellfcab
