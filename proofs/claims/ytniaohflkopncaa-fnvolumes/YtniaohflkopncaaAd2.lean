import Derived.Test.YtniaohflkopncaaAd1
namespace Go.Proofs.Ytniaohflkopncaa
open Go.ChangeShapes Go.WideShapes Go.ChangeAt Go.RowKit

set_option maxRecDepth 100000 in
theorem eqNilK (n c : Nat) (w : World) : Sem.run Try.prog (binOp BinOp.eql 25 (.slice none n c) (.slice none 0 0)) w = .ok (.bool true) w := by kernel_rfl
set_option maxRecDepth 100000 in
theorem neNilK (a : Addr) (n c : Nat) (w : World) : Sem.run Try.prog (binOp BinOp.eql 25 (.slice (some a) n c) (.slice none 0 0)) w = .ok (.bool false) w := by kernel_rfl
theorem wl_append_ex {P : Program} {ops : Array Oper} {rest : List Oper} {o : Oper} {a : Act} {w : World} {Q : Exit → Act → World → Prop} (hgd : o.guard = none) (s x : Operand) (t : TypeId)
    (ho : o.op = .call { callee := .builtin .append, args := #[s, x], argTypes := #[t, t] }) (v v2 : Value) (hs : a.eval s = v) (hx : a.eval x = v2) {R : Value → World → Prop}
    (hr : ∃ v' w', (Builtin.append_ #[t, t] o.type #[v, v2]).run P w = .ok v' w' ∧ R v' w') (h : ∀ v' w', R v' w' → wpList P ops Q rest (a.put o.dst v') w') : wpList P ops Q (o :: rest) a w :=
  wpList_plain hgd fun _ hK => by
    obtain ⟨v', w', hr, hR⟩ := hr
    unfold Oper.wp execOp
    simp only [ho, resolve, invoke, builtin, Sem.run_bind, Sem.run_pure, Result.andThen_ok, List.map_toArray, List.map_cons, List.map_nil, hs, hx, hr]
    exact hK _ _ (h v' w' hR)
theorem wp_append_ex {P : Program} {o : Oper} {a : Act} {w : World} {K : Act → World → Prop} {Q : Exit → Act → World → Prop} (s x : Operand) (t : TypeId)
    (ho : o.op = .call { callee := .builtin .append, args := #[s, x], argTypes := #[t, t] }) (v v2 : Value) (hs : a.eval s = v) (hx : a.eval x = v2) {R : Value → World → Prop}
    (hr : ∃ v' w', (Builtin.append_ #[t, t] o.type #[v, v2]).run P w = .ok v' w' ∧ R v' w') (h : ∀ v' w', R v' w' → K (a.put o.dst v') w') : o.wp P a w K Q := by
  obtain ⟨v', w', hr, hR⟩ := hr
  unfold Oper.wp execOp
  simp only [ho, resolve, invoke, builtin, Sem.run_bind, Sem.run_pure, Result.andThen_ok, List.map_toArray, List.map_cons, List.map_nil, hs, hx, hr]
  exact h v' w' hR
theorem own_none (w : World) : (w.alloc (.cells #[] 70)).ownsRow w.heap.size 70 3 (.slice (some ⟨w.heap.size, 0, none⟩) 0 0) 0 [] := World.ownsRow_lit _ #[] 0 (by simp) (by decide) rfl
theorem appK0 {w : World} {ao : Option Addr} {cap : Nat} {zs : List KS} (h : KSrow w (.slice ao zs.length cap) zs) (hl : zs.length ≤ 1048576) : ∃ v' u', (Builtin.append_ #[25, 25] 25 #[.slice (some ⟨w.heap.size, 0, none⟩) 0 0, .slice ao zs.length cap]).run Try.prog (w.alloc (.cells #[] 70)) = .ok v' u' ∧ (u'.ownsRow w.heap.size 70 3 v' zs.length (ksR zs) ∧ (w.alloc (.cells #[] 70)).grownBy u' (some w.heap.size)) := by
  obtain ⟨v', u', h1, h2, h3⟩ := appK (xs := []) (own_none w) (h.below (bx1 _ _)) (by simpa using hl) (by simp)
  exact ⟨v', u', h1, h2, h3⟩
set_option maxRecDepth 100000 in
set_option maxHeartbeats 4000000 in
theorem cloneK_any {w : World} {v : Value} {zs : List KS} (h : KSrow w v zs) (hl : zs.length ≤ 1048576) : Calls Try.prog 35 #[v] w fun e w' => ∃ u, e = .returned u ∧ w'.ownsRow w.heap.size 70 3 u zs.length (ksR zs) ∧ Below w.heap.size w w' := by
  obtain ⟨ao, cap, rfl⟩ := h.sl
  have n1 := eqNilK
  have n2 := neNilK
  have HAP : Hid _ := appK0 h hl
  cases ao with
  | none =>
    have hz : zs = [] := by
      rcases h with ⟨q, _⟩ | ⟨g, o, c1, hv, _⟩
      · exact q
      · injection hv with q1
        cases q1
    subst hz
    clear h hl HAP
    go_enter Try.func35, Try.ntmps35
    go_wp2
    go_ret
    exact ⟨_, rfl, World.ownsRow_nil _ _ _ _, Below.refl _ _⟩
  | some a =>
    clear h
    go_enter Try.func35, Try.ntmps35
    go_wp2_with (at_builtin; (refine wl_append_ex rfl _ _ 25 rfl _ _ rfl rfl HAP.out ?_; rintro v' u' ⟨ho, hg⟩; have HO : Hid (u'.ownsRow w.heap.size 70 3 v' zs.length (ksR zs)) := ho; have HG : Hid (Below w.heap.size w u') := ((Below.refl w.heap.size w).alloc (Nat.le_refl _) _).grown hg (by simp) (fun j hj => by cases hj; exact Nat.le_refl _); clear ho hg HAP))
    go_ret
    exact ⟨_, rfl, HO.out, HG.out⟩
end Go.Proofs.Ytniaohflkopncaa
