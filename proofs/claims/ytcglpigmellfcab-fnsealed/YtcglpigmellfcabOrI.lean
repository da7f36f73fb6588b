import Derived.Test.YtcglpigmellfcabRowI
import Derived.Test.YtcglpigmellfcabMemF
import Derived.Maps.AppendAt
import Derived.Laws.OwnMore
import Derived.Deep.DeepCutAuto
namespace Go.Proofs.Ytcglpigmellfcab
open Go.ChangeShapes Go.WideShapes Go.ChangeAt Go.RowKit

/-- A row of numbers of one's own: it may begin anywhere in its block. -/
def Orow (w : World) (B : Nat) (v : Value) (zs : List Int) : Prop := (zs = [] ∧ ∃ ao cap, v = .slice ao 0 cap) ∨ ∃ g o cap cur, v = .slice (some ⟨g, o, none⟩) zs.length cap ∧ B ≤ g ∧ zs.length ≤ cap ∧ w.heap[g]? = some (.cells cur 2 (0, 0)) ∧ ∀ (k : Nat) (hk : k < zs.length), cur[o + k]? = some (.int .i64 zs[k])
theorem Orow.irow {w : World} {B : Nat} {v : Value} {zs : List Int} (h : Orow w B v zs) : Irow w v zs := by
  rcases h with h | ⟨g, o, cap, cur, hv, _, hc, hg, ha⟩
  · exact .inl h
  · exact .inr ⟨g, o, cap, hv, hc, (Array.getElem?_eq_some_iff.1 hg).1, fun k hk => by simp [World.cell?, hg, ha k hk]⟩
theorem Orow.below {w w' : World} {B : Nat} {v : Value} {zs : List Int} (h : Orow w B v zs) (hb : Below w.heap.size w w') : Orow w' B v zs := by
  rcases h with h | ⟨g, o, cap, cur, hv, hB, hc, hg, ha⟩
  · exact .inl h
  · exact .inr ⟨g, o, cap, cur, hv, hB, hc, (hb.block _ (Array.getElem?_eq_some_iff.1 hg).1).trans hg, ha⟩
theorem Orow.of {w : World} {B : Nat} {v : Value} {zs : List Int} (h : w.ownsRow B 2 1 v zs.length (iR zs)) : Orow w B v zs := by
  rcases h.2 with ⟨rfl, e⟩ | ⟨g, cap, cur, rfl, hB, hg, hc, _, _, htk⟩
  · exact .inl ⟨List.length_eq_zero_iff.1 e, _, _, by rfl⟩
  · refine .inr ⟨g, 0, cap, cur, rfl, hB, hc, hg, fun k hk => ?_⟩
    have h1 : (cur.toList.take (zs.length * 1))[k]? = (iR zs)[k]? := by rw [htk]
    rw [List.getElem?_take, if_pos (by omega), Array.getElem?_toList] at h1
    rw [Nat.zero_add, h1]
    simp [iR, List.getElem?_eq_getElem hk]
/-- An append, by what it is known to come to. -/
theorem wl_append_ex {P : Program} {ops : Array Oper} {rest : List Oper} {o : Oper} {a : Act} {w : World} {Q : Exit → Act → World → Prop} (hgd : o.guard = none) (s x : Operand) (t : TypeId)
    (ho : o.op = .call { callee := .builtin .append, args := #[s, x], argTypes := #[t, t] }) (v v2 : Value) (hs : a.eval s = v) (hx : a.eval x = v2) {R : Value → World → Prop}
    (hr : ∃ v' w', (Builtin.append_ #[t, t] o.type #[v, v2]).run P w = .ok v' w' ∧ R v' w') (h : ∀ v' w', R v' w' → wpList P ops Q rest (a.put o.dst v') w') : wpList P ops Q (o :: rest) a w :=
  wpList_plain hgd fun _ hK => by
    obtain ⟨v', w', hr, hR⟩ := hr
    unfold Oper.wp execOp
    simp only [ho, resolve, invoke, builtin, Sem.run_bind, Sem.run_pure, Result.andThen_ok, List.map_toArray, List.map_cons, List.map_nil, hs, hx, hr]
    exact hK _ _ (h v' w' hR)
theorem iR_cells {w : World} {a : Addr} {n cap : Nat} {zs : List Int} (h : Irow w (.slice (some a) n cap) zs) : ∀ j u, (iR zs)[j]? = some u → w.cell? (a.add j) = some u := by
  intro j u hj
  rcases h with ⟨rfl, _⟩ | ⟨g, o, c1, hv, hc, hg, ha⟩
  · simp [iR] at hj
  · injection hv with q1
    injection q1 with q2
    subst q2
    have hjl : j < zs.length := by
      have := (List.getElem?_eq_some_iff.1 hj).1
      simpa [iR] using this
    have e1 : (iR zs)[j]? = some (.int .i64 zs[j]) := by simp [iR, List.getElem?_eq_getElem hjl]
    rw [e1] at hj
    rw [Addr.add_lit, ← hj]
    exact ha j hjl
theorem iR_one (zs : List Int) : ∀ u ∈ iR zs, u.oneCell' = true := by
  intro u hu
  obtain ⟨z, _, rfl⟩ := List.mem_map.1 hu
  rfl
set_option maxRecDepth 100000 in
set_option maxHeartbeats 4000000 in
theorem l01Ints_any {w : World} {v : Value} {zs : List Int} (h : Irow w v zs) (hl : zs.length ≤ 1048576) : Calls Try.prog 81 #[v] w fun e w' => ∃ u, e = .returned u ∧ Orow w' w.heap.size u zs ∧ Below w.heap.size w w' := by
  obtain ⟨ao, cap, rfl⟩ := h.sl
  have H0 : Hid ((w.alloc (.cells #[] 2)).ownsRow w.heap.size 2 1 (.slice (some ⟨w.heap.size, 0, none⟩) 0 0) 0 []) := World.ownsRow_lit _ #[] 0 (by simp) (by decide) rfl
  have hA : Irow (w.alloc (.cells #[] 2)) (.slice ao zs.length cap) zs := h.below ((Below.refl _ _).alloc (Nat.le_refl _) _)
  have HAP : Hid (∃ v' u', (Builtin.append_ #[27, 27] 27 #[.slice (some ⟨w.heap.size, 0, none⟩) 0 0, .slice ao zs.length cap]).run Try.prog (w.alloc (.cells #[] 2)) = .ok v' u' ∧ (u'.ownsRow w.heap.size 2 1 v' zs.length (iR zs) ∧ (w.alloc (.cells #[] 2)).grownBy u' (some w.heap.size))) := by
    obtain ⟨i0, hi0, hz0, hz1, hz2⟩ := info_parts Try.info2
    cases ao with
    | none =>
      have hz : zs = [] := by
        rcases h with ⟨q, _⟩ | ⟨g, o, c1, hv, _⟩
        · exact q
        · injection hv with q1
          cases q1
      subst hz
      refine ⟨.slice (some ⟨w.heap.size, 0, none⟩) 0 0, w.alloc (.cells #[] 2), ?_, H0.out, ⟨rfl, rfl, rfl, Nat.le_refl _, fun _ _ _ => rfl⟩⟩
      simp [Builtin.append_, run_underlying Try.underlying27, sizeOf, typeInfo, hi0, Builtin.lenOf, Builtin.firstCells, storeCells]
    | some a =>
      obtain ⟨v', w', hr, h2, h3, _, _⟩ := run_append_own_at (P := Try.prog) (w.alloc (.cells #[] 2)) w.heap.size 27 27 2 i0 (.int .i64 0) 1 8 Try.underlying27 hi0 hz0 hz1 hz2 rfl (by decide) (.slice (some ⟨w.heap.size, 0, none⟩) 0 0) 0 [] H0.out a zs.length cap (iR zs) (by rw [iR_len]) (iR_cells hA) (iR_one zs) (by unfold maxLen; omega) (by omega) (by simp)
      rw [Nat.zero_add, List.nil_append] at h2
      exact ⟨v', w', hr, h2, h3⟩
  clear h hA H0
  go_enter Try.func81, Try.ntmps81
  go_wp2_with (at_builtin; (refine wl_append_ex rfl _ _ 27 rfl _ _ rfl rfl HAP.out ?_; rintro v' u' ⟨ho, hg⟩; have HO : Hid (u'.ownsRow w.heap.size 2 1 v' zs.length (iR zs)) := ho; have HG : Hid (Below w.heap.size w u') := ((Below.refl w.heap.size w).alloc (Nat.le_refl _) _).grown hg (by simp) (fun j hj => by cases hj; exact Nat.le_refl _); clear ho hg HAP))
  go_ret
  exact ⟨_, rfl, Orow.of HO.out, HG.out⟩
theorem eqNilI (n c : Nat) (w : World) : Sem.run Try.prog (binOp BinOp.eql 27 (.slice none n c) (.slice none 0 0)) w = .ok (.bool true) w := by kernel_rfl
theorem neNilI (a : Addr) (n c : Nat) (w : World) : Sem.run Try.prog (binOp BinOp.eql 27 (.slice (some a) n c) (.slice none 0 0)) w = .ok (.bool false) w := by kernel_rfl
end Go.Proofs.Ytcglpigmellfcab
