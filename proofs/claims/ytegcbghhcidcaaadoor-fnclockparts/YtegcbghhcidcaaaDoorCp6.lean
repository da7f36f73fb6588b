import Derived.Test.YtegcbghhcidcaaaDoorCp5
namespace Go.Proofs.YtegcbghhcidcaaaDoor
open Go.ChangeShapes Go.WideShapes Go.ChangeAt Go.RowKit

theorem cel9 {u : World} {b t : Nat} {a0 a1 a2 a3 a4 a5 a6 a7 a8 : Value} (h : u.heap[b]? = some (.cells #[a0, a1, a2, a3, a4, a5, a6, a7, a8] t (0, 0))) : u.cell? ⟨b, 0, none⟩ = some a0 ∧ u.cell? ⟨b, 1, none⟩ = some a1 ∧ u.cell? ⟨b, 2, none⟩ = some a2 ∧ u.cell? ⟨b, 3, none⟩ = some a3 ∧ u.cell? ⟨b, 4, none⟩ = some a4 ∧ u.cell? ⟨b, 5, none⟩ = some a5 ∧ u.cell? ⟨b, 6, none⟩ = some a6 ∧ u.cell? ⟨b, 7, none⟩ = some a7 ∧ u.cell? ⟨b, 8, none⟩ = some a8 ∧ ∀ x, u.frozen? ⟨b, x, none⟩ = false := by
  simp [World.cell?, World.frozen?, h]
theorem st9 {B : Nat} {w u : World} {b : Nat} {t : TypeId} {a0 a1 a2 a3 a4 a5 a6 a7 a8 : Value} (hb : Below B w u) (hB : B ≤ b) (h : u.heap[b]? = some (.cells #[a0, a1, a2, a3, a4, a5, a6, a7, a8] t (0, 0))) (v0 v1 v2 v3 v4 v5 v6 v7 v8 : Value) {U : World}
    (hU : (((((((((u.setCell ⟨b, 0, none⟩ v0).setCell ⟨b, 1, none⟩ v1).setCell ⟨b, 2, none⟩ v2).setCell ⟨b, 3, none⟩ v3).setCell ⟨b, 4, none⟩ v4).setCell ⟨b, 5, none⟩ v5).setCell ⟨b, 6, none⟩ v6).setCell ⟨b, 7, none⟩ v7).setCell ⟨b, 8, none⟩ v8) = U) : Below B w U ∧ U.heap[b]? = some (.cells #[v0, v1, v2, v3, v4, v5, v6, v7, v8] t (0, 0)) ∧ (∀ k, k ≠ b → U.heap[k]? = u.heap[k]?) := by
  subst hU
  refine ⟨?_, ?_, fun k hk => ?_⟩
  · exact (((((((((hb.setCell (p := ⟨b, 0, none⟩) hB _).setCell (p := ⟨b, 1, none⟩) hB _).setCell (p := ⟨b, 2, none⟩) hB _).setCell (p := ⟨b, 3, none⟩) hB _).setCell (p := ⟨b, 4, none⟩) hB _).setCell (p := ⟨b, 5, none⟩) hB _).setCell (p := ⟨b, 6, none⟩) hB _).setCell (p := ⟨b, 7, none⟩) hB _).setCell (p := ⟨b, 8, none⟩) hB _)
  · have k0 : (u.setCell ⟨b, 0, none⟩ v0).heap[b]? = some (.cells #[v0, a1, a2, a3, a4, a5, a6, a7, a8] t (0, 0)) := blk_set h 0 v0
    have k1 : ((u.setCell ⟨b, 0, none⟩ v0).setCell ⟨b, 1, none⟩ v1).heap[b]? = some (.cells #[v0, v1, a2, a3, a4, a5, a6, a7, a8] t (0, 0)) := blk_set k0 1 v1
    have k2 : (((u.setCell ⟨b, 0, none⟩ v0).setCell ⟨b, 1, none⟩ v1).setCell ⟨b, 2, none⟩ v2).heap[b]? = some (.cells #[v0, v1, v2, a3, a4, a5, a6, a7, a8] t (0, 0)) := blk_set k1 2 v2
    have k3 : ((((u.setCell ⟨b, 0, none⟩ v0).setCell ⟨b, 1, none⟩ v1).setCell ⟨b, 2, none⟩ v2).setCell ⟨b, 3, none⟩ v3).heap[b]? = some (.cells #[v0, v1, v2, v3, a4, a5, a6, a7, a8] t (0, 0)) := blk_set k2 3 v3
    have k4 : (((((u.setCell ⟨b, 0, none⟩ v0).setCell ⟨b, 1, none⟩ v1).setCell ⟨b, 2, none⟩ v2).setCell ⟨b, 3, none⟩ v3).setCell ⟨b, 4, none⟩ v4).heap[b]? = some (.cells #[v0, v1, v2, v3, v4, a5, a6, a7, a8] t (0, 0)) := blk_set k3 4 v4
    have k5 : ((((((u.setCell ⟨b, 0, none⟩ v0).setCell ⟨b, 1, none⟩ v1).setCell ⟨b, 2, none⟩ v2).setCell ⟨b, 3, none⟩ v3).setCell ⟨b, 4, none⟩ v4).setCell ⟨b, 5, none⟩ v5).heap[b]? = some (.cells #[v0, v1, v2, v3, v4, v5, a6, a7, a8] t (0, 0)) := blk_set k4 5 v5
    have k6 : (((((((u.setCell ⟨b, 0, none⟩ v0).setCell ⟨b, 1, none⟩ v1).setCell ⟨b, 2, none⟩ v2).setCell ⟨b, 3, none⟩ v3).setCell ⟨b, 4, none⟩ v4).setCell ⟨b, 5, none⟩ v5).setCell ⟨b, 6, none⟩ v6).heap[b]? = some (.cells #[v0, v1, v2, v3, v4, v5, v6, a7, a8] t (0, 0)) := blk_set k5 6 v6
    have k7 : ((((((((u.setCell ⟨b, 0, none⟩ v0).setCell ⟨b, 1, none⟩ v1).setCell ⟨b, 2, none⟩ v2).setCell ⟨b, 3, none⟩ v3).setCell ⟨b, 4, none⟩ v4).setCell ⟨b, 5, none⟩ v5).setCell ⟨b, 6, none⟩ v6).setCell ⟨b, 7, none⟩ v7).heap[b]? = some (.cells #[v0, v1, v2, v3, v4, v5, v6, v7, a8] t (0, 0)) := blk_set k6 7 v7
    have k8 : (((((((((u.setCell ⟨b, 0, none⟩ v0).setCell ⟨b, 1, none⟩ v1).setCell ⟨b, 2, none⟩ v2).setCell ⟨b, 3, none⟩ v3).setCell ⟨b, 4, none⟩ v4).setCell ⟨b, 5, none⟩ v5).setCell ⟨b, 6, none⟩ v6).setCell ⟨b, 7, none⟩ v7).setCell ⟨b, 8, none⟩ v8).heap[b]? = some (.cells #[v0, v1, v2, v3, v4, v5, v6, v7, v8] t (0, 0)) := blk_set k7 8 v8
    exact k8
  · exact (Below.heap_setCell _ _ _ _ hk).trans ((Below.heap_setCell _ _ _ _ hk).trans ((Below.heap_setCell _ _ _ _ hk).trans ((Below.heap_setCell _ _ _ _ hk).trans ((Below.heap_setCell _ _ _ _ hk).trans ((Below.heap_setCell _ _ _ _ hk).trans ((Below.heap_setCell _ _ _ _ hk).trans ((Below.heap_setCell _ _ _ _ hk).trans (Below.heap_setCell _ _ _ _ hk))))))))
set_option maxRecDepth 100000 in
theorem eqNilT (n c : Nat) (w : World) : Sem.run Tryd.prog (binOp BinOp.eql 23 (.slice none n c) (.slice none 0 0)) w = .ok (.bool true) w := by kernel_rfl
set_option maxRecDepth 100000 in
theorem neNilT (a : Addr) (n c : Nat) (w : World) : Sem.run Tryd.prog (binOp BinOp.eql 23 (.slice (some a) n c) (.slice none 0 0)) w = .ok (.bool false) w := by kernel_rfl
theorem Tryd.infoT34 : (Tryd.prog.info? 34).map (fun i => (i.zero, i.size, i.bytes)) = some (some (.agg #[.int .i64 0, .int .i64 0, .int .i64 0]), 3, 24) := by kernel_rfl
theorem app0 (w : World) (a : Addr) (cap : Nat) : ∃ v' u', (Builtin.append_ #[23, 23] 23 #[.slice (some ⟨w.heap.size, 0, none⟩) 0 0, .slice (some a) 0 cap]).run Tryd.prog (w.alloc (.cells #[] 34)) = .ok v' u' ∧ ((∃ ao c2, v' = .slice ao 0 c2) ∧ (w.alloc (.cells #[] 34)).grownBy u' (some w.heap.size)) := by
  obtain ⟨i0, hi0, hz0, hz1, hz2⟩ := info_parts Tryd.infoT34
  have H0 : (w.alloc (.cells #[] 34)).ownsRow w.heap.size 34 3 (.slice (some ⟨w.heap.size, 0, none⟩) 0 0) 0 [] := World.ownsRow_lit _ #[] 0 (by simp) (by decide) rfl
  obtain ⟨v', w', hr, h2, h3, _⟩ := run_append_own (P := Tryd.prog) (w.alloc (.cells #[] 34)) w.heap.size 23 23 34 i0 (.agg #[.int .i64 0, .int .i64 0, .int .i64 0]) 3 24 Tryd.underlying23 hi0 hz0 hz1 hz2 rfl (by decide) (.slice (some ⟨w.heap.size, 0, none⟩) 0 0) 0 [] H0 a 0 cap [] rfl (fun j u hj => by simp at hj) (fun u hu => by simp at hu) (by unfold maxLen; omega) (by omega) (by simp)
  obtain ⟨ao, c2, e⟩ := own_sl3 h2
  exact ⟨v', w', hr, ⟨ao, c2, e⟩, h3⟩
set_option maxRecDepth 100000 in
theorem clone0 (ao : Option Addr) (cap : Nat) (w : World) : Calls Tryd.prog 15 #[.slice ao 0 cap] w fun e w' => ∃ ao2 cap2, e = .returned (.slice ao2 0 cap2) ∧ Below w.heap.size w w' := by
  have n1 := eqNilT
  have n2 := neNilT
  cases ao with
  | none =>
    go_enter Tryd.func15, Tryd.ntmps15
    go_wp2
    go_ret
    exact ⟨_, _, rfl, Below.refl _ _⟩
  | some a =>
    have HAP : Hid _ := app0 w a cap
    go_enter Tryd.func15, Tryd.ntmps15
    go_wp2_with (at_builtin; refine wl_append_ex rfl _ _ 23 rfl _ _ rfl rfl HAP.out ?_; rintro v' u2 ⟨⟨a5, c5, rfl⟩, hg2⟩; have HG2 : Hid (Below w.heap.size w u2) := (bx1 w (.cells #[] 34)).grown hg2 (by simp) (fun j hj => by cases hj; exact Nat.le_refl _); clear hg2)
    go_ret
    exact ⟨_, _, rfl, HG2.out⟩
/-- A run under way: the clock's box and the answer's. -/
structure RC (w u : World) (c : CK) (v : Value) : Prop where
  bel : Below w.heap.size w u
  box : BoxK u w.heap.size 25 c v
  res : u.heap[w.heap.size + 1]? = some (.cells #[.int .i64 0, .int .i64 0, .int .i64 0, .int .i64 0, .int .i64 0, .int .i64 0, .bool false, .slice none 0 0, .slice none 0 0] 31 (0, 0))
theorem RC.lt {w u : World} {c : CK} {v : Value} (h : RC w u c v) : w.heap.size + 1 < u.heap.size := (Array.getElem?_eq_some_iff.1 h.res).1
theorem RC.step {w u u' : World} {c : CK} {v : Value} (h : RC w u c v) (hb : Below u.heap.size u u') : RC w u' c v := ⟨h.bel.trans (hb.mono h.bel.size), h.box.below hb, (hb.block _ h.lt).trans h.res⟩
theorem RC.grow {w u u' : World} {c c' : CK} {v v' : Value} (h : RC w u c v) (hg : u.grownBy u' (some w.heap.size)) (hx : BoxK u' w.heap.size 25 c' v') : RC w u' c' v' :=
  ⟨h.bel.grown hg h.bel.size (fun j hj => by cases hj; exact Nat.le_refl _), hx, (hg.block _ h.lt (by simp)).trans h.res⟩
theorem RC.new (w : World) (c : CK) (v : Value) : RC w ((w.alloc (.cells #[.int .i64 c.host, .int .i64 c.guest, .int .i64 c.num, .int .i64 c.den, .int .i64 c.part, .bool c.frz, v] 25)).alloc (.cells #[.int .i64 0, .int .i64 0, .int .i64 0, .int .i64 0, .int .i64 0, .int .i64 0, .bool false, .slice none 0 0, .slice none 0 0] 31)) c v := by
  refine ⟨((Below.refl _ _).alloc (Nat.le_refl _) _).alloc (by simp) _, ?_, ?_⟩
  · unfold BoxK
    rw [Below.heap_alloc _ _ _ (by simp)]
    exact heap_new _ _
  · simpa using heap_new (w.alloc (.cells #[.int .i64 c.host, .int .i64 c.guest, .int .i64 c.num, .int .i64 c.den, .int .i64 c.part, .bool c.frz, v] 25)) (.cells #[.int .i64 0, .int .i64 0, .int .i64 0, .int .i64 0, .int .i64 0, .int .i64 0, .bool false, .slice none 0 0, .slice none 0 0] 31)
theorem RC.set6 {w u : World} {c : CK} {v : Value} (h : RC w u c v) (v2 : Value) : RC w (u.setCell ⟨w.heap.size, 6, none⟩ v2) c v2 :=
  ⟨h.bel.setCell (by simp only; omega) _, blk_set h.box 6 v2, (Below.heap_setCell _ _ _ _ (by simp only; omega)).trans h.res⟩
def runA (c : CK) (x y : Value) : Value := .agg #[.int .i64 0, .int .i64 c.host, .int .i64 c.guest, .int .i64 c.num, .int .i64 c.den, .int .i64 c.part, .bool c.frz, x, y]
end Go.Proofs.YtegcbghhcidcaaaDoor
