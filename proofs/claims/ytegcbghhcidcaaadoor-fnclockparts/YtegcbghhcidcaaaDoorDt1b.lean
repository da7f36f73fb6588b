import Derived.Test.YtegcbghhcidcaaaDoorDt1
import Derived.Test.YtegcbghhcidcaaaDoorCp4
import Derived.Test.YtegcbghhcidcaaaDoorRegE
import Derived.Maps.AppendAt
import Derived.OwnWalk
namespace Go.Proofs.YtegcbghhcidcaaaDoor
open Go.ChangeShapes Go.WideShapes Go.ChangeAt Go.RowKit

/-- A clock under way in its box p; its answer's box stands at w's end. -/
structure CB (B0 : Nat) (a : Option Addr) (len cap : Nat) (w : World) (p : Nat) (c : CK) (x : Value) (n : Nat) (u : World) : Prop where
  lt : B0 < w.heap.size
  src : SrcOk u B0 a len cap
  gr : w.grownBy u (some B0)
  lo : w.heap.size < p
  res : u.heap[w.heap.size]? = some (.cells #[.int .i64 0, .int .i64 0, .int .i64 0, .int .i64 0, .int .i64 0, .bool false, .slice none 0 0] 25 (0, 0))
  box : BoxK u p 25 c x
  own : ∃ ys, u.ownsRow (w.heap.size + 1) 34 3 x n ys
  ob : x.ownBlock ≠ some p
theorem own_g {u u' : World} {B b n : Nat} {v : Value} {xs : List Value} (h : u.ownsRow B 34 3 v n xs) (hb : b < B) (hg : u.grownBy u' (some b)) : u'.ownsRow B 34 3 v n xs := by
  refine h.kept hg ?_
  cases ho : v.ownBlock with
  | none => exact .inl rfl
  | some q => exact .inr (by have := h.lt q ho; simp; omega)
theorem CB.step {B0 : Nat} {a : Option Addr} {len cap : Nat} {w : World} {p : Nat} {c : CK} {x : Value} {n : Nat} {u u' : World} (h : CB B0 a len cap w p c x n u) (hs : SrcOk u' B0 a len cap) (hg : u.grownBy u' (some B0)) : CB B0 a len cap w p c x n u' := by
  have h1 := h.lt
  have h2 := h.lo
  obtain ⟨ys, ho⟩ := h.own
  exact ⟨h.lt, hs, Lib.grownBy_trans h.gr hg, h.lo, (hg.block _ (Array.getElem?_eq_some_iff.1 h.res).1 (by simp; omega)).trans h.res, (hg.block p h.box.lt (by simp; omega)).trans h.box, ⟨ys, own_g ho (by omega) hg⟩, h.ob⟩
theorem CB.set {B0 : Nat} {a : Option Addr} {len cap : Nat} {w : World} {p : Nat} {c c' : CK} {x : Value} {n : Nat} {u : World} {o : Nat} {y : Value} (h : CB B0 a len cap w p c x n u) (hx : BoxK (u.setCell ⟨p, o, none⟩ y) p 25 c' x) : CB B0 a len cap w p c' x n (u.setCell ⟨p, o, none⟩ y) := by
  have h1 := h.lt
  have h2 := h.lo
  obtain ⟨ys, ho⟩ := h.own
  exact ⟨h.lt, s_set h.src (by omega), g_set h.gr (by omega), h.lo, (Below.heap_setCell _ _ _ _ (by simp only; omega)).trans h.res, hx, ⟨ys, own_set ho (by simpa using h.ob)⟩, h.ob⟩
theorem cb_put {B0 : Nat} {a : Option Addr} {len cap : Nat} {w u : World} {p : Nat} (lt : B0 < w.heap.size) (src : SrcOk u B0 a len cap) (gr : w.grownBy u (some B0)) (lo : w.heap.size < p) (res : u.heap[w.heap.size]? = some (.cells #[.int .i64 0, .int .i64 0, .int .i64 0, .int .i64 0, .int .i64 0, .bool false, .slice none 0 0] 25 (0, 0))) (box : u.heap[p]? = some (.cells #[.int .i64 0, .int .i64 0, .int .i64 0, .int .i64 0, .int .i64 0, .bool false, .slice none 0 0] 25 (0, 0))) (c : CK) {U : World} (hU : ((((((u.setCell ⟨p, 0, none⟩ (.int .i64 c.host)).setCell ⟨p, 1, none⟩ (.int .i64 c.guest)).setCell ⟨p, 2, none⟩ (.int .i64 c.num)).setCell ⟨p, 3, none⟩ (.int .i64 c.den)).setCell ⟨p, 4, none⟩ (.int .i64 c.part)).setCell ⟨p, 5, none⟩ (.bool c.frz)).setCell ⟨p, 6, none⟩ (.slice none 0 0) = U) : CB B0 a len cap w p c (.slice none 0 0) 0 U := by
  obtain ⟨_, e2, e3⟩ := st7 (Below.refl 0 u) (Nat.zero_le _) box (.int .i64 c.host) (.int .i64 c.guest) (.int .i64 c.num) (.int .i64 c.den) (.int .i64 c.part) (.bool c.frz) (.slice none 0 0) hU
  subst hU
  exact ⟨lt, s_set (s_set (s_set (s_set (s_set (s_set (s_set src (by omega)) (by omega)) (by omega)) (by omega)) (by omega)) (by omega)) (by omega), g_set (g_set (g_set (g_set (g_set (g_set (g_set gr (by omega)) (by omega)) (by omega)) (by omega)) (by omega)) (by omega)) (by omega), lo, (e3 _ (by omega)).trans res, e2, ⟨[], World.ownsRow_nil _ _ _ _⟩, by simp [Value.ownBlock]⟩
theorem wp_append_ex {P : Program} {o : Oper} {a : Act} {w : World} {K : Act → World → Prop} {Q : Exit → Act → World → Prop} (s x : Operand) (t : TypeId)
    (ho : o.op = .call { callee := .builtin .append, args := #[s, x], argTypes := #[t, t] }) (v v2 : Value) (hs : a.eval s = v) (hx : a.eval x = v2) {R : Value → World → Prop}
    (hr : ∃ v' w', (Builtin.append_ #[t, t] o.type #[v, v2]).run P w = .ok v' w' ∧ R v' w') (h : ∀ v' w', R v' w' → K (a.put o.dst v') w') : o.wp P a w K Q := by
  obtain ⟨v', w', hr, hR⟩ := hr
  unfold Oper.wp execOp
  simp only [ho, resolve, invoke, builtin, Sem.run_bind, Sem.run_pure, Result.andThen_ok, List.map_toArray, List.map_cons, List.map_nil, hs, hx, hr]
  exact h v' w' hR
theorem infoTM : (Tryd.prog.info? 34).map (fun i => (i.zero, i.size, i.bytes)) = some (some (.agg #[.int .i64 0, .int .i64 0, .int .i64 0]), 3, 24) := by kernel_rfl
/-- One timer more. -/
theorem appTM {w : World} {lo n : Nat} {v : Value} {ys : List Value} (h : w.ownsRow lo 34 3 v n ys) (hn : n ≤ 1048576) (hlo : lo ≤ w.heap.size) (x0 x1 x2 : Int) : ∃ v' u', (Builtin.append_ #[23, 23] 23 #[v, .slice (some ⟨w.heap.size, 0, none⟩) 1 1]).run Tryd.prog (w.alloc (.cells #[.int .i64 x0, .int .i64 x1, .int .i64 x2] 34)) = .ok v' u' ∧ ((∃ zs, u'.ownsRow lo 34 3 v' (n + 1) zs) ∧ (w.alloc (.cells #[.int .i64 x0, .int .i64 x1, .int .i64 x2] 34)).grownBy u' v.ownBlock ∧ (v'.ownBlock = v.ownBlock ∨ v'.ownBlock = some (w.heap.size + 1))) := by
  obtain ⟨i0, hi0, hz0, hz1, hz2⟩ := info_parts infoTM
  have hn1 := heap_new w (.cells #[.int .i64 x0, .int .i64 x1, .int .i64 x2] 34)
  obtain ⟨v', w', hr, h2, h3, _, h5⟩ := run_append_own_at (P := Tryd.prog) (w.alloc (.cells #[.int .i64 x0, .int .i64 x1, .int .i64 x2] 34)) lo 23 23 34 i0 (.agg #[.int .i64 0, .int .i64 0, .int .i64 0]) 3 24 Tryd.underlying23 hi0 hz0 hz1 hz2 rfl (by decide) v n ys (h.alloc _) ⟨w.heap.size, 0, none⟩ 1 1 [.int .i64 x0, .int .i64 x1, .int .i64 x2] rfl (fun j u hj => by
    match j, hj with
    | 0, hj => obtain rfl := Option.some.inj hj; exact (cel3x hn1).1
    | 1, hj => obtain rfl := Option.some.inj hj; exact (cel3x hn1).2.1
    | 2, hj => obtain rfl := Option.some.inj hj; exact (cel3x hn1).2.2
    | j + 3, hj => simp at hj) (fun u hu => by
    simp at hu
    rcases hu with rfl | rfl | rfl <;> rfl) (by unfold maxLen; omega) (by omega) (by simp; omega)
  exact ⟨v', w', hr, ⟨_, h2⟩, h3, by simpa using h5⟩
/-- What of it stays while a timer is put to the row. -/
structure CW (B0 : Nat) (a : Option Addr) (len cap : Nat) (w : World) (p : Nat) (c : CK) (x : Value) (u : World) : Prop where
  lt : B0 < w.heap.size
  src : SrcOk u B0 a len cap
  gr : w.grownBy u (some B0)
  lo : w.heap.size < p
  res : u.heap[w.heap.size]? = some (.cells #[.int .i64 0, .int .i64 0, .int .i64 0, .int .i64 0, .int .i64 0, .bool false, .slice none 0 0] 25 (0, 0))
  box : BoxK u p 25 c x
theorem CB.weak {B0 : Nat} {a : Option Addr} {len cap : Nat} {w : World} {p : Nat} {c : CK} {x : Value} {n : Nat} {u : World} (h : CB B0 a len cap w p c x n u) : CW B0 a len cap w p c x u := ⟨h.lt, h.src, h.gr, h.lo, h.res, h.box⟩
theorem CB.al {B0 : Nat} {a : Option Addr} {len cap : Nat} {w : World} {p : Nat} {c : CK} {x : Value} {n : Nat} {u : World} (h : CB B0 a len cap w p c x n u) (o : Obj) : CB B0 a len cap w p c x n (u.alloc o) := h.step (h.src.far (World.grownBy_alloc _ _ none)) gAl
theorem CB.drew {B0 : Nat} {a : Option Addr} {len cap : Nat} {w : World} {p : Nat} {c : CK} {x : Value} {n : Nat} {u : World} (h : CB B0 a len cap w p c x n u) : CB B0 a len cap w p c x n u.drew := h.step (h.src.bel (Below.refl _ _).drew) ⟨rfl, rfl, rfl, Nat.le_refl _, fun _ _ _ => rfl⟩
theorem CB.app {B0 : Nat} {a : Option Addr} {len cap : Nat} {w : World} {p : Nat} {c : CK} {x x' : Value} {n n' : Nat} {u u' : World} (h : CB B0 a len cap w p c x n u) (hg : u.grownBy u' x.ownBlock) (ho : ∃ zs, u'.ownsRow (w.heap.size + 1) 34 3 x' n' zs) (hb : x'.ownBlock = x.ownBlock ∨ x'.ownBlock = some u.heap.size) : CW B0 a len cap w p c x u' ∧ CB B0 a len cap w p c x' n' (u'.setCell ⟨p, 6, none⟩ x') := by
  obtain ⟨ys, hown⟩ := h.own
  have hr : ∀ j, x.ownBlock = some j → w.heap.size + 1 ≤ j := fun j hj => (hown.lt j hj).1
  have h1 := h.lt
  have h2 := h.lo
  have h3 := h.gr.size
  have hps := h.box.lt
  have hs : SrcOk u' B0 a len cap := h.src.keep (fun i hi => hg.block i (by omega) (fun e => by have := hr i e.symm; omega))
  have hgr : w.grownBy u' (some B0) := gfar h.gr hg (fun k hk => by have := hr k hk; omega)
  have hres := (hg.block w.heap.size (by omega) (fun e => by have := hr _ e.symm; omega)).trans h.res
  have hbox : BoxK u' p 25 c x := h.box.kept hg (fun e => h.ob e.symm)
  have hob : x'.ownBlock ≠ some p := by
    rcases hb with e | e
    · rw [e]; exact h.ob
    · rw [e]; simp; omega
  refine ⟨⟨h.lt, hs, hgr, h.lo, hres, hbox⟩, h.lt, s_set hs (by omega), g_set hgr (by omega), h.lo, (Below.heap_setCell _ _ _ _ (by simp only; omega)).trans hres, ?_, ?_, hob⟩
  · unfold BoxK at hbox ⊢
    simp [World.setCell, Array.getElem?_modify, hbox]
  · obtain ⟨zs, hz⟩ := ho
    exact ⟨zs, own_set hz (by simpa using hob)⟩
theorem CB.put0 {B0 : Nat} {a : Option Addr} {len cap : Nat} {w : World} {p : Nat} {c : CK} {x : Value} {n : Nat} {u : World} (h : CB B0 a len cap w p c x n u) (y : Int) : CB B0 a len cap w p { c with host := y } x n (u.setCell ⟨p, 0, none⟩ (.int .i64 y)) := h.set (by have hb := h.box; unfold BoxK at hb ⊢; simp [World.setCell, Array.getElem?_modify, hb])
theorem CB.put1 {B0 : Nat} {a : Option Addr} {len cap : Nat} {w : World} {p : Nat} {c : CK} {x : Value} {n : Nat} {u : World} (h : CB B0 a len cap w p c x n u) (y : Int) : CB B0 a len cap w p { c with guest := y } x n (u.setCell ⟨p, 1, none⟩ (.int .i64 y)) := h.set (by have hb := h.box; unfold BoxK at hb ⊢; simp [World.setCell, Array.getElem?_modify, hb])
theorem CB.put2 {B0 : Nat} {a : Option Addr} {len cap : Nat} {w : World} {p : Nat} {c : CK} {x : Value} {n : Nat} {u : World} (h : CB B0 a len cap w p c x n u) (y : Int) : CB B0 a len cap w p { c with num := y } x n (u.setCell ⟨p, 2, none⟩ (.int .i64 y)) := h.set (by have hb := h.box; unfold BoxK at hb ⊢; simp [World.setCell, Array.getElem?_modify, hb])
theorem CB.put3 {B0 : Nat} {a : Option Addr} {len cap : Nat} {w : World} {p : Nat} {c : CK} {x : Value} {n : Nat} {u : World} (h : CB B0 a len cap w p c x n u) (y : Int) : CB B0 a len cap w p { c with den := y } x n (u.setCell ⟨p, 3, none⟩ (.int .i64 y)) := h.set (by have hb := h.box; unfold BoxK at hb ⊢; simp [World.setCell, Array.getElem?_modify, hb])
theorem CB.put4 {B0 : Nat} {a : Option Addr} {len cap : Nat} {w : World} {p : Nat} {c : CK} {x : Value} {n : Nat} {u : World} (h : CB B0 a len cap w p c x n u) (y : Int) : CB B0 a len cap w p { c with part := y } x n (u.setCell ⟨p, 4, none⟩ (.int .i64 y)) := h.set (by have hb := h.box; unfold BoxK at hb ⊢; simp [World.setCell, Array.getElem?_modify, hb])
theorem CB.put6 {B0 : Nat} {a : Option Addr} {len cap : Nat} {w : World} {p : Nat} {c : CK} {x : Value} {n : Nat} {u : World} (h : CB B0 a len cap w p c x n u) : CB B0 a len cap w p c (.slice (some ⟨u.heap.size, 0, none⟩) 0 0) 0 ((u.alloc (.cells #[] 34)).setCell ⟨p, 6, none⟩ (.slice (some ⟨u.heap.size, 0, none⟩) 0 0)) := by
  have h9 := h.al (.cells #[] 34)
  have h1 := h.lt
  have h2 := h.lo
  have h3 := h.gr.size
  have hps := h.box.lt
  have HEM : (u.alloc (.cells #[] 34)).ownsRow u.heap.size 34 3 (.slice (some ⟨u.heap.size, 0, none⟩) 0 0) 0 [] := World.ownsRow_lit u #[] 0 (by simp) (by decide) rfl
  have hnb : (Value.slice (some ⟨u.heap.size, 0, none⟩) 0 0).ownBlock ≠ some p := fun e => by
    simp [Value.ownBlock] at e
    omega
  refine ⟨h.lt, s_set h9.src (by omega), g_set h9.gr (by omega), h.lo, (Below.heap_setCell _ _ _ _ (by simp only; omega)).trans h9.res, ?_, ⟨[], own_set (ti_weak HEM (by omega)) hnb⟩, hnb⟩
  have hb := h9.box
  unfold BoxK at hb ⊢
  simp [World.setCell, Array.getElem?_modify, hb]
/-- The answer's box is filled. -/
theorem CB.fin {B0 : Nat} {a : Option Addr} {len cap : Nat} {w : World} {p : Nat} {c : CK} {x : Value} {n : Nat} {u U : World} (h : CB B0 a len cap w p c x n u) (hU : ((((((u.setCell ⟨w.heap.size, 0, none⟩ (.int .i64 c.host)).setCell ⟨w.heap.size, 1, none⟩ (.int .i64 c.guest)).setCell ⟨w.heap.size, 2, none⟩ (.int .i64 c.num)).setCell ⟨w.heap.size, 3, none⟩ (.int .i64 c.den)).setCell ⟨w.heap.size, 4, none⟩ (.int .i64 c.part)).setCell ⟨w.heap.size, 5, none⟩ (.bool c.frz)).setCell ⟨w.heap.size, 6, none⟩ x = U) : U.heap[w.heap.size]? = some (.cells #[.int .i64 c.host, .int .i64 c.guest, .int .i64 c.num, .int .i64 c.den, .int .i64 c.part, .bool c.frz, x] 25 (0, 0)) ∧ (∃ ys, U.ownsRow (w.heap.size + 1) 34 3 x n ys) ∧ SrcOk U B0 a len cap ∧ w.grownBy U (some B0) := by
  obtain ⟨_, e2, e3⟩ := st7 (Below.refl 0 u) (Nat.zero_le _) h.res (.int .i64 c.host) (.int .i64 c.guest) (.int .i64 c.num) (.int .i64 c.den) (.int .i64 c.part) (.bool c.frz) x hU
  subst hU
  have h1 := h.lt
  obtain ⟨ys, ho⟩ := h.own
  have hne : x.ownBlock ≠ some w.heap.size := fun e => by have := (ho.lt _ e).1; omega
  refine ⟨e2, ⟨ys, ?_⟩, s_set (s_set (s_set (s_set (s_set (s_set (s_set h.src (by omega)) (by omega)) (by omega)) (by omega)) (by omega)) (by omega)) (by omega), g_set (g_set (g_set (g_set (g_set (g_set (g_set h.gr (Nat.le_refl _)) (Nat.le_refl _)) (Nat.le_refl _)) (Nat.le_refl _)) (Nat.le_refl _)) (Nat.le_refl _)) (Nat.le_refl _)⟩
  exact own_set (own_set (own_set (own_set (own_set (own_set (own_set ho hne) hne) hne) hne) hne) hne) hne
end Go.Proofs.YtegcbghhcidcaaaDoor
