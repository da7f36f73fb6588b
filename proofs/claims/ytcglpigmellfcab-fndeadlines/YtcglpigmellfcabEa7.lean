import Derived.Test.YtcglpigmellfcabEa6
namespace Go.Proofs.Ytcglpigmellfcab
open Go.ChangeShapes Go.WideShapes Go.ChangeAt Go.RowKit

def rkT (z : TK) : RK := ⟨z.start, z.period, z.budget⟩
theorem rkT_bgn (q : Int) (z : TK) : rkT (bgn q z) = rkT z := by
  unfold bgn
  split <;> rfl
theorem rkT_stp (q : Int) (zs : List TK) : (stp q zs).1.map rkT = zs.map rkT := by
  have hb : (zs.map (bgn q)).map rkT = zs.map rkT := by
    rw [List.map_map]
    exact List.map_congr_left fun z _ => rkT_bgn q z
  simp only [stp, aft]
  split
  · rename_i h0
    have h1 := (nx_b (zs.map (bgn q)) zs.length).2
    have hlt : (nx (zs.map (bgn q)) zs.length).toNat < (zs.map (bgn q)).length := by simp; omega
    rw [List.map_set, hb]
    have e : rkT { (zs.map (bgn q)).getD (nx (zs.map (bgn q)) zs.length).toNat tk0 with left := ((zs.map (bgn q)).getD (nx (zs.map (bgn q)) zs.length).toNat tk0).left - 1 } = (zs.map rkT)[(nx (zs.map (bgn q)) zs.length).toNat]'(by simpa using hlt) := by
      have e2 : (zs.map (bgn q)).getD (nx (zs.map (bgn q)) zs.length).toNat tk0 = (zs.map (bgn q))[(nx (zs.map (bgn q)) zs.length).toNat] := by simp [List.getD, List.getElem?_eq_getElem hlt]
      rw [e2]
      simp only [← hb, List.getElem_map]
      rfl
    rw [e]
    exact List.set_getElem_self _
  · exact hb
theorem rkT_run (zs : List TK) : ∀ k, (runK zs k).1.map rkT = zs.map rkT
  | 0 => rfl
  | k + 1 => by
    rw [runK]
    simp only
    rw [rkT_stp]
    exact rkT_run zs k
theorem rkT_of (zs : List RK) : (zs.map tkOf).map rkT = zs := by
  rw [List.map_map]
  conv => rhs; rw [← List.map_id zs]
  exact List.map_congr_left fun z _ => rfl
/-- A row of numbers in its block. -/
def IOw (w : World) (B g n : Nat) (ys : List Int) : Prop := w.ownsRow B 2 1 (.slice (some ⟨g, 0, none⟩) n n) n (iR ys)
theorem IOw.at {w : World} {B g n : Nat} {ys : List Int} (h : IOw w B g n ys) (k : Nat) (hk : k < ys.length) : w.cell? ⟨g, k, none⟩ = some (.int .i64 ys[k]) ∧ w.frozen? ⟨g, k, none⟩ = false ∧ g < w.heap.size := by
  have hl := h.1
  have hc := World.ownsRow.cellAt h k (by simp [iR] at hl; omega)
  refine ⟨by rw [hc]; simp [iR, hk], World.ownsRow.frozenAt h k, (World.ownsRow.lt h g rfl).2⟩
theorem IOw.put {w : World} {B g n : Nat} {ys : List Int} (h : IOw w B g n ys) (k : Nat) (r : Int) : IOw (w.setCell ⟨g, k, none⟩ (.int .i64 r)) B g n (ys.set k r) := by
  obtain ⟨q1, q2⟩ := World.ownsRow.stored h k (.int .i64 r)
  have e : (iR ys).set k (.int .i64 r) = iR (ys.set k r) := by simp [iR, List.map_set]
  rw [e] at q1
  exact q1
theorem IOw.far {w : World} {B g n : Nat} {ys : List Int} (h : IOw w B g n ys) (b k : Nat) (x : Value) (hb : g ≠ b) : IOw (w.setCell ⟨b, k, none⟩ x) B g n ys := own_set h (by simp only [Value.ownBlock]; intro e; injection e with e; exact hb e)
theorem IOw.below {w w' : World} {B g n : Nat} {ys : List Int} (h : IOw w B g n ys) (hb : Below w.heap.size w w') : IOw w' B g n ys := own_below h hb
/-- The specification's run: what is left, where Periods end, what was missed; the answer in its box; the slots. -/
structure SP (w u : World) (B n : Nat) (ks : List TK) (sv : Value) (k : Nat) (ss : List Int) : Prop where
  bel : Below w.heap.size w u
  wB : w.heap.size ≤ B
  uB : B + 4 ≤ u.heap.size
  l : IOw u B B n (ks.map (·.left))
  e : IOw u B (B + 1) n (ks.map (·.fin))
  m : IOw u B (B + 2) n (ks.map (·.missed))
  box : u.heap[B + 3]? = some (.cells #[.int .i64 0, sv, .slice (some ⟨B + 2, 0, none⟩) n n] 45 (0, 0))
  s : u.ownsRow (B + 4) 2 1 sv k (iR ss)
theorem SP.below {w u u' : World} {B n k : Nat} {ks : List TK} {sv : Value} {ss : List Int} (h : SP w u B n ks sv k ss) (hb : Below u.heap.size u u') : SP w u' B n ks sv k ss :=
  ⟨h.bel.trans (hb.mono h.bel.size), h.wB, Nat.le_trans h.uB hb.size, h.l.below hb, h.e.below hb, h.m.below hb, (hb.block _ (by have := h.uB; omega)).trans h.box, own_below h.s hb⟩
theorem sv_ne {w : World} {B k : Nat} {sv : Value} {xs : List Value} (h : w.ownsRow (B + 4) 2 1 sv k xs) (b : Nat) (hb : b < B + 4) : sv.ownBlock ≠ some b := fun e => by
  have := (h.lt b e).1
  omega
theorem SP.putL {w u : World} {B n k : Nat} {ks : List TK} {sv : Value} {ss : List Int} (h : SP w u B n ks sv k ss) (i : Nat) (x : Int) (ks' : List TK) (e1 : ks'.map (·.left) = (ks.map (·.left)).set i x) (e2 : ks'.map (·.fin) = ks.map (·.fin)) (e3 : ks'.map (·.missed) = ks.map (·.missed)) : SP w (u.setCell ⟨B, i, none⟩ (.int .i64 x)) B n ks' sv k ss :=
  ⟨h.bel.setCell (p := ⟨B, i, none⟩) (by have := h.wB; simp only; omega) _, h.wB, by have := h.uB; simpa [World.setCell] using this, by rw [e1]; exact h.l.put i x, by rw [e2]; exact h.e.far _ _ _ (by omega), by rw [e3]; exact h.m.far _ _ _ (by omega), (Below.heap_setCell _ _ _ _ (by simp only; omega)).trans h.box, own_set h.s (sv_ne h.s B (by omega))⟩
theorem SP.putE {w u : World} {B n k : Nat} {ks : List TK} {sv : Value} {ss : List Int} (h : SP w u B n ks sv k ss) (i : Nat) (x : Int) (ks' : List TK) (e1 : ks'.map (·.left) = ks.map (·.left)) (e2 : ks'.map (·.fin) = (ks.map (·.fin)).set i x) (e3 : ks'.map (·.missed) = ks.map (·.missed)) : SP w (u.setCell ⟨B + 1, i, none⟩ (.int .i64 x)) B n ks' sv k ss :=
  ⟨h.bel.setCell (p := ⟨B + 1, i, none⟩) (by have := h.wB; simp only; omega) _, h.wB, by have := h.uB; simpa [World.setCell] using this, by rw [e1]; exact h.l.far _ _ _ (by omega), by rw [e2]; exact h.e.put i x, by rw [e3]; exact h.m.far _ _ _ (by omega), (Below.heap_setCell _ _ _ _ (by simp only; omega)).trans h.box, own_set h.s (sv_ne h.s (B + 1) (by omega))⟩
theorem SP.putM {w u : World} {B n k : Nat} {ks : List TK} {sv : Value} {ss : List Int} (h : SP w u B n ks sv k ss) (i : Nat) (x : Int) (ks' : List TK) (e1 : ks'.map (·.left) = ks.map (·.left)) (e2 : ks'.map (·.fin) = ks.map (·.fin)) (e3 : ks'.map (·.missed) = (ks.map (·.missed)).set i x) : SP w (u.setCell ⟨B + 2, i, none⟩ (.int .i64 x)) B n ks' sv k ss :=
  ⟨h.bel.setCell (p := ⟨B + 2, i, none⟩) (by have := h.wB; simp only; omega) _, h.wB, by have := h.uB; simpa [World.setCell] using this, by rw [e1]; exact h.l.far _ _ _ (by omega), by rw [e2]; exact h.e.far _ _ _ (by omega), by rw [e3]; exact h.m.put i x, (Below.heap_setCell _ _ _ _ (by simp only; omega)).trans h.box, own_set h.s (sv_ne h.s (B + 2) (by omega))⟩
theorem SP.drew {w u : World} {B n k : Nat} {ks : List TK} {sv : Value} {ss : List Int} (h : SP w u B n ks sv k ss) (d : Nat) : SP w (u.drewN d) B n ks sv k ss := h.below (bdn (Below.refl _ _) d)
theorem map_set' {f : TK → Int} (ks : List TK) (i : Nat) (z : TK) : (ks.set i z).map f = (ks.map f).set i (f z) := List.map_set
theorem map_same {f : TK → Int} (ks : List TK) (i : Nat) (hi : i < ks.length) (z : TK) (h : f z = f ks[i]) : (ks.set i z).map f = ks.map f := by
  rw [map_set', h]
  have : f ks[i] = (ks.map f)[i]'(by simpa using hi) := by simp
  rw [this]
  exact List.set_getElem_self _
theorem SP.app {w u u' : World} {B n k : Nat} {ks : List TK} {sv v' : Value} {ss : List Int} (M : Int) (h : SP w u B n ks sv k ss) (ho : u'.ownsRow (B + 4) 2 1 v' (k + 1) (iR (ss ++ [M]))) (hg : (u.alloc (.cells #[.int .i64 M] 2)).grownBy u' sv.ownBlock) : SP w (u'.setCell ⟨B + 3, 1, none⟩ v') B n ks v' (k + 1) (ss ++ [M]) := by
  have ha := h.below (bx1 u (.cells #[.int .i64 M] 2))
  have hne : ∀ b, b < B + 4 → sv.ownBlock ≠ some b := fun b hb => sv_ne h.s b hb
  have hne2 : ∀ b, b < B + 4 → v'.ownBlock ≠ some b := fun b hb => sv_ne ho b hb
  have hk : ∀ {g : Nat} {ys : List Int}, g < B + 3 → IOw (u.alloc (.cells #[.int .i64 M] 2)) B g n ys → IOw (u'.setCell ⟨B + 3, 1, none⟩ v') B g n ys := fun {g ys} hgl h9 => IOw.far (World.ownsRow.kept h9 hg (.inr (by simp only [Value.ownBlock]; exact fun e => hne g (by omega) e.symm))) _ _ _ (by omega)
  have hbx : u'.heap[B + 3]? = some (.cells #[.int .i64 0, sv, .slice (some ⟨B + 2, 0, none⟩) n n] 45 (0, 0)) := (hg.block _ (by have := ha.uB; omega) (fun e => hne (B + 3) (by omega) e.symm)).trans ha.box
  have hsz := hg.size
  have huB := ha.uB
  refine ⟨?_, h.wB, ?_, hk (by omega) ha.l, hk (by omega) ha.e, hk (by omega) ha.m, ?_, own_set ho (hne2 (B + 3) (by omega))⟩
  · refine (ha.bel.grown hg ha.bel.size (fun j hj => ?_)).setCell (p := ⟨B + 3, 1, none⟩) (by have := h.wB; simp only; omega) _
    have h1 := (h.s.lt j hj).1
    have h2 := h.wB
    omega
  · simp only [World.setCell, Array.size_modify]
    omega
  · have := blk_s8 hbx 1 v'
    simpa using this
theorem SP.start (u : World) (n : Nat) (hn : n ≤ 1048576) (ks : List TK) (h1 : ks.map (·.left) = List.replicate n 0) (h2 : ks.map (·.fin) = List.replicate n 0) (h3 : ks.map (·.missed) = List.replicate n 0) : SP u ((((u.alloc (.cells (iR (List.replicate n 0)).toArray 2)).alloc (.cells (iR (List.replicate n 0)).toArray 2)).alloc (.cells (iR (List.replicate n 0)).toArray 2)).alloc (.cells #[.int .i64 0, .slice none 0 0, .slice (some ⟨u.heap.size + 1 + 1, 0, none⟩) n n] 45)) u.heap.size n ks (.slice none 0 0) 0 [] := by
  have s1 : (u.alloc (.cells (iR (List.replicate n 0)).toArray 2)).heap.size = u.heap.size + 1 := by simp
  have s2 : ((u.alloc (.cells (iR (List.replicate n 0)).toArray 2)).alloc (.cells (iR (List.replicate n 0)).toArray 2)).heap.size = u.heap.size + 1 + 1 := by simp
  have s3 : (((u.alloc (.cells (iR (List.replicate n 0)).toArray 2)).alloc (.cells (iR (List.replicate n 0)).toArray 2)).alloc (.cells (iR (List.replicate n 0)).toArray 2)).heap.size = u.heap.size + 1 + 1 + 1 := by simp
  have o1 := i_own0 u n hn
  have o2 := i_own0 (u.alloc (.cells (iR (List.replicate n 0)).toArray 2)) n hn
  have o3 := i_own0 ((u.alloc (.cells (iR (List.replicate n 0)).toArray 2)).alloc (.cells (iR (List.replicate n 0)).toArray 2)) n hn
  have hb := heap_new (((u.alloc (.cells (iR (List.replicate n 0)).toArray 2)).alloc (.cells (iR (List.replicate n 0)).toArray 2)).alloc (.cells (iR (List.replicate n 0)).toArray 2)) (.cells #[.int .i64 0, .slice none 0 0, .slice (some ⟨u.heap.size + 1 + 1, 0, none⟩) n n] 45)
  rw [s1] at o2
  rw [s2] at o3
  rw [s3] at hb
  refine ⟨((bx1 u _).alloc (by simp) _ |>.alloc (by simp; omega) _).alloc (by simp; omega) _, Nat.le_refl _, by simp, ?_, ?_, ?_, hb, World.ownsRow_nil _ _ _ _⟩
  · rw [h1]
    exact ((o1.alloc _).alloc _).alloc _
  · rw [h2]
    exact own_weak1 ((o2.alloc _).alloc _) (by omega)
  · rw [h3]
    exact own_weak1 (o3.alloc _) (by omega)
theorem SP.ext {w u : World} {B n k k' : Nat} {ks ks' : List TK} {sv : Value} {ss ss' : List Int} (h : SP w u B n ks sv k ss) (e1 : ks = ks') (e2 : k = k') (e3 : ss = ss') : SP w u B n ks' sv k' ss' := by
  subst e1 e2 e3
  exact h
theorem IOw.atL {w : World} {B g n : Nat} {ks : List TK} {f : TK → Int} (h : IOw w B g n (ks.map f)) (k : Nat) (hk : k < ks.length) : w.cell? ⟨g, k, none⟩ = some (.int .i64 (f (ks.getD k tk0))) ∧ w.frozen? ⟨g, k, none⟩ = false ∧ g < w.heap.size := by
  have := h.at k (by simpa using hk)
  simpa [List.getD, List.getElem?_eq_getElem hk] using this
theorem mix_get (q : Int) (ys : List TK) (j b : Nat) (hb : b < j) (hj : j ≤ ys.length) : (mix q ys j).getD b tk0 = (ys.map (bgn q)).getD b tk0 := by
  have h1 : b < ys.length := by omega
  unfold mix
  simp only [List.getD]
  rw [List.getElem?_append_left (by simp; omega)]
  simp [hb, h1]
theorem mix_old (q : Int) (ys : List TK) (j : Nat) (hj : j < ys.length) : (mix q ys j).getD j tk0 = ys.getD j tk0 := by
  have h2 : j < (mix q ys j).length := by rw [mix_len _ _ _ (by omega)]; exact hj
  have e := mix_at q ys j hj h2
  simp only [List.getD, List.getElem?_eq_getElem h2, List.getElem?_eq_getElem hj, Option.getD_some]
  exact e
theorem mix_next (q : Int) (ys : List TK) (j : Nat) (hj : j < ys.length) (z : TK) (hz : bgn q (ys.getD j tk0) = z) : mix q ys (j + 1) = (mix q ys j).set j z := by
  subst hz
  have e : ys.getD j tk0 = ys[j] := by simp [List.getD, List.getElem?_eq_getElem hj]
  rw [e]
  exact (mix_step q ys j hj).symm
theorem mix_stay (q : Int) (ys : List TK) (j : Nat) (hj : j < ys.length) (hz : bgn q (ys.getD j tk0) = ys.getD j tk0) : mix q ys (j + 1) = mix q ys j := by
  rw [mix_next q ys j hj _ hz]
  have h2 : j < (mix q ys j).length := by rw [mix_len _ _ _ (by omega)]; exact hj
  have e := mix_at q ys j hj h2
  have e2 : ys.getD j tk0 = ys[j] := by simp [List.getD, List.getElem?_eq_getElem hj]
  rw [e2, ← e]
  exact List.set_getElem_self h2
theorem nx_succ (zs : List TK) (k : Nat) : nx zs (k + 1) = if 0 < (zs.getD k tk0).left ∧ (nx zs k < 0 ∨ (zs.getD k tk0).fin < (zs.getD (nx zs k).toNat tk0).fin) then (k : Int) else nx zs k := rfl
end Go.Proofs.Ytcglpigmellfcab
