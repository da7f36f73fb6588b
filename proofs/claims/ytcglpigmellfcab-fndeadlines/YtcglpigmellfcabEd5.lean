import Derived.Test.YtcglpigmellfcabRowRK3
import Derived.Test.YtcglpigmellfcabSrc3
import Derived.Test.YtcglpigmellfcabLG
import Derived.OwnWalk
import Derived.Test.YtcglpigmellfcabHl
namespace Go.Proofs.Ytcglpigmellfcab
open Go.ChangeShapes Go.WideShapes Go.ChangeAt Go.RowKit

theorem wl_appT {P : Program} {ops : Array Oper} {rest : List Oper} {o : Oper} {a : Act} {w : World} {Q : Exit → Act → World → Prop} (hgd : o.guard = none) (s x : Operand) (t : TypeId)
    (ho : o.op = .call { callee := .builtin .append, args := #[s, x], argTypes := #[t, t] }) (v v2 : Value) (hs : a.eval s = v) (hx : a.eval x = v2) {R : Value → World → Prop}
    (hr : ∃ v' w', (Builtin.append_ #[t, t] o.type #[v, v2]).run P w = .ok v' w' ∧ R v' w') (h : ∀ v' w', R v' w' → wpList P ops Q rest (a.put o.dst v') w') : wpList P ops Q (o :: rest) a w :=
  wpList_plain hgd fun _ hK => by
    obtain ⟨v', w', hr, hR⟩ := hr
    unfold Oper.wp execOp
    simp only [ho, resolve, invoke, builtin, Sem.run_bind, Sem.run_pure, Result.andThen_ok, List.map_toArray, List.map_cons, List.map_nil, hs, hx, hr]
    exact hK _ _ (h v' w' hR)
def inBT (lo hi : Int) (C : List Int) : Prop := ∀ x ∈ C, lo ≤ x ∧ x ≤ hi
theorem lit_cellT {u : World} {p r : Nat} {C : List Int} {t : TypeId} (h : u.heap[p]? = some (.cells (C.map (Value.int .i64)).toArray t (0, 0))) (hr : r < C.length) : u.cell? ⟨p, r, none⟩ = some (.int .i64 C[r]) := by
  simp [World.cell?, h, List.getElem?_map, List.getElem?_eq_getElem hr]
theorem lit_drawT {u u2 : World} {b t : Nat} {C : List Int} {lo hi : Int} (hb : b < u.heap.size) (hg : (u.alloc (.cells (C.map (Value.int .i64)).toArray t)).grownBy u2 (some b)) (Q : Nat) (hQ : Q < C.length) (hin : inBT lo hi C) : ∃ y : Int, u2.cell? ⟨u.heap.size, Q, none⟩ = some (.int .i64 y) ∧ lo ≤ y ∧ y ≤ hi := by
  have h1 : u2.heap[u.heap.size]? = some (.cells (C.map (Value.int .i64)).toArray t (0, 0)) := (hg.block _ (by simp) (by simp; omega)).trans (MapKept.heap_alloc u _).1
  exact ⟨C[Q], lit_cellT h1 hQ, (hin _ (List.getElem_mem hQ)).1, (hin _ (List.getElem_mem hQ)).2⟩
theorem src_ownT {w u : World} {b : Nat} {a : Option Addr} {len cap : Nat} {r : Option Nat} (h : SrcOk w b a len cap) (hg : w.grownBy u r) (hr : ∀ k, r = some k → b < k) : SrcOk u b a len cap :=
  h.keep fun i hi => hg.block i (Nat.lt_of_le_of_lt hi h.lt) (fun e => by have := hr i e.symm; omega)
/-- Tasks under way: the source, the row, and one in its box. -/
structure TS (w u : World) (b bx : Nat) (A : Option Addr) (len cap : Nat) (v : Value) (zs : List RK) (a p c : Int) : Prop where
  src : SrcOk u b A len cap
  gr : w.grownBy u (some b)
  row : u.ownsRow w.heap.size 49 3 v zs.length (rkR zs)
  box : u.heap[bx]? = some (.cells #[.int .i64 a, .int .i64 p, .int .i64 c] 49 (0, 0))
  ge : w.heap.size ≤ bx
  bl : b < w.heap.size
  ne : v.ownBlock ≠ some bx
variable {w u u' : World} {b bx : Nat} {A : Option Addr} {len cap : Nat} {v : Value} {zs : List RK} {a p c : Int}
theorem TS.grow (h : TS w u b bx A len cap v zs a p c) (hg : u.grownBy u' (some b)) (hs : SrcOk u' b A len cap) : TS w u' b bx A len cap v zs a p c :=
  ⟨hs, gbRK h.gr hg, h.row.kept hg (.inr (fun e => by have := (h.row.lt b e).1; have := h.bl; omega)), (hg.block _ (Array.getElem?_eq_some_iff.1 h.box).1 (by simp; have := h.bl; have := h.ge; omega)).trans h.box, h.ge, h.bl, h.ne⟩
theorem TS.alloc (h : TS w u b bx A len cap v zs a p c) (o : Obj) : TS w (u.alloc o) b bx A len cap v zs a p c :=
  h.grow (World.grownBy_alloc u o _) (h.src.far (World.grownBy_alloc u o none))
theorem TS.cel (h : TS w u b bx A len cap v zs a p c) : u.cell? ⟨bx, 0, none⟩ = some (.int .i64 a) ∧ u.cell? ⟨bx, 1, none⟩ = some (.int .i64 p) ∧ u.cell? ⟨bx, 2, none⟩ = some (.int .i64 c) ∧ (∀ k, u.frozen? ⟨bx, k, none⟩ = false) ∧ bx < u.heap.size := by
  have hb := h.box
  exact ⟨by simp [World.cell?, hb], by simp [World.cell?, hb], by simp [World.cell?, hb], fun k => by simp [World.frozen?, hb], (Array.getElem?_eq_some_iff.1 hb).1⟩
theorem TS.put (h : TS w u b bx A len cap v zs a p c) (k : Nat) (x : Value) (a' p' c' : Int) (e : #[.int .i64 a, .int .i64 p, .int .i64 c].setIfInBounds k x = #[.int .i64 a', .int .i64 p', .int .i64 c']) : TS w (u.setCell ⟨bx, k, none⟩ x) b bx A len cap v zs a' p' c' := by
  have hg : u.grownBy (u.setCell ⟨bx, k, none⟩ x) (some bx) := ⟨rfl, rfl, rfl, by simp [World.setCell], fun j _ hn => Below.heap_setCell _ _ _ _ (fun e => hn (congrArg some e))⟩
  refine ⟨src_ownT h.src hg (fun j hj => by cases hj; have := h.bl; have := h.ge; omega), ?_, own_set h.row h.ne, ?_, h.ge, h.bl, h.ne⟩
  · exact ⟨h.gr.os, h.gr.tape, h.gr.output, by simpa [World.setCell] using h.gr.size, fun j hj hn => (Below.heap_setCell _ _ _ _ (by have := h.ge; simp only; omega)).trans (h.gr.block j hj hn)⟩
  · rw [← e]
    simp [World.setCell, Array.getElem?_modify, h.box]
theorem TS.drew (h : TS w u b bx A len cap v zs a p c) : TS w u.drew b bx A len cap v zs a p c := h.grow ⟨rfl, rfl, rfl, Nat.le_refl _, fun _ _ _ => rfl⟩ (h.src.far ⟨rfl, rfl, rfl, Nat.le_refl _, fun _ _ _ => rfl⟩)
theorem lit3g {w u : World} {b : Nat} (_ : w.grownBy w none) (hg : (w.alloc (.cells #[.int .i64 0, .int .i64 2, .int .i64 1, .int .i64 0, .int .i64 3, .int .i64 1, .int .i64 0, .int .i64 6, .int .i64 1] 49)).grownBy u (some b)) (hb : b < w.heap.size) : RKrow u (.slice (some ⟨w.heap.size, 0, none⟩) 3 3) [⟨0, 2, 1⟩, ⟨0, 3, 1⟩, ⟨0, 6, 1⟩] := by
  have hl := LG.new w #[.int .i64 0, .int .i64 2, .int .i64 1, .int .i64 0, .int .i64 3, .int .i64 1, .int .i64 0, .int .i64 6, .int .i64 1] 49
  have hbx := (hg.block _ hl.lt (by simp; omega)).trans hl.box
  refine .inr ⟨w.heap.size, 0, 3, rfl, by decide, (Array.getElem?_eq_some_iff.1 hbx).1, fun k hk => ?_⟩
  match k, hk with
  | 0, _ => simp [World.cell?, hbx]
  | 1, _ => simp [World.cell?, hbx]
  | 2, _ => simp [World.cell?, hbx]
theorem lit3 (w : World) : RKrow (w.alloc (.cells #[.int .i64 0, .int .i64 2, .int .i64 1, .int .i64 0, .int .i64 3, .int .i64 1, .int .i64 0, .int .i64 6, .int .i64 1] 49)) (.slice (some ⟨w.heap.size, 0, none⟩) 3 3) [⟨0, 2, 1⟩, ⟨0, 3, 1⟩, ⟨0, 6, 1⟩] := by
  have hl := LG.new w #[.int .i64 0, .int .i64 2, .int .i64 1, .int .i64 0, .int .i64 3, .int .i64 1, .int .i64 0, .int .i64 6, .int .i64 1] 49
  refine .inr ⟨w.heap.size, 0, 3, rfl, by decide, hl.lt, fun k hk => ?_⟩
  match k, hk with
  | 0, _ => exact ⟨hl.cel 0 _ rfl, hl.cel 1 _ rfl, hl.cel 2 _ rfl⟩
  | 1, _ => exact ⟨hl.cel 3 _ rfl, hl.cel 4 _ rfl, hl.cel 5 _ rfl⟩
  | 2, _ => exact ⟨hl.cel 6 _ rfl, hl.cel 7 _ rfl, hl.cel 8 _ rfl⟩
theorem Try.info49 : (Try.prog.info? 49).map (fun i => (i.zero, i.size, i.bytes)) = some (some (.agg #[.int .i64 0, .int .i64 0, .int .i64 0]), 3, 24) := by kernel_rfl
/-- One task more. -/
theorem appRK {w : World} {lo : Nat} {v : Value} {ys : List RK} (h : w.ownsRow lo 49 3 v ys.length (rkR ys)) (hn : ys.length ≤ 1048576) (hlo : lo ≤ w.heap.size) (z : RK) : ∃ v' u', (Builtin.append_ #[41, 41] 41 #[v, .slice (some ⟨w.heap.size, 0, none⟩) 1 1]).run Try.prog (w.alloc (.cells #[.int .i64 z.start, .int .i64 z.period, .int .i64 z.budget] 49)) = .ok v' u' ∧ (u'.ownsRow lo 49 3 v' (ys.length + 1) (rkR (ys ++ [z])) ∧ (w.alloc (.cells #[.int .i64 z.start, .int .i64 z.period, .int .i64 z.budget] 49)).grownBy u' v.ownBlock) := by
  obtain ⟨i0, hi0, hz0, hz1, hz2⟩ := info_parts Try.info49
  have hl := LG.new w #[.int .i64 z.start, .int .i64 z.period, .int .i64 z.budget] 49
  obtain ⟨v', w', hr, h2, h3, _⟩ := run_append_own (P := Try.prog) (w.alloc (.cells #[.int .i64 z.start, .int .i64 z.period, .int .i64 z.budget] 49)) lo 41 41 49 i0 (.agg #[.int .i64 0, .int .i64 0, .int .i64 0]) 3 24 Try.underlying41 hi0 hz0 hz1 hz2 rfl (by decide) v ys.length (rkR ys) (World.ownsRow.alloc h _) ⟨w.heap.size, 0, none⟩ 1 1 (rkC z) rfl (fun j u hj => by
    match j, hj with
    | 0, hj => obtain rfl := Option.some.inj hj; exact hl.cel 0 _ rfl
    | 1, hj => obtain rfl := Option.some.inj hj; exact hl.cel 1 _ rfl
    | 2, hj => obtain rfl := Option.some.inj hj; exact hl.cel 2 _ rfl
    | j + 3, hj => simp [rkC] at hj) (fun u hu => by
    simp [rkC] at hu
    rcases hu with rfl | rfl | rfl <;> rfl) (by unfold maxLen; omega) (by omega) (by simp; omega)
  refine ⟨v', w', hr, ?_, h3⟩
  rw [rkR_app]
  simpa [rkR] using h2
set_option maxRecDepth 100000 in
set_option maxHeartbeats 8000000 in
theorem src_tasks (b : Nat) (A : Option Addr) (len cap : Nat) (w : World) (h : SrcOk w b A len cap) :
    Calls Try.prog 49 #[.pointer (some ⟨b, 0, none⟩)] w fun e w' => ∃ (v : Value) (zs : List RK), e = .returned v ∧ RKrow w' v zs ∧ zs.length ≤ 9 ∧ SrcOk w' b A len cap ∧ w.grownBy w' (some b) := by
  have hbl := h.lt
  have HBL : Hid (b < w.heap.size) := hbl
  have HS0 : Hid (SrcOk (w.alloc (.cells #[] 49)) b A len cap) := h.far (World.grownBy_alloc w _ none)
  have HO0 : Hid ((w.alloc (.cells #[] 49)).ownsRow w.heap.size 49 3 (.slice (some ⟨w.heap.size, 0, none⟩) 0 0) 0 []) := World.ownsRow_lit _ #[] 0 (by simp) (by decide) rfl
  have HG0 : Hid (w.grownBy (w.alloc (.cells #[] 49)) (some b)) := World.grownBy_alloc w _ _
  clear h hbl
  go_enter Try.func49, Try.ntmps49
  go_wp2_with fail
  refine (src_n b A len cap 4 _ HS0.out (by omega)).mono ?_
  generalize (w.alloc (.cells #[] 49)) = u0 at *
  rintro e w1 ⟨r1, rfl, p1, q1, hs1, hg1⟩
  obtain ⟨R, rfl⟩ := Int.eq_ofNat_of_zero_le p1
  have hR : R < 4 := by omega
  have HS1 : Hid (SrcOk w1 b A len cap) := hs1
  have HO1 : Hid (w1.ownsRow w.heap.size 49 3 (.slice (some ⟨w.heap.size, 0, none⟩) 0 0) 0 []) := HO0.out.kept hg1 (.inr (by simp only [Value.ownBlock]; intro e; injection e with e; have := HBL.out; omega))
  have HG1 : Hid (w.grownBy w1 (some b)) := gbRK HG0.out hg1
  clear hs1 hg1 HS0 HO0 HG0 p1 q1
  go_wp2
  go_loopw [3, 4] (fun v k wr => ∃ (n : Nat) (zs : List RK), k = .int .i64 n ∧ n + zs.length ≤ 4 ∧ wr.ownsRow w.heap.size 49 3 v zs.length (rkR zs) ∧ SrcOk wr b A len cap ∧ w.grownBy wr (some b)) (fun _ k _ => (intOf k).toNat)
  case atStart => exact ⟨R + 1, [], by go_num, by simp; omega, HO1.out, HS1.out, HG1.out⟩
  case round =>
    obtain ⟨n, zs, rfl, hn, how, hsw, hgw⟩ := hrel
    obtain ⟨v0, hv0⟩ : ∃ v0, v0 = u3 := ⟨_, rfl⟩
    rw [← hv0] at how ⊢
    have HOW : Hid (wr.ownsRow w.heap.size 49 3 v0 zs.length (rkR zs)) := how
    have HSW : Hid (SrcOk wr b A len cap) := hsw
    have HGW : Hid (w.grownBy wr (some b)) := hgw
    clear how hsw hgw hv0
    by_cases hn0 : n = 0
    · subst hn0
      go_wp2_with fail
      refine (src_one b A len cap 6 _ HSW.out (by omega)).mono ?_
      rintro e w7 ⟨o7, rfl, hs7, hg7⟩
      have HW7 : Hid (w7.ownsRow w.heap.size 49 3 v0 zs.length (rkR zs)) := HOW.out.kept hg7 (.inr (fun e => by have := (HOW.out.lt b e).1; have := HBL.out; omega))
      have HS7 : Hid (SrcOk w7 b A len cap) := hs7
      have HG7 : Hid (w.grownBy w7 (some b)) := gbRK HGW.out hg7
      clear hs7 hg7 HOW HSW HGW
      have HBL7 : Hid (b < w7.heap.size) := HS7.out.lt
      have HZ7 : Hid (zs.length ≤ 9) := (show zs.length ≤ 9 by omega)
      cases o7
      · skip
        go_wp2_with fail
        refine (src_one b A len cap 30 _ HS7.out (by omega)).mono ?_
        rintro e w9 ⟨o9, rfl, hs9, hg9⟩
        have HS9 : Hid (SrcOk w9 b A len cap) := hs9
        have HG9 : Hid (w.grownBy w9 (some b)) := gbRK HG7.out hg9
        have HR9 : Hid (RKrow w9 (v0) (zs)) := RKrow.of (HW7.out.kept hg9 (.inr (fun e => by have := (HW7.out.lt b e).1; have := HBL.out; omega)))
        clear hs9 hg9
        cases o9
        · go_wp2
          go_ret
          exact ⟨_, _, rfl, HR9.out, HZ7.out, HS9.out, HG9.out⟩
        · have hmk : (Instr.makeSlice 41 (.int .i64 9) (.int .i64 9)).run Try.prog w9 = .ok (.slice (some ⟨w9.heap.size, 0, none⟩) 9 9) (w9.alloc (.cells (rkR (List.replicate 9 rk0)).toArray 49)) := rk_mk w9 9 (by omega)
          have HO9 : Hid _ := rk_own0 w9 9 (by omega)
          have HS10 : Hid (SrcOk (w9.alloc (.cells (rkR (List.replicate 9 rk0)).toArray 49)) b A len cap) := HS9.out.far (World.grownBy_alloc w9 _ none)
          have HG10 : Hid (w.grownBy (w9.alloc (.cells (rkR (List.replicate 9 rk0)).toArray 49)) (some b)) := gbRK HG9.out (World.grownBy_alloc w9 _ _)
          go_wp2
          go_ret
          exact ⟨_, List.replicate 9 rk0, rfl, RKrow.of HO9.out, by simp, HS10.out, HG10.out⟩
      · obtain ⟨L, hL⟩ : ∃ L : List RK, L = [⟨0, 2, 1⟩, ⟨0, 3, 1⟩, ⟨0, 6, 1⟩] := ⟨_, rfl⟩
        have HR8 : Hid (RKrow (w7.alloc (.cells #[.int .i64 0, .int .i64 2, .int .i64 1, .int .i64 0, .int .i64 3, .int .i64 1, .int .i64 0, .int .i64 6, .int .i64 1] 49)) (.slice (some ⟨w7.heap.size, 0, none⟩) 3 3) [⟨0, 2, 1⟩, ⟨0, 3, 1⟩, ⟨0, 6, 1⟩]) := lit3 w7
        have HS8 : Hid (SrcOk (w7.alloc (.cells #[.int .i64 0, .int .i64 2, .int .i64 1, .int .i64 0, .int .i64 3, .int .i64 1, .int .i64 0, .int .i64 6, .int .i64 1] 49)) b A len cap) := HS7.out.far (World.grownBy_alloc w7 _ none)
        have HG8 : Hid (w.grownBy (w7.alloc (.cells #[.int .i64 0, .int .i64 2, .int .i64 1, .int .i64 0, .int .i64 3, .int .i64 1, .int .i64 0, .int .i64 6, .int .i64 1] 49)) (some b)) := gbRK HG7.out (World.grownBy_alloc w7 _ _)
        have HZ8 : Hid (([⟨0, 2, 1⟩, ⟨0, 3, 1⟩, ⟨0, 6, 1⟩] : List RK).length ≤ 9) := (show _ ≤ 9 by decide)
        clear HW7 HS7 HG7
        go_wp2_with fail
        refine (src_one b A len cap 30 _ HS8.out (by omega)).mono ?_
        rintro e w9 ⟨o9, rfl, hs9, hg9⟩
        have HS9 : Hid (SrcOk w9 b A len cap) := hs9
        have HG9 : Hid (w.grownBy w9 (some b)) := gbRK HG8.out hg9
        have HR9 : Hid (RKrow w9 (.slice (some ⟨w7.heap.size, 0, none⟩) 3 3) ([⟨0, 2, 1⟩, ⟨0, 3, 1⟩, ⟨0, 6, 1⟩])) := lit3g (World.grownBy.refl _ _) hg9 HBL7.out
        clear hs9 hg9
        cases o9
        · go_wp2
          go_ret
          exact ⟨_, _, rfl, HR9.out, HZ8.out, HS9.out, HG9.out⟩
        · have hmk : (Instr.makeSlice 41 (.int .i64 9) (.int .i64 9)).run Try.prog w9 = .ok (.slice (some ⟨w9.heap.size, 0, none⟩) 9 9) (w9.alloc (.cells (rkR (List.replicate 9 rk0)).toArray 49)) := rk_mk w9 9 (by omega)
          have HO9 : Hid _ := rk_own0 w9 9 (by omega)
          have HS10 : Hid (SrcOk (w9.alloc (.cells (rkR (List.replicate 9 rk0)).toArray 49)) b A len cap) := HS9.out.far (World.grownBy_alloc w9 _ none)
          have HG10 : Hid (w.grownBy (w9.alloc (.cells (rkR (List.replicate 9 rk0)).toArray 49)) (some b)) := gbRK HG9.out (World.grownBy_alloc w9 _ _)
          go_wp2
          go_ret
          exact ⟨_, List.replicate 9 rk0, rfl, RKrow.of HO9.out, by simp, HS10.out, HG10.out⟩
    · have hn1 : (0 : Int) < (n : Int) := by omega
      go_wp2_with fail
      refine (src_n b A len cap 5 _ HSW.out (by omega)).mono ?_
      rintro e w2 ⟨a0, rfl, _, _, hs2, hg2⟩
      have hb2 : b < w2.heap.size := hs2.lt
      have HO2 : Hid (w2.ownsRow w.heap.size 49 3 v0 zs.length (rkR zs)) := HOW.out.kept hg2 (.inr (fun e => by have := (HOW.out.lt b e).1; have := HBL.out; omega))
      have HG2 : Hid (w.grownBy w2 (some b)) := gbRK HGW.out hg2
      have HIN : Hid (inBT 2 40 [2, 3, 4, 6, 12, 40, 7]) := by
        intro x hx
        simp at hx
        omega
      have HS3 : Hid (SrcOk (w2.alloc (.cells ([2, 3, 4, 6, 12, 40, 7].map (Value.int .i64)).toArray 2)) b A len cap) := hs2.far (World.grownBy_alloc w2 _ none)
      have HB2 : Hid _ := hb2
      clear hs2 hg2 hb2
      go_wp2_with fail
      refine (src_n b A len cap 7 _ HS3.out (by omega)).mono ?_
      rintro e w3 ⟨r3, rfl, p3, q3, hs3, hg3⟩
      obtain ⟨R3, rfl⟩ := Int.eq_ofNat_of_zero_le p3
      have hR3 : R3 < 7 := by omega
      obtain ⟨p, hp, hp1, hp2⟩ := lit_drawT HB2.out hg3 R3 (by simpa using hR3) HIN.out
      have HTS : Hid (TS w (w3.alloc (.cells #[.int .i64 a0, .int .i64 p, .int .i64 0] 49)) b w3.heap.size A len cap v0 zs a0 p 0) := (by
        have hg4 : w2.grownBy w3 (some b) := gbRK (World.grownBy_alloc w2 _ _) hg3
        have ho3 : w3.ownsRow w.heap.size 49 3 v0 zs.length (rkR zs) := HO2.out.kept hg4 (.inr (fun e => by have := (HO2.out.lt b e).1; have := HBL.out; omega))
        have hgw3 := gbRK HG2.out hg4
        exact ⟨hs3.far (World.grownBy_alloc w3 _ none), gbRK hgw3 (World.grownBy_alloc w3 _ _), ho3.alloc _, heap_new _ _, hgw3.size, HBL.out, fun e => by have := (ho3.lt _ e).2; omega⟩)
      clear hs3 hg3 HS3 HIN p3 q3 HO2 HG2 HB2 HOW HSW HGW
      go_upto_region 6 with fail
      generalize (w3.alloc (.cells #[.int .i64 a0, .int .i64 p, .int .i64 0] 49)) = w4 at *
      generalize w3.heap.size = bx at *
      clear hp
      obtain ⟨x0, x1, x2, xf, xl⟩ := HTS.out.cel
      go_wp2_with fail
      refine (src_n b A len cap p _ HTS.out.src (by omega)).mono ?_
      rintro e w5 ⟨r5, rfl, p5, q5, hs5, hg5⟩
      have hr5 : r5 < 40 := by omega
      obtain ⟨c, hc⟩ : ∃ c : Int, 1 + r5 / 2 = c := ⟨_, rfl⟩
      have hdv : r5.tdiv 2 = r5 / 2 := Int.tdiv_eq_ediv_of_nonneg p5
      have HT5 : Hid (TS w w5 b bx A len cap v0 zs a0 p 0) := HTS.out.grow hg5 hs5
      have HT6 : Hid (TS w (w5.setCell ⟨bx, 2, none⟩ (.int .i64 c)) b bx A len cap v0 zs a0 p c) := HT5.out.put 2 (.int .i64 c) a0 p c rfl
      obtain ⟨y0, y1, y2, yf, yl⟩ := HT5.out.cel
      have yf2 := yf 2
      clear hs5 hg5 HTS x0 x1 x2 xf xl
      go_upto_region 7 with fail
      generalize (w5.setCell ⟨bx, 2, none⟩ (.int .i64 c)) = w6 at *
      have hp0 : 0 ≤ p := by omega
      have hp41 : p ≤ 41 := by omega
      clear y0 y1 y2 yf yl yf2 HT5 hc hdv p5 q5 hr5 hp1 hp2
      go_wp2_with fail
      refine (src_one b A len cap 40 _ HT6.out.src (by omega)).mono ?_
      rintro e w11 ⟨o12, rfl, hs9, hg9⟩
      have HT13 : Hid (TS w w11 b bx A len cap v0 zs a0 p c) := HT6.out.grow hg9 hs9
      clear hs9 hg9 HT6
      cases o12
      · skip
        go_wp2_with fail
        refine (src_one b A len cap 40 _ HT13.out.src (by omega)).mono ?_
        rintro e w14 ⟨o15, rfl, hs9, hg9⟩
        have HT16 : Hid (TS w w14 b bx A len cap v0 zs a0 p c) := HT13.out.grow hg9 hs9
        clear hs9 hg9 HT13
        cases o15
        · skip
          go_wp2_with fail
          refine (src_one b A len cap 40 _ HT16.out.src (by omega)).mono ?_
          rintro e w17 ⟨o18, rfl, hs9, hg9⟩
          have HT19 : Hid (TS w w17 b bx A len cap v0 zs a0 p c) := HT16.out.grow hg9 hs9
          clear hs9 hg9 HT16
          cases o18
          · skip
            obtain ⟨x0, x1, x2, xf, xl⟩ := HT19.out.cel
            have HAP : Hid _ := appRK HT19.out.row (by omega) HT19.out.gr.size ⟨a0, p, c⟩
            have HTA : Hid (TS w (w17.alloc (.cells #[.int .i64 a0, .int .i64 p, .int .i64 c] 49)) b bx A len cap v0 zs a0 p c) := HT19.out.alloc _
            clear HT19
            go_wp2_with (at_builtin; (refine wl_appT rfl _ _ 41 rfl _ _ rfl rfl HAP.out ?_; rintro v' u6 ⟨ho, hg2⟩; have HO6 : Hid (u6.ownsRow w.heap.size 49 3 v' (zs.length + 1) (rkR (zs ++ [⟨a0, p, c⟩]))) := ho; have HG6 : Hid _ := hg2; clear ho hg2 HAP))
            have HBK : Hid (∀ j, v0.ownBlock = some j → w.heap.size ≤ j) := fun j hj => (HTA.out.row.lt j hj).1
            refine ⟨⟨n - 1, zs ++ [⟨a0, p, c⟩], by go_num, by simp; omega, by rw [List.length_append]; exact HO6.out, ?_, ?_⟩, by simp [intOf]; omega⟩
            · exact src_ownT HTA.out.src HG6.out (fun j hj => by have := HBK.out j hj; have := HBL.out; omega)
            · exact ⟨HG6.out.os.trans HTA.out.gr.os, HG6.out.tape.trans HTA.out.gr.tape, HG6.out.output.trans HTA.out.gr.output, Nat.le_trans HTA.out.gr.size HG6.out.size, fun k hk hn => (HG6.out.block k (Nat.lt_of_lt_of_le hk HTA.out.gr.size) (fun e => by have := HBK.out k e.symm; omega)).trans (HTA.out.gr.block k hk hn)⟩
          · skip
            have HTD : Hid (TS w w17.drew b bx A len cap v0 zs a0 p c) := HT19.out.drew
            go_upto_region 12 with fail
            refine wp_region_held (S := fun u9 => ∃ c9, TS w u9 b bx A len cap v0 zs a0 p c9) (by kernel_rfl) ?_
            change wpAnyH _ _ _ _ _ _ _ _ (World.drew _)
            generalize w17.drew = w9d at *
            have HSD : Hid (∃ c9, TS w w9d b bx A len cap v0 zs a0 p c9) := ⟨_, HTD.out⟩
            have hwp : IntKind.i64.wrap (p + 1) = p + 1 := by rw [IntKind.wrap_i64]; omega
            refine wpAnyH_take (i := 0) (v := .pointer (some ⟨bx, 1, none⟩)) rfl (by kernel_rfl) (by kernel_rfl) (by kernel_rfl) (fun _ _ _ h => h) (Or.inl ⟨by kernel_rfl, fun w9 h9 => ?_⟩) HSD.out ?_
            · clear h9; go_simp
            refine wpAnyH_take (i := 1) (v := .int .i64 p) rfl (by kernel_rfl) (by kernel_rfl) (by kernel_rfl) (fun _ _ _ h => h) (Or.inl ⟨by kernel_rfl, fun w9 h9 => ?_⟩) HSD.out ?_
            · obtain ⟨c9, h9⟩ := h9; obtain ⟨x0, x1, x2, xf, xl⟩ := h9.cel; clear h9; go_simp
            refine wpAnyH_take (i := 2) (v := .int .i64 (p + 1)) rfl (by kernel_rfl) (by kernel_rfl) (by kernel_rfl) (fun _ _ _ h => h) (Or.inl ⟨by kernel_rfl, fun w9 h9 => ?_⟩) HSD.out ?_
            · clear h9; go_simp
            refine wpAnyH_take (i := 3) (v := .pointer (some ⟨bx, 1, none⟩)) rfl (by kernel_rfl) (by kernel_rfl) (by kernel_rfl) (fun _ _ _ h => h) (Or.inl ⟨by kernel_rfl, fun w9 h9 => ?_⟩) HSD.out ?_
            · clear h9; go_simp
            refine wpAnyH_take (i := 4) (v := .int .i64 p) rfl (by kernel_rfl) (by kernel_rfl) (by kernel_rfl) (fun _ _ _ h => h) (Or.inl ⟨by kernel_rfl, fun w9 h9 => ?_⟩) HSD.out ?_
            · obtain ⟨c9, h9⟩ := h9; obtain ⟨x0, x1, x2, xf, xl⟩ := h9.cel; clear h9; go_simp
            refine wpAnyH_take (i := 6) (v := .pointer (some ⟨b, 0, none⟩)) rfl (by kernel_rfl) (by kernel_rfl) (by kernel_rfl) (fun _ _ _ h => h) (Or.inl ⟨by kernel_rfl, fun w9 h9 => ?_⟩) HSD.out ?_
            · clear h9; go_simp
            have HIN : Hid (inBT (-100) 100 [0, p + 1, p]) := by
              intro x hx
              simp at hx
              omega
            have HBX : Hid (b < w9d.heap.size) := HTD.out.src.lt
            have HTL : Hid (TS w (w9d.alloc (.cells ([0, p + 1, p].map (Value.int .i64)).toArray 2)) b bx A len cap v0 zs a0 p c) := HTD.out.alloc _
            refine wpAnyH_all (rs := [5, 7]) (by kernel_rfl) (by simp) (all_two (held_step rfl (by kernel_rfl) fun K hK => ?_) (held_step rfl (by kernel_rfl) fun K hK => ?_))
            · skip
              go_simp
              go_wp2
              refine hK _ _ ⟨_, HTL.out⟩ ?_
              clear hK K
              refine held_one 7 (by kernel_rfl) rfl (by kernel_rfl) fun K hK => ?_
              go_simp
              go_wp2_with fail
              refine (src_n b A len cap 3 _ HTL.out.src (by omega)).mono ?_
              rintro e w9e ⟨r9, rfl, p9, q9, hs9, hg9⟩
              obtain ⟨R9, rfl⟩ := Int.eq_ofNat_of_zero_le p9
              have hR9 : R9 < 3 := by omega
              obtain ⟨y23, hy9, hy1, hy2⟩ := lit_drawT HBX.out hg9 R9 (by simpa using hR9) HIN.out
              have HTE : Hid (TS w w9e b bx A len cap v0 zs a0 p c) := HTL.out.grow hg9 hs9
              clear hs9 hg9 p9 q9
              refine hK _ _ ⟨_, HTE.out⟩ ?_
              clear hK K
              have HT24 : Hid (TS w (w9e.setCell ⟨bx, 2, none⟩ (.int .i64 y23)) b bx A len cap v0 zs a0 p y23) := HTE.out.put 2 (.int .i64 y23) a0 p y23 rfl
              obtain ⟨x0, x1, x2, xf, xl⟩ := HTE.out.cel
              have xf9 := xf 2
              have hr0 : (0 : Int) ≤ (R9 : Int) := by omega
              have hr3 : (R9 : Int) < 3 := by omega
              refine wpAnyH_take (i := 8) (v := .pointer (some ⟨w9d.heap.size, R9, none⟩)) rfl (by kernel_rfl) (by kernel_rfl) (by kernel_rfl) (fun _ _ _ h => h) (Or.inl ⟨by kernel_rfl, fun w9 h9 => ?_⟩) ⟨_, HTE.out⟩ ?_
              · clear h9; go_simp
              refine held_one 9 (by kernel_rfl) rfl (by kernel_rfl) fun K hK => ?_
              go_simp
              go_wp2
              refine hK _ _ ⟨_, HTE.out⟩ ?_
              clear hK K
              refine wpAnyH_take (i := 10) (v := .pointer (some ⟨bx, 2, none⟩)) rfl (by kernel_rfl) (by kernel_rfl) (by kernel_rfl) (fun _ _ _ h => h) (Or.inl ⟨by kernel_rfl, fun w9 h9 => ?_⟩) ⟨_, HTE.out⟩ ?_
              · clear h9; go_simp
              refine held_one 11 (by kernel_rfl) rfl (by kernel_rfl) fun K hK => ?_
              go_simp
              go_wp2
              refine hK _ _ ⟨_, HT24.out⟩ ?_
              clear hK K
              refine wpAnyH_done (by kernel_rfl) ?_ _
              go_simp
              generalize (w9e.setCell ⟨bx, 2, none⟩ (.int .i64 y23)) = w25 at *
              clear x0 x1 x2 xf xl xf9 hy9
              obtain ⟨x0, x1, x2, xf, xl⟩ := HT24.out.cel
              have HAP : Hid _ := appRK HT24.out.row (by omega) HT24.out.gr.size ⟨a0, p, y23⟩
              have HTA : Hid (TS w (w25.alloc (.cells #[.int .i64 a0, .int .i64 p, .int .i64 y23] 49)) b bx A len cap v0 zs a0 p y23) := HT24.out.alloc _
              clear HT24
              go_wp2_with (at_builtin; (refine wl_appT rfl _ _ 41 rfl _ _ rfl rfl HAP.out ?_; rintro v' u6 ⟨ho, hg2⟩; have HO6 : Hid (u6.ownsRow w.heap.size 49 3 v' (zs.length + 1) (rkR (zs ++ [⟨a0, p, y23⟩]))) := ho; have HG6 : Hid _ := hg2; clear ho hg2 HAP))
              have HBK : Hid (∀ j, v0.ownBlock = some j → w.heap.size ≤ j) := fun j hj => (HTA.out.row.lt j hj).1
              refine ⟨⟨n - 1, zs ++ [⟨a0, p, y23⟩], by go_num, by simp; omega, by rw [List.length_append]; exact HO6.out, ?_, ?_⟩, by simp [intOf]; omega⟩
              · exact src_ownT HTA.out.src HG6.out (fun j hj => by have := HBK.out j hj; have := HBL.out; omega)
              · exact ⟨HG6.out.os.trans HTA.out.gr.os, HG6.out.tape.trans HTA.out.gr.tape, HG6.out.output.trans HTA.out.gr.output, Nat.le_trans HTA.out.gr.size HG6.out.size, fun k hk hn => (HG6.out.block k (Nat.lt_of_lt_of_le hk HTA.out.gr.size) (fun e => by have := HBK.out k e.symm; omega)).trans (HTA.out.gr.block k hk hn)⟩
            · skip
              go_simp
              go_wp2_with fail
              refine (src_n b A len cap 3 _ HTD.out.src (by omega)).mono ?_
              rintro e w9e ⟨r9, rfl, p9, q9, hs9, hg9⟩
              obtain ⟨R9, rfl⟩ := Int.eq_ofNat_of_zero_le p9
              have hR9 : R9 < 3 := by omega
              have HTF : Hid (TS w w9e b bx A len cap v0 zs a0 p c) := HTD.out.grow hg9 hs9
              clear hs9 hg9 p9 q9
              refine hK _ _ ⟨_, HTF.out⟩ ?_
              clear hK K
              have HTE : Hid (TS w (w9e.alloc (.cells #[.int .i64 0, .int .i64 (p + 1), .int .i64 p] 2)) b bx A len cap v0 zs a0 p c) := HTF.out.alloc _
              obtain ⟨y26, hy9, hy1, hy2⟩ : ∃ y : Int, (w9e.alloc (.cells #[.int .i64 0, .int .i64 (p + 1), .int .i64 p] 2)).cell? ⟨w9e.heap.size, R9, none⟩ = some (.int .i64 y) ∧ -100 ≤ y ∧ y ≤ 100 := ⟨_, lit_cellT (C := [0, p + 1, p]) (heap_new _ _) (by simpa using hR9), (HIN.out _ (List.getElem_mem (by simpa using hR9))).1, (HIN.out _ (List.getElem_mem (by simpa using hR9))).2⟩
              refine held_one 5 (by kernel_rfl) rfl (by kernel_rfl) fun K hK => ?_
              go_simp
              go_wp2
              refine hK _ _ ⟨_, HTE.out⟩ ?_
              clear hK K
              generalize hlb : w9e.heap.size = lb at *
              clear hlb
              generalize (w9e.alloc (.cells #[.int .i64 0, .int .i64 (p + 1), .int .i64 p] 2)) = w9f at *
              have HT27 : Hid (TS w (w9f.setCell ⟨bx, 2, none⟩ (.int .i64 y26)) b bx A len cap v0 zs a0 p y26) := HTE.out.put 2 (.int .i64 y26) a0 p y26 rfl
              obtain ⟨x0, x1, x2, xf, xl⟩ := HTE.out.cel
              have xf9 := xf 2
              have hr0 : (0 : Int) ≤ (R9 : Int) := by omega
              have hr3 : (R9 : Int) < 3 := by omega
              refine wpAnyH_take (i := 8) (v := .pointer (some ⟨lb, R9, none⟩)) rfl (by kernel_rfl) (by kernel_rfl) (by kernel_rfl) (fun _ _ _ h => h) (Or.inl ⟨by kernel_rfl, fun w9 h9 => ?_⟩) ⟨_, HTE.out⟩ ?_
              · clear h9; go_simp
              refine held_one 9 (by kernel_rfl) rfl (by kernel_rfl) fun K hK => ?_
              go_simp
              go_wp2
              refine hK _ _ ⟨_, HTE.out⟩ ?_
              clear hK K
              refine wpAnyH_take (i := 10) (v := .pointer (some ⟨bx, 2, none⟩)) rfl (by kernel_rfl) (by kernel_rfl) (by kernel_rfl) (fun _ _ _ h => h) (Or.inl ⟨by kernel_rfl, fun w9 h9 => ?_⟩) ⟨_, HTE.out⟩ ?_
              · clear h9; go_simp
              refine held_one 11 (by kernel_rfl) rfl (by kernel_rfl) fun K hK => ?_
              go_simp
              go_wp2
              refine hK _ _ ⟨_, HT27.out⟩ ?_
              clear hK K
              refine wpAnyH_done (by kernel_rfl) ?_ _
              go_simp
              generalize (w9f.setCell ⟨bx, 2, none⟩ (.int .i64 y26)) = w28 at *
              clear x0 x1 x2 xf xl xf9 hy9
              obtain ⟨x0, x1, x2, xf, xl⟩ := HT27.out.cel
              have HAP : Hid _ := appRK HT27.out.row (by omega) HT27.out.gr.size ⟨a0, p, y26⟩
              have HTA : Hid (TS w (w28.alloc (.cells #[.int .i64 a0, .int .i64 p, .int .i64 y26] 49)) b bx A len cap v0 zs a0 p y26) := HT27.out.alloc _
              clear HT27
              go_wp2_with (at_builtin; (refine wl_appT rfl _ _ 41 rfl _ _ rfl rfl HAP.out ?_; rintro v' u6 ⟨ho, hg2⟩; have HO6 : Hid (u6.ownsRow w.heap.size 49 3 v' (zs.length + 1) (rkR (zs ++ [⟨a0, p, y26⟩]))) := ho; have HG6 : Hid _ := hg2; clear ho hg2 HAP))
              have HBK : Hid (∀ j, v0.ownBlock = some j → w.heap.size ≤ j) := fun j hj => (HTA.out.row.lt j hj).1
              refine ⟨⟨n - 1, zs ++ [⟨a0, p, y26⟩], by go_num, by simp; omega, by rw [List.length_append]; exact HO6.out, ?_, ?_⟩, by simp [intOf]; omega⟩
              · exact src_ownT HTA.out.src HG6.out (fun j hj => by have := HBK.out j hj; have := HBL.out; omega)
              · exact ⟨HG6.out.os.trans HTA.out.gr.os, HG6.out.tape.trans HTA.out.gr.tape, HG6.out.output.trans HTA.out.gr.output, Nat.le_trans HTA.out.gr.size HG6.out.size, fun k hk hn => (HG6.out.block k (Nat.lt_of_lt_of_le hk HTA.out.gr.size) (fun e => by have := HBK.out k e.symm; omega)).trans (HTA.out.gr.block k hk hn)⟩
        · skip
          have HIN : Hid (inBT 0 41 [0, 41]) := by
            intro x hx
            simp at hx
            omega
          have HBX : Hid (b < w14.heap.size) := HT16.out.src.lt
          have HTL : Hid (TS w (w14.alloc (.cells ([0, 41].map (Value.int .i64)).toArray 2)) b bx A len cap v0 zs a0 p c) := HT16.out.alloc _
          clear HT16
          go_wp2_with fail
          refine (src_n b A len cap 2 _ HTL.out.src (by omega)).mono ?_
          rintro e w29 ⟨r9, rfl, p9, q9, hs9, hg9⟩
          obtain ⟨R9, rfl⟩ := Int.eq_ofNat_of_zero_le p9
          have hR9 : R9 < 2 := by omega
          obtain ⟨y30, hy9, hy1, hy2⟩ := lit_drawT HBX.out hg9 R9 (by simpa using hR9) HIN.out
          have HT31 : Hid (TS w w29 b bx A len cap v0 zs a0 p c) := HTL.out.grow hg9 hs9
          have HT32 : Hid (TS w (w29.setCell ⟨bx, 1, none⟩ (.int .i64 y30)) b bx A len cap v0 zs a0 y30 c) := HT31.out.put 1 (.int .i64 y30) a0 y30 c rfl
          obtain ⟨x0, x1, x2, xf, xl⟩ := HT31.out.cel
          have xf9 := xf 1
          clear hs9 hg9 HTL HIN HBX p9 q9 HT31
          go_upto_region 11 with fail
          generalize (w29.setCell ⟨bx, 1, none⟩ (.int .i64 y30)) = w33 at *
          clear x0 x1 x2 xf xl xf9 hy9
          go_wp2_with fail
          refine (src_one b A len cap 40 _ HT32.out.src (by omega)).mono ?_
          rintro e w34 ⟨o35, rfl, hs9, hg9⟩
          have HT36 : Hid (TS w w34 b bx A len cap v0 zs a0 y30 c) := HT32.out.grow hg9 hs9
          clear hs9 hg9 HT32
          cases o35
          · skip
            obtain ⟨x0, x1, x2, xf, xl⟩ := HT36.out.cel
            have HAP : Hid _ := appRK HT36.out.row (by omega) HT36.out.gr.size ⟨a0, y30, c⟩
            have HTA : Hid (TS w (w34.alloc (.cells #[.int .i64 a0, .int .i64 y30, .int .i64 c] 49)) b bx A len cap v0 zs a0 y30 c) := HT36.out.alloc _
            clear HT36
            go_wp2_with (at_builtin; (refine wl_appT rfl _ _ 41 rfl _ _ rfl rfl HAP.out ?_; rintro v' u6 ⟨ho, hg2⟩; have HO6 : Hid (u6.ownsRow w.heap.size 49 3 v' (zs.length + 1) (rkR (zs ++ [⟨a0, y30, c⟩]))) := ho; have HG6 : Hid _ := hg2; clear ho hg2 HAP))
            have HBK : Hid (∀ j, v0.ownBlock = some j → w.heap.size ≤ j) := fun j hj => (HTA.out.row.lt j hj).1
            refine ⟨⟨n - 1, zs ++ [⟨a0, y30, c⟩], by go_num, by simp; omega, by rw [List.length_append]; exact HO6.out, ?_, ?_⟩, by simp [intOf]; omega⟩
            · exact src_ownT HTA.out.src HG6.out (fun j hj => by have := HBK.out j hj; have := HBL.out; omega)
            · exact ⟨HG6.out.os.trans HTA.out.gr.os, HG6.out.tape.trans HTA.out.gr.tape, HG6.out.output.trans HTA.out.gr.output, Nat.le_trans HTA.out.gr.size HG6.out.size, fun k hk hn => (HG6.out.block k (Nat.lt_of_lt_of_le hk HTA.out.gr.size) (fun e => by have := HBK.out k e.symm; omega)).trans (HTA.out.gr.block k hk hn)⟩
          · skip
            have HTD : Hid (TS w w34.drew b bx A len cap v0 zs a0 y30 c) := HT36.out.drew
            go_upto_region 12 with fail
            refine wp_region_held (S := fun u9 => ∃ c9, TS w u9 b bx A len cap v0 zs a0 y30 c9) (by kernel_rfl) ?_
            change wpAnyH _ _ _ _ _ _ _ _ (World.drew _)
            generalize w34.drew = w9d at *
            have HSD : Hid (∃ c9, TS w w9d b bx A len cap v0 zs a0 y30 c9) := ⟨_, HTD.out⟩
            have hwp : IntKind.i64.wrap (y30 + 1) = y30 + 1 := by rw [IntKind.wrap_i64]; omega
            refine wpAnyH_take (i := 0) (v := .pointer (some ⟨bx, 1, none⟩)) rfl (by kernel_rfl) (by kernel_rfl) (by kernel_rfl) (fun _ _ _ h => h) (Or.inl ⟨by kernel_rfl, fun w9 h9 => ?_⟩) HSD.out ?_
            · clear h9; go_simp
            refine wpAnyH_take (i := 1) (v := .int .i64 y30) rfl (by kernel_rfl) (by kernel_rfl) (by kernel_rfl) (fun _ _ _ h => h) (Or.inl ⟨by kernel_rfl, fun w9 h9 => ?_⟩) HSD.out ?_
            · obtain ⟨c9, h9⟩ := h9; obtain ⟨x0, x1, x2, xf, xl⟩ := h9.cel; clear h9; go_simp
            refine wpAnyH_take (i := 2) (v := .int .i64 (y30 + 1)) rfl (by kernel_rfl) (by kernel_rfl) (by kernel_rfl) (fun _ _ _ h => h) (Or.inl ⟨by kernel_rfl, fun w9 h9 => ?_⟩) HSD.out ?_
            · clear h9; go_simp
            refine wpAnyH_take (i := 3) (v := .pointer (some ⟨bx, 1, none⟩)) rfl (by kernel_rfl) (by kernel_rfl) (by kernel_rfl) (fun _ _ _ h => h) (Or.inl ⟨by kernel_rfl, fun w9 h9 => ?_⟩) HSD.out ?_
            · clear h9; go_simp
            refine wpAnyH_take (i := 4) (v := .int .i64 y30) rfl (by kernel_rfl) (by kernel_rfl) (by kernel_rfl) (fun _ _ _ h => h) (Or.inl ⟨by kernel_rfl, fun w9 h9 => ?_⟩) HSD.out ?_
            · obtain ⟨c9, h9⟩ := h9; obtain ⟨x0, x1, x2, xf, xl⟩ := h9.cel; clear h9; go_simp
            refine wpAnyH_take (i := 6) (v := .pointer (some ⟨b, 0, none⟩)) rfl (by kernel_rfl) (by kernel_rfl) (by kernel_rfl) (fun _ _ _ h => h) (Or.inl ⟨by kernel_rfl, fun w9 h9 => ?_⟩) HSD.out ?_
            · clear h9; go_simp
            have HIN : Hid (inBT (-100) 100 [0, y30 + 1, y30]) := by
              intro x hx
              simp at hx
              omega
            have HBX : Hid (b < w9d.heap.size) := HTD.out.src.lt
            have HTL : Hid (TS w (w9d.alloc (.cells ([0, y30 + 1, y30].map (Value.int .i64)).toArray 2)) b bx A len cap v0 zs a0 y30 c) := HTD.out.alloc _
            refine wpAnyH_all (rs := [5, 7]) (by kernel_rfl) (by simp) (all_two (held_step rfl (by kernel_rfl) fun K hK => ?_) (held_step rfl (by kernel_rfl) fun K hK => ?_))
            · skip
              go_simp
              go_wp2
              refine hK _ _ ⟨_, HTL.out⟩ ?_
              clear hK K
              refine held_one 7 (by kernel_rfl) rfl (by kernel_rfl) fun K hK => ?_
              go_simp
              go_wp2_with fail
              refine (src_n b A len cap 3 _ HTL.out.src (by omega)).mono ?_
              rintro e w9e ⟨r9, rfl, p9, q9, hs9, hg9⟩
              obtain ⟨R9, rfl⟩ := Int.eq_ofNat_of_zero_le p9
              have hR9 : R9 < 3 := by omega
              obtain ⟨y40, hy9, hy1, hy2⟩ := lit_drawT HBX.out hg9 R9 (by simpa using hR9) HIN.out
              have HTE : Hid (TS w w9e b bx A len cap v0 zs a0 y30 c) := HTL.out.grow hg9 hs9
              clear hs9 hg9 p9 q9
              refine hK _ _ ⟨_, HTE.out⟩ ?_
              clear hK K
              have HT41 : Hid (TS w (w9e.setCell ⟨bx, 2, none⟩ (.int .i64 y40)) b bx A len cap v0 zs a0 y30 y40) := HTE.out.put 2 (.int .i64 y40) a0 y30 y40 rfl
              obtain ⟨x0, x1, x2, xf, xl⟩ := HTE.out.cel
              have xf9 := xf 2
              have hr0 : (0 : Int) ≤ (R9 : Int) := by omega
              have hr3 : (R9 : Int) < 3 := by omega
              refine wpAnyH_take (i := 8) (v := .pointer (some ⟨w9d.heap.size, R9, none⟩)) rfl (by kernel_rfl) (by kernel_rfl) (by kernel_rfl) (fun _ _ _ h => h) (Or.inl ⟨by kernel_rfl, fun w9 h9 => ?_⟩) ⟨_, HTE.out⟩ ?_
              · clear h9; go_simp
              refine held_one 9 (by kernel_rfl) rfl (by kernel_rfl) fun K hK => ?_
              go_simp
              go_wp2
              refine hK _ _ ⟨_, HTE.out⟩ ?_
              clear hK K
              refine wpAnyH_take (i := 10) (v := .pointer (some ⟨bx, 2, none⟩)) rfl (by kernel_rfl) (by kernel_rfl) (by kernel_rfl) (fun _ _ _ h => h) (Or.inl ⟨by kernel_rfl, fun w9 h9 => ?_⟩) ⟨_, HTE.out⟩ ?_
              · clear h9; go_simp
              refine held_one 11 (by kernel_rfl) rfl (by kernel_rfl) fun K hK => ?_
              go_simp
              go_wp2
              refine hK _ _ ⟨_, HT41.out⟩ ?_
              clear hK K
              refine wpAnyH_done (by kernel_rfl) ?_ _
              go_simp
              generalize (w9e.setCell ⟨bx, 2, none⟩ (.int .i64 y40)) = w42 at *
              clear x0 x1 x2 xf xl xf9 hy9
              obtain ⟨x0, x1, x2, xf, xl⟩ := HT41.out.cel
              have HAP : Hid _ := appRK HT41.out.row (by omega) HT41.out.gr.size ⟨a0, y30, y40⟩
              have HTA : Hid (TS w (w42.alloc (.cells #[.int .i64 a0, .int .i64 y30, .int .i64 y40] 49)) b bx A len cap v0 zs a0 y30 y40) := HT41.out.alloc _
              clear HT41
              go_wp2_with (at_builtin; (refine wl_appT rfl _ _ 41 rfl _ _ rfl rfl HAP.out ?_; rintro v' u6 ⟨ho, hg2⟩; have HO6 : Hid (u6.ownsRow w.heap.size 49 3 v' (zs.length + 1) (rkR (zs ++ [⟨a0, y30, y40⟩]))) := ho; have HG6 : Hid _ := hg2; clear ho hg2 HAP))
              have HBK : Hid (∀ j, v0.ownBlock = some j → w.heap.size ≤ j) := fun j hj => (HTA.out.row.lt j hj).1
              refine ⟨⟨n - 1, zs ++ [⟨a0, y30, y40⟩], by go_num, by simp; omega, by rw [List.length_append]; exact HO6.out, ?_, ?_⟩, by simp [intOf]; omega⟩
              · exact src_ownT HTA.out.src HG6.out (fun j hj => by have := HBK.out j hj; have := HBL.out; omega)
              · exact ⟨HG6.out.os.trans HTA.out.gr.os, HG6.out.tape.trans HTA.out.gr.tape, HG6.out.output.trans HTA.out.gr.output, Nat.le_trans HTA.out.gr.size HG6.out.size, fun k hk hn => (HG6.out.block k (Nat.lt_of_lt_of_le hk HTA.out.gr.size) (fun e => by have := HBK.out k e.symm; omega)).trans (HTA.out.gr.block k hk hn)⟩
            · skip
              go_simp
              go_wp2_with fail
              refine (src_n b A len cap 3 _ HTD.out.src (by omega)).mono ?_
              rintro e w9e ⟨r9, rfl, p9, q9, hs9, hg9⟩
              obtain ⟨R9, rfl⟩ := Int.eq_ofNat_of_zero_le p9
              have hR9 : R9 < 3 := by omega
              have HTF : Hid (TS w w9e b bx A len cap v0 zs a0 y30 c) := HTD.out.grow hg9 hs9
              clear hs9 hg9 p9 q9
              refine hK _ _ ⟨_, HTF.out⟩ ?_
              clear hK K
              have HTE : Hid (TS w (w9e.alloc (.cells #[.int .i64 0, .int .i64 (y30 + 1), .int .i64 y30] 2)) b bx A len cap v0 zs a0 y30 c) := HTF.out.alloc _
              obtain ⟨y43, hy9, hy1, hy2⟩ : ∃ y : Int, (w9e.alloc (.cells #[.int .i64 0, .int .i64 (y30 + 1), .int .i64 y30] 2)).cell? ⟨w9e.heap.size, R9, none⟩ = some (.int .i64 y) ∧ -100 ≤ y ∧ y ≤ 100 := ⟨_, lit_cellT (C := [0, y30 + 1, y30]) (heap_new _ _) (by simpa using hR9), (HIN.out _ (List.getElem_mem (by simpa using hR9))).1, (HIN.out _ (List.getElem_mem (by simpa using hR9))).2⟩
              refine held_one 5 (by kernel_rfl) rfl (by kernel_rfl) fun K hK => ?_
              go_simp
              go_wp2
              refine hK _ _ ⟨_, HTE.out⟩ ?_
              clear hK K
              generalize hlb : w9e.heap.size = lb at *
              clear hlb
              generalize (w9e.alloc (.cells #[.int .i64 0, .int .i64 (y30 + 1), .int .i64 y30] 2)) = w9f at *
              have HT44 : Hid (TS w (w9f.setCell ⟨bx, 2, none⟩ (.int .i64 y43)) b bx A len cap v0 zs a0 y30 y43) := HTE.out.put 2 (.int .i64 y43) a0 y30 y43 rfl
              obtain ⟨x0, x1, x2, xf, xl⟩ := HTE.out.cel
              have xf9 := xf 2
              have hr0 : (0 : Int) ≤ (R9 : Int) := by omega
              have hr3 : (R9 : Int) < 3 := by omega
              refine wpAnyH_take (i := 8) (v := .pointer (some ⟨lb, R9, none⟩)) rfl (by kernel_rfl) (by kernel_rfl) (by kernel_rfl) (fun _ _ _ h => h) (Or.inl ⟨by kernel_rfl, fun w9 h9 => ?_⟩) ⟨_, HTE.out⟩ ?_
              · clear h9; go_simp
              refine held_one 9 (by kernel_rfl) rfl (by kernel_rfl) fun K hK => ?_
              go_simp
              go_wp2
              refine hK _ _ ⟨_, HTE.out⟩ ?_
              clear hK K
              refine wpAnyH_take (i := 10) (v := .pointer (some ⟨bx, 2, none⟩)) rfl (by kernel_rfl) (by kernel_rfl) (by kernel_rfl) (fun _ _ _ h => h) (Or.inl ⟨by kernel_rfl, fun w9 h9 => ?_⟩) ⟨_, HTE.out⟩ ?_
              · clear h9; go_simp
              refine held_one 11 (by kernel_rfl) rfl (by kernel_rfl) fun K hK => ?_
              go_simp
              go_wp2
              refine hK _ _ ⟨_, HT44.out⟩ ?_
              clear hK K
              refine wpAnyH_done (by kernel_rfl) ?_ _
              go_simp
              generalize (w9f.setCell ⟨bx, 2, none⟩ (.int .i64 y43)) = w45 at *
              clear x0 x1 x2 xf xl xf9 hy9
              obtain ⟨x0, x1, x2, xf, xl⟩ := HT44.out.cel
              have HAP : Hid _ := appRK HT44.out.row (by omega) HT44.out.gr.size ⟨a0, y30, y43⟩
              have HTA : Hid (TS w (w45.alloc (.cells #[.int .i64 a0, .int .i64 y30, .int .i64 y43] 49)) b bx A len cap v0 zs a0 y30 y43) := HT44.out.alloc _
              clear HT44
              go_wp2_with (at_builtin; (refine wl_appT rfl _ _ 41 rfl _ _ rfl rfl HAP.out ?_; rintro v' u6 ⟨ho, hg2⟩; have HO6 : Hid (u6.ownsRow w.heap.size 49 3 v' (zs.length + 1) (rkR (zs ++ [⟨a0, y30, y43⟩]))) := ho; have HG6 : Hid _ := hg2; clear ho hg2 HAP))
              have HBK : Hid (∀ j, v0.ownBlock = some j → w.heap.size ≤ j) := fun j hj => (HTA.out.row.lt j hj).1
              refine ⟨⟨n - 1, zs ++ [⟨a0, y30, y43⟩], by go_num, by simp; omega, by rw [List.length_append]; exact HO6.out, ?_, ?_⟩, by simp [intOf]; omega⟩
              · exact src_ownT HTA.out.src HG6.out (fun j hj => by have := HBK.out j hj; have := HBL.out; omega)
              · exact ⟨HG6.out.os.trans HTA.out.gr.os, HG6.out.tape.trans HTA.out.gr.tape, HG6.out.output.trans HTA.out.gr.output, Nat.le_trans HTA.out.gr.size HG6.out.size, fun k hk hn => (HG6.out.block k (Nat.lt_of_lt_of_le hk HTA.out.gr.size) (fun e => by have := HBK.out k e.symm; omega)).trans (HTA.out.gr.block k hk hn)⟩
      · skip
        have HIN : Hid (inBT (-1) 101 [-1, 101, 100]) := by
          intro x hx
          simp at hx
          omega
        have HBX : Hid (b < w11.heap.size) := HT13.out.src.lt
        have HTL : Hid (TS w (w11.alloc (.cells ([-1, 101, 100].map (Value.int .i64)).toArray 2)) b bx A len cap v0 zs a0 p c) := HT13.out.alloc _
        clear HT13
        go_wp2_with fail
        refine (src_n b A len cap 3 _ HTL.out.src (by omega)).mono ?_
        rintro e w46 ⟨r9, rfl, p9, q9, hs9, hg9⟩
        obtain ⟨R9, rfl⟩ := Int.eq_ofNat_of_zero_le p9
        have hR9 : R9 < 3 := by omega
        obtain ⟨y47, hy9, hy1, hy2⟩ := lit_drawT HBX.out hg9 R9 (by simpa using hR9) HIN.out
        have HT48 : Hid (TS w w46 b bx A len cap v0 zs a0 p c) := HTL.out.grow hg9 hs9
        have HT49 : Hid (TS w (w46.setCell ⟨bx, 0, none⟩ (.int .i64 y47)) b bx A len cap v0 zs y47 p c) := HT48.out.put 0 (.int .i64 y47) y47 p c rfl
        obtain ⟨x0, x1, x2, xf, xl⟩ := HT48.out.cel
        have xf9 := xf 0
        clear hs9 hg9 HTL HIN HBX p9 q9 HT48
        go_upto_region 9 with fail
        generalize (w46.setCell ⟨bx, 0, none⟩ (.int .i64 y47)) = w50 at *
        clear x0 x1 x2 xf xl xf9 hy9
        go_wp2_with fail
        refine (src_one b A len cap 40 _ HT49.out.src (by omega)).mono ?_
        rintro e w51 ⟨o52, rfl, hs9, hg9⟩
        have HT53 : Hid (TS w w51 b bx A len cap v0 zs y47 p c) := HT49.out.grow hg9 hs9
        clear hs9 hg9 HT49
        cases o52
        · skip
          go_wp2_with fail
          refine (src_one b A len cap 40 _ HT53.out.src (by omega)).mono ?_
          rintro e w54 ⟨o55, rfl, hs9, hg9⟩
          have HT56 : Hid (TS w w54 b bx A len cap v0 zs y47 p c) := HT53.out.grow hg9 hs9
          clear hs9 hg9 HT53
          cases o55
          · skip
            obtain ⟨x0, x1, x2, xf, xl⟩ := HT56.out.cel
            have HAP : Hid _ := appRK HT56.out.row (by omega) HT56.out.gr.size ⟨y47, p, c⟩
            have HTA : Hid (TS w (w54.alloc (.cells #[.int .i64 y47, .int .i64 p, .int .i64 c] 49)) b bx A len cap v0 zs y47 p c) := HT56.out.alloc _
            clear HT56
            go_wp2_with (at_builtin; (refine wl_appT rfl _ _ 41 rfl _ _ rfl rfl HAP.out ?_; rintro v' u6 ⟨ho, hg2⟩; have HO6 : Hid (u6.ownsRow w.heap.size 49 3 v' (zs.length + 1) (rkR (zs ++ [⟨y47, p, c⟩]))) := ho; have HG6 : Hid _ := hg2; clear ho hg2 HAP))
            have HBK : Hid (∀ j, v0.ownBlock = some j → w.heap.size ≤ j) := fun j hj => (HTA.out.row.lt j hj).1
            refine ⟨⟨n - 1, zs ++ [⟨y47, p, c⟩], by go_num, by simp; omega, by rw [List.length_append]; exact HO6.out, ?_, ?_⟩, by simp [intOf]; omega⟩
            · exact src_ownT HTA.out.src HG6.out (fun j hj => by have := HBK.out j hj; have := HBL.out; omega)
            · exact ⟨HG6.out.os.trans HTA.out.gr.os, HG6.out.tape.trans HTA.out.gr.tape, HG6.out.output.trans HTA.out.gr.output, Nat.le_trans HTA.out.gr.size HG6.out.size, fun k hk hn => (HG6.out.block k (Nat.lt_of_lt_of_le hk HTA.out.gr.size) (fun e => by have := HBK.out k e.symm; omega)).trans (HTA.out.gr.block k hk hn)⟩
          · skip
            have HTD : Hid (TS w w54.drew b bx A len cap v0 zs y47 p c) := HT56.out.drew
            go_upto_region 12 with fail
            refine wp_region_held (S := fun u9 => ∃ c9, TS w u9 b bx A len cap v0 zs y47 p c9) (by kernel_rfl) ?_
            change wpAnyH _ _ _ _ _ _ _ _ (World.drew _)
            generalize w54.drew = w9d at *
            have HSD : Hid (∃ c9, TS w w9d b bx A len cap v0 zs y47 p c9) := ⟨_, HTD.out⟩
            have hwp : IntKind.i64.wrap (p + 1) = p + 1 := by rw [IntKind.wrap_i64]; omega
            refine wpAnyH_take (i := 0) (v := .pointer (some ⟨bx, 1, none⟩)) rfl (by kernel_rfl) (by kernel_rfl) (by kernel_rfl) (fun _ _ _ h => h) (Or.inl ⟨by kernel_rfl, fun w9 h9 => ?_⟩) HSD.out ?_
            · clear h9; go_simp
            refine wpAnyH_take (i := 1) (v := .int .i64 p) rfl (by kernel_rfl) (by kernel_rfl) (by kernel_rfl) (fun _ _ _ h => h) (Or.inl ⟨by kernel_rfl, fun w9 h9 => ?_⟩) HSD.out ?_
            · obtain ⟨c9, h9⟩ := h9; obtain ⟨x0, x1, x2, xf, xl⟩ := h9.cel; clear h9; go_simp
            refine wpAnyH_take (i := 2) (v := .int .i64 (p + 1)) rfl (by kernel_rfl) (by kernel_rfl) (by kernel_rfl) (fun _ _ _ h => h) (Or.inl ⟨by kernel_rfl, fun w9 h9 => ?_⟩) HSD.out ?_
            · clear h9; go_simp
            refine wpAnyH_take (i := 3) (v := .pointer (some ⟨bx, 1, none⟩)) rfl (by kernel_rfl) (by kernel_rfl) (by kernel_rfl) (fun _ _ _ h => h) (Or.inl ⟨by kernel_rfl, fun w9 h9 => ?_⟩) HSD.out ?_
            · clear h9; go_simp
            refine wpAnyH_take (i := 4) (v := .int .i64 p) rfl (by kernel_rfl) (by kernel_rfl) (by kernel_rfl) (fun _ _ _ h => h) (Or.inl ⟨by kernel_rfl, fun w9 h9 => ?_⟩) HSD.out ?_
            · obtain ⟨c9, h9⟩ := h9; obtain ⟨x0, x1, x2, xf, xl⟩ := h9.cel; clear h9; go_simp
            refine wpAnyH_take (i := 6) (v := .pointer (some ⟨b, 0, none⟩)) rfl (by kernel_rfl) (by kernel_rfl) (by kernel_rfl) (fun _ _ _ h => h) (Or.inl ⟨by kernel_rfl, fun w9 h9 => ?_⟩) HSD.out ?_
            · clear h9; go_simp
            have HIN : Hid (inBT (-100) 100 [0, p + 1, p]) := by
              intro x hx
              simp at hx
              omega
            have HBX : Hid (b < w9d.heap.size) := HTD.out.src.lt
            have HTL : Hid (TS w (w9d.alloc (.cells ([0, p + 1, p].map (Value.int .i64)).toArray 2)) b bx A len cap v0 zs y47 p c) := HTD.out.alloc _
            refine wpAnyH_all (rs := [5, 7]) (by kernel_rfl) (by simp) (all_two (held_step rfl (by kernel_rfl) fun K hK => ?_) (held_step rfl (by kernel_rfl) fun K hK => ?_))
            · skip
              go_simp
              go_wp2
              refine hK _ _ ⟨_, HTL.out⟩ ?_
              clear hK K
              refine held_one 7 (by kernel_rfl) rfl (by kernel_rfl) fun K hK => ?_
              go_simp
              go_wp2_with fail
              refine (src_n b A len cap 3 _ HTL.out.src (by omega)).mono ?_
              rintro e w9e ⟨r9, rfl, p9, q9, hs9, hg9⟩
              obtain ⟨R9, rfl⟩ := Int.eq_ofNat_of_zero_le p9
              have hR9 : R9 < 3 := by omega
              obtain ⟨y60, hy9, hy1, hy2⟩ := lit_drawT HBX.out hg9 R9 (by simpa using hR9) HIN.out
              have HTE : Hid (TS w w9e b bx A len cap v0 zs y47 p c) := HTL.out.grow hg9 hs9
              clear hs9 hg9 p9 q9
              refine hK _ _ ⟨_, HTE.out⟩ ?_
              clear hK K
              have HT61 : Hid (TS w (w9e.setCell ⟨bx, 2, none⟩ (.int .i64 y60)) b bx A len cap v0 zs y47 p y60) := HTE.out.put 2 (.int .i64 y60) y47 p y60 rfl
              obtain ⟨x0, x1, x2, xf, xl⟩ := HTE.out.cel
              have xf9 := xf 2
              have hr0 : (0 : Int) ≤ (R9 : Int) := by omega
              have hr3 : (R9 : Int) < 3 := by omega
              refine wpAnyH_take (i := 8) (v := .pointer (some ⟨w9d.heap.size, R9, none⟩)) rfl (by kernel_rfl) (by kernel_rfl) (by kernel_rfl) (fun _ _ _ h => h) (Or.inl ⟨by kernel_rfl, fun w9 h9 => ?_⟩) ⟨_, HTE.out⟩ ?_
              · clear h9; go_simp
              refine held_one 9 (by kernel_rfl) rfl (by kernel_rfl) fun K hK => ?_
              go_simp
              go_wp2
              refine hK _ _ ⟨_, HTE.out⟩ ?_
              clear hK K
              refine wpAnyH_take (i := 10) (v := .pointer (some ⟨bx, 2, none⟩)) rfl (by kernel_rfl) (by kernel_rfl) (by kernel_rfl) (fun _ _ _ h => h) (Or.inl ⟨by kernel_rfl, fun w9 h9 => ?_⟩) ⟨_, HTE.out⟩ ?_
              · clear h9; go_simp
              refine held_one 11 (by kernel_rfl) rfl (by kernel_rfl) fun K hK => ?_
              go_simp
              go_wp2
              refine hK _ _ ⟨_, HT61.out⟩ ?_
              clear hK K
              refine wpAnyH_done (by kernel_rfl) ?_ _
              go_simp
              generalize (w9e.setCell ⟨bx, 2, none⟩ (.int .i64 y60)) = w62 at *
              clear x0 x1 x2 xf xl xf9 hy9
              obtain ⟨x0, x1, x2, xf, xl⟩ := HT61.out.cel
              have HAP : Hid _ := appRK HT61.out.row (by omega) HT61.out.gr.size ⟨y47, p, y60⟩
              have HTA : Hid (TS w (w62.alloc (.cells #[.int .i64 y47, .int .i64 p, .int .i64 y60] 49)) b bx A len cap v0 zs y47 p y60) := HT61.out.alloc _
              clear HT61
              go_wp2_with (at_builtin; (refine wl_appT rfl _ _ 41 rfl _ _ rfl rfl HAP.out ?_; rintro v' u6 ⟨ho, hg2⟩; have HO6 : Hid (u6.ownsRow w.heap.size 49 3 v' (zs.length + 1) (rkR (zs ++ [⟨y47, p, y60⟩]))) := ho; have HG6 : Hid _ := hg2; clear ho hg2 HAP))
              have HBK : Hid (∀ j, v0.ownBlock = some j → w.heap.size ≤ j) := fun j hj => (HTA.out.row.lt j hj).1
              refine ⟨⟨n - 1, zs ++ [⟨y47, p, y60⟩], by go_num, by simp; omega, by rw [List.length_append]; exact HO6.out, ?_, ?_⟩, by simp [intOf]; omega⟩
              · exact src_ownT HTA.out.src HG6.out (fun j hj => by have := HBK.out j hj; have := HBL.out; omega)
              · exact ⟨HG6.out.os.trans HTA.out.gr.os, HG6.out.tape.trans HTA.out.gr.tape, HG6.out.output.trans HTA.out.gr.output, Nat.le_trans HTA.out.gr.size HG6.out.size, fun k hk hn => (HG6.out.block k (Nat.lt_of_lt_of_le hk HTA.out.gr.size) (fun e => by have := HBK.out k e.symm; omega)).trans (HTA.out.gr.block k hk hn)⟩
            · skip
              go_simp
              go_wp2_with fail
              refine (src_n b A len cap 3 _ HTD.out.src (by omega)).mono ?_
              rintro e w9e ⟨r9, rfl, p9, q9, hs9, hg9⟩
              obtain ⟨R9, rfl⟩ := Int.eq_ofNat_of_zero_le p9
              have hR9 : R9 < 3 := by omega
              have HTF : Hid (TS w w9e b bx A len cap v0 zs y47 p c) := HTD.out.grow hg9 hs9
              clear hs9 hg9 p9 q9
              refine hK _ _ ⟨_, HTF.out⟩ ?_
              clear hK K
              have HTE : Hid (TS w (w9e.alloc (.cells #[.int .i64 0, .int .i64 (p + 1), .int .i64 p] 2)) b bx A len cap v0 zs y47 p c) := HTF.out.alloc _
              obtain ⟨y63, hy9, hy1, hy2⟩ : ∃ y : Int, (w9e.alloc (.cells #[.int .i64 0, .int .i64 (p + 1), .int .i64 p] 2)).cell? ⟨w9e.heap.size, R9, none⟩ = some (.int .i64 y) ∧ -100 ≤ y ∧ y ≤ 100 := ⟨_, lit_cellT (C := [0, p + 1, p]) (heap_new _ _) (by simpa using hR9), (HIN.out _ (List.getElem_mem (by simpa using hR9))).1, (HIN.out _ (List.getElem_mem (by simpa using hR9))).2⟩
              refine held_one 5 (by kernel_rfl) rfl (by kernel_rfl) fun K hK => ?_
              go_simp
              go_wp2
              refine hK _ _ ⟨_, HTE.out⟩ ?_
              clear hK K
              generalize hlb : w9e.heap.size = lb at *
              clear hlb
              generalize (w9e.alloc (.cells #[.int .i64 0, .int .i64 (p + 1), .int .i64 p] 2)) = w9f at *
              have HT64 : Hid (TS w (w9f.setCell ⟨bx, 2, none⟩ (.int .i64 y63)) b bx A len cap v0 zs y47 p y63) := HTE.out.put 2 (.int .i64 y63) y47 p y63 rfl
              obtain ⟨x0, x1, x2, xf, xl⟩ := HTE.out.cel
              have xf9 := xf 2
              have hr0 : (0 : Int) ≤ (R9 : Int) := by omega
              have hr3 : (R9 : Int) < 3 := by omega
              refine wpAnyH_take (i := 8) (v := .pointer (some ⟨lb, R9, none⟩)) rfl (by kernel_rfl) (by kernel_rfl) (by kernel_rfl) (fun _ _ _ h => h) (Or.inl ⟨by kernel_rfl, fun w9 h9 => ?_⟩) ⟨_, HTE.out⟩ ?_
              · clear h9; go_simp
              refine held_one 9 (by kernel_rfl) rfl (by kernel_rfl) fun K hK => ?_
              go_simp
              go_wp2
              refine hK _ _ ⟨_, HTE.out⟩ ?_
              clear hK K
              refine wpAnyH_take (i := 10) (v := .pointer (some ⟨bx, 2, none⟩)) rfl (by kernel_rfl) (by kernel_rfl) (by kernel_rfl) (fun _ _ _ h => h) (Or.inl ⟨by kernel_rfl, fun w9 h9 => ?_⟩) ⟨_, HTE.out⟩ ?_
              · clear h9; go_simp
              refine held_one 11 (by kernel_rfl) rfl (by kernel_rfl) fun K hK => ?_
              go_simp
              go_wp2
              refine hK _ _ ⟨_, HT64.out⟩ ?_
              clear hK K
              refine wpAnyH_done (by kernel_rfl) ?_ _
              go_simp
              generalize (w9f.setCell ⟨bx, 2, none⟩ (.int .i64 y63)) = w65 at *
              clear x0 x1 x2 xf xl xf9 hy9
              obtain ⟨x0, x1, x2, xf, xl⟩ := HT64.out.cel
              have HAP : Hid _ := appRK HT64.out.row (by omega) HT64.out.gr.size ⟨y47, p, y63⟩
              have HTA : Hid (TS w (w65.alloc (.cells #[.int .i64 y47, .int .i64 p, .int .i64 y63] 49)) b bx A len cap v0 zs y47 p y63) := HT64.out.alloc _
              clear HT64
              go_wp2_with (at_builtin; (refine wl_appT rfl _ _ 41 rfl _ _ rfl rfl HAP.out ?_; rintro v' u6 ⟨ho, hg2⟩; have HO6 : Hid (u6.ownsRow w.heap.size 49 3 v' (zs.length + 1) (rkR (zs ++ [⟨y47, p, y63⟩]))) := ho; have HG6 : Hid _ := hg2; clear ho hg2 HAP))
              have HBK : Hid (∀ j, v0.ownBlock = some j → w.heap.size ≤ j) := fun j hj => (HTA.out.row.lt j hj).1
              refine ⟨⟨n - 1, zs ++ [⟨y47, p, y63⟩], by go_num, by simp; omega, by rw [List.length_append]; exact HO6.out, ?_, ?_⟩, by simp [intOf]; omega⟩
              · exact src_ownT HTA.out.src HG6.out (fun j hj => by have := HBK.out j hj; have := HBL.out; omega)
              · exact ⟨HG6.out.os.trans HTA.out.gr.os, HG6.out.tape.trans HTA.out.gr.tape, HG6.out.output.trans HTA.out.gr.output, Nat.le_trans HTA.out.gr.size HG6.out.size, fun k hk hn => (HG6.out.block k (Nat.lt_of_lt_of_le hk HTA.out.gr.size) (fun e => by have := HBK.out k e.symm; omega)).trans (HTA.out.gr.block k hk hn)⟩
        · skip
          have HIN : Hid (inBT 0 41 [0, 41]) := by
            intro x hx
            simp at hx
            omega
          have HBX : Hid (b < w51.heap.size) := HT53.out.src.lt
          have HTL : Hid (TS w (w51.alloc (.cells ([0, 41].map (Value.int .i64)).toArray 2)) b bx A len cap v0 zs y47 p c) := HT53.out.alloc _
          clear HT53
          go_wp2_with fail
          refine (src_n b A len cap 2 _ HTL.out.src (by omega)).mono ?_
          rintro e w66 ⟨r9, rfl, p9, q9, hs9, hg9⟩
          obtain ⟨R9, rfl⟩ := Int.eq_ofNat_of_zero_le p9
          have hR9 : R9 < 2 := by omega
          obtain ⟨y67, hy9, hy1, hy2⟩ := lit_drawT HBX.out hg9 R9 (by simpa using hR9) HIN.out
          have HT68 : Hid (TS w w66 b bx A len cap v0 zs y47 p c) := HTL.out.grow hg9 hs9
          have HT69 : Hid (TS w (w66.setCell ⟨bx, 1, none⟩ (.int .i64 y67)) b bx A len cap v0 zs y47 y67 c) := HT68.out.put 1 (.int .i64 y67) y47 y67 c rfl
          obtain ⟨x0, x1, x2, xf, xl⟩ := HT68.out.cel
          have xf9 := xf 1
          clear hs9 hg9 HTL HIN HBX p9 q9 HT68
          go_upto_region 11 with fail
          generalize (w66.setCell ⟨bx, 1, none⟩ (.int .i64 y67)) = w70 at *
          clear x0 x1 x2 xf xl xf9 hy9
          go_wp2_with fail
          refine (src_one b A len cap 40 _ HT69.out.src (by omega)).mono ?_
          rintro e w71 ⟨o72, rfl, hs9, hg9⟩
          have HT73 : Hid (TS w w71 b bx A len cap v0 zs y47 y67 c) := HT69.out.grow hg9 hs9
          clear hs9 hg9 HT69
          cases o72
          · skip
            obtain ⟨x0, x1, x2, xf, xl⟩ := HT73.out.cel
            have HAP : Hid _ := appRK HT73.out.row (by omega) HT73.out.gr.size ⟨y47, y67, c⟩
            have HTA : Hid (TS w (w71.alloc (.cells #[.int .i64 y47, .int .i64 y67, .int .i64 c] 49)) b bx A len cap v0 zs y47 y67 c) := HT73.out.alloc _
            clear HT73
            go_wp2_with (at_builtin; (refine wl_appT rfl _ _ 41 rfl _ _ rfl rfl HAP.out ?_; rintro v' u6 ⟨ho, hg2⟩; have HO6 : Hid (u6.ownsRow w.heap.size 49 3 v' (zs.length + 1) (rkR (zs ++ [⟨y47, y67, c⟩]))) := ho; have HG6 : Hid _ := hg2; clear ho hg2 HAP))
            have HBK : Hid (∀ j, v0.ownBlock = some j → w.heap.size ≤ j) := fun j hj => (HTA.out.row.lt j hj).1
            refine ⟨⟨n - 1, zs ++ [⟨y47, y67, c⟩], by go_num, by simp; omega, by rw [List.length_append]; exact HO6.out, ?_, ?_⟩, by simp [intOf]; omega⟩
            · exact src_ownT HTA.out.src HG6.out (fun j hj => by have := HBK.out j hj; have := HBL.out; omega)
            · exact ⟨HG6.out.os.trans HTA.out.gr.os, HG6.out.tape.trans HTA.out.gr.tape, HG6.out.output.trans HTA.out.gr.output, Nat.le_trans HTA.out.gr.size HG6.out.size, fun k hk hn => (HG6.out.block k (Nat.lt_of_lt_of_le hk HTA.out.gr.size) (fun e => by have := HBK.out k e.symm; omega)).trans (HTA.out.gr.block k hk hn)⟩
          · skip
            have HTD : Hid (TS w w71.drew b bx A len cap v0 zs y47 y67 c) := HT73.out.drew
            go_upto_region 12 with fail
            refine wp_region_held (S := fun u9 => ∃ c9, TS w u9 b bx A len cap v0 zs y47 y67 c9) (by kernel_rfl) ?_
            change wpAnyH _ _ _ _ _ _ _ _ (World.drew _)
            generalize w71.drew = w9d at *
            have HSD : Hid (∃ c9, TS w w9d b bx A len cap v0 zs y47 y67 c9) := ⟨_, HTD.out⟩
            have hwp : IntKind.i64.wrap (y67 + 1) = y67 + 1 := by rw [IntKind.wrap_i64]; omega
            refine wpAnyH_take (i := 0) (v := .pointer (some ⟨bx, 1, none⟩)) rfl (by kernel_rfl) (by kernel_rfl) (by kernel_rfl) (fun _ _ _ h => h) (Or.inl ⟨by kernel_rfl, fun w9 h9 => ?_⟩) HSD.out ?_
            · clear h9; go_simp
            refine wpAnyH_take (i := 1) (v := .int .i64 y67) rfl (by kernel_rfl) (by kernel_rfl) (by kernel_rfl) (fun _ _ _ h => h) (Or.inl ⟨by kernel_rfl, fun w9 h9 => ?_⟩) HSD.out ?_
            · obtain ⟨c9, h9⟩ := h9; obtain ⟨x0, x1, x2, xf, xl⟩ := h9.cel; clear h9; go_simp
            refine wpAnyH_take (i := 2) (v := .int .i64 (y67 + 1)) rfl (by kernel_rfl) (by kernel_rfl) (by kernel_rfl) (fun _ _ _ h => h) (Or.inl ⟨by kernel_rfl, fun w9 h9 => ?_⟩) HSD.out ?_
            · clear h9; go_simp
            refine wpAnyH_take (i := 3) (v := .pointer (some ⟨bx, 1, none⟩)) rfl (by kernel_rfl) (by kernel_rfl) (by kernel_rfl) (fun _ _ _ h => h) (Or.inl ⟨by kernel_rfl, fun w9 h9 => ?_⟩) HSD.out ?_
            · clear h9; go_simp
            refine wpAnyH_take (i := 4) (v := .int .i64 y67) rfl (by kernel_rfl) (by kernel_rfl) (by kernel_rfl) (fun _ _ _ h => h) (Or.inl ⟨by kernel_rfl, fun w9 h9 => ?_⟩) HSD.out ?_
            · obtain ⟨c9, h9⟩ := h9; obtain ⟨x0, x1, x2, xf, xl⟩ := h9.cel; clear h9; go_simp
            refine wpAnyH_take (i := 6) (v := .pointer (some ⟨b, 0, none⟩)) rfl (by kernel_rfl) (by kernel_rfl) (by kernel_rfl) (fun _ _ _ h => h) (Or.inl ⟨by kernel_rfl, fun w9 h9 => ?_⟩) HSD.out ?_
            · clear h9; go_simp
            have HIN : Hid (inBT (-100) 100 [0, y67 + 1, y67]) := by
              intro x hx
              simp at hx
              omega
            have HBX : Hid (b < w9d.heap.size) := HTD.out.src.lt
            have HTL : Hid (TS w (w9d.alloc (.cells ([0, y67 + 1, y67].map (Value.int .i64)).toArray 2)) b bx A len cap v0 zs y47 y67 c) := HTD.out.alloc _
            refine wpAnyH_all (rs := [5, 7]) (by kernel_rfl) (by simp) (all_two (held_step rfl (by kernel_rfl) fun K hK => ?_) (held_step rfl (by kernel_rfl) fun K hK => ?_))
            · skip
              go_simp
              go_wp2
              refine hK _ _ ⟨_, HTL.out⟩ ?_
              clear hK K
              refine held_one 7 (by kernel_rfl) rfl (by kernel_rfl) fun K hK => ?_
              go_simp
              go_wp2_with fail
              refine (src_n b A len cap 3 _ HTL.out.src (by omega)).mono ?_
              rintro e w9e ⟨r9, rfl, p9, q9, hs9, hg9⟩
              obtain ⟨R9, rfl⟩ := Int.eq_ofNat_of_zero_le p9
              have hR9 : R9 < 3 := by omega
              obtain ⟨y77, hy9, hy1, hy2⟩ := lit_drawT HBX.out hg9 R9 (by simpa using hR9) HIN.out
              have HTE : Hid (TS w w9e b bx A len cap v0 zs y47 y67 c) := HTL.out.grow hg9 hs9
              clear hs9 hg9 p9 q9
              refine hK _ _ ⟨_, HTE.out⟩ ?_
              clear hK K
              have HT78 : Hid (TS w (w9e.setCell ⟨bx, 2, none⟩ (.int .i64 y77)) b bx A len cap v0 zs y47 y67 y77) := HTE.out.put 2 (.int .i64 y77) y47 y67 y77 rfl
              obtain ⟨x0, x1, x2, xf, xl⟩ := HTE.out.cel
              have xf9 := xf 2
              have hr0 : (0 : Int) ≤ (R9 : Int) := by omega
              have hr3 : (R9 : Int) < 3 := by omega
              refine wpAnyH_take (i := 8) (v := .pointer (some ⟨w9d.heap.size, R9, none⟩)) rfl (by kernel_rfl) (by kernel_rfl) (by kernel_rfl) (fun _ _ _ h => h) (Or.inl ⟨by kernel_rfl, fun w9 h9 => ?_⟩) ⟨_, HTE.out⟩ ?_
              · clear h9; go_simp
              refine held_one 9 (by kernel_rfl) rfl (by kernel_rfl) fun K hK => ?_
              go_simp
              go_wp2
              refine hK _ _ ⟨_, HTE.out⟩ ?_
              clear hK K
              refine wpAnyH_take (i := 10) (v := .pointer (some ⟨bx, 2, none⟩)) rfl (by kernel_rfl) (by kernel_rfl) (by kernel_rfl) (fun _ _ _ h => h) (Or.inl ⟨by kernel_rfl, fun w9 h9 => ?_⟩) ⟨_, HTE.out⟩ ?_
              · clear h9; go_simp
              refine held_one 11 (by kernel_rfl) rfl (by kernel_rfl) fun K hK => ?_
              go_simp
              go_wp2
              refine hK _ _ ⟨_, HT78.out⟩ ?_
              clear hK K
              refine wpAnyH_done (by kernel_rfl) ?_ _
              go_simp
              generalize (w9e.setCell ⟨bx, 2, none⟩ (.int .i64 y77)) = w79 at *
              clear x0 x1 x2 xf xl xf9 hy9
              obtain ⟨x0, x1, x2, xf, xl⟩ := HT78.out.cel
              have HAP : Hid _ := appRK HT78.out.row (by omega) HT78.out.gr.size ⟨y47, y67, y77⟩
              have HTA : Hid (TS w (w79.alloc (.cells #[.int .i64 y47, .int .i64 y67, .int .i64 y77] 49)) b bx A len cap v0 zs y47 y67 y77) := HT78.out.alloc _
              clear HT78
              go_wp2_with (at_builtin; (refine wl_appT rfl _ _ 41 rfl _ _ rfl rfl HAP.out ?_; rintro v' u6 ⟨ho, hg2⟩; have HO6 : Hid (u6.ownsRow w.heap.size 49 3 v' (zs.length + 1) (rkR (zs ++ [⟨y47, y67, y77⟩]))) := ho; have HG6 : Hid _ := hg2; clear ho hg2 HAP))
              have HBK : Hid (∀ j, v0.ownBlock = some j → w.heap.size ≤ j) := fun j hj => (HTA.out.row.lt j hj).1
              refine ⟨⟨n - 1, zs ++ [⟨y47, y67, y77⟩], by go_num, by simp; omega, by rw [List.length_append]; exact HO6.out, ?_, ?_⟩, by simp [intOf]; omega⟩
              · exact src_ownT HTA.out.src HG6.out (fun j hj => by have := HBK.out j hj; have := HBL.out; omega)
              · exact ⟨HG6.out.os.trans HTA.out.gr.os, HG6.out.tape.trans HTA.out.gr.tape, HG6.out.output.trans HTA.out.gr.output, Nat.le_trans HTA.out.gr.size HG6.out.size, fun k hk hn => (HG6.out.block k (Nat.lt_of_lt_of_le hk HTA.out.gr.size) (fun e => by have := HBK.out k e.symm; omega)).trans (HTA.out.gr.block k hk hn)⟩
            · skip
              go_simp
              go_wp2_with fail
              refine (src_n b A len cap 3 _ HTD.out.src (by omega)).mono ?_
              rintro e w9e ⟨r9, rfl, p9, q9, hs9, hg9⟩
              obtain ⟨R9, rfl⟩ := Int.eq_ofNat_of_zero_le p9
              have hR9 : R9 < 3 := by omega
              have HTF : Hid (TS w w9e b bx A len cap v0 zs y47 y67 c) := HTD.out.grow hg9 hs9
              clear hs9 hg9 p9 q9
              refine hK _ _ ⟨_, HTF.out⟩ ?_
              clear hK K
              have HTE : Hid (TS w (w9e.alloc (.cells #[.int .i64 0, .int .i64 (y67 + 1), .int .i64 y67] 2)) b bx A len cap v0 zs y47 y67 c) := HTF.out.alloc _
              obtain ⟨y80, hy9, hy1, hy2⟩ : ∃ y : Int, (w9e.alloc (.cells #[.int .i64 0, .int .i64 (y67 + 1), .int .i64 y67] 2)).cell? ⟨w9e.heap.size, R9, none⟩ = some (.int .i64 y) ∧ -100 ≤ y ∧ y ≤ 100 := ⟨_, lit_cellT (C := [0, y67 + 1, y67]) (heap_new _ _) (by simpa using hR9), (HIN.out _ (List.getElem_mem (by simpa using hR9))).1, (HIN.out _ (List.getElem_mem (by simpa using hR9))).2⟩
              refine held_one 5 (by kernel_rfl) rfl (by kernel_rfl) fun K hK => ?_
              go_simp
              go_wp2
              refine hK _ _ ⟨_, HTE.out⟩ ?_
              clear hK K
              generalize hlb : w9e.heap.size = lb at *
              clear hlb
              generalize (w9e.alloc (.cells #[.int .i64 0, .int .i64 (y67 + 1), .int .i64 y67] 2)) = w9f at *
              have HT81 : Hid (TS w (w9f.setCell ⟨bx, 2, none⟩ (.int .i64 y80)) b bx A len cap v0 zs y47 y67 y80) := HTE.out.put 2 (.int .i64 y80) y47 y67 y80 rfl
              obtain ⟨x0, x1, x2, xf, xl⟩ := HTE.out.cel
              have xf9 := xf 2
              have hr0 : (0 : Int) ≤ (R9 : Int) := by omega
              have hr3 : (R9 : Int) < 3 := by omega
              refine wpAnyH_take (i := 8) (v := .pointer (some ⟨lb, R9, none⟩)) rfl (by kernel_rfl) (by kernel_rfl) (by kernel_rfl) (fun _ _ _ h => h) (Or.inl ⟨by kernel_rfl, fun w9 h9 => ?_⟩) ⟨_, HTE.out⟩ ?_
              · clear h9; go_simp
              refine held_one 9 (by kernel_rfl) rfl (by kernel_rfl) fun K hK => ?_
              go_simp
              go_wp2
              refine hK _ _ ⟨_, HTE.out⟩ ?_
              clear hK K
              refine wpAnyH_take (i := 10) (v := .pointer (some ⟨bx, 2, none⟩)) rfl (by kernel_rfl) (by kernel_rfl) (by kernel_rfl) (fun _ _ _ h => h) (Or.inl ⟨by kernel_rfl, fun w9 h9 => ?_⟩) ⟨_, HTE.out⟩ ?_
              · clear h9; go_simp
              refine held_one 11 (by kernel_rfl) rfl (by kernel_rfl) fun K hK => ?_
              go_simp
              go_wp2
              refine hK _ _ ⟨_, HT81.out⟩ ?_
              clear hK K
              refine wpAnyH_done (by kernel_rfl) ?_ _
              go_simp
              generalize (w9f.setCell ⟨bx, 2, none⟩ (.int .i64 y80)) = w82 at *
              clear x0 x1 x2 xf xl xf9 hy9
              obtain ⟨x0, x1, x2, xf, xl⟩ := HT81.out.cel
              have HAP : Hid _ := appRK HT81.out.row (by omega) HT81.out.gr.size ⟨y47, y67, y80⟩
              have HTA : Hid (TS w (w82.alloc (.cells #[.int .i64 y47, .int .i64 y67, .int .i64 y80] 49)) b bx A len cap v0 zs y47 y67 y80) := HT81.out.alloc _
              clear HT81
              go_wp2_with (at_builtin; (refine wl_appT rfl _ _ 41 rfl _ _ rfl rfl HAP.out ?_; rintro v' u6 ⟨ho, hg2⟩; have HO6 : Hid (u6.ownsRow w.heap.size 49 3 v' (zs.length + 1) (rkR (zs ++ [⟨y47, y67, y80⟩]))) := ho; have HG6 : Hid _ := hg2; clear ho hg2 HAP))
              have HBK : Hid (∀ j, v0.ownBlock = some j → w.heap.size ≤ j) := fun j hj => (HTA.out.row.lt j hj).1
              refine ⟨⟨n - 1, zs ++ [⟨y47, y67, y80⟩], by go_num, by simp; omega, by rw [List.length_append]; exact HO6.out, ?_, ?_⟩, by simp [intOf]; omega⟩
              · exact src_ownT HTA.out.src HG6.out (fun j hj => by have := HBK.out j hj; have := HBL.out; omega)
              · exact ⟨HG6.out.os.trans HTA.out.gr.os, HG6.out.tape.trans HTA.out.gr.tape, HG6.out.output.trans HTA.out.gr.output, Nat.le_trans HTA.out.gr.size HG6.out.size, fun k hk hn => (HG6.out.block k (Nat.lt_of_lt_of_le hk HTA.out.gr.size) (fun e => by have := HBK.out k e.symm; omega)).trans (HTA.out.gr.block k hk hn)⟩
end Go.Proofs.Ytcglpigmellfcab
