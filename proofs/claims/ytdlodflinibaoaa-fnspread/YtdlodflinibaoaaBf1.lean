import Derived.Test.YtdlodflinibaoaaSrc2
import Derived.Test.YtdlodflinibaoaaRegInv
import Derived.Test.YtdlodflinibaoaaDrc
import Derived.Test.YtdlodflinibaoaaDr1
import Derived.Test.YtdlodflinibaoaaRowBU1
import Derived.Deep.DeepCutAuto
import Derived.Deep.AppendLies
import Derived.Maps.AppendAt
import Derived.Deep.RegionLaw
namespace Go.Proofs.Ytdlodflinibaoaa
open Go.ChangeShapes Go.WideShapes Go.ChangeAt Go.RowKit

theorem cel3b {u : World} {b t : Nat} {a0 a1 a2 : Value} (h : u.heap[b]? = some (.cells #[a0, a1, a2] t (0, 0))) : u.cell? ⟨b, 0, none⟩ = some a0 ∧ u.cell? ⟨b, 1, none⟩ = some a1 ∧ u.cell? ⟨b, 2, none⟩ = some a2 := by simp [World.cell?, h]
theorem frz3b {u : World} {b t : Nat} {a0 a1 a2 : Value} (h : u.heap[b]? = some (.cells #[a0, a1, a2] t (0, 0))) : ∀ x, u.frozen? ⟨b, x, none⟩ = false := by simp [World.frozen?, h]
theorem blk_b {u : World} {b : Nat} {cs : Array Value} {t : TypeId} {z : Nat × Nat} (h : u.heap[b]? = some (.cells cs t z)) (o : Nat) (v : Value) : (u.setCell ⟨b, o, none⟩ v).heap[b]? = some (.cells (cs.setIfInBounds o v) t z) := by
  simp [World.setCell, Array.getElem?_modify, h]
theorem g_set8 {w u : World} {B0 b o : Nat} {y : Value} (h : w.grownBy u (some B0)) (hb : w.heap.size ≤ b) : w.grownBy (u.setCell ⟨b, o, none⟩ y) (some B0) :=
  ⟨h.os, h.tape, h.output, Nat.le_trans h.size (by simp [World.setCell]), fun k hk hn => (Below.heap_setCell _ _ _ _ (by simp only; omega)).trans (h.block k hk hn)⟩
theorem s_set8 {u : World} {B0 b o : Nat} {y : Value} {a : Option Addr} {len cap : Nat} (h : SrcOk u B0 a len cap) (hb : B0 < b) : SrcOk (u.setCell ⟨b, o, none⟩ y) B0 a len cap :=
  h.keep fun i hi => Below.heap_setCell _ _ _ _ (by simp only; omega)
def KBo (v : Value) : Prop := ∃ t : Bool, v = .bool t
/-- What a drawn buffer may be. -/
def KBU (v : Value) : Prop := ∃ m : BU, v = buA m ∧ 0 ≤ m.pos ∧ m.pos ≤ 4294967295 ∧ 0 ≤ m.len ∧ m.len ≤ 65
def KBx (B : Nat) (v : Value) (u : World) : Prop := ∃ p, v = .pointer (some ⟨p, 0, none⟩) ∧ B ≤ p ∧ u.heap[p]? = some (.cells #[.int .i64 0, .int .i64 0, .bool false] 53 (0, 0))
theorem KBx.grow {B b : Nat} {v : Value} {u u' : World} (h : KBx B v u) (hb : b < B) (hg : u.grownBy u' (some b)) : KBx B v u' := by
  obtain ⟨p, h1, h2, h3⟩ := h
  exact ⟨p, h1, h2, (hg.block _ (Array.getElem?_eq_some_iff.1 h3).1 (by simp; omega)).trans h3⟩
/-- A buffer in its box. -/
structure BuF (B0 : Nat) (a : Option Addr) (len cap : Nat) (w : World) (p : Nat) (m : BU) (u : World) : Prop where
  box : u.heap[p]? = some (.cells #[.int .i64 m.pos, .int .i64 m.len, .bool m.write] 53 (0, 0))
  src : SrcOk u B0 a len cap
  gr : w.grownBy u (some B0)
  le : w.heap.size ≤ p
  p0 : 0 ≤ m.pos
  p1 : m.pos ≤ 4294967295
  l0 : 0 ≤ m.len
  l1 : m.len ≤ 65
theorem BuF.grow {B0 : Nat} {a : Option Addr} {len cap : Nat} {w : World} {p : Nat} {m : BU} {u u' : World} (h : BuF B0 a len cap w p m u) (hl : B0 < w.heap.size) (hs : SrcOk u' B0 a len cap) (hg : u.grownBy u' (some B0)) : BuF B0 a len cap w p m u' :=
  ⟨(hg.block _ (Array.getElem?_eq_some_iff.1 h.box).1 (by have := h.le; simp; omega)).trans h.box, hs, Lib.grownBy_trans h.gr hg, h.le, h.p0, h.p1, h.l0, h.l1⟩
theorem own_gB {u u' : World} {B b n : Nat} {v : Value} {xs : List Value} (h : u.ownsRow B 53 3 v n xs) (hb : b < B) (hg : u.grownBy u' (some b)) : u'.ownsRow B 53 3 v n xs := by
  refine h.kept hg ?_
  cases ho : v.ownBlock with
  | none => exact .inl rfl
  | some q => exact .inr (by have := h.lt q ho; simp; omega)
theorem src_ownB {w u : World} {b : Nat} {a : Option Addr} {len cap : Nat} {r : Option Nat} (h : SrcOk w b a len cap) (hg : w.grownBy u r) (hr : ∀ k, r = some k → b < k) : SrcOk u b a len cap :=
  h.keep fun i hi => hg.block i (Nat.lt_of_le_of_lt hi h.lt) (fun e => by have := hr i e.symm; omega)
theorem some_b {w : World} {B : Nat} {ao : Option Addr} {j cp : Nat} {xs : List Value} (h : w.ownsRow B 53 3 (.slice ao (j + 1) cp) (j + 1) xs) : ∃ g, ao = some ⟨g, 0, none⟩ := by
  obtain ⟨hl, ⟨_, he⟩ | ⟨g, c, cur, e, _⟩⟩ := h
  · omega
  · injection e with e1 e2 e3
    exact ⟨g, e1⟩
theorem last_b {w : World} {B : Nat} {ao : Option Addr} {j cp : Nat} {zs : List BU} (h : w.ownsRow B 53 3 (.slice ao (j + 1) cp) (j + 1) (buR zs)) (hz : zs.length = j + 1) : ∃ g lw, ao = some ⟨g, 0, none⟩ ∧ w.cell? ⟨g, j * 3 + 2, none⟩ = some (.bool lw) ∧ g < w.heap.size := by
  have h0 := h
  obtain ⟨hl, ⟨_, he⟩ | ⟨g, c, cur, e, hB, hc, _⟩⟩ := h
  · omega
  · injection e with e1 e2 e3
    subst e1
    have hr := BUrow.of (zs := zs) (by rw [hz]; exact h0)
    rcases hr with ⟨rfl, _⟩ | ⟨g2, o2, c2, hv, _, _, hat⟩
    · simp at hz
    · injection hv with q1 q2 q3
      injection q1 with q1
      injection q1 with q1 q4
      subst q1
      subst q4
      have := hat j (by omega)
      refine ⟨g, (zs[j]'(by omega)).write, rfl, ?_, (Array.getElem?_eq_some_iff.1 hc).1⟩
      simpa using this.2.2
theorem BuF.setW {B0 : Nat} {a : Option Addr} {len cap : Nat} {w : World} {p : Nat} {m : BU} {u : World} (h : BuF B0 a len cap w p m u) (hl : B0 < w.heap.size) : BuF B0 a len cap w p ⟨m.pos, m.len, true⟩ (u.setCell ⟨p, 2, none⟩ (.bool true)) := by
  have := h.le
  exact ⟨blk_b h.box 2 _, s_set8 h.src (by omega), g_set8 h.gr h.le, h.le, h.p0, h.p1, h.l0, h.l1⟩
theorem BuF.setP {B0 : Nat} {a : Option Addr} {len cap : Nat} {w : World} {p : Nat} {m : BU} {u : World} (h : BuF B0 a len cap w p m u) (hl : B0 < w.heap.size) (y : Int) (y0 : 0 ≤ y) (y1 : y ≤ 4294967295) : BuF B0 a len cap w p ⟨y, m.len, m.write⟩ (u.setCell ⟨p, 0, none⟩ (.int .i64 y)) := by
  have := h.le
  exact ⟨blk_b h.box 0 _, s_set8 h.src (by omega), g_set8 h.gr h.le, h.le, y0, y1, h.l0, h.l1⟩
theorem own_far {u : World} {B n p o : Nat} {v x : Value} {xs : List Value} (h : u.ownsRow B 53 3 v n xs) (hp : ∀ q, v.ownBlock = some q → q ≠ p) : (u.setCell ⟨p, o, none⟩ x).ownsRow B 53 3 v n xs := by
  refine h.kept (row := some p) ⟨rfl, rfl, rfl, by simp [World.setCell], fun k _ hn => Below.heap_setCell _ _ _ _ (fun e => hn (congrArg some e))⟩ ?_
  cases ho : v.ownBlock with
  | none => exact .inl rfl
  | some q => exact .inr (by have := hp q ho; simpa using this)
theorem lit_drawB {u u2 : World} {b t : Nat} {C : List Int} {lo hi : Int} (hb : b < u.heap.size) (hg : (u.alloc (.cells (C.map (Value.int .i64)).toArray t)).grownBy u2 (some b)) (Q : Nat) (hQ : Q < C.length) (hin : inB lo hi C) : ∃ y : Int, u2.cell? ⟨u.heap.size, Q, none⟩ = some (.int .i64 y) ∧ lo ≤ y ∧ y ≤ hi := by
  have h1 : u2.heap[u.heap.size]? = some (.cells (C.map (Value.int .i64)).toArray t (0, 0)) := (hg.block _ (by simp) (by simp; omega)).trans (MapKept.heap_alloc u _).1
  exact ⟨C[Q], lit_cell h1 hQ, (inB.at hin hQ).1, (inB.at hin hQ).2⟩
theorem bu_oneB (m : BU) : ∀ u ∈ buC m, u.oneCell' = true := by
  intro u hu
  simp only [buC, List.mem_cons, List.not_mem_nil, or_false] at hu
  rcases hu with rfl | rfl | rfl <;> rfl
theorem infoB : (Try.prog.info? 53).map (fun i => (i.zero, i.size, i.bytes)) = some (some (.agg #[.int .i64 0, .int .i64 0, .bool false]), 3, 24) := by kernel_rfl
theorem appB {w : World} {B : Nat} {ao : Option Addr} {k cp : Nat} {zs : List BU} (h : w.ownsRow B 53 3 (.slice ao k cp) k (buR zs)) (hB : B ≤ w.heap.size) (hk : k ≤ 1000) (m : BU) :
    ∃ v' u', (Builtin.append_ #[48, 48] 48 #[.slice ao k cp, .slice (some ⟨w.heap.size, 0, none⟩) 1 1]).run Try.prog (w.alloc (.cells #[.int .i64 m.pos, .int .i64 m.len, .bool m.write] 53)) = .ok v' u' ∧ (∃ ao9 cp9, v' = .slice ao9 (k + 1) cp9 ∧ u'.ownsRow B 53 3 (.slice ao9 (k + 1) cp9) (k + 1) (buR (zs ++ [m])) ∧ (w.alloc (.cells #[.int .i64 m.pos, .int .i64 m.len, .bool m.write] 53)).grownBy u' (Value.slice ao k cp).ownBlock) := by
  obtain ⟨i0, hi0, hz0, hz1, hz2⟩ := info_parts infoB
  have hbx : (w.alloc (.cells #[.int .i64 m.pos, .int .i64 m.len, .bool m.write] 53)).heap[w.heap.size]? = some (.cells #[.int .i64 m.pos, .int .i64 m.len, .bool m.write] 53 (0, 0)) := (MapKept.heap_alloc w _).1
  obtain ⟨v', w', hr, h2, h3, _, _⟩ := run_append_own_at (P := Try.prog) (w.alloc (.cells #[.int .i64 m.pos, .int .i64 m.len, .bool m.write] 53)) B 48 48 53 i0 (.agg #[.int .i64 0, .int .i64 0, .bool false]) 3 24 Try.underlying48 hi0 hz0 hz1 hz2 rfl (by decide) (.slice ao k cp) k (buR zs) (World.ownsRow.alloc h _) ⟨w.heap.size, 0, none⟩ 1 1 (buC m) rfl (by
    intro j u hj
    have hj3 : j < 3 := by
      rcases Nat.lt_or_ge j 3 with h9 | h9
      · exact h9
      · rw [List.getElem?_eq_none (by simpa [buC] using h9)] at hj
        cases hj
    obtain ⟨c0, c1, c2⟩ := cel3b hbx
    obtain rfl | rfl | rfl : j = 0 ∨ j = 1 ∨ j = 2 := by omega
    · cases hj
      exact c0
    · cases hj
      exact c1
    · cases hj
      exact c2) (bu_oneB m) (by unfold maxLen; omega) (by omega) (by simp; omega)
  obtain ⟨ao9, cp9, rfl⟩ := bu_sl h2
  refine ⟨_, w', hr, ao9, cp9, rfl, ?_, h3⟩
  rw [buR_app]
  simpa [buR] using h2
theorem wl_append_exB {P : Program} {ops : Array Oper} {rest : List Oper} {o : Oper} {a : Act} {w : World} {Q : Exit → Act → World → Prop} (hgd : o.guard = none) (s x : Operand) (t : TypeId)
    (ho : o.op = .call { callee := .builtin .append, args := #[s, x], argTypes := #[t, t] }) (v v2 : Value) (hs : a.eval s = v) (hx : a.eval x = v2) {R : Value → World → Prop}
    (hr : ∃ v' w', (Builtin.append_ #[t, t] o.type #[v, v2]).run P w = .ok v' w' ∧ R v' w') (h : ∀ v' w', R v' w' → wpList P ops Q rest (a.put o.dst v') w') : wpList P ops Q (o :: rest) a w :=
  wpList_plain hgd fun _ hK => by
    obtain ⟨v', w', hr, hR⟩ := hr
    unfold Oper.wp execOp
    simp only [ho, resolve, invoke, builtin, Sem.run_bind, Sem.run_pure, Result.andThen_ok, List.map_toArray, List.map_cons, List.map_nil, hs, hx, hr]
    exact hK _ _ (h v' w' hR)
structure BuR0 (B0 B : Nat) (w : World) (a : Option Addr) (len cap : Nat) (k : Nat) (b0 b1 b2 b3 b4 b5 b6 b7 b8 b9 b10 b11 b12 b13 b14 b15 b16 b17 : Bool) (v14 v15 v16 v17 v18 v19 v20 v21 v22 v23 v24 v25 v26 v27 v28 v29 v7 : Value) (u : World) : Prop where
  lt : B0 < B
  le : B ≤ w.heap.size
  src : SrcOk u B0 a len cap
  gr : w.grownBy u (some B0)
  c0 : b0 = true → KSrc B0 v14
  c1 : b1 = true → KNum 0 10 v15
  c2 : b2 = true → KNum 0 640 v16
  c3 : b3 = true → KNum 512 1152 v17
  c4 : b4 = true → KLit B [0, 1, 16, 20, 64, 65] v18 u
  c5 : b5 = true → KSrc B0 v19
  c6 : b6 = true → KNum 0 5 v20
  c7 : b7 = true → KPtr B [0, 1, 16, 20, 64, 65] v21 u
  c8 : b8 = true → KNum 0 65 v22
  c9 : b9 = true → v23 = .int .i64 (k : Int)
  c10 : b10 = true → v24 = .bool false
  c11 : b11 = true → v25 = .bool false
  c12 : b12 = true → v26 = undef
  c13 : b13 = true → v27 = undef
  c14 : b14 = true → KBo v28
  c15 : b15 = true → KBU v29
  c16 : b16 = true → KBx B v7 u
structure BuR1 (B0 B : Nat) (w : World) (a : Option Addr) (len cap : Nat) (k : Nat) (b0 b1 b2 b3 b4 b5 b6 b7 b8 b9 b10 b11 b12 b13 b14 b15 b16 b17 : Bool) (v14 v15 v16 v17 v18 v19 v20 v21 v22 v23 v24 v25 v26 v27 v28 v29 v7 : Value) (u : World) : Prop where
  lt : B0 < B
  le : B ≤ w.heap.size
  src : SrcOk u B0 a len cap
  gr : w.grownBy u (some B0)
  c0 : b0 = true → KSrc B0 v14
  c1 : b1 = true → KNum 0 10 v15
  c2 : b2 = true → KNum 0 640 v16
  c3 : b3 = true → KNum 512 1152 v17
  c4 : b4 = true → KLit B [0, 1, 16, 20, 64, 65] v18 u
  c5 : b5 = true → KSrc B0 v19
  c6 : b6 = true → KNum 0 5 v20
  c7 : b7 = true → KPtr B [0, 1, 16, 20, 64, 65] v21 u
  c8 : b8 = true → KNum 0 65 v22
  c9 : b9 = true → v23 = .int .i64 (k : Int)
  c10 : b10 = true → v24 = .bool true
  c11 : b11 = true → v25 = .bool true
  c12 : b12 = true → KSrc B0 v26
  c13 : b13 = true → KBo v27
  c14 : b14 = true → KBo v28
  c15 : b15 = true → KBU v29
  c16 : b16 = true → KBx B v7 u
theorem SrcOk.drew8 {w : World} {b : Nat} {a : Option Addr} {len cap : Nat} (h : SrcOk w b a len cap) : SrcOk w.drew b a len cap := h.keep fun _ _ => rfl
set_option maxRecDepth 100000 in
set_option maxHeartbeats 8000000 in
theorem src_bufs (B0 : Nat) (a : Option Addr) (len cap n : Nat) (w : World) (hn : n ≤ 8) (h : SrcOk w B0 a len cap) :
    Calls Try.prog 57 #[.pointer (some ⟨B0, 0, none⟩), .int .i64 n] w fun e w' => ∃ (ao : Option Addr) (cp : Nat) (zs : List BU), e = .returned (.slice ao zs.length cp) ∧ (∃ g, ao = some ⟨g, 0, none⟩) ∧ zs.length = n ∧ (∀ z ∈ zs, 0 ≤ z.pos ∧ z.pos ≤ 4294967295 ∧ 0 ≤ z.len ∧ z.len ≤ 65) ∧ w'.ownsRow w.heap.size 53 3 (.slice ao zs.length cp) zs.length (buR zs) ∧ SrcOk w' B0 a len cap ∧ w.grownBy w' (some B0) := by
  have HLW : Hid (B0 < w.heap.size) := h.lt
  have HO0 : Hid ((w.alloc (.cells #[] 53)).ownsRow w.heap.size 53 3 (.slice (some ⟨w.heap.size, 0, none⟩) 0 0) 0 (buR [])) := World.ownsRow_lit w #[] 0 (by simp) (by decide) rfl
  have HS0 : Hid (SrcOk (w.alloc (.cells #[] 53)) B0 a len cap) := h.far (World.grownBy_alloc _ _ none)
  have HG0 : Hid (w.grownBy (w.alloc (.cells #[] 53)) (some B0)) := World.grownBy_alloc _ _ _
  clear h
  go_enter Try.func57, Try.ntmps57
  go_wp2
  generalize w.alloc (.cells #[] 53) = W at *
  go_loopw [5, 6, 7] (fun v i _p wr => ∃ (k : Nat) (ao : Option Addr) (cp : Nat) (zs : List BU), k ≤ n ∧ i = .int .i64 k ∧ v = .slice ao k cp ∧ (∃ g, ao = some ⟨g, 0, none⟩) ∧ zs.length = k ∧ (∀ z ∈ zs, 0 ≤ z.pos ∧ z.pos ≤ 4294967295 ∧ 0 ≤ z.len ∧ z.len ≤ 65) ∧ wr.ownsRow w.heap.size 53 3 (.slice ao k cp) k (buR zs) ∧ SrcOk wr B0 a len cap ∧ w.grownBy wr (some B0)) (fun _ i _ _ => n - (intOf i).toNat)
  case atStart => exact ⟨0, _, _, [], Nat.zero_le _, rfl, rfl, ⟨_, rfl⟩, rfl, (fun z hz => by cases hz), HO0.out, HS0.out, HG0.out⟩
  case round =>
    obtain ⟨k, ao, cp, zs, hk, rfl, rfl, hao, hzl, hzb, ho, hs, hg⟩ := hrel
    have HAO : Hid (∃ g, ao = some ⟨g, 0, none⟩) := hao
    clear hao
    have HZB : Hid (∀ z ∈ zs, 0 ≤ z.pos ∧ z.pos ≤ 4294967295 ∧ 0 ≤ z.len ∧ z.len ≤ 65) := hzb
    have HO : Hid (wr.ownsRow w.heap.size 53 3 (.slice ao k cp) k (buR zs)) := ho
    have HS : Hid (SrcOk wr B0 a len cap) := hs
    have HG : Hid (w.grownBy wr (some B0)) := hg
    have HLT : Hid (B0 < wr.heap.size) := hs.lt
    have HZL : Hid (zs.length = k) := hzl
    clear hzb ho hs hg hzl HO0 HS0 HG0
    by_cases hkn : k < n
    rotate_left
    · have hk1 : decide ((k : Int) < (n : Int)) = false := decide_eq_false (by omega)
      go_wp2
      go_ret
      have h9 := HO.out
      rw [← HZL.out] at h9
      exact ⟨ao, cp, zs, by rw [HZL.out]; rfl, HAO.out, by have := HZL.out; omega, HZB.out, h9, HS.out, HG.out⟩
    · have hk1 : decide ((k : Int) < (n : Int)) = true := decide_eq_true (by omega)
      go_upto_region 5 with fail
      go_cut [7] (fun s7 wc => ∃ (p : Nat) (m : BU), s7 = .pointer (some ⟨p, 0, none⟩) ∧ BuF B0 a len cap wr p m wc)
      case first =>
        by_cases hk0 : k = 0
        · have hk2 : (0 < k) = False := (by simp; omega)
          clear hk0 hk1
          refine wp_region_any (by kernel_rfl) ?_
          refine wpAny_inv (fun L a9 u => ∃ (b0 b1 b2 b3 b4 b5 b6 b7 b8 b9 b10 b11 b12 b13 b14 b15 b16 b17 : Bool) (v14 v15 v16 v17 v18 v19 v20 v21 v22 v23 v24 v25 v26 v27 v28 v29 v7 : Value), L = #[b0, b1, b2, b3, b4, b5, b6, b7, b8, b9, b10, b11, b12, b13, b14, b15, b16, b17] ∧ a9 = { tmps := ((.pointer (some ⟨B0, 0, none⟩)) :: (.int .i64 (n : Int)) :: (undef) :: (undef) :: (.slice none 0 0) :: (.slice ao k cp) :: (.int .i64 (k : Int)) :: (v7) :: (.slice (some ⟨w.heap.size, 0, none⟩) 0 0) :: (.int .i64 (k : Int)) :: (.int .i64 (n : Int)) :: (.bool true) :: (u12) :: (u13) :: (v14) :: (v15) :: (v16) :: (v17) :: (v18) :: (v19) :: (v20) :: (v21) :: (v22) :: (v23) :: (v24) :: (v25) :: (v26) :: (v27) :: (v28) :: (v29) :: (u30) :: (u31) :: (u32) :: (u33) :: (u34) :: (u35) :: (u36) :: (u37) :: (u38) :: (u39) :: (u40) :: (u41) :: (u42) :: (u43) :: (u44) :: (u45) :: (u46) :: (u47) :: (u48) :: (u49) :: (u50) :: (u51) :: (u52) :: (u53) :: (u54) :: (u55) :: (u56) :: (u57) :: (u58) :: (u59) :: (undef) :: []).toArray, defers := [] } ∧ ((b17 = false ∧ BuR0 B0 wr.heap.size wr a len cap k b0 b1 b2 b3 b4 b5 b6 b7 b8 b9 b10 b11 b12 b13 b14 b15 b16 b17 v14 v15 v16 v17 v18 v19 v20 v21 v22 v23 v24 v25 v26 v27 v28 v29 v7 u) ∨ (b0 = true ∧ b1 = true ∧ b2 = true ∧ b3 = true ∧ b4 = true ∧ b5 = true ∧ b6 = true ∧ b7 = true ∧ b8 = true ∧ b9 = true ∧ b10 = true ∧ b11 = true ∧ b12 = true ∧ b13 = true ∧ b14 = true ∧ b15 = true ∧ b16 = true ∧ b17 = true ∧ ∃ (p : Nat) (m : BU), v7 = .pointer (some ⟨p, 0, none⟩) ∧ BuF B0 a len cap wr p m u))) ?hs ?hd _ _ _ _ (by decide) ?st
          case st => exact ⟨false, false, false, false, false, false, false, false, false, false, false, false, false, false, false, false, false, false, u14, u15, u16, u17, u18, u19, u20, u21, u22, u23, u24, u25, u26, u27, u28, u29, u7, rfl, rfl, .inl ⟨rfl, ⟨HLT.out, Nat.le_refl _, HS.out.drew8, ⟨rfl, rfl, rfl, Nat.le_refl _, fun _ _ _ => rfl⟩, (fun e => by cases e), (fun e => by cases e), (fun e => by cases e), (fun e => by cases e), (fun e => by cases e), (fun e => by cases e), (fun e => by cases e), (fun e => by cases e), (fun e => by cases e), (fun e => by cases e), (fun e => by cases e), (fun e => by cases e), (fun e => by cases e), (fun e => by cases e), (fun e => by cases e), (fun e => by cases e), (fun e => by cases e)⟩⟩⟩
          case hd =>
            rintro L a9 u ⟨b0, b1, b2, b3, b4, b5, b6, b7, b8, b9, b10, b11, b12, b13, b14, b15, b16, b17, v14, v15, v16, v17, v18, v19, v20, v21, v22, v23, v24, v25, v26, v27, v28, v29, v7, rfl, rfl, hI⟩ hr
            have hall := fun he hL => all_up (md := _) he hL hr
            have hall2 := hall (by kernel_rfl) rfl
            rcases hI with ⟨rfl, hI⟩ | ⟨rfl, rfl, rfl, rfl, rfl, rfl, rfl, rfl, rfl, rfl, rfl, rfl, rfl, rfl, rfl, rfl, rfl, rfl, p, m, rfl, hM⟩
            · exact Bool.noConfusion (show false = true from hall2 17 (by decide))
            have HM : Hid (BuF B0 a len cap wr p m u) := hM
            clear hM hr hall hall2
            go_wp2
            go_meet
            case rel => exact ⟨p, m, rfl, HM.out⟩
          case hs =>
            rintro L a9 u i ⟨b0, b1, b2, b3, b4, b5, b6, b7, b8, b9, b10, b11, b12, b13, b14, b15, b16, b17, v14, v15, v16, v17, v18, v19, v20, v21, v22, v23, v24, v25, v26, v27, v28, v29, v7, rfl, rfl, hI⟩ hi
            obtain ⟨hf, o, ho, hall⟩ := mem_ready.1 hi
            have hi8 : i < 18 := (Array.getElem?_eq_some_iff.1 ho).1
            rcases hI with ⟨rfl, hI⟩ | ⟨rfl, rfl, rfl, rfl, rfl, rfl, rfl, rfl, rfl, rfl, rfl, rfl, rfl, rfl, rfl, rfl, rfl, rfl, _⟩
            · obtain rfl | rfl | rfl | rfl | rfl | rfl | rfl | rfl | rfl | rfl | rfl | rfl | rfl | rfl | rfl | rfl | rfl | rfl : i = 0 ∨ i = 1 ∨ i = 2 ∨ i = 3 ∨ i = 4 ∨ i = 5 ∨ i = 6 ∨ i = 7 ∨ i = 8 ∨ i = 9 ∨ i = 10 ∨ i = 11 ∨ i = 12 ∨ i = 13 ∨ i = 14 ∨ i = 15 ∨ i = 16 ∨ i = 17 := by omega
              · obtain rfl : b0 = false := hf
                have HI : Hid _ := hI
                clear hI hall hi
                refine wpOp_step rfl (fun K hK => ?_)
                go_simp
                have h := HI.out
                exact hK _ _ ⟨true, b1, b2, b3, b4, b5, b6, b7, b8, b9, b10, b11, b12, b13, b14, b15, b16, false, _, v15, v16, v17, v18, v19, v20, v21, v22, v23, v24, v25, v26, v27, v28, v29, v7, rfl, rfl, .inl ⟨rfl, ⟨h.lt, h.le, h.src, h.gr, fun _ => rfl, h.c1, h.c2, h.c3, h.c4, h.c5, h.c6, h.c7, h.c8, h.c9, h.c10, h.c11, h.c12, h.c13, h.c14, h.c15, h.c16⟩⟩⟩
              · obtain rfl : b1 = false := hf
                cases ho
                have hb0 : b0 = true := hall { on := 0, ground := .data } (by simp) rfl
                have e0 : v14 = .pointer (some ⟨B0, 0, none⟩) := hI.c0 hb0
                subst e0
                have HN : Hid _ := src_n B0 a len cap 11 u hI.src (by omega)
                have HI : Hid _ := hI
                clear hI hall hi
                refine wpOp_step rfl (fun K hK => ?_)
                go_simp
                refine Calls.mono HN.out ?_
                rintro e9 u5 ⟨r, rfl, r0, r1, hs5, hg5⟩
                have h := HI.out
                exact hK _ _ ⟨b0, true, b2, b3, b4, b5, b6, b7, b8, b9, b10, b11, b12, b13, b14, b15, b16, false, _, _, v16, v17, v18, v19, v20, v21, v22, v23, v24, v25, v26, v27, v28, v29, v7, rfl, rfl, .inl ⟨rfl, ⟨h.lt, h.le, hs5, Lib.grownBy_trans h.gr hg5, h.c0, fun _ => ⟨r, rfl, r0, by omega⟩, h.c2, h.c3, fun e => (h.c4 e).grow h.lt hg5, h.c5, h.c6, fun e => (h.c7 e).grow h.lt hg5, h.c8, h.c9, h.c10, h.c11, h.c12, h.c13, h.c14, h.c15, fun e => (h.c16 e).grow h.lt hg5⟩⟩⟩
              · obtain rfl : b2 = false := hf
                cases ho
                have hb1 : b1 = true := hall { on := 1, ground := .data } (by simp) rfl
                obtain ⟨y1, rfl, y1b, y1c⟩ := hI.c1 hb1
                have HI : Hid _ := hI
                clear hI hall hi
                refine wpOp_step rfl (fun K hK => ?_)
                go_simp
                have h := HI.out
                exact hK _ _ ⟨b0, b1, true, b3, b4, b5, b6, b7, b8, b9, b10, b11, b12, b13, b14, b15, b16, false, v14, _, _, v17, v18, v19, v20, v21, v22, v23, v24, v25, v26, v27, v28, v29, v7, rfl, rfl, .inl ⟨rfl, ⟨h.lt, h.le, h.src, h.gr, h.c0, h.c1, fun _ => ⟨_, rfl, by first | omega | (rw [IntKind.wrap_i64]; omega), by first | omega | (rw [IntKind.wrap_i64]; omega)⟩, h.c3, h.c4, h.c5, h.c6, h.c7, h.c8, h.c9, h.c10, h.c11, h.c12, h.c13, h.c14, h.c15, h.c16⟩⟩⟩
              · obtain rfl : b3 = false := hf
                cases ho
                have hb2 : b2 = true := hall { on := 2, ground := .data } (by simp) rfl
                obtain ⟨y2, rfl, y2b, y2c⟩ := hI.c2 hb2
                have HI : Hid _ := hI
                clear hI hall hi
                refine wpOp_step rfl (fun K hK => ?_)
                go_simp
                have h := HI.out
                exact hK _ _ ⟨b0, b1, b2, true, b4, b5, b6, b7, b8, b9, b10, b11, b12, b13, b14, b15, b16, false, v14, v15, _, _, v18, v19, v20, v21, v22, v23, v24, v25, v26, v27, v28, v29, v7, rfl, rfl, .inl ⟨rfl, ⟨h.lt, h.le, h.src, h.gr, h.c0, h.c1, h.c2, fun _ => ⟨_, rfl, by first | omega | (rw [IntKind.wrap_i64]; omega), by first | omega | (rw [IntKind.wrap_i64]; omega)⟩, h.c4, h.c5, h.c6, h.c7, h.c8, h.c9, h.c10, h.c11, h.c12, h.c13, h.c14, h.c15, h.c16⟩⟩⟩
              · obtain rfl : b4 = false := hf
                have HI : Hid _ := hI
                clear hI hall hi
                refine wpOp_step rfl (fun K hK => ?_)
                go_simp
                have h := HI.out
                exact hK _ _ ⟨b0, b1, b2, b3, true, b5, b6, b7, b8, b9, b10, b11, b12, b13, b14, b15, b16, false, v14, v15, v16, v17, _, v19, v20, v21, v22, v23, v24, v25, v26, v27, v28, v29, v7, rfl, rfl, .inl ⟨rfl, ⟨h.lt, h.le, h.src.far (World.grownBy_alloc _ _ none), Lib.grownBy_trans h.gr gAl, h.c0, h.c1, h.c2, h.c3, fun _ => ⟨u.heap.size, rfl, Nat.le_trans h.le h.gr.size, (MapKept.heap_alloc u _).1⟩, h.c5, h.c6, fun e => (h.c7 e).grow h.lt gAl, h.c8, h.c9, h.c10, h.c11, h.c12, h.c13, h.c14, h.c15, fun e => (h.c16 e).grow h.lt gAl⟩⟩⟩
              · obtain rfl : b5 = false := hf
                have HI : Hid _ := hI
                clear hI hall hi
                refine wpOp_step rfl (fun K hK => ?_)
                go_simp
                have h := HI.out
                exact hK _ _ ⟨b0, b1, b2, b3, b4, true, b6, b7, b8, b9, b10, b11, b12, b13, b14, b15, b16, false, v14, v15, v16, v17, v18, _, v20, v21, v22, v23, v24, v25, v26, v27, v28, v29, v7, rfl, rfl, .inl ⟨rfl, ⟨h.lt, h.le, h.src, h.gr, h.c0, h.c1, h.c2, h.c3, h.c4, fun _ => rfl, h.c6, h.c7, h.c8, h.c9, h.c10, h.c11, h.c12, h.c13, h.c14, h.c15, h.c16⟩⟩⟩
              · obtain rfl : b6 = false := hf
                cases ho
                have hb5 : b5 = true := hall { on := 5, ground := .data } (by simp) rfl
                have e5 : v19 = .pointer (some ⟨B0, 0, none⟩) := hI.c5 hb5
                subst e5
                have HN : Hid _ := src_n B0 a len cap 6 u hI.src (by omega)
                have HI : Hid _ := hI
                clear hI hall hi
                refine wpOp_step rfl (fun K hK => ?_)
                go_simp
                refine Calls.mono HN.out ?_
                rintro e9 u5 ⟨r, rfl, r0, r1, hs5, hg5⟩
                have h := HI.out
                exact hK _ _ ⟨b0, b1, b2, b3, b4, b5, true, b7, b8, b9, b10, b11, b12, b13, b14, b15, b16, false, v14, v15, v16, v17, v18, _, _, v21, v22, v23, v24, v25, v26, v27, v28, v29, v7, rfl, rfl, .inl ⟨rfl, ⟨h.lt, h.le, hs5, Lib.grownBy_trans h.gr hg5, h.c0, h.c1, h.c2, h.c3, fun e => (h.c4 e).grow h.lt hg5, h.c5, fun _ => ⟨r, rfl, r0, by omega⟩, fun e => (h.c7 e).grow h.lt hg5, h.c8, h.c9, h.c10, h.c11, h.c12, h.c13, h.c14, h.c15, fun e => (h.c16 e).grow h.lt hg5⟩⟩⟩
              · obtain rfl : b7 = false := hf
                cases ho
                have hb4 : b4 = true := hall { on := 4, ground := .data } (by simp) rfl
                have hb6 : b6 = true := hall { on := 6, ground := .data } (by simp) rfl
                obtain ⟨p4, e4, p4b, p4c⟩ := hI.c4 hb4
                replace e4 : v18 = .slice (some ⟨p4, 0, none⟩) 6 6 := e4
                subst e4
                obtain ⟨y6, rfl, y6b, y6c⟩ := hI.c6 hb6
                obtain ⟨R, rfl⟩ := Int.eq_ofNat_of_zero_le y6b
                have R1 : (R : Int) < 6 := by omega
                have R0 : R < 6 := by omega
                have HI : Hid _ := hI
                clear hI hall hi
                refine wpOp_step rfl (fun K hK => ?_)
                go_simp
                have h := HI.out
                exact hK _ _ ⟨b0, b1, b2, b3, b4, b5, b6, true, b8, b9, b10, b11, b12, b13, b14, b15, b16, false, v14, v15, v16, v17, _, v19, _, _, v22, v23, v24, v25, v26, v27, v28, v29, v7, rfl, rfl, .inl ⟨rfl, ⟨h.lt, h.le, h.src, h.gr, h.c0, h.c1, h.c2, h.c3, h.c4, h.c5, h.c6, fun _ => ⟨p4, R, rfl, R0, p4b, p4c⟩, h.c8, h.c9, h.c10, h.c11, h.c12, h.c13, h.c14, h.c15, h.c16⟩⟩⟩
              · obtain rfl : b8 = false := hf
                cases ho
                have hb7 : b7 = true := hall { on := 7, ground := .data } (by simp) rfl
                obtain ⟨p7, r7, rfl, r7b, p7b, p7c⟩ := hI.c7 hb7
                have hcl := lit_cell p7c r7b
                have hbd := inB.at (lo := 0) (hi := 65) (by unfold inB; decide) r7b
                generalize ([0, 1, 16, 20, 64, 65] : List Int)[r7] = y at hcl hbd
                have HI : Hid _ := hI
                clear hI hall hi
                refine wpOp_step rfl (fun K hK => ?_)
                go_simp
                have h := HI.out
                exact hK _ _ ⟨b0, b1, b2, b3, b4, b5, b6, b7, true, b9, b10, b11, b12, b13, b14, b15, b16, false, v14, v15, v16, v17, v18, v19, v20, _, _, v23, v24, v25, v26, v27, v28, v29, v7, rfl, rfl, .inl ⟨rfl, ⟨h.lt, h.le, h.src, h.gr, h.c0, h.c1, h.c2, h.c3, h.c4, h.c5, h.c6, h.c7, fun _ => ⟨y, rfl, hbd.1, hbd.2⟩, h.c9, h.c10, h.c11, h.c12, h.c13, h.c14, h.c15, h.c16⟩⟩⟩
              · obtain rfl : b9 = false := hf
                have HI : Hid _ := hI
                clear hI hall hi
                refine wpOp_step rfl (fun K hK => ?_)
                go_simp
                have h := HI.out
                exact hK _ _ ⟨b0, b1, b2, b3, b4, b5, b6, b7, b8, true, b10, b11, b12, b13, b14, b15, b16, false, v14, v15, v16, v17, v18, v19, v20, v21, v22, _, v24, v25, v26, v27, v28, v29, v7, rfl, rfl, .inl ⟨rfl, ⟨h.lt, h.le, h.src, h.gr, h.c0, h.c1, h.c2, h.c3, h.c4, h.c5, h.c6, h.c7, h.c8, fun _ => rfl, h.c10, h.c11, h.c12, h.c13, h.c14, h.c15, h.c16⟩⟩⟩
              · obtain rfl : b10 = false := hf
                cases ho
                have hb9 : b9 = true := hall { on := 9, ground := .data } (by simp) rfl
                have e9 : v23 = .int .i64 (k : Int) := hI.c9 hb9
                subst e9
                have HI : Hid _ := hI
                clear hI hall hi
                refine wpOp_step rfl (fun K hK => ?_)
                go_simp
                have h := HI.out
                exact hK _ _ ⟨b0, b1, b2, b3, b4, b5, b6, b7, b8, b9, true, b11, b12, b13, b14, b15, b16, false, v14, v15, v16, v17, v18, v19, v20, v21, v22, _, _, v25, v26, v27, v28, v29, v7, rfl, rfl, .inl ⟨rfl, ⟨h.lt, h.le, h.src, h.gr, h.c0, h.c1, h.c2, h.c3, h.c4, h.c5, h.c6, h.c7, h.c8, h.c9, fun _ => rfl, h.c11, h.c12, h.c13, h.c14, h.c15, h.c16⟩⟩⟩
              · obtain rfl : b11 = false := hf
                cases ho
                have hb10 : b10 = true := hall { on := 10, ground := .data } (by simp) rfl
                have e10 : v24 = .bool false := hI.c10 hb10
                subst e10
                have HI : Hid _ := hI
                clear hI hall hi
                refine wpOp_step rfl (fun K hK => ?_)
                go_simp
                have h := HI.out
                exact hK _ _ ⟨b0, b1, b2, b3, b4, b5, b6, b7, b8, b9, b10, true, b12, b13, b14, b15, b16, false, v14, v15, v16, v17, v18, v19, v20, v21, v22, v23, _, _, v26, v27, v28, v29, v7, rfl, rfl, .inl ⟨rfl, ⟨h.lt, h.le, h.src, h.gr, h.c0, h.c1, h.c2, h.c3, h.c4, h.c5, h.c6, h.c7, h.c8, h.c9, h.c10, fun _ => rfl, h.c12, h.c13, h.c14, h.c15, h.c16⟩⟩⟩
              · obtain rfl : b12 = false := hf
                cases ho
                have hb11 : b11 = true := hall { on := 11, ground := .guard } (by simp) rfl
                have e11 : v25 = .bool false := hI.c11 hb11
                subst e11
                have HI : Hid _ := hI
                clear hI hall hi
                refine wpOp_step rfl (fun K hK => ?_)
                go_simp
                have h := HI.out
                exact hK _ _ ⟨b0, b1, b2, b3, b4, b5, b6, b7, b8, b9, b10, b11, true, b13, b14, b15, b16, false, v14, v15, v16, v17, v18, v19, v20, v21, v22, v23, v24, _, _, v27, v28, v29, v7, rfl, rfl, .inl ⟨rfl, ⟨h.lt, h.le, h.src, h.gr, h.c0, h.c1, h.c2, h.c3, h.c4, h.c5, h.c6, h.c7, h.c8, h.c9, h.c10, h.c11, fun _ => rfl, h.c13, h.c14, h.c15, h.c16⟩⟩⟩
              · obtain rfl : b13 = false := hf
                cases ho
                have hb11 : b11 = true := hall { on := 11, ground := .guard } (by simp) rfl
                have e11 : v25 = .bool false := hI.c11 hb11
                subst e11
                have HI : Hid _ := hI
                clear hI hall hi
                refine wpOp_step rfl (fun K hK => ?_)
                go_simp
                have h := HI.out
                exact hK _ _ ⟨b0, b1, b2, b3, b4, b5, b6, b7, b8, b9, b10, b11, b12, true, b14, b15, b16, false, v14, v15, v16, v17, v18, v19, v20, v21, v22, v23, v24, _, v26, _, v28, v29, v7, rfl, rfl, .inl ⟨rfl, ⟨h.lt, h.le, h.src, h.gr, h.c0, h.c1, h.c2, h.c3, h.c4, h.c5, h.c6, h.c7, h.c8, h.c9, h.c10, h.c11, h.c12, fun _ => rfl, h.c14, h.c15, h.c16⟩⟩⟩
              · obtain rfl : b14 = false := hf
                cases ho
                have hb11 : b11 = true := hall { on := 11, ground := .data } (by simp) rfl
                have hb13 : b13 = true := hall { on := 13, ground := .data } (by simp) rfl
                have e11 : v25 = .bool false := hI.c11 hb11
                subst e11
                have e13 : v27 = undef := hI.c13 hb13
                subst e13
                have HI : Hid _ := hI
                clear hI hall hi
                refine wpOp_step rfl (fun K hK => ?_)
                go_simp
                have h := HI.out
                exact hK _ _ ⟨b0, b1, b2, b3, b4, b5, b6, b7, b8, b9, b10, b11, b12, b13, true, b15, b16, false, v14, v15, v16, v17, v18, v19, v20, v21, v22, v23, v24, _, v26, _, _, v29, v7, rfl, rfl, .inl ⟨rfl, ⟨h.lt, h.le, h.src, h.gr, h.c0, h.c1, h.c2, h.c3, h.c4, h.c5, h.c6, h.c7, h.c8, h.c9, h.c10, h.c11, h.c12, h.c13, fun _ => ⟨_, rfl⟩, h.c15, h.c16⟩⟩⟩
              · obtain rfl : b15 = false := hf
                cases ho
                have hb3 : b3 = true := hall { on := 3, ground := .data } (by simp) rfl
                have hb8 : b8 = true := hall { on := 8, ground := .data } (by simp) rfl
                have hb14 : b14 = true := hall { on := 14, ground := .data } (by simp) rfl
                obtain ⟨y3, rfl, y3b, y3c⟩ := hI.c3 hb3
                obtain ⟨y8, rfl, y8b, y8c⟩ := hI.c8 hb8
                obtain ⟨t14, e14⟩ := hI.c14 hb14
                subst e14
                have HI : Hid _ := hI
                clear hI hall hi
                refine wpOp_step rfl (fun K hK => ?_)
                go_simp
                have h := HI.out
                exact hK _ _ ⟨b0, b1, b2, b3, b4, b5, b6, b7, b8, b9, b10, b11, b12, b13, b14, true, b16, false, v14, v15, v16, _, v18, v19, v20, v21, _, v23, v24, v25, v26, v27, _, _, v7, rfl, rfl, .inl ⟨rfl, ⟨h.lt, h.le, h.src, h.gr, h.c0, h.c1, h.c2, h.c3, h.c4, h.c5, h.c6, h.c7, h.c8, h.c9, h.c10, h.c11, h.c12, h.c13, h.c14, fun _ => ⟨⟨y3, y8, t14⟩, rfl, by simp only; omega, by simp only; omega, by simp only; omega, by simp only; omega⟩, h.c16⟩⟩⟩
              · obtain rfl : b16 = false := hf
                have HI : Hid _ := hI
                clear hI hall hi
                refine wpOp_step rfl (fun K hK => ?_)
                go_simp
                have h := HI.out
                exact hK _ _ ⟨b0, b1, b2, b3, b4, b5, b6, b7, b8, b9, b10, b11, b12, b13, b14, b15, true, false, v14, v15, v16, v17, v18, v19, v20, v21, v22, v23, v24, v25, v26, v27, v28, v29, _, rfl, rfl, .inl ⟨rfl, ⟨h.lt, h.le, h.src.far (World.grownBy_alloc _ _ none), Lib.grownBy_trans h.gr gAl, h.c0, h.c1, h.c2, h.c3, fun e => (h.c4 e).grow h.lt gAl, h.c5, h.c6, fun e => (h.c7 e).grow h.lt gAl, h.c8, h.c9, h.c10, h.c11, h.c12, h.c13, h.c14, h.c15, fun _ => ⟨u.heap.size, rfl, Nat.le_trans h.le h.gr.size, (MapKept.heap_alloc u _).1⟩⟩⟩⟩
              · cases ho
                obtain rfl : b0 = true := hall { on := 0, ground := .phase } (by simp) rfl
                obtain rfl : b1 = true := hall { on := 1, ground := .phase } (by simp) rfl
                obtain rfl : b2 = true := hall { on := 2, ground := .phase } (by simp) rfl
                obtain rfl : b3 = true := hall { on := 3, ground := .phase } (by simp) rfl
                obtain rfl : b4 = true := hall { on := 4, ground := .phase } (by simp) rfl
                obtain rfl : b5 = true := hall { on := 5, ground := .phase } (by simp) rfl
                obtain rfl : b6 = true := hall { on := 6, ground := .phase } (by simp) rfl
                obtain rfl : b7 = true := hall { on := 7, ground := .phase } (by simp) rfl
                obtain rfl : b8 = true := hall { on := 8, ground := .phase } (by simp) rfl
                obtain rfl : b9 = true := hall { on := 9, ground := .phase } (by simp) rfl
                obtain rfl : b10 = true := hall { on := 10, ground := .phase } (by simp) rfl
                obtain rfl : b11 = true := hall { on := 11, ground := .phase } (by simp) rfl
                obtain rfl : b12 = true := hall { on := 12, ground := .phase } (by simp) rfl
                obtain rfl : b13 = true := hall { on := 13, ground := .phase } (by simp) rfl
                obtain rfl : b14 = true := hall { on := 14, ground := .phase } (by simp) rfl
                obtain rfl : b15 = true := hall { on := 15, ground := .phase } (by simp) rfl
                obtain rfl : b16 = true := hall { on := 16, ground := .phase } (by simp) rfl
                have hb16 : true = true := rfl
                have hb15 : true = true := rfl
                obtain ⟨p16, rfl, p16b, p16c⟩ := hI.c16 hb16
                obtain ⟨⟨m0, m1, m2⟩, hm9, hm1, hm2, hm3, hm4⟩ := hI.c15 hb15
                unfold buA at hm9
                simp only at hm9 hm1 hm2 hm3 hm4
                subst hm9
                have h := hI
                have hl0 := h.lt
                have hl1 := h.gr.size
                have hlx := (Array.getElem?_eq_some_iff.1 p16c).1
                obtain ⟨q0, q1, q2⟩ := cel3b p16c
                have qf := frz3b p16c
                have HF : Hid (BuF B0 a len cap wr p16 ⟨m0, m1, m2⟩ (((u.setCell ⟨p16, 0, none⟩ (.int .i64 m0)).setCell ⟨p16, 1, none⟩ (.int .i64 m1)).setCell ⟨p16, 2, none⟩ (.bool m2))) := ⟨blk_b (blk_b (blk_b p16c 0 _) 1 _) 2 _, s_set8 (s_set8 (s_set8 h.src (by omega)) (by omega)) (by omega), g_set8 (g_set8 (g_set8 h.gr (by omega)) (by omega)) (by omega), p16b, hm1, hm2, hm3, hm4⟩
                clear hI h hall hi p16c hl0 hl1
                refine wpOp_step rfl (fun K hK => ?_)
                go_simp
                exact hK _ _ ⟨true, true, true, true, true, true, true, true, true, true, true, true, true, true, true, true, true, true, v14, v15, v16, v17, v18, v19, v20, v21, v22, v23, v24, v25, v26, v27, v28, _, _, rfl, rfl, .inr ⟨rfl, rfl, rfl, rfl, rfl, rfl, rfl, rfl, rfl, rfl, rfl, rfl, rfl, rfl, rfl, rfl, rfl, rfl, p16, ⟨m0, m1, m2⟩, rfl, HF.out⟩⟩
            · exfalso
              obtain rfl | rfl | rfl | rfl | rfl | rfl | rfl | rfl | rfl | rfl | rfl | rfl | rfl | rfl | rfl | rfl | rfl | rfl : i = 0 ∨ i = 1 ∨ i = 2 ∨ i = 3 ∨ i = 4 ∨ i = 5 ∨ i = 6 ∨ i = 7 ∨ i = 8 ∨ i = 9 ∨ i = 10 ∨ i = 11 ∨ i = 12 ∨ i = 13 ∨ i = 14 ∨ i = 15 ∨ i = 16 ∨ i = 17 := by omega
              all_goals exact absurd hf (by decide)
        · have hk2 : (0 < k) = True := (by simp; omega)
          clear hk0 hk1
          refine wp_region_any (by kernel_rfl) ?_
          refine wpAny_inv (fun L a9 u => ∃ (b0 b1 b2 b3 b4 b5 b6 b7 b8 b9 b10 b11 b12 b13 b14 b15 b16 b17 : Bool) (v14 v15 v16 v17 v18 v19 v20 v21 v22 v23 v24 v25 v26 v27 v28 v29 v7 : Value), L = #[b0, b1, b2, b3, b4, b5, b6, b7, b8, b9, b10, b11, b12, b13, b14, b15, b16, b17] ∧ a9 = { tmps := ((.pointer (some ⟨B0, 0, none⟩)) :: (.int .i64 (n : Int)) :: (undef) :: (undef) :: (.slice none 0 0) :: (.slice ao k cp) :: (.int .i64 (k : Int)) :: (v7) :: (.slice (some ⟨w.heap.size, 0, none⟩) 0 0) :: (.int .i64 (k : Int)) :: (.int .i64 (n : Int)) :: (.bool true) :: (u12) :: (u13) :: (v14) :: (v15) :: (v16) :: (v17) :: (v18) :: (v19) :: (v20) :: (v21) :: (v22) :: (v23) :: (v24) :: (v25) :: (v26) :: (v27) :: (v28) :: (v29) :: (u30) :: (u31) :: (u32) :: (u33) :: (u34) :: (u35) :: (u36) :: (u37) :: (u38) :: (u39) :: (u40) :: (u41) :: (u42) :: (u43) :: (u44) :: (u45) :: (u46) :: (u47) :: (u48) :: (u49) :: (u50) :: (u51) :: (u52) :: (u53) :: (u54) :: (u55) :: (u56) :: (u57) :: (u58) :: (u59) :: (undef) :: []).toArray, defers := [] } ∧ ((b17 = false ∧ BuR1 B0 wr.heap.size wr a len cap k b0 b1 b2 b3 b4 b5 b6 b7 b8 b9 b10 b11 b12 b13 b14 b15 b16 b17 v14 v15 v16 v17 v18 v19 v20 v21 v22 v23 v24 v25 v26 v27 v28 v29 v7 u) ∨ (b0 = true ∧ b1 = true ∧ b2 = true ∧ b3 = true ∧ b4 = true ∧ b5 = true ∧ b6 = true ∧ b7 = true ∧ b8 = true ∧ b9 = true ∧ b10 = true ∧ b11 = true ∧ b12 = true ∧ b13 = true ∧ b14 = true ∧ b15 = true ∧ b16 = true ∧ b17 = true ∧ ∃ (p : Nat) (m : BU), v7 = .pointer (some ⟨p, 0, none⟩) ∧ BuF B0 a len cap wr p m u))) ?hs ?hd _ _ _ _ (by decide) ?st
          case st => exact ⟨false, false, false, false, false, false, false, false, false, false, false, false, false, false, false, false, false, false, u14, u15, u16, u17, u18, u19, u20, u21, u22, u23, u24, u25, u26, u27, u28, u29, u7, rfl, rfl, .inl ⟨rfl, ⟨HLT.out, Nat.le_refl _, HS.out.drew8, ⟨rfl, rfl, rfl, Nat.le_refl _, fun _ _ _ => rfl⟩, (fun e => by cases e), (fun e => by cases e), (fun e => by cases e), (fun e => by cases e), (fun e => by cases e), (fun e => by cases e), (fun e => by cases e), (fun e => by cases e), (fun e => by cases e), (fun e => by cases e), (fun e => by cases e), (fun e => by cases e), (fun e => by cases e), (fun e => by cases e), (fun e => by cases e), (fun e => by cases e), (fun e => by cases e)⟩⟩⟩
          case hd =>
            rintro L a9 u ⟨b0, b1, b2, b3, b4, b5, b6, b7, b8, b9, b10, b11, b12, b13, b14, b15, b16, b17, v14, v15, v16, v17, v18, v19, v20, v21, v22, v23, v24, v25, v26, v27, v28, v29, v7, rfl, rfl, hI⟩ hr
            have hall := fun he hL => all_up (md := _) he hL hr
            have hall2 := hall (by kernel_rfl) rfl
            rcases hI with ⟨rfl, hI⟩ | ⟨rfl, rfl, rfl, rfl, rfl, rfl, rfl, rfl, rfl, rfl, rfl, rfl, rfl, rfl, rfl, rfl, rfl, rfl, p, m, rfl, hM⟩
            · exact Bool.noConfusion (show false = true from hall2 17 (by decide))
            have HM : Hid (BuF B0 a len cap wr p m u) := hM
            clear hM hr hall hall2
            go_wp2
            go_meet
            case rel => exact ⟨p, m, rfl, HM.out⟩
          case hs =>
            rintro L a9 u i ⟨b0, b1, b2, b3, b4, b5, b6, b7, b8, b9, b10, b11, b12, b13, b14, b15, b16, b17, v14, v15, v16, v17, v18, v19, v20, v21, v22, v23, v24, v25, v26, v27, v28, v29, v7, rfl, rfl, hI⟩ hi
            obtain ⟨hf, o, ho, hall⟩ := mem_ready.1 hi
            have hi8 : i < 18 := (Array.getElem?_eq_some_iff.1 ho).1
            rcases hI with ⟨rfl, hI⟩ | ⟨rfl, rfl, rfl, rfl, rfl, rfl, rfl, rfl, rfl, rfl, rfl, rfl, rfl, rfl, rfl, rfl, rfl, rfl, _⟩
            · obtain rfl | rfl | rfl | rfl | rfl | rfl | rfl | rfl | rfl | rfl | rfl | rfl | rfl | rfl | rfl | rfl | rfl | rfl : i = 0 ∨ i = 1 ∨ i = 2 ∨ i = 3 ∨ i = 4 ∨ i = 5 ∨ i = 6 ∨ i = 7 ∨ i = 8 ∨ i = 9 ∨ i = 10 ∨ i = 11 ∨ i = 12 ∨ i = 13 ∨ i = 14 ∨ i = 15 ∨ i = 16 ∨ i = 17 := by omega
              · obtain rfl : b0 = false := hf
                have HI : Hid _ := hI
                clear hI hall hi
                refine wpOp_step rfl (fun K hK => ?_)
                go_simp
                have h := HI.out
                exact hK _ _ ⟨true, b1, b2, b3, b4, b5, b6, b7, b8, b9, b10, b11, b12, b13, b14, b15, b16, false, _, v15, v16, v17, v18, v19, v20, v21, v22, v23, v24, v25, v26, v27, v28, v29, v7, rfl, rfl, .inl ⟨rfl, ⟨h.lt, h.le, h.src, h.gr, fun _ => rfl, h.c1, h.c2, h.c3, h.c4, h.c5, h.c6, h.c7, h.c8, h.c9, h.c10, h.c11, h.c12, h.c13, h.c14, h.c15, h.c16⟩⟩⟩
              · obtain rfl : b1 = false := hf
                cases ho
                have hb0 : b0 = true := hall { on := 0, ground := .data } (by simp) rfl
                have e0 : v14 = .pointer (some ⟨B0, 0, none⟩) := hI.c0 hb0
                subst e0
                have HN : Hid _ := src_n B0 a len cap 11 u hI.src (by omega)
                have HI : Hid _ := hI
                clear hI hall hi
                refine wpOp_step rfl (fun K hK => ?_)
                go_simp
                refine Calls.mono HN.out ?_
                rintro e9 u5 ⟨r, rfl, r0, r1, hs5, hg5⟩
                have h := HI.out
                exact hK _ _ ⟨b0, true, b2, b3, b4, b5, b6, b7, b8, b9, b10, b11, b12, b13, b14, b15, b16, false, _, _, v16, v17, v18, v19, v20, v21, v22, v23, v24, v25, v26, v27, v28, v29, v7, rfl, rfl, .inl ⟨rfl, ⟨h.lt, h.le, hs5, Lib.grownBy_trans h.gr hg5, h.c0, fun _ => ⟨r, rfl, r0, by omega⟩, h.c2, h.c3, fun e => (h.c4 e).grow h.lt hg5, h.c5, h.c6, fun e => (h.c7 e).grow h.lt hg5, h.c8, h.c9, h.c10, h.c11, h.c12, h.c13, h.c14, h.c15, fun e => (h.c16 e).grow h.lt hg5⟩⟩⟩
              · obtain rfl : b2 = false := hf
                cases ho
                have hb1 : b1 = true := hall { on := 1, ground := .data } (by simp) rfl
                obtain ⟨y1, rfl, y1b, y1c⟩ := hI.c1 hb1
                have HI : Hid _ := hI
                clear hI hall hi
                refine wpOp_step rfl (fun K hK => ?_)
                go_simp
                have h := HI.out
                exact hK _ _ ⟨b0, b1, true, b3, b4, b5, b6, b7, b8, b9, b10, b11, b12, b13, b14, b15, b16, false, v14, _, _, v17, v18, v19, v20, v21, v22, v23, v24, v25, v26, v27, v28, v29, v7, rfl, rfl, .inl ⟨rfl, ⟨h.lt, h.le, h.src, h.gr, h.c0, h.c1, fun _ => ⟨_, rfl, by first | omega | (rw [IntKind.wrap_i64]; omega), by first | omega | (rw [IntKind.wrap_i64]; omega)⟩, h.c3, h.c4, h.c5, h.c6, h.c7, h.c8, h.c9, h.c10, h.c11, h.c12, h.c13, h.c14, h.c15, h.c16⟩⟩⟩
              · obtain rfl : b3 = false := hf
                cases ho
                have hb2 : b2 = true := hall { on := 2, ground := .data } (by simp) rfl
                obtain ⟨y2, rfl, y2b, y2c⟩ := hI.c2 hb2
                have HI : Hid _ := hI
                clear hI hall hi
                refine wpOp_step rfl (fun K hK => ?_)
                go_simp
                have h := HI.out
                exact hK _ _ ⟨b0, b1, b2, true, b4, b5, b6, b7, b8, b9, b10, b11, b12, b13, b14, b15, b16, false, v14, v15, _, _, v18, v19, v20, v21, v22, v23, v24, v25, v26, v27, v28, v29, v7, rfl, rfl, .inl ⟨rfl, ⟨h.lt, h.le, h.src, h.gr, h.c0, h.c1, h.c2, fun _ => ⟨_, rfl, by first | omega | (rw [IntKind.wrap_i64]; omega), by first | omega | (rw [IntKind.wrap_i64]; omega)⟩, h.c4, h.c5, h.c6, h.c7, h.c8, h.c9, h.c10, h.c11, h.c12, h.c13, h.c14, h.c15, h.c16⟩⟩⟩
              · obtain rfl : b4 = false := hf
                have HI : Hid _ := hI
                clear hI hall hi
                refine wpOp_step rfl (fun K hK => ?_)
                go_simp
                have h := HI.out
                exact hK _ _ ⟨b0, b1, b2, b3, true, b5, b6, b7, b8, b9, b10, b11, b12, b13, b14, b15, b16, false, v14, v15, v16, v17, _, v19, v20, v21, v22, v23, v24, v25, v26, v27, v28, v29, v7, rfl, rfl, .inl ⟨rfl, ⟨h.lt, h.le, h.src.far (World.grownBy_alloc _ _ none), Lib.grownBy_trans h.gr gAl, h.c0, h.c1, h.c2, h.c3, fun _ => ⟨u.heap.size, rfl, Nat.le_trans h.le h.gr.size, (MapKept.heap_alloc u _).1⟩, h.c5, h.c6, fun e => (h.c7 e).grow h.lt gAl, h.c8, h.c9, h.c10, h.c11, h.c12, h.c13, h.c14, h.c15, fun e => (h.c16 e).grow h.lt gAl⟩⟩⟩
              · obtain rfl : b5 = false := hf
                have HI : Hid _ := hI
                clear hI hall hi
                refine wpOp_step rfl (fun K hK => ?_)
                go_simp
                have h := HI.out
                exact hK _ _ ⟨b0, b1, b2, b3, b4, true, b6, b7, b8, b9, b10, b11, b12, b13, b14, b15, b16, false, v14, v15, v16, v17, v18, _, v20, v21, v22, v23, v24, v25, v26, v27, v28, v29, v7, rfl, rfl, .inl ⟨rfl, ⟨h.lt, h.le, h.src, h.gr, h.c0, h.c1, h.c2, h.c3, h.c4, fun _ => rfl, h.c6, h.c7, h.c8, h.c9, h.c10, h.c11, h.c12, h.c13, h.c14, h.c15, h.c16⟩⟩⟩
              · obtain rfl : b6 = false := hf
                cases ho
                have hb5 : b5 = true := hall { on := 5, ground := .data } (by simp) rfl
                have e5 : v19 = .pointer (some ⟨B0, 0, none⟩) := hI.c5 hb5
                subst e5
                have HN : Hid _ := src_n B0 a len cap 6 u hI.src (by omega)
                have HI : Hid _ := hI
                clear hI hall hi
                refine wpOp_step rfl (fun K hK => ?_)
                go_simp
                refine Calls.mono HN.out ?_
                rintro e9 u5 ⟨r, rfl, r0, r1, hs5, hg5⟩
                have h := HI.out
                exact hK _ _ ⟨b0, b1, b2, b3, b4, b5, true, b7, b8, b9, b10, b11, b12, b13, b14, b15, b16, false, v14, v15, v16, v17, v18, _, _, v21, v22, v23, v24, v25, v26, v27, v28, v29, v7, rfl, rfl, .inl ⟨rfl, ⟨h.lt, h.le, hs5, Lib.grownBy_trans h.gr hg5, h.c0, h.c1, h.c2, h.c3, fun e => (h.c4 e).grow h.lt hg5, h.c5, fun _ => ⟨r, rfl, r0, by omega⟩, fun e => (h.c7 e).grow h.lt hg5, h.c8, h.c9, h.c10, h.c11, h.c12, h.c13, h.c14, h.c15, fun e => (h.c16 e).grow h.lt hg5⟩⟩⟩
              · obtain rfl : b7 = false := hf
                cases ho
                have hb4 : b4 = true := hall { on := 4, ground := .data } (by simp) rfl
                have hb6 : b6 = true := hall { on := 6, ground := .data } (by simp) rfl
                obtain ⟨p4, e4, p4b, p4c⟩ := hI.c4 hb4
                replace e4 : v18 = .slice (some ⟨p4, 0, none⟩) 6 6 := e4
                subst e4
                obtain ⟨y6, rfl, y6b, y6c⟩ := hI.c6 hb6
                obtain ⟨R, rfl⟩ := Int.eq_ofNat_of_zero_le y6b
                have R1 : (R : Int) < 6 := by omega
                have R0 : R < 6 := by omega
                have HI : Hid _ := hI
                clear hI hall hi
                refine wpOp_step rfl (fun K hK => ?_)
                go_simp
                have h := HI.out
                exact hK _ _ ⟨b0, b1, b2, b3, b4, b5, b6, true, b8, b9, b10, b11, b12, b13, b14, b15, b16, false, v14, v15, v16, v17, _, v19, _, _, v22, v23, v24, v25, v26, v27, v28, v29, v7, rfl, rfl, .inl ⟨rfl, ⟨h.lt, h.le, h.src, h.gr, h.c0, h.c1, h.c2, h.c3, h.c4, h.c5, h.c6, fun _ => ⟨p4, R, rfl, R0, p4b, p4c⟩, h.c8, h.c9, h.c10, h.c11, h.c12, h.c13, h.c14, h.c15, h.c16⟩⟩⟩
              · obtain rfl : b8 = false := hf
                cases ho
                have hb7 : b7 = true := hall { on := 7, ground := .data } (by simp) rfl
                obtain ⟨p7, r7, rfl, r7b, p7b, p7c⟩ := hI.c7 hb7
                have hcl := lit_cell p7c r7b
                have hbd := inB.at (lo := 0) (hi := 65) (by unfold inB; decide) r7b
                generalize ([0, 1, 16, 20, 64, 65] : List Int)[r7] = y at hcl hbd
                have HI : Hid _ := hI
                clear hI hall hi
                refine wpOp_step rfl (fun K hK => ?_)
                go_simp
                have h := HI.out
                exact hK _ _ ⟨b0, b1, b2, b3, b4, b5, b6, b7, true, b9, b10, b11, b12, b13, b14, b15, b16, false, v14, v15, v16, v17, v18, v19, v20, _, _, v23, v24, v25, v26, v27, v28, v29, v7, rfl, rfl, .inl ⟨rfl, ⟨h.lt, h.le, h.src, h.gr, h.c0, h.c1, h.c2, h.c3, h.c4, h.c5, h.c6, h.c7, fun _ => ⟨y, rfl, hbd.1, hbd.2⟩, h.c9, h.c10, h.c11, h.c12, h.c13, h.c14, h.c15, h.c16⟩⟩⟩
              · obtain rfl : b9 = false := hf
                have HI : Hid _ := hI
                clear hI hall hi
                refine wpOp_step rfl (fun K hK => ?_)
                go_simp
                have h := HI.out
                exact hK _ _ ⟨b0, b1, b2, b3, b4, b5, b6, b7, b8, true, b10, b11, b12, b13, b14, b15, b16, false, v14, v15, v16, v17, v18, v19, v20, v21, v22, _, v24, v25, v26, v27, v28, v29, v7, rfl, rfl, .inl ⟨rfl, ⟨h.lt, h.le, h.src, h.gr, h.c0, h.c1, h.c2, h.c3, h.c4, h.c5, h.c6, h.c7, h.c8, fun _ => rfl, h.c10, h.c11, h.c12, h.c13, h.c14, h.c15, h.c16⟩⟩⟩
              · obtain rfl : b10 = false := hf
                cases ho
                have hb9 : b9 = true := hall { on := 9, ground := .data } (by simp) rfl
                have e9 : v23 = .int .i64 (k : Int) := hI.c9 hb9
                subst e9
                have HI : Hid _ := hI
                clear hI hall hi
                refine wpOp_step rfl (fun K hK => ?_)
                go_simp
                have h := HI.out
                exact hK _ _ ⟨b0, b1, b2, b3, b4, b5, b6, b7, b8, b9, true, b11, b12, b13, b14, b15, b16, false, v14, v15, v16, v17, v18, v19, v20, v21, v22, _, _, v25, v26, v27, v28, v29, v7, rfl, rfl, .inl ⟨rfl, ⟨h.lt, h.le, h.src, h.gr, h.c0, h.c1, h.c2, h.c3, h.c4, h.c5, h.c6, h.c7, h.c8, h.c9, fun _ => rfl, h.c11, h.c12, h.c13, h.c14, h.c15, h.c16⟩⟩⟩
              · obtain rfl : b11 = false := hf
                cases ho
                have hb10 : b10 = true := hall { on := 10, ground := .data } (by simp) rfl
                have e10 : v24 = .bool true := hI.c10 hb10
                subst e10
                have HI : Hid _ := hI
                clear hI hall hi
                refine wpOp_step rfl (fun K hK => ?_)
                go_simp
                have h := HI.out
                exact hK _ _ ⟨b0, b1, b2, b3, b4, b5, b6, b7, b8, b9, b10, true, b12, b13, b14, b15, b16, false, v14, v15, v16, v17, v18, v19, v20, v21, v22, v23, _, _, v26, v27, v28, v29, v7, rfl, rfl, .inl ⟨rfl, ⟨h.lt, h.le, h.src, h.gr, h.c0, h.c1, h.c2, h.c3, h.c4, h.c5, h.c6, h.c7, h.c8, h.c9, h.c10, fun _ => rfl, h.c12, h.c13, h.c14, h.c15, h.c16⟩⟩⟩
              · obtain rfl : b12 = false := hf
                cases ho
                have hb11 : b11 = true := hall { on := 11, ground := .guard } (by simp) rfl
                have e11 : v25 = .bool true := hI.c11 hb11
                subst e11
                have HI : Hid _ := hI
                clear hI hall hi
                refine wpOp_step rfl (fun K hK => ?_)
                go_simp
                have h := HI.out
                exact hK _ _ ⟨b0, b1, b2, b3, b4, b5, b6, b7, b8, b9, b10, b11, true, b13, b14, b15, b16, false, v14, v15, v16, v17, v18, v19, v20, v21, v22, v23, v24, _, _, v27, v28, v29, v7, rfl, rfl, .inl ⟨rfl, ⟨h.lt, h.le, h.src, h.gr, h.c0, h.c1, h.c2, h.c3, h.c4, h.c5, h.c6, h.c7, h.c8, h.c9, h.c10, h.c11, fun _ => rfl, h.c13, h.c14, h.c15, h.c16⟩⟩⟩
              · obtain rfl : b13 = false := hf
                cases ho
                have hb12 : b12 = true := hall { on := 12, ground := .data } (by simp) rfl
                have hb11 : b11 = true := hall { on := 11, ground := .guard } (by simp) rfl
                have e12 : v26 = .pointer (some ⟨B0, 0, none⟩) := hI.c12 hb12
                subst e12
                have e11 : v25 = .bool true := hI.c11 hb11
                subst e11
                have HI : Hid _ := hI
                have HN : Hid _ := src_one B0 a len cap 2 u hI.src (by omega)
                clear hI hall hi
                refine wpOp_step rfl (fun K hK => ?_)
                go_simp
                refine Calls.mono HN.out ?_
                rintro e9 u5 ⟨t9, rfl, hs5, hg5⟩
                have h := HI.out
                exact hK _ _ ⟨b0, b1, b2, b3, b4, b5, b6, b7, b8, b9, b10, b11, b12, true, b14, b15, b16, false, v14, v15, v16, v17, v18, v19, v20, v21, v22, v23, v24, _, _, _, v28, v29, v7, rfl, rfl, .inl ⟨rfl, ⟨h.lt, h.le, hs5, Lib.grownBy_trans h.gr hg5, h.c0, h.c1, h.c2, h.c3, fun e => (h.c4 e).grow h.lt hg5, h.c5, h.c6, fun e => (h.c7 e).grow h.lt hg5, h.c8, h.c9, h.c10, h.c11, h.c12, fun _ => ⟨t9, rfl⟩, h.c14, h.c15, fun e => (h.c16 e).grow h.lt hg5⟩⟩⟩
              · obtain rfl : b14 = false := hf
                cases ho
                have hb11 : b11 = true := hall { on := 11, ground := .data } (by simp) rfl
                have hb13 : b13 = true := hall { on := 13, ground := .data } (by simp) rfl
                have e11 : v25 = .bool true := hI.c11 hb11
                subst e11
                obtain ⟨t13, e13⟩ := hI.c13 hb13
                subst e13
                have HI : Hid _ := hI
                clear hI hall hi
                refine wpOp_step rfl (fun K hK => ?_)
                go_simp
                have h := HI.out
                exact hK _ _ ⟨b0, b1, b2, b3, b4, b5, b6, b7, b8, b9, b10, b11, b12, b13, true, b15, b16, false, v14, v15, v16, v17, v18, v19, v20, v21, v22, v23, v24, _, v26, _, _, v29, v7, rfl, rfl, .inl ⟨rfl, ⟨h.lt, h.le, h.src, h.gr, h.c0, h.c1, h.c2, h.c3, h.c4, h.c5, h.c6, h.c7, h.c8, h.c9, h.c10, h.c11, h.c12, h.c13, fun _ => ⟨_, rfl⟩, h.c15, h.c16⟩⟩⟩
              · obtain rfl : b15 = false := hf
                cases ho
                have hb3 : b3 = true := hall { on := 3, ground := .data } (by simp) rfl
                have hb8 : b8 = true := hall { on := 8, ground := .data } (by simp) rfl
                have hb14 : b14 = true := hall { on := 14, ground := .data } (by simp) rfl
                obtain ⟨y3, rfl, y3b, y3c⟩ := hI.c3 hb3
                obtain ⟨y8, rfl, y8b, y8c⟩ := hI.c8 hb8
                obtain ⟨t14, e14⟩ := hI.c14 hb14
                subst e14
                have HI : Hid _ := hI
                clear hI hall hi
                refine wpOp_step rfl (fun K hK => ?_)
                go_simp
                have h := HI.out
                exact hK _ _ ⟨b0, b1, b2, b3, b4, b5, b6, b7, b8, b9, b10, b11, b12, b13, b14, true, b16, false, v14, v15, v16, _, v18, v19, v20, v21, _, v23, v24, v25, v26, v27, _, _, v7, rfl, rfl, .inl ⟨rfl, ⟨h.lt, h.le, h.src, h.gr, h.c0, h.c1, h.c2, h.c3, h.c4, h.c5, h.c6, h.c7, h.c8, h.c9, h.c10, h.c11, h.c12, h.c13, h.c14, fun _ => ⟨⟨y3, y8, t14⟩, rfl, by simp only; omega, by simp only; omega, by simp only; omega, by simp only; omega⟩, h.c16⟩⟩⟩
              · obtain rfl : b16 = false := hf
                have HI : Hid _ := hI
                clear hI hall hi
                refine wpOp_step rfl (fun K hK => ?_)
                go_simp
                have h := HI.out
                exact hK _ _ ⟨b0, b1, b2, b3, b4, b5, b6, b7, b8, b9, b10, b11, b12, b13, b14, b15, true, false, v14, v15, v16, v17, v18, v19, v20, v21, v22, v23, v24, v25, v26, v27, v28, v29, _, rfl, rfl, .inl ⟨rfl, ⟨h.lt, h.le, h.src.far (World.grownBy_alloc _ _ none), Lib.grownBy_trans h.gr gAl, h.c0, h.c1, h.c2, h.c3, fun e => (h.c4 e).grow h.lt gAl, h.c5, h.c6, fun e => (h.c7 e).grow h.lt gAl, h.c8, h.c9, h.c10, h.c11, h.c12, h.c13, h.c14, h.c15, fun _ => ⟨u.heap.size, rfl, Nat.le_trans h.le h.gr.size, (MapKept.heap_alloc u _).1⟩⟩⟩⟩
              · cases ho
                obtain rfl : b0 = true := hall { on := 0, ground := .phase } (by simp) rfl
                obtain rfl : b1 = true := hall { on := 1, ground := .phase } (by simp) rfl
                obtain rfl : b2 = true := hall { on := 2, ground := .phase } (by simp) rfl
                obtain rfl : b3 = true := hall { on := 3, ground := .phase } (by simp) rfl
                obtain rfl : b4 = true := hall { on := 4, ground := .phase } (by simp) rfl
                obtain rfl : b5 = true := hall { on := 5, ground := .phase } (by simp) rfl
                obtain rfl : b6 = true := hall { on := 6, ground := .phase } (by simp) rfl
                obtain rfl : b7 = true := hall { on := 7, ground := .phase } (by simp) rfl
                obtain rfl : b8 = true := hall { on := 8, ground := .phase } (by simp) rfl
                obtain rfl : b9 = true := hall { on := 9, ground := .phase } (by simp) rfl
                obtain rfl : b10 = true := hall { on := 10, ground := .phase } (by simp) rfl
                obtain rfl : b11 = true := hall { on := 11, ground := .phase } (by simp) rfl
                obtain rfl : b12 = true := hall { on := 12, ground := .phase } (by simp) rfl
                obtain rfl : b13 = true := hall { on := 13, ground := .phase } (by simp) rfl
                obtain rfl : b14 = true := hall { on := 14, ground := .phase } (by simp) rfl
                obtain rfl : b15 = true := hall { on := 15, ground := .phase } (by simp) rfl
                obtain rfl : b16 = true := hall { on := 16, ground := .phase } (by simp) rfl
                have hb16 : true = true := rfl
                have hb15 : true = true := rfl
                obtain ⟨p16, rfl, p16b, p16c⟩ := hI.c16 hb16
                obtain ⟨⟨m0, m1, m2⟩, hm9, hm1, hm2, hm3, hm4⟩ := hI.c15 hb15
                unfold buA at hm9
                simp only at hm9 hm1 hm2 hm3 hm4
                subst hm9
                have h := hI
                have hl0 := h.lt
                have hl1 := h.gr.size
                have hlx := (Array.getElem?_eq_some_iff.1 p16c).1
                obtain ⟨q0, q1, q2⟩ := cel3b p16c
                have qf := frz3b p16c
                have HF : Hid (BuF B0 a len cap wr p16 ⟨m0, m1, m2⟩ (((u.setCell ⟨p16, 0, none⟩ (.int .i64 m0)).setCell ⟨p16, 1, none⟩ (.int .i64 m1)).setCell ⟨p16, 2, none⟩ (.bool m2))) := ⟨blk_b (blk_b (blk_b p16c 0 _) 1 _) 2 _, s_set8 (s_set8 (s_set8 h.src (by omega)) (by omega)) (by omega), g_set8 (g_set8 (g_set8 h.gr (by omega)) (by omega)) (by omega), p16b, hm1, hm2, hm3, hm4⟩
                clear hI h hall hi p16c hl0 hl1
                refine wpOp_step rfl (fun K hK => ?_)
                go_simp
                exact hK _ _ ⟨true, true, true, true, true, true, true, true, true, true, true, true, true, true, true, true, true, true, v14, v15, v16, v17, v18, v19, v20, v21, v22, v23, v24, v25, v26, v27, v28, _, _, rfl, rfl, .inr ⟨rfl, rfl, rfl, rfl, rfl, rfl, rfl, rfl, rfl, rfl, rfl, rfl, rfl, rfl, rfl, rfl, rfl, rfl, p16, ⟨m0, m1, m2⟩, rfl, HF.out⟩⟩
            · exfalso
              obtain rfl | rfl | rfl | rfl | rfl | rfl | rfl | rfl | rfl | rfl | rfl | rfl | rfl | rfl | rfl | rfl | rfl | rfl : i = 0 ∨ i = 1 ∨ i = 2 ∨ i = 3 ∨ i = 4 ∨ i = 5 ∨ i = 6 ∨ i = 7 ∨ i = 8 ∨ i = 9 ∨ i = 10 ∨ i = 11 ∨ i = 12 ∨ i = 13 ∨ i = 14 ∨ i = 15 ∨ i = 16 ∨ i = 17 := by omega
              all_goals exact absurd hf (by decide)
      case rest =>
        obtain ⟨p, m, rfl, hM⟩ := hcut
        have HM1 : Hid (BuF B0 a len cap wr p m wc) := hM
        have HO1 : Hid (wc.ownsRow w.heap.size 53 3 (.slice ao k cp) k (buR zs)) := own_gB HO.out HLW.out hM.gr
        have HRB : Hid (∀ q, (Value.slice ao k cp).ownBlock = some q → q < wr.heap.size) := fun q hq => (HO.out.lt q hq).2
        clear hM HO
        generalize wc = W1 at *
        go_upto_region 6 with fail
        go_cut [46] (fun s46 wc => ∃ t : Bool, s46 = .bool t ∧ BuF B0 a len cap wr p m wc ∧ W1.grownBy wc (some B0))
        case first =>
          cases k with
          | zero =>
            go_wp2
            go_meet
            case rel => exact ⟨false, rfl, HM1.out, World.grownBy.refl _ _⟩
          | succ j =>
            obtain ⟨g, lw, rfl, cl, gl⟩ := last_b HO1.out HZL.out
            have e1 : (0 : Int) < ((j + 1 : Nat) : Int) := by omega
            have e2 : 0 < j + 1 := by omega
            have e3 : (j : Int) < ((j + 1 : Nat) : Int) := by omega
            have e4 : ((j + 1 : Nat) : Int) - 1 = (j : Int) := by omega
            have hn9 : (j : Int) ≤ 8 := by omega
            cases lw
            · go_wp2
              go_meet
              case rel => exact ⟨false, rfl, HM1.out, World.grownBy.refl _ _⟩
            · go_wp2_with (go_at_call 64; refine (src_one B0 a len cap 10 W1 HM1.out.src (by omega)).mono ?_; rintro e u2 ⟨t2, rfl, hs2, hg2⟩; have HM2 : Hid (BuF B0 a len cap wr p m u2) := HM1.out.grow HLT.out hs2 hg2; have HG2 : Hid (W1.grownBy u2 (some B0)) := hg2; clear hs2 hg2)
              go_meet
              case rel => exact ⟨!t2, rfl, HM2.out, HG2.out⟩
        case rest =>
          obtain ⟨t, rfl, hM, hgc⟩ := hcut
          have HM3 : Hid (BuF B0 a len cap wr p m wc) := hM
          have HO3 : Hid (wc.ownsRow w.heap.size 53 3 (.slice ao k cp) k (buR zs)) := own_gB HO1.out HLW.out hgc
          clear hM hgc HM1 HO1
          generalize wc = W3 at *
          cases t
          · skip
            go_wp2_with fail
            refine (src_one B0 a len cap 25 W3 HM3.out.src (by omega)).mono ?_
            rintro e v5 ⟨t5, rfl, hs5, hg5⟩
            have HM5 : Hid (BuF B0 a len cap wr p m v5) := HM3.out.grow HLT.out hs5 hg5
            have HO5 : Hid (v5.ownsRow w.heap.size 53 3 (.slice ao k cp) k (buR zs)) := own_gB HO3.out HLW.out hg5
            clear hs5 hg5 HM3 HO3
            cases t5
            · skip
              have HMx : Hid (BuF B0 a len cap wr p m v5) := HM5.out
              have HOx : Hid (v5.ownsRow w.heap.size 53 3 (.slice ao k cp) k (buR zs)) := HO5.out
              generalize v5 = wX at *
              obtain ⟨m2, hm2⟩ : ∃ m2 : BU, m = m2 := ⟨_, rfl⟩
              rw [hm2] at HMx
              clear hm2
              obtain ⟨q0, q1, q2⟩ := cel3b HMx.out.box
              have ql := (Array.getElem?_eq_some_iff.1 HMx.out.box).1
              have HAP : Hid _ := appB HOx.out (by have := HMx.out.gr.size; have := HG.out.size; omega) (by omega) m2
              have HL9 : Hid (wX.grownBy (wX.alloc (.cells #[.int .i64 m2.pos, .int .i64 m2.len, .bool m2.write] 53)) (some B0)) := World.grownBy_alloc _ _ _
              go_upto_region 4 with (at_builtin; (refine wl_append_exB rfl _ _ 48 rfl _ _ rfl rfl HAP.out ?_; rintro v9 u9 ⟨ao9, cp9, rfl, ho9, hg9⟩; have HO9 : Hid (u9.ownsRow w.heap.size 53 3 (.slice ao9 (k + 1) cp9) (k + 1) (buR (zs ++ [m2]))) := ho9; have HG9 : Hid ((wX.alloc (.cells #[.int .i64 m2.pos, .int .i64 m2.len, .bool m2.write] 53)).grownBy u9 (Value.slice ao k cp).ownBlock) := hg9; clear ho9 hg9 HAP))
              clear q0 q1 q2 ql
              go_wp2
              refine ⟨⟨k + 1, ao9, cp9, zs ++ [m2], by omega, by go_num, rfl, some_b HO9.out, by rw [List.length_append, HZL.out]; rfl, ?_, HO9.out, ?_, ?_⟩, by simp [intOf]; omega⟩
              · intro z hz
                rcases List.mem_append.1 hz with hz | hz
                · exact HZB.out z hz
                · obtain rfl := List.mem_singleton.1 hz
                  exact ⟨HMx.out.p0, HMx.out.p1, HMx.out.l0, HMx.out.l1⟩
              · exact src_ownB (HMx.out.src.far (World.grownBy_alloc _ _ none)) HG9.out (fun q hq => by have := (HOx.out.lt q hq).1; have := HLW.out; omega)
              · exact gfar (Lib.grownBy_trans (Lib.grownBy_trans HG.out HMx.out.gr) HL9.out) HG9.out (fun q hq => (HOx.out.lt q hq).1)
            · skip
              have HM6 : Hid (BuF B0 a len cap wr p m (v5.alloc (.cells ([1270, 4000, 4294967295, 1280].map (Value.int .i64)).toArray 2))) := HM5.out.grow HLT.out (HM5.out.src.far (World.grownBy_alloc _ _ none)) (World.grownBy_alloc _ _ _)
              have HO6 : Hid ((v5.alloc (.cells ([1270, 4000, 4294967295, 1280].map (Value.int .i64)).toArray 2)).ownsRow w.heap.size 53 3 (.slice ao k cp) k (buR zs)) := World.ownsRow.alloc HO5.out _
              have HB5 : Hid (B0 < v5.heap.size) := HM5.out.src.lt
              go_wp2_with fail
              refine (src_n B0 a len cap 4 _ HM6.out.src (by omega)).mono ?_
              rintro e v7 ⟨r7, rfl, p7, q7, hs7, hg7⟩
              obtain ⟨R7, rfl⟩ := Int.eq_ofNat_of_zero_le p7
              have hR7 : R7 < 4 := (by omega)
              obtain ⟨y, y1, y2, y3⟩ := lit_drawB HB5.out hg7 R7 (by simpa using hR7) (show inB 0 4294967295 [1270, 4000, 4294967295, 1280] from (fun x hx => by simp at hx; omega))
              have HM7 : Hid (BuF B0 a len cap wr p m v7) := HM6.out.grow HLT.out hs7 hg7
              have HO7 : Hid (v7.ownsRow w.heap.size 53 3 (.slice ao k cp) k (buR zs)) := own_gB HO6.out HLW.out hg7
              have hl7 : v5.heap.size < v7.heap.size := Nat.lt_of_lt_of_le (by simp) hg7.size
              have R0 : (0 : Int) ≤ (R7 : Int) := (by omega)
              have R1 : (R7 : Int) < 4 := (by omega)
              clear hs7 hg7 HM6 HO6 HM5 HO5 p7 q7
              obtain ⟨q0, q1, q2⟩ := cel3b HM7.out.box
              have qf := frz3b HM7.out.box
              have ql := (Array.getElem?_eq_some_iff.1 HM7.out.box).1
              go_upto_region 10 with fail
              clear y1 q0 q1 q2 qf ql
              have HMx : Hid (BuF B0 a len cap wr p ⟨y, (m : BU).len, (m : BU).write⟩ (v7.setCell ⟨p, 0, none⟩ (.int .i64 y))) := HM7.out.setP HLT.out y y2 y3
              have HOx : Hid ((v7.setCell ⟨p, 0, none⟩ (.int .i64 y)).ownsRow w.heap.size 53 3 (.slice ao k cp) k (buR zs)) := own_far HO7.out (fun q hq => by have := HRB.out q hq; have := HM7.out.le; omega)
              generalize (v7.setCell ⟨p, 0, none⟩ (.int .i64 y)) = wX at *
              obtain ⟨m2, hm2⟩ : ∃ m2 : BU, ⟨y, (m : BU).len, (m : BU).write⟩ = m2 := ⟨_, rfl⟩
              rw [hm2] at HMx
              clear hm2
              obtain ⟨q0, q1, q2⟩ := cel3b HMx.out.box
              have ql := (Array.getElem?_eq_some_iff.1 HMx.out.box).1
              have HAP : Hid _ := appB HOx.out (by have := HMx.out.gr.size; have := HG.out.size; omega) (by omega) m2
              have HL9 : Hid (wX.grownBy (wX.alloc (.cells #[.int .i64 m2.pos, .int .i64 m2.len, .bool m2.write] 53)) (some B0)) := World.grownBy_alloc _ _ _
              go_upto_region 4 with (at_builtin; (refine wl_append_exB rfl _ _ 48 rfl _ _ rfl rfl HAP.out ?_; rintro v9 u9 ⟨ao9, cp9, rfl, ho9, hg9⟩; have HO9 : Hid (u9.ownsRow w.heap.size 53 3 (.slice ao9 (k + 1) cp9) (k + 1) (buR (zs ++ [m2]))) := ho9; have HG9 : Hid ((wX.alloc (.cells #[.int .i64 m2.pos, .int .i64 m2.len, .bool m2.write] 53)).grownBy u9 (Value.slice ao k cp).ownBlock) := hg9; clear ho9 hg9 HAP))
              clear q0 q1 q2 ql
              go_wp2
              refine ⟨⟨k + 1, ao9, cp9, zs ++ [m2], by omega, by go_num, rfl, some_b HO9.out, by rw [List.length_append, HZL.out]; rfl, ?_, HO9.out, ?_, ?_⟩, by simp [intOf]; omega⟩
              · intro z hz
                rcases List.mem_append.1 hz with hz | hz
                · exact HZB.out z hz
                · obtain rfl := List.mem_singleton.1 hz
                  exact ⟨HMx.out.p0, HMx.out.p1, HMx.out.l0, HMx.out.l1⟩
              · exact src_ownB (HMx.out.src.far (World.grownBy_alloc _ _ none)) HG9.out (fun q hq => by have := (HOx.out.lt q hq).1; have := HLW.out; omega)
              · exact gfar (Lib.grownBy_trans (Lib.grownBy_trans HG.out HMx.out.gr) HL9.out) HG9.out (fun q hq => (HOx.out.lt q hq).1)
          · skip
            obtain ⟨q0, q1, q2⟩ := cel3b HM3.out.box
            have qf := frz3b HM3.out.box
            have ql := (Array.getElem?_eq_some_iff.1 HM3.out.box).1
            have HM4 : Hid (BuF B0 a len cap wr p ⟨m.pos, m.len, true⟩ (W3.setCell ⟨p, 2, none⟩ (.bool true))) := HM3.out.setW HLT.out
            have HO4 : Hid ((W3.setCell ⟨p, 2, none⟩ (.bool true)).ownsRow w.heap.size 53 3 (.slice ao k cp) k (buR zs)) := own_far HO3.out (fun q hq => by have := HRB.out q hq; have := HM3.out.le; omega)
            go_upto_region 8 with fail
            clear q0 q1 q2 qf ql
            generalize (W3.setCell ⟨p, 2, none⟩ (.bool true)) = W4 at *
            go_wp2_with fail
            refine (src_one B0 a len cap 25 W4 HM4.out.src (by omega)).mono ?_
            rintro e v5 ⟨t5, rfl, hs5, hg5⟩
            have HM5 : Hid (BuF B0 a len cap wr p ⟨m.pos, m.len, true⟩ v5) := HM4.out.grow HLT.out hs5 hg5
            have HO5 : Hid (v5.ownsRow w.heap.size 53 3 (.slice ao k cp) k (buR zs)) := own_gB HO4.out HLW.out hg5
            clear hs5 hg5 HM4 HO4
            cases t5
            · skip
              have HMx : Hid (BuF B0 a len cap wr p ⟨m.pos, m.len, true⟩ v5) := HM5.out
              have HOx : Hid (v5.ownsRow w.heap.size 53 3 (.slice ao k cp) k (buR zs)) := HO5.out
              generalize v5 = wX at *
              obtain ⟨m2, hm2⟩ : ∃ m2 : BU, ⟨m.pos, m.len, true⟩ = m2 := ⟨_, rfl⟩
              rw [hm2] at HMx
              clear hm2
              obtain ⟨q0, q1, q2⟩ := cel3b HMx.out.box
              have ql := (Array.getElem?_eq_some_iff.1 HMx.out.box).1
              have HAP : Hid _ := appB HOx.out (by have := HMx.out.gr.size; have := HG.out.size; omega) (by omega) m2
              have HL9 : Hid (wX.grownBy (wX.alloc (.cells #[.int .i64 m2.pos, .int .i64 m2.len, .bool m2.write] 53)) (some B0)) := World.grownBy_alloc _ _ _
              go_upto_region 4 with (at_builtin; (refine wl_append_exB rfl _ _ 48 rfl _ _ rfl rfl HAP.out ?_; rintro v9 u9 ⟨ao9, cp9, rfl, ho9, hg9⟩; have HO9 : Hid (u9.ownsRow w.heap.size 53 3 (.slice ao9 (k + 1) cp9) (k + 1) (buR (zs ++ [m2]))) := ho9; have HG9 : Hid ((wX.alloc (.cells #[.int .i64 m2.pos, .int .i64 m2.len, .bool m2.write] 53)).grownBy u9 (Value.slice ao k cp).ownBlock) := hg9; clear ho9 hg9 HAP))
              clear q0 q1 q2 ql
              go_wp2
              refine ⟨⟨k + 1, ao9, cp9, zs ++ [m2], by omega, by go_num, rfl, some_b HO9.out, by rw [List.length_append, HZL.out]; rfl, ?_, HO9.out, ?_, ?_⟩, by simp [intOf]; omega⟩
              · intro z hz
                rcases List.mem_append.1 hz with hz | hz
                · exact HZB.out z hz
                · obtain rfl := List.mem_singleton.1 hz
                  exact ⟨HMx.out.p0, HMx.out.p1, HMx.out.l0, HMx.out.l1⟩
              · exact src_ownB (HMx.out.src.far (World.grownBy_alloc _ _ none)) HG9.out (fun q hq => by have := (HOx.out.lt q hq).1; have := HLW.out; omega)
              · exact gfar (Lib.grownBy_trans (Lib.grownBy_trans HG.out HMx.out.gr) HL9.out) HG9.out (fun q hq => (HOx.out.lt q hq).1)
            · skip
              have HM6 : Hid (BuF B0 a len cap wr p ⟨m.pos, m.len, true⟩ (v5.alloc (.cells ([1270, 4000, 4294967295, 1280].map (Value.int .i64)).toArray 2))) := HM5.out.grow HLT.out (HM5.out.src.far (World.grownBy_alloc _ _ none)) (World.grownBy_alloc _ _ _)
              have HO6 : Hid ((v5.alloc (.cells ([1270, 4000, 4294967295, 1280].map (Value.int .i64)).toArray 2)).ownsRow w.heap.size 53 3 (.slice ao k cp) k (buR zs)) := World.ownsRow.alloc HO5.out _
              have HB5 : Hid (B0 < v5.heap.size) := HM5.out.src.lt
              go_wp2_with fail
              refine (src_n B0 a len cap 4 _ HM6.out.src (by omega)).mono ?_
              rintro e v7 ⟨r7, rfl, p7, q7, hs7, hg7⟩
              obtain ⟨R7, rfl⟩ := Int.eq_ofNat_of_zero_le p7
              have hR7 : R7 < 4 := (by omega)
              obtain ⟨y, y1, y2, y3⟩ := lit_drawB HB5.out hg7 R7 (by simpa using hR7) (show inB 0 4294967295 [1270, 4000, 4294967295, 1280] from (fun x hx => by simp at hx; omega))
              have HM7 : Hid (BuF B0 a len cap wr p ⟨m.pos, m.len, true⟩ v7) := HM6.out.grow HLT.out hs7 hg7
              have HO7 : Hid (v7.ownsRow w.heap.size 53 3 (.slice ao k cp) k (buR zs)) := own_gB HO6.out HLW.out hg7
              have hl7 : v5.heap.size < v7.heap.size := Nat.lt_of_lt_of_le (by simp) hg7.size
              have R0 : (0 : Int) ≤ (R7 : Int) := (by omega)
              have R1 : (R7 : Int) < 4 := (by omega)
              clear hs7 hg7 HM6 HO6 HM5 HO5 p7 q7
              obtain ⟨q0, q1, q2⟩ := cel3b HM7.out.box
              have qf := frz3b HM7.out.box
              have ql := (Array.getElem?_eq_some_iff.1 HM7.out.box).1
              go_upto_region 10 with fail
              clear y1 q0 q1 q2 qf ql
              have HMx : Hid (BuF B0 a len cap wr p ⟨y, (⟨m.pos, m.len, true⟩ : BU).len, (⟨m.pos, m.len, true⟩ : BU).write⟩ (v7.setCell ⟨p, 0, none⟩ (.int .i64 y))) := HM7.out.setP HLT.out y y2 y3
              have HOx : Hid ((v7.setCell ⟨p, 0, none⟩ (.int .i64 y)).ownsRow w.heap.size 53 3 (.slice ao k cp) k (buR zs)) := own_far HO7.out (fun q hq => by have := HRB.out q hq; have := HM7.out.le; omega)
              generalize (v7.setCell ⟨p, 0, none⟩ (.int .i64 y)) = wX at *
              obtain ⟨m2, hm2⟩ : ∃ m2 : BU, ⟨y, (⟨m.pos, m.len, true⟩ : BU).len, (⟨m.pos, m.len, true⟩ : BU).write⟩ = m2 := ⟨_, rfl⟩
              rw [hm2] at HMx
              clear hm2
              obtain ⟨q0, q1, q2⟩ := cel3b HMx.out.box
              have ql := (Array.getElem?_eq_some_iff.1 HMx.out.box).1
              have HAP : Hid _ := appB HOx.out (by have := HMx.out.gr.size; have := HG.out.size; omega) (by omega) m2
              have HL9 : Hid (wX.grownBy (wX.alloc (.cells #[.int .i64 m2.pos, .int .i64 m2.len, .bool m2.write] 53)) (some B0)) := World.grownBy_alloc _ _ _
              go_upto_region 4 with (at_builtin; (refine wl_append_exB rfl _ _ 48 rfl _ _ rfl rfl HAP.out ?_; rintro v9 u9 ⟨ao9, cp9, rfl, ho9, hg9⟩; have HO9 : Hid (u9.ownsRow w.heap.size 53 3 (.slice ao9 (k + 1) cp9) (k + 1) (buR (zs ++ [m2]))) := ho9; have HG9 : Hid ((wX.alloc (.cells #[.int .i64 m2.pos, .int .i64 m2.len, .bool m2.write] 53)).grownBy u9 (Value.slice ao k cp).ownBlock) := hg9; clear ho9 hg9 HAP))
              clear q0 q1 q2 ql
              go_wp2
              refine ⟨⟨k + 1, ao9, cp9, zs ++ [m2], by omega, by go_num, rfl, some_b HO9.out, by rw [List.length_append, HZL.out]; rfl, ?_, HO9.out, ?_, ?_⟩, by simp [intOf]; omega⟩
              · intro z hz
                rcases List.mem_append.1 hz with hz | hz
                · exact HZB.out z hz
                · obtain rfl := List.mem_singleton.1 hz
                  exact ⟨HMx.out.p0, HMx.out.p1, HMx.out.l0, HMx.out.l1⟩
              · exact src_ownB (HMx.out.src.far (World.grownBy_alloc _ _ none)) HG9.out (fun q hq => by have := (HOx.out.lt q hq).1; have := HLW.out; omega)
              · exact gfar (Lib.grownBy_trans (Lib.grownBy_trans HG.out HMx.out.gr) HL9.out) HG9.out (fun q hq => (HOx.out.lt q hq).1)
end Go.Proofs.Ytdlodflinibaoaa
