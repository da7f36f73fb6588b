import Derived.Test.YtdlodflinibaoaaPWk7M
import Derived.Test.YtdlodflinibaoaaApZ
import Derived.Deep.AppendLies
import Derived.Maps.AppendAt
namespace Go.Proofs.Ytdlodflinibaoaa
open Go.ChangeShapes Go.WideShapes Go.ChangeAt Go.RowKit

/-- How much of a page is asked for. -/
def dmN (va left : Nat) : Nat := Nat.min (256 - va % 256) left
theorem dmN_b (va left : Nat) (h : 0 < left) : 1 ≤ dmN va left ∧ dmN va left ≤ left ∧ va % 256 + dmN va left ≤ 256 ∧ (dmN va left = left ∨ dmN va left = 256 - va % 256) := by
  unfold dmN
  have : Nat.min (256 - va % 256) left = min (256 - va % 256) left := rfl
  rw [this]
  omega
/-- What a table leads a device to. -/
structure DM where
  bad : Bool
  va : Nat
  mem : ByteArray
  zs : List BU
def dmK (root : Nat) (acc : Int) : Nat → ByteArray → Nat → Nat → DM
  | 0, s, va, _ => ⟨false, va, s, []⟩
  | f + 1, s, va, left => if left = 0 then ⟨false, va, s, []⟩ else
      if (walkV s root va acc true).fault = 0 then
        ⟨(dmK root acc f (walkV s root va acc true).mem (va + dmN va left) (left - dmN va left)).bad, (dmK root acc f (walkV s root va acc true).mem (va + dmN va left) (left - dmN va left)).va, (dmK root acc f (walkV s root va acc true).mem (va + dmN va left) (left - dmN va left)).mem, ⟨(walkV s root va acc true).pa, (dmN va left : Nat), acc == 2⟩ :: (dmK root acc f (walkV s root va acc true).mem (va + dmN va left) (left - dmN va left)).zs⟩
      else ⟨true, va, s, []⟩
theorem walkV_in (s : ByteArray) (root va : Nat) (acc : Int) (user : Bool) (h : (walkV s root va acc user).fault = 0) : 0 ≤ (walkV s root va acc user).pa ∧ (walkV s root va acc user).pa % 256 = (va : Int) % 256 ∧ (walkV s root va acc user).pa / 256 * 256 + 256 ≤ (s.size : Int) := by
  have fin : ∀ r k lg, (finV s r k lg va acc user).fault = 0 → 0 ≤ (finV s r k lg va acc user).pa ∧ (finV s r k lg va acc user).pa % 256 = (va : Int) % 256 ∧ (finV s r k lg va acc user).pa / 256 * 256 + 256 ≤ (s.size : Int) := by
    intro r k lg hf
    unfold finV at hf ⊢
    split at hf
    · rename_i h1
      split at hf
      · rename_i h2
        rw [if_pos h1, if_pos h2]
        have hb := pgV_b (wv s k) va lg (wv_b s k).1 (wv_b s k).2
        simp only
        omega
      · exact absurd hf (by simp)
    · exact absurd hf (by simp)
  revert h
  rw [walk_fe]
  split
  · exact fin _ _ _
  · intro h
    exact absurd h (by simp)
theorem dmK_len (root : Nat) (acc : Int) : ∀ f s va left, (dmK root acc f s va left).zs.length ≤ (va % 256 + left + 255) / 256
  | 0, s, va, left => by simp [dmK]
  | f + 1, s, va, left => by
    rw [dmK]
    split
    · simp
    · rename_i h0
      split
      · have ih := dmK_len root acc f (walkV s root va acc true).mem (va + dmN va left) (left - dmN va left)
        obtain ⟨b1, b2, b3, b4⟩ := dmN_b va left (by omega)
        simp only [List.length_cons]
        rcases b4 with b4 | b4
        · have e : left - dmN va left = 0 := by omega
          rw [e] at ih ⊢
          have : (dmK root acc f (walkV s root va acc true).mem (va + dmN va left) 0).zs = [] := by cases f <;> simp [dmK]
          rw [this]
          simp only [List.length_nil]
          omega
        · have e : (va + dmN va left) % 256 = 0 := by omega
          rw [e] at ih
          omega
      · simp
theorem dmK_size (root : Nat) (acc : Int) : ∀ f s va left, va + left ≤ 262144 → (dmK root acc f s va left).mem.size = s.size
  | 0, s, va, left, _ => rfl
  | f + 1, s, va, left, h => by
    rw [dmK]
    split
    · rfl
    · rename_i h0
      obtain ⟨b1, b2, b3, b4⟩ := dmN_b va left (by omega)
      split
      · simp only
        rw [dmK_size root acc f _ _ _ (by omega), walkV_size s root va acc true (by omega)]
      · rfl
theorem dmK_in (root : Nat) (acc : Int) : ∀ f s va left, va + left ≤ 262144 → ∀ z ∈ (dmK root acc f s va left).zs, inW s.size z.pos z.len = true ∧ z.write = (acc == 2)
  | 0, s, va, left, _ => by simp [dmK]
  | f + 1, s, va, left, h => by
    rw [dmK]
    split
    · simp
    · rename_i h0
      obtain ⟨b1, b2, b3, b4⟩ := dmN_b va left (by omega)
      split
      · rename_i hf
        intro z hz
        simp only at hz
        rcases List.mem_cons.1 hz with rfl | hz
        · obtain ⟨p0, p1, p2⟩ := walkV_in s root va acc true hf
          refine ⟨inW_iff.2 ?_, rfl⟩
          simp only
          omega
        · have ih := dmK_in root acc f _ _ _ (by omega) z hz
          rw [walkV_size s root va acc true (by omega)] at ih
          exact ih
      · simp
def sumL (zs : List BU) : Int := (zs.map (·.len)).foldl (· + ·) 0
theorem foldl_add (L : List Int) : ∀ a : Int, L.foldl (· + ·) a = a + L.foldl (· + ·) 0 := by
  induction L with
  | nil => intro a; simp
  | cons x L ih =>
    intro a
    simp only [List.foldl_cons]
    rw [ih (a + x), ih (0 + x)]
    omega
theorem sumL_cons (z : BU) (zs : List BU) : sumL (z :: zs) = z.len + sumL zs := by
  unfold sumL
  simp only [List.map_cons, List.foldl_cons]
  rw [foldl_add]
  omega
theorem dmK_sum (root : Nat) (acc : Int) : ∀ f s va left, left ≤ f → (dmK root acc f s va left).bad = false → sumL (dmK root acc f s va left).zs = left
  | 0, s, va, left, h, _ => by
    have : left = 0 := by omega
    subst this
    rfl
  | f + 1, s, va, left, h, hb => by
    rw [dmK] at hb ⊢
    split
    · rename_i h0
      subst h0
      rfl
    · rename_i h0
      rw [if_neg h0] at hb
      obtain ⟨b1, b2, b3, b4⟩ := dmN_b va left (by omega)
      split
      · rename_i hf
        rw [if_pos hf] at hb
        simp only at hb ⊢
        rw [sumL_cons, dmK_sum root acc f _ _ _ (by omega) hb]
        simp only
        omega
      · rename_i hf
        rw [if_neg hf] at hb
        cases hb

theorem cel3d {u : World} {b t : Nat} {a0 a1 a2 : Value} (h : u.heap[b]? = some (.cells #[a0, a1, a2] t (0, 0))) : u.cell? ⟨b, 0, none⟩ = some a0 ∧ u.cell? ⟨b, 1, none⟩ = some a1 ∧ u.cell? ⟨b, 2, none⟩ = some a2 := by simp [World.cell?, h]
theorem bu_oneD (m : BU) : ∀ u ∈ buC m, u.oneCell' = true := by
  intro u hu
  simp only [buC, List.mem_cons, List.not_mem_nil, or_false] at hu
  rcases hu with rfl | rfl | rfl <;> rfl
theorem infoD : (Try.prog.info? 53).map (fun i => (i.zero, i.size, i.bytes)) = some (some (.agg #[.int .i64 0, .int .i64 0, .bool false]), 3, 24) := by kernel_rfl
theorem appD {w : World} {B : Nat} {ao : Option Addr} {k cp : Nat} {zs : List BU} (h : w.ownsRow B 53 3 (.slice ao k cp) k (buR zs)) (hB : B ≤ w.heap.size) (hk : k ≤ 1000) (m : BU) :
    ∃ v' u', (Builtin.append_ #[48, 48] 48 #[.slice ao k cp, .slice (some ⟨w.heap.size, 0, none⟩) 1 1]).run Try.prog (w.alloc (.cells #[.int .i64 m.pos, .int .i64 m.len, .bool m.write] 53)) = .ok v' u' ∧ (∃ ao9 cp9, v' = .slice ao9 (k + 1) cp9 ∧ u'.ownsRow B 53 3 (.slice ao9 (k + 1) cp9) (k + 1) (buR (zs ++ [m])) ∧ (w.alloc (.cells #[.int .i64 m.pos, .int .i64 m.len, .bool m.write] 53)).grownBy u' (Value.slice ao k cp).ownBlock) := by
  obtain ⟨i0, hi0, hz0, hz1, hz2⟩ := info_parts infoD
  have hbx : (w.alloc (.cells #[.int .i64 m.pos, .int .i64 m.len, .bool m.write] 53)).heap[w.heap.size]? = some (.cells #[.int .i64 m.pos, .int .i64 m.len, .bool m.write] 53 (0, 0)) := (MapKept.heap_alloc w _).1
  obtain ⟨v', w', hr, h2, h3, _, _⟩ := run_append_own_at (P := Try.prog) (w.alloc (.cells #[.int .i64 m.pos, .int .i64 m.len, .bool m.write] 53)) B 48 48 53 i0 (.agg #[.int .i64 0, .int .i64 0, .bool false]) 3 24 Try.underlying48 hi0 hz0 hz1 hz2 rfl (by decide) (.slice ao k cp) k (buR zs) (World.ownsRow.alloc h _) ⟨w.heap.size, 0, none⟩ 1 1 (buC m) rfl (by
    intro j u hj
    have hj3 : j < 3 := by
      rcases Nat.lt_or_ge j 3 with h9 | h9
      · exact h9
      · rw [List.getElem?_eq_none (by simpa [buC] using h9)] at hj
        cases hj
    obtain ⟨c0, c1, c2⟩ := cel3d hbx
    obtain rfl | rfl | rfl : j = 0 ∨ j = 1 ∨ j = 2 := by omega
    · cases hj
      exact c0
    · cases hj
      exact c1
    · cases hj
      exact c2) (bu_oneD m) (by unfold maxLen; omega) (by omega) (by simp; omega)
  obtain ⟨ao9, cp9, rfl⟩ := bu_sl h2
  refine ⟨_, w', hr, ao9, cp9, rfl, ?_, h3⟩
  rw [buR_app]
  simpa [buR] using h2
theorem wl_append_exD {P : Program} {ops : Array Oper} {rest : List Oper} {o : Oper} {a : Act} {w : World} {Q : Exit → Act → World → Prop} (hgd : o.guard = none) (s x : Operand) (t : TypeId)
    (ho : o.op = .call { callee := .builtin .append, args := #[s, x], argTypes := #[t, t] }) (v v2 : Value) (hs : a.eval s = v) (hx : a.eval x = v2) {R : Value → World → Prop}
    (hr : ∃ v' w', (Builtin.append_ #[t, t] o.type #[v, v2]).run P w = .ok v' w' ∧ R v' w') (h : ∀ v' w', R v' w' → wpList P ops Q rest (a.put o.dst v') w') : wpList P ops Q (o :: rest) a w :=
  wpList_plain hgd fun _ hK => by
    obtain ⟨v', w', hr, hR⟩ := hr
    unfold Oper.wp execOp
    simp only [ho, resolve, invoke, builtin, Sem.run_bind, Sem.run_pure, Result.andThen_ok, List.map_toArray, List.map_cons, List.map_nil, hs, hx, hr]
    exact hK _ _ (h v' w' hR)
theorem gfarD {u w w' : World} {b : Nat} {row : Option Nat} (h : u.grownBy w (some b)) (hg : w.grownBy w' row) (hr : ∀ k, row = some k → u.heap.size ≤ k) : u.grownBy w' (some b) :=
  ⟨hg.os.trans h.os, hg.tape.trans h.tape, hg.output.trans h.output, Nat.le_trans h.size hg.size, fun k hk hne =>
    (hg.block k (Nat.lt_of_lt_of_le hk h.size) (fun e => by have := hr k e.symm; omega)).trans (h.block k hk hne)⟩
theorem gtrD {u v x : World} {r : Option Nat} (h : u.grownBy v r) (h2 : v.grownBy x r) : u.grownBy x r := ⟨h2.os.trans h.os, h2.tape.trans h.tape, h2.output.trans h.output, Nat.le_trans h.size h2.size, fun k hk hn => (h2.block k (Nat.lt_of_lt_of_le hk h.size) hn).trans (h.block k hk hn)⟩
theorem gsetD (w : World) (b o : Nat) (v : Value) : w.grownBy (w.setCell ⟨b, o, none⟩ v) (some b) := ⟨rfl, rfl, rfl, by simp [World.setCell], fun k _ hn => Below.heap_setCell _ _ _ _ (fun e => hn (congrArg some e))⟩
theorem blkD {u : World} {b : Nat} {cs : Array Value} {t : TypeId} {z : Nat × Nat} (h : u.heap[b]? = some (.cells cs t z)) (o : Nat) (v : Value) : (u.setCell ⟨b, o, none⟩ v).heap[b]? = some (.cells (cs.setIfInBounds o v) t z) := by
  simp [World.setCell, Array.getElem?_modify, h]
/-- A device's way under work: memory at b, the answer's box, the parts so far. -/
structure DW (w u : World) (b : Nat) (s : ByteArray) (ao : Option Addr) (k cp : Nat) (zs : List BU) : Prop where
  gr : w.grownBy u (some b)
  mem : MemAt u b s
  box : u.heap[w.heap.size]? = some (.cells #[.int .i64 0, .int .i64 0, .string ⟨#[]⟩, .string ⟨#[]⟩] 41 (0, 0))
  row : u.ownsRow (w.heap.size + 1) 53 3 (.slice ao k cp) k (buR zs)
  len : zs.length = k
  lb : b < w.heap.size
theorem DW.grow {w u u' : World} {b : Nat} {s s' : ByteArray} {ao : Option Addr} {k cp : Nat} {zs : List BU} (h : DW w u b s ao k cp zs) (hg : u.grownBy u' (some b)) (hm : MemAt u' b s') : DW w u' b s' ao k cp zs := by
  have l1 := h.lb
  refine ⟨gtrD h.gr hg, hm, (hg.block _ (Array.getElem?_eq_some_iff.1 h.box).1 (by simp; omega)).trans h.box, h.row.kept hg ?_, h.len, l1⟩
  cases ho : (Value.slice ao k cp).ownBlock with
  | none => exact .inl rfl
  | some q => exact .inr (by have := (h.row.lt q ho).1; simp; omega)
theorem DW.lt {w u : World} {b : Nat} {s : ByteArray} {ao : Option Addr} {k cp : Nat} {zs : List BU} (h : DW w u b s ao k cp zs) : w.heap.size < u.heap.size := (Array.getElem?_eq_some_iff.1 h.box).1
theorem DW.app {w u u' : World} {b : Nat} {s : ByteArray} {ao ao9 : Option Addr} {k cp cp9 : Nat} {zs : List BU} {m : BU} (h : DW w u b s ao k cp zs) (hg : u.grownBy u' (Value.slice ao k cp).ownBlock) (hr : u'.ownsRow (w.heap.size + 1) 53 3 (.slice ao9 (k + 1) cp9) (k + 1) (buR (zs ++ [m]))) : DW w u' b s ao9 (k + 1) cp9 (zs ++ [m]) := by
  have l1 := h.lb
  have hq : ∀ q, (Value.slice ao k cp).ownBlock = some q → w.heap.size + 1 ≤ q := fun q e => (h.row.lt q e).1
  refine ⟨gfarD h.gr hg (fun q e => by have := hq q e; omega), (hg.block _ h.mem.lt (fun e => by have := hq _ e.symm; omega)).trans h.mem, (hg.block _ h.lt (fun e => by have := hq _ e.symm; omega)).trans h.box, hr, by rw [List.length_append, h.len]; rfl, l1⟩
/-- The answer put into its box. -/
def st4 (u : World) (B : Nat) (d0 d1 d2 d3 : Value) : World := (((u.setCell ⟨B, 0, none⟩ d0).setCell ⟨B, 1, none⟩ d1).setCell ⟨B, 2, none⟩ d2).setCell ⟨B, 3, none⟩ d3
theorem g4 (u : World) (B : Nat) (d0 d1 d2 d3 : Value) : u.grownBy (st4 u B d0 d1 d2 d3) (some B) := gtrD (gtrD (gtrD (gsetD _ _ _ _) (gsetD _ _ _ _)) (gsetD _ _ _ _)) (gsetD _ _ _ _)
theorem st4_box {u : World} {B t : Nat} {c0 c1 c2 c3 : Value} (h : u.heap[B]? = some (.cells #[c0, c1, c2, c3] t (0, 0))) (d0 d1 d2 d3 : Value) : (st4 u B d0 d1 d2 d3).heap[B]? = some (.cells #[d0, d1, d2, d3] t (0, 0)) := blkD (blkD (blkD (blkD h 0 d0) 1 d1) 2 d2) 3 d3
theorem cel4d {u : World} {b t : Nat} {a0 a1 a2 a3 : Value} (h : u.heap[b]? = some (.cells #[a0, a1, a2, a3] t (0, 0))) : u.cell? ⟨b, 0, none⟩ = some a0 ∧ u.cell? ⟨b, 1, none⟩ = some a1 ∧ u.cell? ⟨b, 2, none⟩ = some a2 ∧ u.cell? ⟨b, 3, none⟩ = some a3 ∧ ∀ x, u.frozen? ⟨b, x, none⟩ = false := by simp [World.cell?, World.frozen?, h]
theorem DW.fin {w u : World} {b : Nat} {s : ByteArray} {ao : Option Addr} {k cp : Nat} {zs : List BU} (h : DW w u b s ao k cp zs) (d0 d1 d2 d3 : Value) : w.grownBy (st4 u w.heap.size d0 d1 d2 d3) (some b) ∧ MemAt (st4 u w.heap.size d0 d1 d2 d3) b s ∧ (st4 u w.heap.size d0 d1 d2 d3).ownsRow (w.heap.size + 1) 53 3 (.slice ao k cp) k (buR zs) := by
  have l1 := h.lb
  have g := g4 u w.heap.size d0 d1 d2 d3
  refine ⟨gfarD h.gr g (fun q e => by cases e; exact Nat.le_refl _), (g.block _ h.mem.lt (by simp; omega)).trans h.mem, h.row.kept g ?_⟩
  cases ho : (Value.slice ao k cp).ownBlock with
  | none => exact .inl rfl
  | some q => exact .inr (by have := (h.row.lt q ho).1; simp; omega)
theorem dmK_zero (root : Nat) (acc : Int) (f : Nat) (s : ByteArray) (va : Nat) : dmK root acc f s va 0 = ⟨false, va, s, []⟩ := by cases f <;> simp [dmK]
set_option maxRecDepth 100000 in
set_option maxHeartbeats 4000000 in
theorem passedOn_any {w : World} {b n : Nat} {s : ByteArray} (hm : MemAt w b s) (hn : s.size = n * 256) (hs : s.size ≤ 65536) (root va size : Nat) (acc : Int) (hr : root ≤ 255) (hv : va + size ≤ 262144) (hz : size ≤ 65536) (ha1 : 1 ≤ acc) (ha2 : acc ≤ 2) (R : DM) (hR : dmK root acc size s va size = R) :
    Calls Try.prog 51 #[mv b n, .int .i64 root, .int .i64 va, .int .i64 size, .int .i64 acc] w fun e w' => (R.bad = true ∧ e = .returned (.tuple #[.slice none 0 0, .agg #[.int .i64 7, .int .i64 R.va, .string ⟨#[]⟩, .string ⟨#[]⟩]]) ∧ w.grownBy w' (some b)) ∨ (R.bad = false ∧ ∃ ao cp, e = .returned (.tuple #[.slice ao R.zs.length cp, .agg #[.int .i64 0, .int .i64 0, .string ⟨#[]⟩, .string ⟨#[]⟩]]) ∧ w'.ownsRow (w.heap.size + 1) 53 3 (.slice ao R.zs.length cp) R.zs.length (buR R.zs) ∧ MemAt w' b R.mem ∧ w.grownBy w' (some b)) := by
  have HL3 : Hid (R.zs.length ≤ 300) := (show R.zs.length ≤ 300 by have := dmK_len root acc size s va size; rw [hR] at this; omega)
  have HD0 : Hid (DW w (w.alloc (.cells #[.int .i64 0, .int .i64 0, .string ⟨#[]⟩, .string ⟨#[]⟩] 41)) b s none 0 0 []) := ⟨World.grownBy_alloc _ _ _, hm.below ((Below.refl _ _).alloc (Nat.le_refl _) _) hm.lt, (MapKept.heap_alloc w _).1, World.ownsRow_nil _ _ _ _, rfl, hm.lt⟩
  have HR0 : Hid (dmK root acc size s va size = R) := hR
  have hv9 : (va : Int) + (size : Int) ≤ 262144 := by omega
  obtain ⟨E, hE⟩ : ∃ E, va + size = E := ⟨_, rfl⟩
  have hE9 : (va : Int) + (size : Int) = (E : Int) := by omega
  have HNS : Hid (s.size = n * 256) := hn
  have HSS : Hid (s.size ≤ 65536) := hs
  unfold mv
  clear hm hR hn hs
  go_enter Try.func51, Try.ntmps51
  go_wp2
  generalize (w.alloc (.cells #[.int .i64 0, .int .i64 0, .string ⟨#[]⟩, .string ⟨#[]⟩] 41)) = W at *
  go_loopw [2, 10, 13, 14] (fun va' v _p _q wr => ∃ (f : Nat) (s' : ByteArray) (a' left : Nat) (ao : Option Addr) (k cp : Nat) (zs0 : List BU), left ≤ f ∧ a' + left = E ∧ va' = .int .i64 a' ∧ v = .slice ao k cp ∧ s'.size = s.size ∧ R = ⟨(dmK root acc f s' a' left).bad, (dmK root acc f s' a' left).va, (dmK root acc f s' a' left).mem, zs0 ++ (dmK root acc f s' a' left).zs⟩ ∧ DW w wr b s' ao k cp zs0) (fun va' _ _ _ _ => E - (intOf va').toNat)
  case atStart => exact ⟨size, s, va, size, none, 0, 0, [], Nat.le_refl _, by omega, rfl, rfl, rfl, by rw [HR0.out]; rfl, HD0.out⟩
  case round =>
    obtain ⟨f, s', a', left, ao, k, cp, zs0, hf, hal, rfl, rfl, hs', hRR, hd⟩ := hrel
    have HD : Hid (DW w wr b s' ao k cp zs0) := hd
    have HRR : Hid (R = ⟨(dmK root acc f s' a' left).bad, (dmK root acc f s' a' left).va, (dmK root acc f s' a' left).mem, zs0 ++ (dmK root acc f s' a' left).zs⟩) := hRR
    have HS' : Hid (s'.size = s.size) := hs'
    clear hd hRR hs' HD0 HR0
    obtain ⟨c0, c1, c2, c3, cf⟩ := cel4d HD.out.box
    have cl := HD.out.lt
    by_cases hl0 : left = 0
    · subst hl0
      have e1 : decide ((a' : Int) < (E : Int)) = false := decide_eq_false (by omega)
      go_wp2
      have hfin := HD.out.fin (.int .i64 0) (.int .i64 0) (.string ⟨#[]⟩) (.string ⟨#[]⟩)
      have hbx := st4_box HD.out.box (.int .i64 0) (.int .i64 0) (.string ⟨#[]⟩) (.string ⟨#[]⟩)
      obtain ⟨q0, q1, q2, q3, _⟩ := cel4d hbx
      unfold st4 at *
      generalize ((((wr.setCell ⟨w.heap.size, 0, none⟩ (.int .i64 0)).setCell ⟨w.heap.size, 1, none⟩ (.int .i64 0)).setCell ⟨w.heap.size, 2, none⟩ (.string ⟨#[]⟩)).setCell ⟨w.heap.size, 3, none⟩ (.string ⟨#[]⟩)) = W9 at *
      refine bodyPost_ret (v := .tuple #[.slice ao k cp, .agg #[.int .i64 0, .int .i64 0, .string ⟨#[]⟩, .string ⟨#[]⟩]]) (by simp [results, Try.results51, go_sem, q0, q1, q2, q3]) rfl ?_
      have h9 := HRR.out
      rw [dmK_zero] at h9
      simp only [List.append_nil] at h9
      rw [h9]
      have hl9 := HD.out.len
      refine .inr ⟨rfl, ao, cp, ?_, ?_, hfin.2.1, hfin.1⟩
      · simp only
        rw [hl9]
      · simp only
        rw [hl9]
        exact hfin.2.2
    · have e1 : decide ((a' : Int) < (E : Int)) = true := decide_eq_true (by omega)
      obtain ⟨f', rfl⟩ : ∃ f', f = f' + 1 := ⟨f - 1, by omega⟩
      have ha9 : a' ≤ 262143 := by omega
      have HWS : Hid (WSt wr b wr.heap.size n s' (wr.alloc (.cells #[.iface 97 (mv b n), .int .i64 a', .int .i64 acc, .bool true, .int .i64 0, .int .i64 0, .bool false, .slice none 0 0, .int .i64 0, .bool false] 140)) (.slice none 0 0) [] ⟨a', acc, true, 0, 0, false, 0⟩) :=
        ⟨gb_below (gb_refl _ _) ((Below.refl _ _).alloc (Nat.le_refl _) _), HD.out.mem.below ((Below.refl _ _).alloc (Nat.le_refl _) _) HD.out.mem.lt, ⟨false, heap_new _ _⟩, World.ownsRow_nil _ _ _ _, Nat.le_refl _, HD.out.mem.lt⟩
      have HF : Hid _ := findM HWS.out (by rw [HS'.out]; exact HNS.out) (by rw [HS'.out]; exact HSS.out) root (by omega) ha9 ha1 (by show acc ≤ 3; omega)
      simp only at HF
      obtain ⟨vv, hvv⟩ : ∃ vv, walkV s' root a' acc true = vv := ⟨_, rfl⟩
      have HVV : Hid (walkV s' root a' acc true = vv) := hvv
      rw [hvv] at HF
      clear hvv HWS
      unfold mv at HF
      go_wp2_with fail
      refine Calls.mono HF.out ?_
      rintro e u2 ⟨rfl, rv', x', hst, hx1, hx2, hx3, hx4⟩
      have HD2 : Hid (DW w u2 b vv.mem ao k cp zs0) := HD.out.grow hst.grw hst.mem
      have HPA : Hid (vv.fault = 0 → x'.pa = vv.pa) := fun h9 => (hx4 h9).1
      have HX2 : Hid (WBx u2 wr.heap.size (.iface 97 (mv b n)) rv' x') := hst.box
      have hl2 : wr.heap.size < u2.heap.size := hst.box.lt
      clear hst hx1 hx2 hx3 hx4 HF c0 c1 c2 c3 cf cl
      obtain ⟨c0, c1, c2, c3, cf⟩ := cel4d HD2.out.box
      have cl := HD2.out.lt
      obtain ⟨d0, d1, d2, d3, d4, d5, d6, d7, d8, df⟩ := HX2.out.cells
      cases hfv : (vv.fault == 0)
      · have hf1 : (vv.fault != 0) = true := by simp [bne, hfv]
        have hf0 : ¬ vv.fault = 0 := by simpa using hfv
        go_wp2
        have hfin := HD2.out.fin (.int .i64 7) (.int .i64 a') (.string ⟨#[]⟩) (.string ⟨#[]⟩)
        have hbx := st4_box HD2.out.box (.int .i64 7) (.int .i64 a') (.string ⟨#[]⟩) (.string ⟨#[]⟩)
        obtain ⟨q0, q1, q2, q3, _⟩ := cel4d hbx
        unfold st4 at *
        generalize ((((u2.setCell ⟨w.heap.size, 0, none⟩ (.int .i64 7)).setCell ⟨w.heap.size, 1, none⟩ (.int .i64 a')).setCell ⟨w.heap.size, 2, none⟩ (.string ⟨#[]⟩)).setCell ⟨w.heap.size, 3, none⟩ (.string ⟨#[]⟩)) = W9 at *
        refine bodyPost_ret (v := .tuple #[.slice none 0 0, .agg #[.int .i64 7, .int .i64 a', .string ⟨#[]⟩, .string ⟨#[]⟩]]) (by simp [results, Try.results51, go_sem, q0, q1, q2, q3]) rfl ?_
        have h9 := HRR.out
        have h8 : dmK root acc (f' + 1) s' a' left = ⟨true, a', s', []⟩ := by rw [dmK, if_neg hl0, HVV.out, if_neg hf0]
        rw [h8] at h9
        rw [h9]
        exact .inl ⟨rfl, rfl, hfin.1⟩
      · have hf1 : (vv.fault != 0) = false := by simp [bne, hfv]
        have hf0 : vv.fault = 0 := by simpa using hfv
        have hpa := HPA.out hf0
        obtain ⟨g1, g2, g3, g4⟩ := dmN_b a' left (by omega)
        obtain ⟨D, hD⟩ : ∃ D, dmN a' left = D := ⟨_, rfl⟩
        go_upto_region 7 with fail
        have hif : (if (E : Int) - (a' : Int) < 256 - (a' : Int) % 256 then (E : Int) - (a' : Int) else 256 - (a' : Int) % 256) = ((D : Nat) : Int) := by
          rw [← hD]
          unfold dmN
          have hmin : Nat.min (256 - a' % 256) left = min (256 - a' % 256) left := rfl
          rw [hmin]
          split <;> omega
        rw [hif]
        have hD9 : D ≤ 256 := by omega
        have hE8 : (a' : Int) + (D : Int) ≤ 262144 := by omega
        rw [hpa] at d8
        obtain ⟨wb, hwb⟩ : ∃ wb, (acc == 2) = wb := ⟨_, rfl⟩
        have hk9 : k ≤ 300 := by
          have h9 := HRR.out
          have h8 := HL3.out
          rw [h9] at h8
          simp only [List.length_append] at h8
          have := HD.out.len
          omega
        have HAP : Hid _ := appD HD2.out.row (by have := HD2.out.lt; omega) (by omega) ⟨vv.pa, (D : Int), wb⟩
        have HD3 : Hid (DW w (u2.alloc (.cells #[.int .i64 vv.pa, .int .i64 (D : Int), .bool wb] 53)) b vv.mem ao k cp zs0) := HD2.out.grow (World.grownBy_alloc _ _ _) (HD2.out.mem.below ((Below.refl _ _).alloc (Nat.le_refl _) _) HD2.out.mem.lt)
        have HRN : Hid (R = ⟨(dmK root acc f' vv.mem (a' + D) (left - D)).bad, (dmK root acc f' vv.mem (a' + D) (left - D)).va, (dmK root acc f' vv.mem (a' + D) (left - D)).mem, (zs0 ++ [⟨vv.pa, (D : Int), wb⟩]) ++ (dmK root acc f' vv.mem (a' + D) (left - D)).zs⟩) := (show R = _ by
          have h9 := HRR.out
          have h8 : dmK root acc (f' + 1) s' a' left = ⟨(dmK root acc f' vv.mem (a' + D) (left - D)).bad, (dmK root acc f' vv.mem (a' + D) (left - D)).va, (dmK root acc f' vv.mem (a' + D) (left - D)).mem, ⟨vv.pa, (D : Int), wb⟩ :: (dmK root acc f' vv.mem (a' + D) (left - D)).zs⟩ := by rw [dmK, if_neg hl0, HVV.out, if_pos hf0, hD, hwb]
          rw [h8] at h9
          rw [h9]
          simp)
        have HSV : Hid (vv.mem.size = s.size) := (show vv.mem.size = s.size by rw [← HVV.out, walkV_size s' root a' acc true ha9]; exact HS'.out)
        clear hif hfv hpa
        go_upto_region 8 with (at_builtin; (refine wl_append_exD rfl _ _ 48 rfl _ _ rfl rfl HAP.out ?_; rintro v9 u9 ⟨ao9, cp9, rfl, ho9, hg9⟩; have HD4 : Hid (DW w u9 b vv.mem ao9 (k + 1) cp9 (zs0 ++ [⟨vv.pa, (D : Int), wb⟩])) := HD3.out.app hg9 ho9; clear ho9 hg9 HAP HD3))
        clear c0 c1 c2 c3 cf cl d0 d1 d2 d3 d4 d5 d6 d7 d8 df HX2 HD2 hl2
        go_wp2
        refine ⟨⟨f', vv.mem, a' + D, left - D, ao9, k + 1, cp9, zs0 ++ [⟨vv.pa, (D : Int), wb⟩], by omega, by omega, by go_num, rfl, HSV.out, HRN.out, HD4.out⟩, by simp [intOf]; omega⟩
end Go.Proofs.Ytdlodflinibaoaa
