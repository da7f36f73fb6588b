import Derived.Test.YtdlodflinibaoaaSb1
import Derived.Test.YtdlodflinibaoaaBytes
import Derived.Test.YtdlodflinibaoaaPMem2
import Derived.Test.YtdlodflinibaoaaConv
import Derived.Laws.IdiomCopy
import Derived.Deep.QuietTactic
import Derived.BigQuiet
namespace Go.Proofs.Ytdlodflinibaoaa
open Go.ChangeShapes Go.WideShapes Go.ChangeAt Go.RowKit

/-- A text put over another. -/
def put (m : ByteArray) (p : Nat) (x : ByteArray) : ByteArray := m.extract 0 p ++ x ++ m.extract (p + x.size) m.size
theorem ex_size (s : ByteArray) (a b : Nat) (h : b ≤ s.size) : (s.extract a b).size = b - a := by rw [ByteArray.size_extract]; omega
theorem put_size (m : ByteArray) (p : Nat) (x : ByteArray) (h : p + x.size ≤ m.size) : (put m p x).size = m.size := by
  unfold put
  rw [ByteArray.size_append', ByteArray.size_append', ex_size _ _ _ (by omega), ex_size _ _ _ (by omega)]
  omega
/-- How many bytes go into a buffer. -/
def mn (z : BU) (d : ByteArray) : Nat := Nat.min d.size z.len.toNat
def spS (x : ByteArray × ByteArray) (z : BU) : ByteArray × ByteArray := if z.write = true then (put x.1 z.pos.toNat (x.2.extract 0 (mn z x.2)), x.2.extract (mn z x.2) x.2.size) else x
/-- Memory and what is left of the data behind the first k buffers. -/
def spK (m d : ByteArray) (zs : List BU) (k : Nat) : ByteArray × ByteArray := (zs.take k).foldl spS (m, d)
theorem spK_zero (m d : ByteArray) (zs : List BU) : spK m d zs 0 = (m, d) := rfl
theorem spK_next (m d : ByteArray) (zs : List BU) (k : Nat) (hk : k < zs.length) : spK m d zs (k + 1) = spS (spK m d zs k) zs[k] := by
  unfold spK
  rw [List.take_succ_eq_append_getElem hk, List.foldl_append]
  rfl
theorem mn_le (z : BU) (d : ByteArray) : mn z d ≤ d.size := Nat.min_le_left _ _
theorem mn_le2 (z : BU) (d : ByteArray) : mn z d ≤ z.len.toNat := Nat.min_le_right _ _
theorem spS_size (x : ByteArray × ByteArray) (z : BU) (n : Nat) (h : x.1.size = n) (hz : inW n z.pos z.len = true) : (spS x z).1.size = n ∧ (spS x z).2.size ≤ x.2.size := by
  unfold spS
  split
  · have h1 := mn_le z x.2
    have h2 := mn_le2 z x.2
    rw [inW_iff] at hz
    refine ⟨?_, ?_⟩
    · show (put _ _ _).size = n
      rw [put_size _ _ _ (by rw [ex_size _ _ _ h1]; omega)]
      exact h
    · show (x.2.extract _ _).size ≤ _
      rw [ex_size _ _ _ (Nat.le_refl _)]
      omega
  · exact ⟨h, Nat.le_refl _⟩
theorem spK_size (m d : ByteArray) (zs : List BU) (n : Nat) (h : m.size = n) (hz : ∀ j (hj : j < zs.length), inW n zs[j].pos zs[j].len = true) : ∀ k, k ≤ zs.length → (spK m d zs k).1.size = n ∧ (spK m d zs k).2.size ≤ d.size
  | 0, _ => ⟨h, Nat.le_refl _⟩
  | k + 1, hk => by
    obtain ⟨i1, i2⟩ := spK_size m d zs n h hz k (by omega)
    rw [spK_next m d zs k (by omega)]
    obtain ⟨j1, j2⟩ := spS_size (spK m d zs k) zs[k] n i1 (hz k (by omega))
    exact ⟨j1, Nat.le_trans j2 i2⟩
theorem l01Min_any (a b : Nat) (w : World) : Calls Try.prog 62 #[.int .i64 a, .int .i64 b] w fun e w' => e = .returned (.int .i64 ((Nat.min b a : Nat) : Int)) ∧ w' = w := by
  by_cases h : (a : Int) < (b : Int)
  · have E : Hid (((a : Nat) : Int) = ((Nat.min b a : Nat) : Int)) := (show ((a : Nat) : Int) = ((Nat.min b a : Nat) : Int) by show ((a : Nat) : Int) = ((min b a : Nat) : Int); omega)
    go_enter Try.func62, Try.ntmps62
    go_wp2
    go_ret
    exact ⟨ret_int E.out, rfl⟩
  · have E : Hid (((b : Nat) : Int) = ((Nat.min b a : Nat) : Int)) := (show ((b : Nat) : Int) = ((Nat.min b a : Nat) : Int) by show ((b : Nat) : Int) = ((min b a : Nat) : Int); omega)
    go_enter Try.func62, Try.ntmps62
    go_wp2
    go_ret
    exact ⟨ret_int E.out, rfl⟩
theorem slTo (s : ByteArray) (k : Nat) (h : k ≤ s.size) (w : World) : Sem.run Try.prog (Instr.slice 9 (.string s) none (some (.int .i64 (k : Int))) none) w = .ok (.string (s.extract 0 k)) w := by
  rw [run_slice_string_to_if _ _ _ _ _ Try.underlying9, if_pos (by omega)]
  rfl
theorem slFrom (s : ByteArray) (k : Nat) (x : Int) (hx : x = k) (h : k ≤ s.size) (w : World) : Sem.run Try.prog (Instr.slice 9 (.string s) (some (.int .i64 x)) none none) w = .ok (.string (s.extract k s.size)) w := by
  subst hx
  rw [run_slice_string_from_if _ _ _ _ _ Try.underlying9, if_pos (by omega)]
  rfl
/-- A row of bytes that may be written to. -/
structure RB (w : World) (g : Nat) (m : ByteArray) : Prop where
  cel : ∀ j v, (cells8 m.data.toList)[j]? = some v → w.cell? ⟨g, j, none⟩ = some v
  fz : ∀ j, j < m.size → w.frozen? ⟨g, j, none⟩ = false
  lt : g < w.heap.size
theorem c8len (m : ByteArray) : (cells8 m.data.toList).length = m.size := by rw [← bsize]; simp [cells8]
theorem RB.some {w : World} {g : Nat} {m : ByteArray} (h : RB w g m) (j : Nat) (hj : j < m.size) : (w.cell? ⟨g, j, none⟩).isSome = true := by
  have := h.cel j _ (List.getElem?_eq_getElem (by rw [c8len]; exact hj))
  rw [this]
  rfl
theorem RB.below {w w' : World} {g : Nat} {m : ByteArray} (h : RB w g m) (hb : Below w.heap.size w w') : RB w' g m :=
  ⟨fun j v hv => (World.cell?_of_block (a := ⟨g, j, none⟩) (hb.block g h.lt)).trans (h.cel j v hv), fun j hj => (World.frozen?_of_block (a := ⟨g, j, none⟩) (hb.block g h.lt)).trans (h.fz j hj), Nat.lt_of_lt_of_le h.lt hb.size⟩
theorem c8put (m : ByteArray) (p : Nat) (x : ByteArray) : cells8 (put m p x).data.toList = (cells8 m.data.toList).take p ++ cells8 x.data.toList ++ (cells8 m.data.toList).drop (p + x.size) := by
  have e5 : (m.data.toList.drop (p + x.size)).take (m.size - (p + x.size)) = m.data.toList.drop (p + x.size) := by
    apply List.take_of_length_le
    rw [List.length_drop, bsize]
    exact Nat.le_refl _
  have e6 : (put m p x).data.toList = m.data.toList.take p ++ x.data.toList ++ m.data.toList.drop (p + x.size) := by
    unfold put
    simp only [ByteArray.data_append, Array.toList_append, ByteArray.data_extract, Array.toList_extract, List.extract_eq_take_drop, e5]
    simp
  rw [e6]
  simp [cells8]
theorem c8ext (d : ByteArray) (n : Nat) : cells8 (d.extract 0 n).data.toList = (cells8 d.data.toList).take n := by
  simp only [ByteArray.data_extract, Array.toList_extract, List.extract_eq_take_drop]
  simp [cells8]
theorem setCells_size (b : Nat) : ∀ (vs : List Value) (o : Nat) (w : World), (w.setCells b o vs).heap.size = w.heap.size
  | [], _, _ => rfl
  | v :: r, o, w => by rw [World.setCells, setCells_size b r]; simp [World.setCell]
theorem setCells_below {w0 : World} (b : Nat) : ∀ (vs : List Value) (o : Nat) (w : World), Below w0.heap.size w0 w → w0.heap.size ≤ b → Below w0.heap.size w0 (w.setCells b o vs)
  | [], _, _, h, _ => h
  | v :: r, o, w, h, hb => by
    rw [World.setCells]
    exact setCells_below b r _ _ (h.setCell hb _) hb
theorem RB.put {w : World} {g : Nat} {m x : ByteArray} (h : RB w g m) (p : Nat) (hp : p + x.size ≤ m.size) : RB (w.setCells g p (cells8 x.data.toList)) g (put m p x) := by
  have hl := c8len x
  refine ⟨fun j v hv => ?_, fun j hj => ?_, by rw [setCells_size]; exact h.lt⟩
  · rw [c8put m p x] at hv
    have ht : ((cells8 m.data.toList).take p).length = p := by rw [List.length_take, c8len]; omega
    by_cases h1 : j < p
    · rw [World.cell?_setCells_out _ _ _ _ _ (fun _ _ => Or.inl h1)]
      rw [List.append_assoc, List.getElem?_append_left (by omega), List.getElem?_take, if_pos h1] at hv
      exact h.cel j v hv
    · by_cases h2 : j < p + x.size
      · rw [List.append_assoc, List.getElem?_append_right (by omega), ht, List.getElem?_append_left (by omega)] at hv
        have hj : j - p < (cells8 x.data.toList).length := by omega
        have := World.cell?_setCells_in g (cells8 x.data.toList) p w (fun i hi => h.some (p + i) (by omega)) (j - p) hj
        rw [show p + (j - p) = j by omega] at this
        rw [this]
        rw [List.getElem?_eq_getElem hj] at hv
        exact hv
      · rw [World.cell?_setCells_out _ _ _ _ _ (fun _ _ => Or.inr (by simp; omega))]
        rw [List.getElem?_append_right (by rw [List.length_append, ht, hl]; omega), List.length_append, ht, hl, List.getElem?_drop, show p + x.size + (j - (p + x.size)) = j by omega] at hv
        exact h.cel j v hv
  · rw [World.frozen?_setCells]
    exact h.fz j (by rw [put_size m p x hp] at hj; exact hj)
theorem copy_rb (w : World) (ty g cap P L n : Nat) (d m : ByteArray) (h : RB w g m) (hP : P + L ≤ m.size) (hc : m.size ≤ cap) (hn : Nat.min d.size L = n) :
    (Builtin.copy_ #[47, 9] ty #[.slice (some ⟨g, if cap = P then 0 else P, none⟩) L (cap - P), .string d]).run Try.prog w = .ok (goInt n) (w.setCells g P (cells8 (d.extract 0 n).data.toList)) := by
  have hnl : n ≤ L := hn ▸ Nat.min_le_right _ _
  have hl : ((cells8 d.data.toList).take n).length = n := by
    rw [List.length_take, c8len, ← hn]
    exact Nat.min_eq_left (Nat.min_le_left _ _)
  have htk : List.take n (List.map (fun b : UInt8 => Value.int IntKind.u8 (b.toNat : Int)) d.data.toList) = (cells8 d.data.toList).take n := rfl
  obtain ⟨i0, hi, hz0, hz1, hz2⟩ := info_parts Try.info5
  rw [c8ext]
  by_cases h0 : n = 0
  · subst h0
    simp [Builtin.copy_, run_underlying Try.underlying47, Builtin.lenOf, Builtin.firstCells, sizeOf, typeInfo, hi, hn, storeCells, World.setCells]
  · rw [if_neg (by omega)]
    have hst := run_storeCells_cells (P := Try.prog) g P ((cells8 d.data.toList).take n) 0 w (fun j hj => by rw [Nat.add_zero]; exact h.some _ (by omega)) (fun j hj => by rw [Nat.add_zero]; exact h.fz _ (by omega)) (fun v hv => cells8_one _ v (List.mem_of_mem_take hv))
    rw [Nat.add_zero] at hst
    simp [Builtin.copy_, run_underlying Try.underlying47, Builtin.lenOf, Builtin.firstCells, sizeOf, typeInfo, hi, hn]
    rw [htk, hst]
    simp [Result.andThen]
theorem bsE : Try.prog.elem 47 = 5 := by kernel_rfl
theorem bsU : Try.prog.underlying 47 = some (.slice (Try.prog.elem 47)) := by kernel_rfl
theorem slByt (w : World) (g N cap P L : Nat) (h : P + L ≤ cap) : Sem.run Try.prog (Instr.slice 47 (.slice (some ⟨g, 0, none⟩) N cap) (some (.int .i64 (P : Int))) (some (.int .i64 ((P : Int) + (L : Int)))) none) w = .ok (.slice (some ⟨g, if cap = P then 0 else P, none⟩) L (cap - P)) w := by
  have hr := run_slice_lh (P := Try.prog) w 47 (some ⟨g, 0, none⟩) N cap bsU .i64 .i64 (P : Int) ((P : Int) + (L : Int)) (by omega) (by omega) (by omega)
  rw [hr, bsE, u8size]
  have e1 : ((P : Int) + (L : Int)).toNat = P + L := by omega
  simp only [Result.andThen_ok, sliced, Int.toNat_natCast, e1]
  by_cases hc : cap = P
  · simp [hc]
  · simp [hc, Addr.add]
    exact fun e => e.symm
end Go.Proofs.Ytdlodflinibaoaa
