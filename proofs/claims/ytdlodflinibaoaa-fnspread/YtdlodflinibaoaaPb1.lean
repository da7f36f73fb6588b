import Derived.Test.YtdlodflinibaoaaSp1
import Derived.Test.YtdlodflinibaoaaRc1
import Derived.Deep.LoopGhost
namespace Go.Proofs.Ytdlodflinibaoaa
open Go.ChangeShapes Go.WideShapes Go.ChangeAt Go.RowKit

theorem put_list (m : ByteArray) (p : Nat) (x : ByteArray) : (put m p x).data.toList = m.data.toList.take p ++ x.data.toList ++ m.data.toList.drop (p + x.size) := by
  have e5 : (m.data.toList.drop (p + x.size)).take (m.size - (p + x.size)) = m.data.toList.drop (p + x.size) := by
    apply List.take_of_length_le
    rw [List.length_drop, bsize]
    exact Nat.le_refl _
  unfold put
  simp only [ByteArray.data_append, Array.toList_append, ByteArray.data_extract, Array.toList_extract, List.extract_eq_take_drop, e5]
  simp
theorem ba_ext {a b : ByteArray} (h : a.data.toList = b.data.toList) : a = b := by
  cases a; cases b
  congr 1
  exact Array.toList_inj.1 h
theorem ex_list (d : ByteArray) (a b : Nat) : (d.extract a b).data.toList = (d.data.toList.drop a).take (b - a) := by
  simp only [ByteArray.data_extract, Array.toList_extract, List.extract_eq_take_drop]
theorem put_nil (m : ByteArray) (p : Nat) (x : ByteArray) (h : x.size = 0) : put m p x = m := by
  apply ba_ext
  rw [put_list]
  have : x.data.toList = [] := List.eq_nil_of_length_eq_zero (by rw [bsize]; exact h)
  rw [this, h]
  simp
theorem put_split (m : ByteArray) (p : Nat) (d : ByteArray) (c : Nat) (hc : c ≤ d.size) (h : p + d.size ≤ m.size) : put m p d = put (put m p (d.extract 0 c)) (p + c) (d.extract c d.size) := by
  apply ba_ext
  have s1 : (d.extract 0 c).size = c := by rw [ex_size _ _ _ hc]; omega
  have s2 : (d.extract c d.size).size = d.size - c := by rw [ex_size _ _ _ (Nat.le_refl _)]
  rw [put_list, put_list, put_list, s1, s2, ex_list, ex_list]
  have hd : d.data.toList.length = d.size := bsize d
  have hm : m.data.toList.length = m.size := bsize m
  generalize d.data.toList = D at *
  generalize m.data.toList = M at *
  rw [show c - 0 = c from rfl, List.drop_zero]
  have t1 : (D.drop c).take (d.size - c) = D.drop c := List.take_of_length_le (by rw [List.length_drop]; omega)
  rw [t1]
  have l1 : (M.take p ++ D.take c).length = p + c := by rw [List.length_append, List.length_take, List.length_take]; omega
  have t2 : (M.take p ++ D.take c ++ M.drop (p + c)).take (p + c) = M.take p ++ D.take c := by
    rw [List.take_append_of_le_length (by omega), List.take_of_length_le (by omega)]
  have t3 : (M.take p ++ D.take c ++ M.drop (p + c)).drop (p + c + (d.size - c)) = M.drop (p + d.size) := by
    rw [List.drop_append, List.drop_eq_nil_of_le (by omega), List.nil_append, l1, List.drop_drop]
    congr 1
    omega
  rw [t2, t3]
  simp only [List.append_assoc]
  rw [← List.append_assoc (D.take c), List.take_append_drop]
/-- A text's bytes in a block. -/
structure DA (w : World) (g o : Nat) (d : ByteArray) : Prop where
  cel : ∀ j v, (cells8 d.data.toList)[j]? = some v → w.cell? ⟨g, o + j, none⟩ = some v
  lt : g < w.heap.size
theorem DA.below {w w' : World} {g o : Nat} {d : ByteArray} (h : DA w g o d) (hb : Below w.heap.size w w') : DA w' g o d :=
  ⟨fun j v hv => (World.cell?_of_block (a := ⟨g, o + j, none⟩) (hb.block g h.lt)).trans (h.cel j v hv), Nat.lt_of_lt_of_le h.lt hb.size⟩
theorem DA.grown {w w' : World} {g o mb : Nat} {d : ByteArray} (h : DA w g o d) (hb : w.grownBy w' (some mb)) (hn : g ≠ mb) : DA w' g o d :=
  ⟨fun j v hv => (World.cell?_of_block (a := ⟨g, o + j, none⟩) (hb.block g h.lt (fun e => hn (Option.some.inj e)))).trans (h.cel j v hv), Nat.lt_of_lt_of_le h.lt hb.size⟩
theorem DA.from {w : World} {g o : Nat} {d : ByteArray} (h : DA w g o d) (c : Nat) : DA w g (o + c) (d.extract c d.size) := by
  refine ⟨fun j v hv => ?_, h.lt⟩
  rw [Nat.add_assoc]
  refine h.cel (c + j) v ?_
  rw [ex_list] at hv
  simp only [cells8, List.getElem?_map, List.getElem?_take, List.getElem?_drop] at hv ⊢
  split at hv
  · exact hv
  · simp at hv
theorem DA.to {w : World} {g o : Nat} {d : ByteArray} (h : DA w g o d) (c : Nat) : DA w g o (d.extract 0 c) := by
  refine ⟨fun j v hv => ?_, h.lt⟩
  refine h.cel j v ?_
  rw [ex_list] at hv
  simp only [cells8, List.getElem?_map, List.getElem?_take, List.drop_zero] at hv ⊢
  split at hv
  · exact hv
  · simp at hv
theorem DA.nil {w : World} {g o : Nat} {d : ByteArray} (hl : g < w.heap.size) (h : d.size = 0) : DA w g o d := by
  refine ⟨fun j v hv => ?_, hl⟩
  have : d.data.toList = [] := List.eq_nil_of_length_eq_zero (by rw [bsize]; exact h)
  rw [this] at hv
  simp [cells8] at hv
/-- The rest of a row of bytes. -/
theorem slBt (w : World) (g o L cap c : Nat) (h : c ≤ L) : Sem.run Try.prog (Instr.slice 47 (.slice (some ⟨g, o, none⟩) L cap) (some (.int .i64 (c : Int))) none none) w = .ok (.slice (some ⟨g, if cap = c then o else o + c, none⟩) (L - c) (cap - c)) w := by
  have hr := run_slice_l (P := Try.prog) w 47 (some ⟨g, o, none⟩) L cap bsU .i64 (c : Int) (by omega) (by omega)
  rw [hr, bsE, u8size]
  simp only [Result.andThen_ok, sliced, Int.toNat_natCast]
  by_cases hc : cap = c
  · simp [hc]
  · simp [hc, Addr.add]
theorem slBh (w : World) (g o L cap c : Nat) (h : c ≤ cap) : Sem.run Try.prog (Instr.slice 47 (.slice (some ⟨g, o, none⟩) L cap) none (some (.int .i64 (c : Int))) none) w = .ok (.slice (some ⟨g, o, none⟩) c cap) w := by
  have hr := run_slice_h (P := Try.prog) w 47 (some ⟨g, o, none⟩) L cap bsU .i64 (c : Int) (by omega) (by omega)
  rw [hr, bsE, u8size]
  simp only [Result.andThen_ok, sliced, Int.toNat_natCast]
  simp
  try (intro hc; simp [Addr.add])
end Go.Proofs.Ytdlodflinibaoaa
