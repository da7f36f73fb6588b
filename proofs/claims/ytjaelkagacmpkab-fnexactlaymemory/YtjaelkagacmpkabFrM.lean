import Derived.Test.YtjaelkagacmpkabPlD
import Derived.Test.YtjaelkagacmpkabPMem4
import Derived.Deep.MidRow
import Derived.Deep.WholeRow
namespace Go.Proofs.Ytjaelkagacmpkab
open Go.ChangeShapes Go.WideShapes Go.ChangeAt Go.RowKit

/-- A frame of a memory. -/
def fr (s : ByteArray) (i : Nat) : ByteArray := s.extract (i * 256) (i * 256 + 256)
/-- A memory with another frame. -/
def sfr (s : ByteArray) (j : Nat) (f : ByteArray) : ByteArray := s.extract 0 (j * 256) ++ f ++ s.extract (j * 256 + 256) s.size
theorem fr_list (s : ByteArray) (i : Nat) : (fr s i).data.toList = (s.data.toList.drop (i * 256)).take 256 := by
  unfold fr
  simp only [ByteArray.data_extract, Array.toList_extract, List.extract_eq_take_drop]
  rw [show i * 256 + 256 - i * 256 = 256 by omega]
theorem fr_size (s : ByteArray) (i : Nat) (h : i * 256 + 256 ≤ s.size) : (fr s i).size = 256 := by
  unfold fr
  rw [ByteArray.size_extract]
  omega
theorem sfr_list (s : ByteArray) (j : Nat) (f : ByteArray) : (sfr s j f).data.toList = s.data.toList.take (j * 256) ++ f.data.toList ++ s.data.toList.drop (j * 256 + 256) := by
  have e5 : (s.data.toList.drop (j * 256 + 256)).take (s.size - (j * 256 + 256)) = s.data.toList.drop (j * 256 + 256) := by
    apply List.take_of_length_le
    rw [List.length_drop, bsize]
    exact Nat.le_refl _
  unfold sfr
  simp only [ByteArray.data_append, Array.toList_append, ByteArray.data_extract, Array.toList_extract, List.extract_eq_take_drop, e5]
  simp
theorem sfr_size (s : ByteArray) (j : Nat) (f : ByteArray) (h : j * 256 + 256 ≤ s.size) (hf : f.size = 256) : (sfr s j f).size = s.size := by
  unfold sfr
  simp only [ByteArray.size_append, ByteArray.size_extract, hf]
  omega
theorem frSize : (Try.prog.info? 37).map (·.size) = some 256 := by kernel_rfl
theorem cells8_len (l : List UInt8) : (cells8 l).length = l.length := by simp [cells8]
theorem cells8_take (l : List UInt8) (n : Nat) : cells8 (l.take n) = (cells8 l).take n := by simp [cells8]
theorem cells8_drop (l : List UInt8) (n : Nat) : cells8 (l.drop n) = (cells8 l).drop n := by simp [cells8]
/-- The frame's value. -/
def frA (f : ByteArray) : Value := .agg (cells8 f.data.toList).toArray
theorem load_fr {w : World} {b : Nat} {s : ByteArray} (h : MemAt w b s) (i : Nat) (hi : i * 256 + 256 ≤ s.size) : (Instr.loadAt 37 (.pointer (some ⟨b, i * 256, none⟩))).run Try.prog w = .ok (frA (fr s i)) w := by
  refine run_loadAt_mid w b (i * 256) 37 (cells8 (fr s i).data.toList) _ ?_ frUnd rfl ?_
  · intro j v hj
    rw [fr_list, cells8_take, cells8_drop, List.getElem?_take] at hj
    split at hj
    · rw [List.getElem?_drop] at hj
      have e6 : (mcel s)[i * 256 + j]? = some v := by
        unfold mcel
        rw [List.getElem?_toArray]
        exact hj
      unfold MemAt at h
      simp [World.cell?, h, e6]
    · cases hj
  · rw [cells8_len, bsize, fr_size s i hi]
    exact frSize
theorem loadV_fr {w : World} {b : Nat} {s : ByteArray} (h : MemAt w b s) (i : Nat) (hi : i * 256 + 256 ≤ s.size) : (loadVar 37 ⟨b, i * 256, none⟩).run Try.prog w = .ok (frA (fr s i)) w := by
  have hl := load_fr h i hi
  simpa only [Instr.loadAt, Instr.sureAddr, Sem.run_bind, Sem.run_pure, Result.andThen_ok] using hl
theorem store_at (w : World) (b o : Nat) (cur : Array Value) (f : ByteArray) (hb : w.heap[b]? = some (.cells cur 37 (0, 0))) (hf : f.size = 256) (ho : o + 256 ≤ cur.size) :
    (Instr.storeAt 37 (.pointer (some ⟨b, o, none⟩)) (frA f)).run Try.prog w = .ok () (w.setRow b (cur.toList.take o ++ cells8 f.data.toList ++ cur.toList.drop (o + 256)).toArray) := by
  have hl : (cells8 f.data.toList).length = 256 := by rw [cells8_len, bsize, hf]
  have hst := run_storeCells_at Try.prog b o 37 (cells8 f.data.toList) 0 cur w hb (by rw [hl]; omega) (fun v hv => cells8_one _ v hv)
  rw [hl, Nat.add_zero] at hst
  have hi := frSize
  cases hq : Try.prog.info? 37 with
  | none => simp [hq] at hi
  | some i =>
    have hs : i.size = 256 := by simpa [hq] using hi
    simp only [frA, Instr.storeAt, Instr.sureAddr, Sem.run_bind, Sem.run_pure, Result.andThen_ok]
    simp [storeVar, sizeOf, typeInfo, hq, Value.cells, hs, hl, hst]
theorem storeV_at (w : World) (b o : Nat) (cur : Array Value) (f : ByteArray) (hb : w.heap[b]? = some (.cells cur 37 (0, 0))) (hf : f.size = 256) (ho : o + 256 ≤ cur.size) :
    (storeVar 37 ⟨b, o, none⟩ (frA f)).run Try.prog w = .ok () (w.setRow b (cur.toList.take o ++ cells8 f.data.toList ++ cur.toList.drop (o + 256)).toArray) := by
  have hl := store_at w b o cur f hb hf ho
  simpa only [Instr.storeAt, Instr.sureAddr, Sem.run_bind, Sem.run_pure, Result.andThen_ok] using hl
theorem wl_load {ops : Array Oper} {rest : List Oper} {op : Oper} {a : Act} {w : World} {Q : Exit → Act → World → Prop} (hgd : op.guard = none) (x : Operand) (ho : op.op = .load 37 x)
    (b i : Nat) (s : ByteArray) (hx : a.eval x = .pointer (some ⟨b, i * 256, none⟩)) (hM : MemAt w b s) (hi : i * 256 + 256 ≤ s.size)
    (h : wpList Try.prog ops Q rest (a.put op.dst (frA (fr s i))) w) : wpList Try.prog ops Q (op :: rest) a w :=
  wpList_plain hgd fun _ hK => by
    unfold Oper.wp execOp
    simp only [ho, hx, Instr.loadAt, Instr.sureAddr, Sem.run_bind, Sem.run_pure, Result.andThen_ok, loadV_fr hM i hi]
    exact hK _ _ h
theorem wl_store {ops : Array Oper} {rest : List Oper} {op : Oper} {a : Act} {w : World} {Q : Exit → Act → World → Prop} (hgd : op.guard = none) (x y : Operand) (ho : op.op = .store 37 x y)
    (b o : Nat) (cur : Array Value) (f : ByteArray) (hx : a.eval x = .pointer (some ⟨b, o, none⟩)) (hy : a.eval y = frA f) (hb : w.heap[b]? = some (.cells cur 37 (0, 0))) (hf : f.size = 256) (ho2 : o + 256 ≤ cur.size)
    (h : wpList Try.prog ops Q rest (a.put op.dst undef) (w.setRow b (cur.toList.take o ++ cells8 f.data.toList ++ cur.toList.drop (o + 256)).toArray)) : wpList Try.prog ops Q (op :: rest) a w :=
  wpList_plain hgd fun _ hK => by
    unfold Oper.wp execOp
    simp only [ho, hx, hy, Instr.storeAt, Instr.sureAddr, Sem.run_bind, Sem.run_pure, Result.andThen_ok, storeV_at w b o cur f hb hf ho2]
    exact hK _ _ h
theorem mcel_sfr (s : ByteArray) (j : Nat) (f : ByteArray) : ((mcel s).toList.take (j * 256) ++ cells8 f.data.toList ++ (mcel s).toList.drop (j * 256 + 256)).toArray = mcel (sfr s j f) := by
  unfold mcel
  rw [sfr_list, cells8_app, cells8_app, cells8_take, cells8_drop]
/-- So many frames are laid. -/
def layN (zs : List Int) (m s : ByteArray) : Nat → ByteArray
  | 0 => s
  | k + 1 => sfr (layN zs m s k) (zs.getD k 0).toNat (fr m k)
/-- So many frames are taken. -/
def takN (zs : List Int) (s : ByteArray) : Nat → ByteArray
  | 0 => ByteArray.empty
  | k + 1 => takN zs s k ++ fr s (zs.getD k 0).toNat
theorem FrOk.at {n : Nat} {zs : List Int} (h : FrOk n zs) {k : Nat} (hk : k < zs.length) : 0 ≤ zs[k] ∧ zs[k] < n ∧ zs.getD k 0 = zs[k] := by
  have := (h k hk).1
  unfold inN at this
  simp at this
  exact ⟨this.1, this.2, by simp [List.getD, List.getElem?_eq_getElem hk]⟩
set_option maxRecDepth 10000 in
theorem layN_size {zs : List Int} {m s : ByteArray} (h : FrOk (s.size / 256) zs) (hm : zs.length * 256 ≤ m.size) : ∀ k, k ≤ zs.length → (layN zs m s k).size = s.size
  | 0, _ => rfl
  | k + 1, hk => by
    have ih := layN_size h hm k (by omega)
    obtain ⟨h1, h2, h3⟩ := h.at (show k < zs.length by omega)
    have hA : (zs.getD k 0).toNat * 256 + 256 ≤ (layN zs m s k).size := by rw [ih, h3]; omega
    have hB : (fr m k).size = 256 := fr_size m k (by omega)
    exact (sfr_size (layN zs m s k) (zs.getD k 0).toNat (fr m k) hA hB).trans ih
theorem takN_size {zs : List Int} {s : ByteArray} (h : FrOk (s.size / 256) zs) : ∀ k, k ≤ zs.length → (takN zs s k).size = k * 256
  | 0, _ => by simp [takN]
  | k + 1, hk => by
    have ih := takN_size h k (by omega)
    obtain ⟨h1, h2, h3⟩ := h.at (show k < zs.length by omega)
    unfold takN
    rw [ByteArray.size_append, ih, fr_size _ _ (by rw [h3]; omega)]
    omega
set_option maxRecDepth 100000 in
theorem l06Frame_any (s : ByteArray) (i : Nat) (w : World) (hi : i * 256 + 256 ≤ s.size) (hs : s.size ≤ 1048576) :
    Calls Try.prog 19 #[.string s, .int .i64 i] w fun e w' => e = .returned (.string (fr s i)) ∧ w' = w := by
  have e1 : IntKind.i64.wrap ((i : Int) * 256) = (i : Int) * 256 := by rw [IntKind.wrap_i64]; omega
  have e2 : IntKind.i64.wrap ((i : Int) + 1) = (i : Int) + 1 := by rw [IntKind.wrap_i64]; omega
  have e3 : IntKind.i64.wrap (((i : Int) + 1) * 256) = ((i : Int) + 1) * 256 := by rw [IntKind.wrap_i64]; omega
  have hsl := fun w => run_slice_string (P := Try.prog) (w := w) 9 s .i64 .i64 ((i : Int) * 256) (((i : Int) + 1) * 256) Try.underlying9 (by omega) (by omega) (by omega)
  rw [show ((i : Int) * 256).toNat = i * 256 by omega, show (((i : Int) + 1) * 256).toNat = i * 256 + 256 by omega] at hsl
  have E : Hid (s.extract (i * 256) (i * 256 + 256) = fr s i) := rfl
  go_enter Try.func19, Try.ntmps19
  go_wp2
  go_ret
  exact ⟨rfl, rfl⟩
set_option maxRecDepth 100000 in
theorem l06Set_any (s f : ByteArray) (j : Nat) (w : World) (hi : j * 256 + 256 ≤ s.size) (hs : s.size ≤ 1048576) (hf : f.size = 256) :
    Calls Try.prog 18 #[.string s, .int .i64 j, .string f] w fun e w' => e = .returned (.string (sfr s j f)) ∧ ∃ q, w' = w.drewN q := by
  have e1 : IntKind.i64.wrap ((j : Int) * 256) = (j : Int) * 256 := by rw [IntKind.wrap_i64]; omega
  have e2 : IntKind.i64.wrap ((j : Int) + 1) = (j : Int) + 1 := by rw [IntKind.wrap_i64]; omega
  have e3 : IntKind.i64.wrap (((j : Int) + 1) * 256) = ((j : Int) + 1) * 256 := by rw [IntKind.wrap_i64]; omega
  have hs1 := fun w => run_slice_string_to_if (P := Try.prog) (w := w) 9 s .i64 ((j : Int) * 256) Try.underlying9
  have hs2 := fun w => run_slice_string_from_if (P := Try.prog) (w := w) 9 s .i64 (((j : Int) + 1) * 256) Try.underlying9
  simp only [if_pos (show 0 ≤ (j : Int) * 256 ∧ (j : Int) * 256 ≤ (s.size : Int) by omega)] at hs1
  simp only [if_pos (show 0 ≤ ((j : Int) + 1) * 256 ∧ ((j : Int) + 1) * 256 ≤ (s.size : Int) by omega)] at hs2
  rw [show ((j : Int) * 256).toNat = j * 256 by omega] at hs1
  rw [show (((j : Int) + 1) * 256).toNat = j * 256 + 256 by omega] at hs2
  have z1 : (s.extract 0 (j * 256)).size = j * 256 := by rw [ByteArray.size_extract]; omega
  have z2 : (s.extract (j * 256 + 256) s.size).size ≤ s.size := by rw [ByteArray.size_extract]; omega
  have c1 := fun w => run_string_add_sum (P := Try.prog) w (s.extract 0 (j * 256)) f (by omega)
  have c2 := fun w => run_string_add_sum (P := Try.prog) w (s.extract 0 (j * 256) ++ f) (s.extract (j * 256 + 256) s.size) (by rw [ByteArray.size_append]; omega)
  clear hf z1 z2
  go_enter Try.func18, Try.ntmps18
  go_wp2
  go_quiet (fail)
  go_wp2
  go_ret
  exact ⟨rfl, nq, rfl⟩
end Go.Proofs.Ytjaelkagacmpkab
