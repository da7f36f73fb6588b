import Derived.Test.YtblmodlpopnckaaDvZ
import Derived.Test.YtblmodlpopnckaaGetWord
import Derived.Laws.StructEq
namespace Go.Proofs.Ytblmodlpopnckaa
open Go.ChangeShapes Go.WideShapes Go.ChangeAt Go.RowKit

/-- Two tables are one. -/
def teq (x y : FT) : Bool := (x.name.toList == y.name.toList) && (x.rev == y.rev) && (x.body.toList == y.body.toList)
theorem ba_list {a b : ByteArray} : (a.toList == b.toList) = true ↔ a = b := by
  rw [ByteArray.toList_eq, ByteArray.toList_eq, beq_iff_eq]
  exact ⟨fun h => ByteArray.ext (Array.toList_inj.1 h), fun h => by rw [h]⟩
theorem teq_iff {x y : FT} : teq x y = true ↔ x = y := by
  obtain ⟨a, b, c⟩ := x
  obtain ⟨a', b', c'⟩ := y
  unfold teq
  simp only [Bool.and_eq_true, FT.mk.injEq]
  rw [ba_list, ba_list, beq_iff_eq]
  exact ⟨fun h => ⟨h.1.1, h.1.2, h.2⟩, fun h => ⟨⟨h.1, h.2.1⟩, h.2.2⟩⟩
def tsq : List FT → List FT → Bool
  | [], [] => true
  | x :: xs, y :: ys => teq x y && tsq xs ys
  | _, _ => false
theorem tsq_iff : ∀ {xs ys : List FT}, tsq xs ys = true ↔ xs = ys
  | [], [] => by simp [tsq]
  | [], y :: ys => by simp [tsq]
  | x :: xs, [] => by simp [tsq]
  | x :: xs, y :: ys => by
    simp only [tsq, Bool.and_eq_true, teq_iff, tsq_iff, List.cons.injEq]
theorem tsq_no {xs ys : List FT} (h : ¬ xs = ys) : tsq xs ys = false := by
  cases e : tsq xs ys
  · rfl
  · exact absurd (tsq_iff.1 e) h
theorem tsq_at {xs ys : List FT} {k : Nat} (h1 : k < xs.length) (h2 : k < ys.length) (h : teq xs[k] ys[k] = false) : tsq xs ys = false := tsq_no (fun e => by
  subst e
  have := (teq_iff (x := xs[k]) (y := xs[k])).2 rfl
  rw [h] at this
  cases this)
theorem tsq_all {xs ys : List FT} (hl : xs.length = ys.length) (h : ∀ k (h1 : k < xs.length) (h2 : k < ys.length), teq xs[k] ys[k] = true) : tsq xs ys = true := tsq_iff.2 (List.ext_getElem hl fun k h1 h2 => teq_iff.1 (h k h1 h2))
theorem uFT : Try.prog.underlying 40 = some (.struct (Try.prog.fieldsOf 40)) := by kernel_rfl
theorem stFT : Try.prog.stoodInHeld 40 = false := by kernel_rfl
theorem pf0 (a : ByteArray) (b : Int) (c : ByteArray) (w : World) : (part 9 #[.string a, .int .i64 b, .string c] 0).run Try.prog w = .ok (.string a) w := by kernel_rfl
theorem pf1 (a : ByteArray) (b : Int) (c : ByteArray) (w : World) : (part 2 #[.string a, .int .i64 b, .string c] 1).run Try.prog w = .ok (.int .i64 b) w := by kernel_rfl
theorem pf2 (a : ByteArray) (b : Int) (c : ByteArray) (w : World) : (part 9 #[.string a, .int .i64 b, .string c] 2).run Try.prog w = .ok (.string c) w := by kernel_rfl
theorem fFT : (Try.prog.fieldsOf 40).toList.map (fun f => (f.name == "_", f.type, f.offset)) = [(false, 9, 0), (false, 2, 1), (false, 9, 2)] := by kernel_rfl
theorem listF3 {α : Type} {cs : List α} (h : cs.length = 3) : ∃ x y z, cs = [x, y, z] := by
  match cs, h with
  | [x, y, z], _ => exact ⟨x, y, z, rfl⟩
theorem eqFTN (n : Nat) (x y : FT) (w : World) : (Op.equalIn (n + 2) 40 (.agg #[.string x.name, .int .i64 x.rev, .string x.body]) (.agg #[.string y.name, .int .i64 y.rev, .string y.body])).run Try.prog w = .ok (teq x y) w := by
  rw [run_equalIn_struct w (n + 1) 40 _ _ uFT stFT]
  have hf := fFT
  obtain ⟨f1, f2, f3, hq⟩ := listF3 (show (Try.prog.fieldsOf 40).toList.length = 3 by kernel_rfl)
  rw [hq] at hf ⊢
  simp only [List.map_cons, List.map_nil, List.cons.injEq, Prod.mk.injEq, and_true] at hf
  obtain ⟨⟨n1, t1, o1⟩, ⟨n2, t2, o2⟩, n3, t3, o3⟩ := hf
  have m1 : f1.name ≠ "_" := by simpa using n1
  have m2 : f2.name ≠ "_" := by simpa using n2
  have m3 : f3.name ≠ "_" := by simpa using n3
  unfold teq
  simp only [Op.eqFields, ne_eq, m1, m2, m3, not_false_eq_true, if_true, t1, o1, t2, o2, t3, o3, Sem.run_bind, pf0, pf1, pf2, Result.andThen_ok, run_equalIn_int w n 2 .i64 .i64 _ _ Try.underlying2, run_equalIn_string w n 9 _ _ Try.underlying9, Sem.run_ite, Sem.run_pure]
  cases x.name.toList == y.name.toList <;> cases x.rev == y.rev <;> cases x.body.toList == y.body.toList <;> simp
theorem neqFT (x y : FT) (w : World) : (binOp .neq 40 (.agg #[.string x.name, .int .i64 x.rev, .string x.body]) (.agg #[.string y.name, .int .i64 y.rev, .string y.body])).run Try.prog w = .ok (.bool (!teq x y)) w := by
  have h : (Op.equal 40 (.agg #[.string x.name, .int .i64 x.rev, .string x.body]) (.agg #[.string y.name, .int .i64 y.rev, .string y.body])).run Try.prog w = .ok (teq x y) w := eqFTN 9998 x y w
  simp only [binOp, Sem.run_bind, h]
  rfl
theorem fld1W (g : Bool) (x : Int) (w : World) : Sem.run Try.prog (Instr.field 66 (.agg #[.bool g, .int .i64 x]) 1) w = .ok (.int .i64 x) w := by kernel_rfl
/-- The number that GetWord answers. -/
def gwV (t : ByteArray) (k : Nat) : Int := if hwd t k = true then wv t k else 0
theorem wv_b (t : ByteArray) (k : Nat) : 0 ≤ wv t k ∧ wv t k < 4294967296 := by
  unfold wv
  have := bt_b t k
  have := bt_b t (k + 1)
  have := bt_b t (k + 2)
  have := bt_b t (k + 3)
  omega
theorem gwV_b (t : ByteArray) (k : Nat) : 0 ≤ gwV t k ∧ gwV t k < 4294967296 := by
  unfold gwV
  split
  · exact wv_b t k
  · omega
theorem gw_any (t : ByteArray) (k : Nat) (w : World) : Calls Try.prog 42 #[.string t, .int .i64 k] w fun e w' => ∃ g, e = .returned (.agg #[.bool g, .int .i64 (gwV t k)]) ∧ Below w.heap.size w w' := by
  cases h : hwd t k
  · refine (implGetWord_no t k w h).mono ?_
    rintro e w' ⟨rfl, hb⟩
    refine ⟨false, ?_, hb⟩
    rw [gwV, h]
    rfl
  · have h2 := h
    unfold hwd at h2
    have h3 := of_decide_eq_true h2
    refine (implGetWord_yes t k w h (by omega) h3.1).mono ?_
    rintro e w' ⟨rfl, hb⟩
    refine ⟨true, ?_, hb⟩
    rw [gwV, h]
    rfl
/-- The device of a word. -/
def dvX (x : Int) : DV := ⟨x / 16777216, x % 65536, x / 65536 % 256⟩
def dvn (t : ByteArray) : Nat := min (t.size / 4) 16
def dvl (t : ByteArray) (k : Nat) : List DV := (List.range k).map fun n => dvX (gwV t (n * 4))
theorem dvl_len (t : ByteArray) (k : Nat) : (dvl t k).length = k := by simp [dvl]
theorem dvl_succ (t : ByteArray) (k : Nat) : dvl t (k + 1) = dvl t k ++ [dvX (gwV t (k * 4))] := by simp [dvl, List.range_succ]
end Go.Proofs.Ytblmodlpopnckaa
