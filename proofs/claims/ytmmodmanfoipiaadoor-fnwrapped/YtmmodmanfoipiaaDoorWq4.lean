import Derived.Test.YtmmodmanfoipiaaDoorWq1
import Derived.Test.YtmmodmanfoipiaaDoorWqZ
import Derived.Test.YtmmodmanfoipiaaDoorCode
import Derived.Test.YtmmodmanfoipiaaDoorLG
import Derived.Laws.StructEq
namespace Go.Proofs.YtmmodmanfoipiaaDoor
open Go.ChangeShapes Go.WideShapes Go.ChangeAt Go.RowKit

set_option maxRecDepth 100000 in
set_option maxHeartbeats 4000000 in
theorem lwAtW (a : Option Addr) (len cap i M : Nat) (w : World) (hi : i ≤ 9) (hM : 1 ≤ M) (hM2 : M ≤ 256) (hl : len ≤ 1048576) {B : Nat} (hc : CodeAt w B a len) : Calls Tryd.prog 8 #[.slice a len cap, .int .i64 (i : Int), .int .i64 (M : Int)] w fun e w' => ∃ r : Int, e = .returned (.int .i64 r) ∧ 0 ≤ r ∧ r < M ∧ w' = w := by
  by_cases h0 : len = 0
  · subst h0
    go_enter Tryd.func8, Tryd.ntmps8
    go_wp2
    go_ret
    exact ⟨0, rfl, by omega, by omega, rfl⟩
  · rcases hc with hc0 | ⟨cb, co, rfl, hcb, hcc⟩
    · exact absurd hc0 h0
    · have hm : i % len < len := Nat.mod_lt _ (by omega)
      obtain ⟨x, hx0, hx1, hx⟩ := hcc (i % len) hm
      have hrem : ((i : Int)).tmod (len : Int) = ((i % len : Nat) : Int) := by
        rw [Int.tmod_eq_emod_of_nonneg (by omega)]
        omega
      generalize i % len = R at *
      have l1 : ¬ (len : Int) = 0 := by omega
      have l2 : (0 : Int) ≤ (R : Int) := by omega
      have l3 : (R : Int) < (len : Int) := by omega
      have l5 : ¬ (M : Int) = 0 := by omega
      have l6 : 0 ≤ x.tmod (M : Int) := Int.tmod_nonneg _ hx0
      have l7 : x.tmod (M : Int) < (M : Int) := Int.tmod_lt_of_pos _ (by omega)
      clear hcc
      go_enter Tryd.func8, Tryd.ntmps8
      go_wp2
      go_ret
      exact ⟨_, rfl, by first | exact l6 | (rw [← Int.tmod_eq_emod_of_nonneg hx0]; exact l6), by first | exact l7 | (rw [← Int.tmod_eq_emod_of_nonneg hx0]; exact l7), rfl⟩
theorem xorW : ∀ a b : Fin 256, (b.val = 0 ∨ (bits .xor .u8 (a.val : Int) (b.val : Int) ≠ (a.val : Int))) := by decide +kernel
theorem conv1W (b : UInt8) (x : Int) (hx : x = b.toNat) (w : World) (B : Nat) (h : w.cell? ⟨B, 0, none⟩ = some (.int .u8 x)) : Sem.run Tryd.prog (convert 22 9 (.slice (some ⟨B, 0, none⟩) 1 1)) w = .ok (.string ⟨#[b]⟩) w := by
  subst hx
  rw [run_convert_bytes_arg w 22 5 Tryd.underlying22 Tryd.underlying5 B 0 1 1 [(b.toNat : Int)] rfl ?_ 9 Tryd.underlying9]
  · refine congrArg (fun x => Result.ok (Value.string x) w) ?_
    unfold strOfNums
    simp
  · intro i hi
    obtain rfl : i = 0 := by omega
    simpa using h
theorem sl_fromW (s : ByteArray) (k : Nat) (h : k ≤ s.size) (w : World) : Sem.run Tryd.prog (Instr.slice 9 (.string s) (some (.int .i64 (k : Int))) none none) w = .ok (.string (s.extract k s.size)) w := by
  rw [run_slice_string_from_if _ _ _ _ _ Tryd.underlying9, if_pos (by omega)]
  rfl
theorem isE_W {s : ByteArray} (h : 0 < s.size) : s.toList.isEmpty = false := by
  rw [ByteArray.toList_eq]
  obtain ⟨⟨l⟩⟩ := s
  cases l with
  | nil => exact absurd h (by decide)
  | cons x l => rfl
theorem fld0W (c k f t2 sr ds nt : Int) (tx : ByteArray) (w : World) : Sem.run Tryd.prog (Instr.field 29 (.agg #[.int .i64 c, .int .i64 k, .int .i64 f, .int .i64 t2, .int .i64 sr, .int .i64 ds, .int .i64 nt, .string tx]) 0) w = .ok (.int .i64 c) w := by kernel_rfl
theorem uFrW : Tryd.prog.underlying 24 = some (.struct (Tryd.prog.fieldsOf 24)) := by kernel_rfl
theorem stFrW : Tryd.prog.stoodInHeld 24 = false := by kernel_rfl
theorem pf0W (a b c : Int) (d : ByteArray) (w : World) : (part 2 #[.int .i64 a, .int .i64 b, .int .i64 c, .string d] 0).run Tryd.prog w = .ok (.int .i64 a) w := by kernel_rfl
theorem pf1W (a b c : Int) (d : ByteArray) (w : World) : (part 2 #[.int .i64 a, .int .i64 b, .int .i64 c, .string d] 1).run Tryd.prog w = .ok (.int .i64 b) w := by kernel_rfl
theorem pf2W (a b c : Int) (d : ByteArray) (w : World) : (part 2 #[.int .i64 a, .int .i64 b, .int .i64 c, .string d] 2).run Tryd.prog w = .ok (.int .i64 c) w := by kernel_rfl
theorem pf3W (a b c : Int) (d : ByteArray) (w : World) : (part 9 #[.int .i64 a, .int .i64 b, .int .i64 c, .string d] 3).run Tryd.prog w = .ok (.string d) w := by kernel_rfl
theorem fFrW : (Tryd.prog.fieldsOf 24).toList.map (fun f => (f.name == "_", f.type, f.offset)) = [(false, 2, 0), (false, 2, 1), (false, 2, 2), (false, 9, 3)] := by kernel_rfl
theorem list4W {α : Type} {cs : List α} (h : cs.length = 4) : ∃ x y z t, cs = [x, y, z, t] := by
  match cs, h with
  | [x, y, z, t], _ => exact ⟨x, y, z, t, rfl⟩
theorem eqFrNW (n : Nat) (a b c : Int) (d : ByteArray) (w : World) : (Op.equalIn (n + 2) 24 (.agg #[.int .i64 a, .int .i64 b, .int .i64 c, .string d]) (.agg #[.int .i64 a, .int .i64 b, .int .i64 c, .string d])).run Tryd.prog w = .ok true w := by
  rw [run_equalIn_struct w (n + 1) 24 _ _ uFrW stFrW]
  have hf := fFrW
  obtain ⟨f1, f2, f3, f4, hq⟩ := list4W (show (Tryd.prog.fieldsOf 24).toList.length = 4 by kernel_rfl)
  rw [hq] at hf ⊢
  simp only [List.map_cons, List.map_nil, List.cons.injEq, Prod.mk.injEq, and_true] at hf
  obtain ⟨⟨n1, t1, o1⟩, ⟨n2, t2, o2⟩, ⟨n3, t3, o3⟩, n4, t4, o4⟩ := hf
  have m1 : f1.name ≠ "_" := by simpa using n1
  have m2 : f2.name ≠ "_" := by simpa using n2
  have m3 : f3.name ≠ "_" := by simpa using n3
  have m4 : f4.name ≠ "_" := by simpa using n4
  simp only [Op.eqFields, ne_eq, m1, m2, m3, m4, not_false_eq_true, if_true, t1, o1, t2, o2, t3, o3, t4, o4, Sem.run_bind, pf0W, pf1W, pf2W, pf3W, Result.andThen_ok, run_equalIn_int w n 2 _ _ _ _ Tryd.underlying2, run_equalIn_string w n 9 _ _ Tryd.underlying9, Sem.run_ite, Sem.run_pure]
  simp
theorem neFrW (a b c : Int) (d : ByteArray) (w : World) : (binOp .neq 24 (.agg #[.int .i64 a, .int .i64 b, .int .i64 c, .string d]) (.agg #[.int .i64 a, .int .i64 b, .int .i64 c, .string d])).run Tryd.prog w = .ok (.bool false) w := by
  rw [run_neq_struct, eqFrNW 9998]
  rfl
theorem ErrT.on {w u : World} (h : ErrT w) (hb : Below w.heap.size w u) : ErrT u := (World.cell?_of_block (hb.block _ (World.block_lt_of_cell? w _ h))).trans h
end Go.Proofs.YtmmodmanfoipiaaDoor
