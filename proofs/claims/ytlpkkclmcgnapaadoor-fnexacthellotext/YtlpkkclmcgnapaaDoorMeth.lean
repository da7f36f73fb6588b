import Derived.Test.YtlpkkclmcgnapaaDoorOpd
import Derived.BigQuiet
namespace Go.Proofs.YtlpkkclmcgnapaaDoor
open Go.ChangeShapes Go.WideShapes Go.ChangeAt Go.RowKit

theorem low12 (w : World) : Calls Tryd.prog 57 #[.int .i64 12] w fun e w' => e = .returned (.int .i64 4095) ∧ w' = w := by
  go_enter Tryd.func57, Tryd.ntmps57
  go_wp2
  go_ret
  exact ⟨rfl, rfl⟩
theorem low20 (w : World) : Calls Tryd.prog 57 #[.int .i64 20] w fun e w' => e = .returned (.int .i64 1048575) ∧ w' = w := by
  go_enter Tryd.func57, Tryd.ntmps57
  go_wp2
  go_ret
  exact ⟨rfl, rfl⟩
def Opd.plc : Opd → Nat
  | .reg s _ _ => if s = 0 then 1 else if s = 1 then 2 else 3
  | .imm _ _ => 4
theorem regPlace (s n : Int) (l : ByteArray) (b : Nat) (w : World) : Calls Tryd.prog 60 #[.agg #[.int .i64 s, .string l, .int .i64 n], .pointer (some ⟨b, 0, none⟩)] w fun e w' => e = .returned (.pointer (some ⟨b, (Opd.reg s l n).plc, none⟩)) ∧ Below w.heap.size w w' := by
  simp only [Opd.plc]
  by_cases hs : s = 0
  · subst hs
    go_enter Tryd.func60, Tryd.ntmps60
    go_wp2
    go_ret
    exact ⟨rfl, (Below.refl _ _).alloc (Nat.le_refl _) _⟩
  by_cases hs2 : s = 1
  · subst hs2
    go_enter Tryd.func60, Tryd.ntmps60
    go_wp2
    go_ret
    exact ⟨rfl, (Below.refl _ _).alloc (Nat.le_refl _) _⟩
  rw [if_neg hs, if_neg hs2]
  go_enter Tryd.func60, Tryd.ntmps60
  go_wp2
  go_ret
  exact ⟨rfl, (Below.refl _ _).alloc (Nat.le_refl _) _⟩
theorem immPlace (a n : Int) (b : Nat) (w : World) : Calls Tryd.prog 56 #[.agg #[.int .i64 a, .int .i64 n], .pointer (some ⟨b, 0, none⟩)] w fun e w' => e = .returned (.pointer (some ⟨b, 4, none⟩)) ∧ Below w.heap.size w w' := by
  go_enter Tryd.func56, Tryd.ntmps56
  go_wp2
  go_ret
  exact ⟨rfl, (Below.refl _ _).alloc (Nat.le_refl _) _⟩
theorem regBounds (s n : Int) (l : ByteArray) (hn : -9223372036854775807 ≤ n) (hn2 : n ≤ 9223372036854775807) (w : World) : Calls Tryd.prog 58 #[.agg #[.int .i64 s, .string l, .int .i64 n]] w fun e w' => e = .returned (.tuple #[.int .i64 0, .int .i64 (n - 1)]) ∧ Below w.heap.size w w' := by
  go_enter Tryd.func58, Tryd.ntmps58
  go_wp2
  go_quiet (fail)
  go_wp2
  go_ret2
  exact ⟨rfl, bdn ((Below.refl _ _).alloc (Nat.le_refl _) _) _⟩
theorem immBounds12 (a : Int) (ha : -9223372036854775808 ≤ a) (ha2 : a ≤ 9223372036854771712) (w : World) : Calls Tryd.prog 54 #[.agg #[.int .i64 a, .int .i64 12]] w fun e w' => e = .returned (.tuple #[.int .i64 a, .int .i64 (a + 4095)]) ∧ Below w.heap.size w w' := by
  go_enter Tryd.func54, Tryd.ntmps54
  go_wp2
  go_quiet ((go_at_call 57; exact Calls.quiet_of_same (low12 _)))
  go_wp2
  go_ret2
  exact ⟨rfl, bdn ((Below.refl _ _).alloc (Nat.le_refl _) _) _⟩
theorem immBounds20 (a : Int) (ha : -9223372036854775808 ≤ a) (ha2 : a ≤ 9223372036853727232) (w : World) : Calls Tryd.prog 54 #[.agg #[.int .i64 a, .int .i64 20]] w fun e w' => e = .returned (.tuple #[.int .i64 a, .int .i64 (a + 1048575)]) ∧ Below w.heap.size w w' := by
  go_enter Tryd.func54, Tryd.ntmps54
  go_wp2
  go_quiet ((go_at_call 57; exact Calls.quiet_of_same (low20 _)))
  go_wp2
  go_ret2
  exact ⟨rfl, bdn ((Below.refl _ _).alloc (Nat.le_refl _) _) _⟩
set_option maxRecDepth 100000
theorem mPlaceR (s n : Int) (l : ByteArray) (w : World) : (method 197 48 (.agg #[.int .i64 s, .string l, .int .i64 n]) "loop.example/g00038/impl.place").run Tryd.prog w = .ok (60, .agg #[.int .i64 s, .string l, .int .i64 n]) w := by kernel_rfl
theorem mPlaceI (a b : Int) (w : World) : (method 197 45 (.agg #[.int .i64 a, .int .i64 b]) "loop.example/g00038/impl.place").run Tryd.prog w = .ok (56, .agg #[.int .i64 a, .int .i64 b]) w := by kernel_rfl
theorem mBoundsR (s n : Int) (l : ByteArray) (w : World) : (method 197 48 (.agg #[.int .i64 s, .string l, .int .i64 n]) "loop.example/g00038/impl.bounds").run Tryd.prog w = .ok (58, .agg #[.int .i64 s, .string l, .int .i64 n]) w := by kernel_rfl
theorem mBoundsI (a b : Int) (w : World) : (method 197 45 (.agg #[.int .i64 a, .int .i64 b]) "loop.example/g00038/impl.bounds").run Tryd.prog w = .ok (54, .agg #[.int .i64 a, .int .i64 b]) w := by kernel_rfl
theorem mFieldR (s n : Int) (l : ByteArray) (w : World) : (method 197 48 (.agg #[.int .i64 s, .string l, .int .i64 n]) "loop.example/g00038/impl.field").run Tryd.prog w = .ok (59, .agg #[.int .i64 s, .string l, .int .i64 n]) w := by kernel_rfl
theorem mFieldI (a b : Int) (w : World) : (method 197 45 (.agg #[.int .i64 a, .int .i64 b]) "loop.example/g00038/impl.field").run Tryd.prog w = .ok (55, .agg #[.int .i64 a, .int .i64 b]) w := by kernel_rfl
/-- An operand as operandsOf makes them. -/
def Opd.fit : Opd → Prop
  | .reg s _ n => (s = 0 ∨ s = 1 ∨ s = 2) ∧ (n = 16 ∨ n = 4)
  | .imm a b => (a = -2048 ∧ b = 12) ∨ (a = -524288 ∧ b = 20) ∨ (a = 0 ∧ b = 20)
def Opd.lo : Opd → Int
  | .reg _ _ _ => 0
  | .imm a _ => a
def Opd.hi : Opd → Int
  | .reg _ _ n => n - 1
  | .imm a b => if b = 12 then a + 4095 else a + 1048575
theorem ret_and {p q : Prop} [Decidable p] [Decidable q] (h : p) : Ending.returned (.bool (decide q)) = .returned (.bool (decide p && decide q)) := by simp [h]
theorem ret_nand {p q : Prop} [Decidable p] [Decidable q] (h : ¬ p) : Ending.returned (.bool false) = .returned (.bool (decide p && decide q)) := by simp [h]
theorem inB_any (o : Opd) (hf : o.fit) (v : Int) (w : World) : Calls Tryd.prog 15 #[o.val, .int .i64 v] w fun e w' => e = .returned (.bool (decide (o.lo ≤ v) && decide (v ≤ o.hi))) ∧ Below w.heap.size w w' := by
  cases o with
  | reg s l n =>
    simp only [Opd.val, Opd.lo, Opd.hi]
    obtain ⟨_, hn⟩ := hf
    have hm := mBoundsR s n l
    go_enter Tryd.func15, Tryd.ntmps15
    go_wp2_with (go_at_call 58; refine (regBounds _ _ _ (by omega) (by omega) _).mono ?_; rintro e u ⟨rfl, hu⟩)
    · go_ret
      first | exact ⟨rfl, hu⟩ | exact ⟨ret_and (by omega), hu⟩
    · go_ret
      first | exact ⟨rfl, hu⟩ | exact ⟨ret_nand (by omega), hu⟩
  | imm a b =>
    obtain ⟨rfl, rfl⟩ | ⟨rfl, rfl⟩ | ⟨rfl, rfl⟩ := hf
    · simp only [Opd.val, Opd.lo, Opd.hi]
      have hm := mBoundsI (-2048) 12
      go_enter Tryd.func15, Tryd.ntmps15
      go_wp2_with (go_at_call 54; refine (immBounds12 _ (by omega) (by omega) _).mono ?_; rintro e u ⟨rfl, hu⟩)
      · go_ret
        first | exact ⟨rfl, hu⟩ | exact ⟨ret_and (by omega), hu⟩
      · go_ret
        first | exact ⟨rfl, hu⟩ | exact ⟨ret_nand (by omega), hu⟩
    · simp only [Opd.val, Opd.lo, Opd.hi]
      have hm := mBoundsI (-524288) 20
      go_enter Tryd.func15, Tryd.ntmps15
      go_wp2_with (go_at_call 54; refine (immBounds20 _ (by omega) (by omega) _).mono ?_; rintro e u ⟨rfl, hu⟩)
      · go_ret
        first | exact ⟨rfl, hu⟩ | exact ⟨ret_and (by omega), hu⟩
      · go_ret
        first | exact ⟨rfl, hu⟩ | exact ⟨ret_nand (by omega), hu⟩
    · simp only [Opd.val, Opd.lo, Opd.hi]
      have hm := mBoundsI 0 20
      go_enter Tryd.func15, Tryd.ntmps15
      go_wp2_with (go_at_call 54; refine (immBounds20 _ (by omega) (by omega) _).mono ?_; rintro e u ⟨rfl, hu⟩)
      · go_ret
        first | exact ⟨rfl, hu⟩ | exact ⟨ret_and (by omega), hu⟩
      · go_ret
        first | exact ⟨rfl, hu⟩ | exact ⟨ret_nand (by omega), hu⟩
end Go.Proofs.YtlpkkclmcgnapaaDoor
