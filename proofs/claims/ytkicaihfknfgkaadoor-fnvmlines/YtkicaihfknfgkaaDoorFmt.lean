import Derived.Test.YtkicaihfknfgkaaDoorDec
import Derived.Test.YtkicaihfknfgkaaDoorJoined
import Derived.Test.YtkicaihfknfgkaaDoorShelf
import Derived.Lib.ItoaNum
import Derived.Lib.AppendIntMem
namespace Go.Proofs.YtkicaihfknfgkaaDoor
open Go.ChangeShapes Go.WideShapes Go.ChangeAt Go.RowKit

theorem decDigits_decN (n : Nat) : Lib.decDigits n = decN n := by
  induction n using Nat.strongRecOn with
  | ind n ih =>
    by_cases h : n < 10
    · rw [decN_lt n h, Lib.decDigits, dif_pos h]
      rfl
    · rw [decN_ge n (by omega), Lib.decDigits, dif_neg h, ih (n / 10) (by omega)]
      rfl
theorem itoa_decL (n : Int) : Lib.itoa n = decL n := by
  unfold Lib.itoa decL
  split
  · rw [decDigits_decN, show (-n).toNat = n.natAbs by omega]
  · rw [decDigits_decN]
theorem decB_size (n : Int) (h0 : -9223372036854775808 ≤ n) (h1 : n ≤ 9223372036854775807) : (decB n).size ≤ 30 := by
  show (decL n).toArray.size ≤ 30
  unfold decL
  split
  · have := decN_len20 (-n).toNat (by omega)
    simp; omega
  · have := decN_len20 n.toNat (by omega)
    simp; omega
def Tab (w : World) : Prop := Lib.TabIs Tryd.prog w "internal/strconv.uint64pow10" .u64 Lib.pow10Tab
theorem gPow : Tryd.prog.globalNamed "internal/strconv.uint64pow10" = some 0 := by kernel_rfl
theorem Tab.below {B : Nat} {w w' : World} (h : Tab w) (hb : Below B w w') (hB : 0 < B) : Tab w' := by
  unfold Tab Lib.TabIs World.var? at h ⊢
  rw [gPow] at h ⊢
  simp only [Option.bind_some] at h ⊢
  rw [hb.block _ hB]
  exact h
theorem fmt_any (n : Int) (h0 : -9223372036854775808 ≤ n) (h1 : n ≤ 9223372036854775807) (w : World) (ht : Tab w) :
    Calls Tryd.prog 33 #[.int .i64 n, .int .i64 10] w fun e w' => e = .returned (.string (decB n)) ∧ Below w.heap.size w w' := by
  refine (Tryd.strconv_FormatInt_10 n h0 h1 w ht).mono ?_
  rintro e u ⟨rfl, k, os, rfl⟩
  exact ⟨ret_str (by rw [itoa_decL]; rfl), Lib.below_grow _ w (Nat.le_refl _) k os⟩
theorem decB_sz (n : Int) (h0 : -9223372036854775808 ≤ n) (h1 : n ≤ 9223372036854775807) : (decB n).data.toList.length ≤ 30 := by
  have := decB_size n h0 h1
  simpa using this
theorem decimal_any (n : Int) (h0 : -9223372036854775808 ≤ n) (h1 : n ≤ 9223372036854775807) (w : World) (ht : Tab w) :
    Calls Tryd.prog 20 #[.int .i64 n] w fun e w' => e = .returned (.string (decB n)) ∧ Below w.heap.size w w' := by
  have hf := fmt_any n h0 h1
  generalize decB n = r at *
  go_enter Tryd.func20, Tryd.ntmps20
  go_wp2_with (go_at_call 33; refine Calls.mono (hf _ ht) ?_; rintro e u1 ⟨rfl, hu1⟩)
  go_ret
  exact ⟨rfl, hu1⟩
end Go.Proofs.YtkicaihfknfgkaaDoor
