import Derived.Test.YtkicaihfknfgkaaDoorFault2
import Derived.Test.YtkicaihfknfgkaaDoorJoinedCore
import Derived.Deep.RegionWith
import Derived.IntWalk
import Derived.Laws.Closers25
namespace Go.Proofs.YtkicaihfknfgkaaDoor
open Go.ChangeShapes Go.WideShapes Go.ChangeAt Go.RowKit

/-- A natural number's decimal digits. -/
def dch (n : Nat) : UInt8 := UInt8.ofNat (48 + n)
def decN (n : Nat) : List UInt8 := if _h : n < 10 then [dch n] else decN (n / 10) ++ [dch (n % 10)]
theorem decN_lt (n : Nat) (h : n < 10) : decN n = [dch n] := by rw [decN, dif_pos h]
theorem decN_ge (n : Nat) (h : 10 ≤ n) : decN n = decN (n / 10) ++ [dch (n % 10)] := by rw [decN, dif_neg (by omega)]
def decL (n : Int) : List UInt8 := if n < 0 then 45 :: decN (-n).toNat else decN n.toNat
def decB (n : Int) : ByteArray := ⟨(decL n).toArray⟩

theorem conv1 (b : UInt8) (x : Int) (hx : x = b.toNat) (w : World) (B : Nat) (hB : B = w.heap.size) : Sem.run Tryd.prog (convert 27 9 (.slice (some ⟨B, 0, none⟩) 1 1)) (w.alloc (Obj.cells #[.int .u8 x] 5)) = .ok (.string ⟨#[b]⟩) (w.alloc (Obj.cells #[.int .u8 x] 5)) := by
  subst hx
  subst hB
  exact conv_own _ w.heap.size _ 1 [b] (World.ownsRow_lit w #[.int .u8 b.toNat] 1 (Nat.le_refl _) (by decide) rfl)
theorem dig_nat (n : Nat) (h : n < 10) : (48 + (n : Int)) = (dch n).toNat := by
  unfold dch
  rw [UInt8.toNat_ofNat']
  omega

set_option maxHeartbeats 400000 in
theorem l01Dec_digit (n : Nat) (w : World) (h : n < 10) :
    Calls Tryd.prog 23 #[.int .i64 n] w fun e w' => e = .returned (.string ⟨(decN n).toArray⟩) ∧ Below w.heap.size w w' := by
  rw [decN_lt n h]
  have hcv := fun w => conv1 (dch n) (48 + (n : Int)) (dig_nat n h) w w.heap.size rfl
  go_enter Tryd.func23, Tryd.ntmps23
  go_wp2_with fail
  go_ret
  exact ⟨rfl, (Below.refl _ _).alloc (Nat.le_refl _) _⟩

theorem conv1g (b : UInt8) (x : Int) (hx : x = b.toNat) (w : World) (B : Nat) (h : w.cell? ⟨B, 0, none⟩ = some (.int .u8 x)) : Sem.run Tryd.prog (convert 27 9 (.slice (some ⟨B, 0, none⟩) 1 1)) w = .ok (.string ⟨#[b]⟩) w := by
  subst hx
  rw [run_convert_bytes_arg w 27 5 Tryd.underlying27 Tryd.underlying5 B 0 1 1 [(b.toNat : Int)] rfl ?_ 9 Tryd.underlying9]
  · exact congrArg (fun x => Result.ok (Value.string x) w) (nums8 [b])
  · intro i hi
    obtain rfl : i = 0 := by omega
    simpa using h

theorem bdr {B : Nat} {a w : World} (h : Below B a w) : Below B a w.drew := ⟨h.os, h.tape, h.output, h.size, h.block⟩
set_option maxHeartbeats 1000000 in
theorem l01Dec_more (n : Int) (R Q : ByteArray) (ch : UInt8) (w : World) (h : 10 ≤ n) (hR : R = Q ++ ⟨#[ch]⟩) (hQs : Q.size ≤ 30) (q c : Int)
    (hq : IntKind.i64.wrap (n.tdiv 10) = q) (hc : IntKind.u8.wrap (IntKind.i64.wrap (48 + n.tmod 10)) = c)
    (hcv : ∀ (w : World) (B : Nat) (_ : w.cell? ⟨B, 0, none⟩ = some (.int .u8 c)), Sem.run Tryd.prog (convert 27 9 (.slice (some ⟨B, 0, none⟩) 1 1)) w = .ok (.string ⟨#[ch]⟩) w)
    (ih : ∀ w, Calls Tryd.prog 23 #[.int .i64 q] w fun e w' => e = .returned (.string Q) ∧ Below w.heap.size w w') :
    Calls Tryd.prog 23 #[.int .i64 n] w fun e w' => e = .returned (.string R) ∧ Below w.heap.size w w' := by
  have HR : Hid (R = Q ++ ⟨#[ch]⟩) := hR
  have HQ : Hid (IntKind.i64.wrap (n.tdiv 10) = q) := hq
  clear hR hq
  go_enter Tryd.func23, Tryd.ntmps23
  go_wp2_with fail
  go_region_with (go_at_call 23; rw [HQ.out]; refine (ih _).mono ?_; rintro e u1 ⟨rfl, hw1⟩; have z1 := hw1.size; obtain ⟨hc1, hf1⟩ := bcell hw1)
  all_goals
    go_wp2_with fail
    go_ret
    refine ⟨ret_str HR.out.symm, ?_⟩
    first
    | exact ((bdr (Below.refl _ _)).trans (hw1.mono (Nat.le_refl _))).alloc z1 _
    | exact (bdr ((Below.refl _ _).alloc (Nat.le_refl _) _)).trans (hw1.mono (by simp))

set_option maxHeartbeats 1000000 in
theorem l01Dec_less (n : Int) (R Q : ByteArray) (ch : UInt8) (w : World) (h : n ≤ -10) (hR : R = Q ++ ⟨#[ch]⟩) (hQs : Q.size ≤ 30) (q c : Int)
    (hq : IntKind.i64.wrap (n.tdiv 10) = q) (hc : IntKind.u8.wrap (IntKind.i64.wrap (48 - n.tmod 10)) = c)
    (hcv : ∀ (w : World) (B : Nat) (_ : w.cell? ⟨B, 0, none⟩ = some (.int .u8 c)), Sem.run Tryd.prog (convert 27 9 (.slice (some ⟨B, 0, none⟩) 1 1)) w = .ok (.string ⟨#[ch]⟩) w)
    (ih : ∀ w, Calls Tryd.prog 23 #[.int .i64 q] w fun e w' => e = .returned (.string Q) ∧ Below w.heap.size w w') :
    Calls Tryd.prog 23 #[.int .i64 n] w fun e w' => e = .returned (.string R) ∧ Below w.heap.size w w' := by
  have HR : Hid (R = Q ++ ⟨#[ch]⟩) := hR
  have HQ : Hid (IntKind.i64.wrap (n.tdiv 10) = q) := hq
  clear hR hq
  go_enter Tryd.func23, Tryd.ntmps23
  go_wp2_with fail
  go_region_with (go_at_call 23; rw [HQ.out]; refine (ih _).mono ?_; rintro e u1 ⟨rfl, hw1⟩; have z1 := hw1.size; obtain ⟨hc1, hf1⟩ := bcell hw1)
  all_goals
    go_wp2_with fail
    go_ret
    refine ⟨ret_str HR.out.symm, ?_⟩
    first
    | exact ((bdr (Below.refl _ _)).trans (hw1.mono (Nat.le_refl _))).alloc z1 _
    | exact (bdr ((Below.refl _ _).alloc (Nat.le_refl _) _)).trans (hw1.mono (by simp))

set_option maxHeartbeats 1000000 in
theorem l01Dec_minus (n : Int) (R Q : ByteArray) (w : World) (h : -10 < n) (h1 : n < 0) (hR : R = ⟨#[45]⟩ ++ Q) (hQs : Q.size ≤ 30)
    (ih : ∀ w, Calls Tryd.prog 23 #[.int .i64 (-n)] w fun e w' => e = .returned (.string Q) ∧ Below w.heap.size w w') :
    Calls Tryd.prog 23 #[.int .i64 n] w fun e w' => e = .returned (.string R) ∧ Below w.heap.size w w' := by
  have HR : Hid (R = ⟨#[45]⟩ ++ Q) := hR
  clear hR
  go_enter Tryd.func23, Tryd.ntmps23
  go_wp2_with (go_at_call 23; refine (ih _).mono ?_; rintro e u1 ⟨rfl, hw1⟩)
  go_ret
  exact ⟨ret_str HR.out.symm, hw1⟩

theorem decN_len (k : Nat) : ∀ n, n < 10 ^ (k + 1) → (decN n).length ≤ k + 1 := by
  induction k with
  | zero => intro n h; rw [decN_lt n (by simpa using h)]; simp
  | succ k ih =>
    intro n h
    by_cases h10 : n < 10
    · rw [decN_lt n h10]; simp
    · rw [decN_ge n (by omega)]
      have := ih (n / 10) (by rw [Nat.div_lt_iff_lt_mul (by omega), ← Nat.pow_succ]; exact h)
      simp; omega
theorem decN_len20 (n : Nat) (h : n ≤ 9223372036854775808) : (decN n).length ≤ 20 := decN_len 19 n (by omega)
theorem app_lit (l : List UInt8) (c : UInt8) : (⟨(l ++ [c]).toArray⟩ : ByteArray) = ⟨l.toArray⟩ ++ ⟨#[c]⟩ := by
  apply ByteArray.ext
  rw [ByteArray.data_append]
  simp
theorem cons_lit (l : List UInt8) (c : UInt8) : (⟨(c :: l).toArray⟩ : ByteArray) = ⟨#[c]⟩ ++ ⟨l.toArray⟩ := by
  apply ByteArray.ext
  rw [ByteArray.data_append]
  simp
theorem cv (k : Nat) (hk : k < 10) (x : Int) (hx : x = 48 + k) : ∀ (w : World) (B : Nat) (_ : w.cell? ⟨B, 0, none⟩ = some (.int .u8 (IntKind.u8.wrap (IntKind.i64.wrap x)))), Sem.run Tryd.prog (convert 27 9 (.slice (some ⟨B, 0, none⟩) 1 1)) w = .ok (.string ⟨#[dch k]⟩) w := by
  intro w B h
  refine conv1g (dch k) _ ?_ w B h
  rw [Go.IntWalk.i64_in _ (by omega), Go.IntWalk.u8_in _ (by omega), hx]
  exact dig_nat k hk

theorem l01Dec_nat (k : Nat) : ∀ (n : Nat) (w : World), n ≤ k → n ≤ 9223372036854775807 →
    Calls Tryd.prog 23 #[.int .i64 n] w fun e w' => e = .returned (.string ⟨(decN n).toArray⟩) ∧ Below w.heap.size w w' := by
  induction k with
  | zero => intro n w hk _; exact l01Dec_digit n w (by omega)
  | succ k ih =>
    intro n w hk hn
    by_cases h10 : n < 10
    · exact l01Dec_digit n w h10
    · refine l01Dec_more n _ ⟨(decN (n / 10)).toArray⟩ (dch (n % 10)) w (by omega) ?_ ?_ ((n / 10 : Nat) : Int) _ ?_ rfl (cv (n % 10) (by omega) _ ?_) (fun w => ih (n / 10) w (by omega) (by omega))
      · rw [decN_ge n (by omega), app_lit]
      · have := decN_len20 (n / 10) (by omega)
        show (decN (n / 10)).toArray.size ≤ 30
        simp; omega
      · rw [Go.wrap_i64_tdiv _ _ (by omega) (by omega) (by omega), Int.tdiv_eq_ediv_of_nonneg (by omega)]
        omega
      · rw [Int.tmod_eq_emod_of_nonneg (by omega)]
        omega

theorem l01Dec_neg (k : Nat) : ∀ (n : Nat) (w : World), n ≤ k → 1 ≤ n → n ≤ 9223372036854775808 →
    Calls Tryd.prog 23 #[.int .i64 (-(n : Int))] w fun e w' => e = .returned (.string ⟨(45 :: decN n).toArray⟩) ∧ Below w.heap.size w w' := by
  induction k with
  | zero => intro n w hk h1 _; omega
  | succ k ih =>
    intro n w hk h1 hn
    by_cases h10 : n < 10
    · refine l01Dec_minus (-(n : Int)) _ ⟨(decN n).toArray⟩ w (by omega) (by omega) (cons_lit _ _) ?_ (fun w => ?_)
      · have := decN_len20 n (by omega)
        show (decN n).toArray.size ≤ 30
        simp; omega
      · rw [Int.neg_neg]
        exact l01Dec_digit n w h10
    · have hmod : (-(n : Int)).tmod 10 = -((n % 10 : Nat) : Int) := by
        rw [Int.neg_tmod, Int.tmod_eq_emod_of_nonneg (by omega)]
        omega
      refine l01Dec_less (-(n : Int)) _ ⟨(45 :: decN (n / 10)).toArray⟩ (dch (n % 10)) w (by omega) ?_ ?_ (-((n / 10 : Nat) : Int)) _ ?_ rfl (cv (n % 10) (by omega) _ ?_) (fun w => ih (n / 10) w (by omega) (by omega) (by omega))
      · rw [decN_ge n (by omega), ← app_lit]
        rfl
      · have := decN_len20 (n / 10) (by omega)
        show (45 :: decN (n / 10)).toArray.size ≤ 30
        simp; omega
      · rw [Go.wrap_i64_tdiv _ _ (by omega) (by omega) (by omega), Int.neg_tdiv, Int.tdiv_eq_ediv_of_nonneg (by omega)]
        omega
      · rw [hmod]
        omega

theorem l01Dec_any (n : Int) (w : World) (h0 : -9223372036854775808 ≤ n) (h1 : n ≤ 9223372036854775807) :
    Calls Tryd.prog 23 #[.int .i64 n] w fun e w' => e = .returned (.string (decB n)) ∧ Below w.heap.size w w' := by
  unfold decB decL
  by_cases hn : n < 0
  · rw [if_pos hn]
    have := l01Dec_neg (-n).toNat (-n).toNat w (Nat.le_refl _) (by omega) (by omega)
    rwa [show (-(((-n).toNat : Nat) : Int)) = n from by omega] at this
  · rw [if_neg hn]
    have := l01Dec_nat n.toNat n.toNat w (Nat.le_refl _) (by omega)
    rwa [show ((n.toNat : Nat) : Int) = n from by omega] at this
end Go.Proofs.YtkicaihfknfgkaaDoor
