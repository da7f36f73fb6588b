import Derived.Test.YtefeahilamiiaaaRowLN4
import Derived.Test.YtefeahilamiiaaaRowRM4
import Derived.Test.YtefeahilamiiaaaRowCQ3
import Derived.Test.YtefeahilamiiaaaRowI
import Derived.Deep.RegionWith
import Derived.BigQuiet
namespace Go.Proofs.Ytefeahilamiiaaa
open Go.ChangeShapes Go.WideShapes Go.ChangeAt Go.RowKit

/-- Whether a number is a vector. -/
def okV (v : Int) : Bool := decide (0 ≤ v) && decide (v < 64)
def okL (v : Int) : Bool := decide (0 ≤ v) && decide (v ≤ 16)
def okD (v : Int) : Bool := decide (0 ≤ v) && decide (v < 256)
theorem isVector_any (n : Int) (w : World) : Calls Try.prog 65 #[.int .i64 n] w fun e w' => e = .returned (.bool (okV n)) ∧ w' = w := by
  unfold okV
  go_enter Try.func65, Try.ntmps65
  go_wp2
  all_goals go_ret
  all_goals refine ⟨ret_bool ?_, rfl⟩
  all_goals simp
  all_goals omega
theorem l08Vector_any (n : Int) (w : World) : Calls Try.prog 18 #[.int .i64 n] w fun e w' => e = .returned (.bool (okV n)) ∧ w' = w := by
  unfold okV
  go_enter Try.func18, Try.ntmps18
  go_wp2
  all_goals go_ret
  all_goals refine ⟨ret_bool ?_, rfl⟩
  all_goals simp
  all_goals omega
theorem isLimit_any (n : Int) (w : World) : Calls Try.prog 43 #[.int .i64 n] w fun e w' => e = .returned (.bool (okL n)) ∧ w' = w := by
  unfold okL
  go_enter Try.func43, Try.ntmps43
  go_wp2
  all_goals go_ret
  all_goals refine ⟨ret_bool ?_, rfl⟩
  all_goals simp
  all_goals omega
theorem isDev_any (n : Int) (w : World) : Calls Try.prog 47 #[.int .i64 n] w fun e w' => e = .returned (.bool (okD n)) ∧ w' = w := by
  unfold okD
  go_enter Try.func47, Try.ntmps47
  go_wp2
  all_goals go_ret
  all_goals refine ⟨ret_bool ?_, rfl⟩
  all_goals simp
  all_goals omega
theorem priority_any (n : Int) (w : World) (h : 0 ≤ n) (h1 : n ≤ 9223372036854775807) : Calls Try.prog 66 #[.int .i64 n] w fun e w' => e = .returned (.int .i64 (n / 4)) ∧ w' = w := by
  have hd : n.tdiv 4 = n / 4 := Int.tdiv_eq_ediv_of_nonneg h
  have hw : IntKind.i64.wrap (n / 4) = n / 4 := by rw [IntKind.wrap_i64]; omega
  go_enter Try.func66, Try.ntmps66
  go_wp2
  go_ret
  exact ⟨ret_int (by first | rfl | exact hd | simp [hd, hw]), rfl⟩
theorem isNaN_any (n : Int) (w : World) : Calls Try.prog 77 #[.int .i64 n] w fun e w' => e = .returned (.bool false) ∧ w' = w := by
  go_enter Try.func77, Try.ntmps77
  go_wp2
  go_ret
  exact ⟨ret_bool (by simp), rfl⟩
def cmpI (a b : Int) : Int := if a < b then -1 else if b < a then 1 else 0
set_option maxRecDepth 100000 in
theorem compare_any (a b : Int) (w : World) : Calls Try.prog 69 #[.int .i64 a, .int .i64 b] w fun e w' => e = .returned (.int .i64 (cmpI a b)) ∧ w' = w := by
  unfold cmpI
  go_enter Try.func69, Try.ntmps69
  go_wp2_with (go_at_call 77; refine (isNaN_any _ _).mono ?_; rintro e u1 ⟨rfl, hu1⟩; rw [hu1]; clear hu1)
  all_goals go_ret
  all_goals refine ⟨ret_int ?_, rfl⟩
  all_goals first | rfl | omega | (split <;> first | rfl | omega | (split <;> omega))
/-- All of the first k. -/
def allB (p : Nat → Bool) (k : Nat) : Bool := (List.range k).all p
theorem allB_succ (p : Nat → Bool) (k : Nat) : allB p (k + 1) = (allB p k && p k) := by simp [allB, List.range_succ]
theorem allB_bad {p : Nat → Bool} {k m : Nat} (hk : k < m) (h : p k = false) : allB p m = false := by
  unfold allB
  rw [List.all_eq_false]
  exact ⟨k, List.mem_range.2 hk, by rw [h]; decide⟩
theorem allB_iff {p : Nat → Bool} {m : Nat} : allB p m = true ↔ ∀ k, k < m → p k = true := by
  unfold allB
  rw [List.all_eq_true]
  exact ⟨fun h k hk => h k (List.mem_range.2 hk), fun h k hk => h k (List.mem_range.1 hk)⟩
/-- Pending, in Service. -/
def pk (zs : List Int) (j : Nat) : Bool := okV (zs.getD j 0) && (decide (j = 0) || decide (zs.getD (j - 1) 0 < zs.getD j 0))
def sk (zs : List Int) (j : Nat) : Bool := okV (zs.getD j 0) && (decide (j = 0) || decide (zs.getD (j - 1) 0 / 4 < zs.getD j 0 / 4))
def rk (zs : List Int) (j : Nat) : Bool := decide (j = 0) || decide (zs.getD (j - 1) 0 < zs.getD j 0)
def pendB (zs : List Int) : Bool := allB (pk zs) zs.length
def servB (zs : List Int) : Bool := allB (sk zs) zs.length
def risB (zs : List Int) : Bool := allB (rk zs) zs.length
theorem okV_b {v : Int} (h : okV v = true) : 0 ≤ v ∧ v < 64 := by
  unfold okV at h
  simpa using h
theorem pend_ris (zs : List Int) : pendB zs = (risB zs && allB (fun j => okV (zs.getD j 0)) zs.length) := by
  rw [Bool.eq_iff_iff, Bool.and_eq_true]
  unfold pendB risB
  simp only [allB_iff]
  constructor
  · intro h
    refine ⟨fun k hk => ?_, fun k hk => ?_⟩
    · have := h k hk
      unfold pk at this
      rw [Bool.and_eq_true] at this
      exact this.2
    · have := h k hk
      unfold pk at this
      rw [Bool.and_eq_true] at this
      exact this.1
  · rintro ⟨h1, h2⟩ k hk
    unfold pk
    rw [Bool.and_eq_true]
    exact ⟨h2 k hk, h1 k hk⟩
theorem serv_low {zs : List Int} (h : servB zs = true) (k : Nat) (hk : k < zs.length) : (k : Int) ≤ zs.getD k 0 / 4 ∧ zs.getD k 0 < 64 := by
  unfold servB at h
  have ha := allB_iff.1 h
  have hkk := ha k hk
  unfold sk at hkk
  rw [Bool.and_eq_true] at hkk
  obtain ⟨v0, v1⟩ := okV_b hkk.1
  refine ⟨?_, v1⟩
  clear hkk
  induction k with
  | zero => simp only [Int.natCast_zero]; omega
  | succ k ih =>
    have h1 := ha (k + 1) hk
    have h2 := ha k (by omega)
    unfold sk at h1 h2
    rw [Bool.and_eq_true] at h1 h2
    obtain ⟨u0, u1⟩ := okV_b h2.1
    have h3 := ih (by omega) u0 u1
    have h4 := h1.2
    simp at h4
    have h5 : zs.getD k 0 / 4 < zs.getD (k + 1) 0 / 4 := by simpa [List.getD] using h4
    omega
theorem serv_len {zs : List Int} (h : servB zs = true) : zs.length ≤ 16 := by
  rcases Nat.lt_or_ge 16 zs.length with h1 | h1
  · have := serv_low h 16 h1
    omega
  · exact h1
end Go.Proofs.Ytefeahilamiiaaa
