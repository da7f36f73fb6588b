import Derived.Test.YtomfbiiegcmmlabHasBit
namespace Go.Proofs.Ytomfbiiegcmmlab
open Go.ChangeShapes Go.WideShapes Go.ChangeAt Go.RowKit

def scan (s : ByteArray) (on : Bool) : Nat → Nat → Option Nat
  | _, 0 => none
  | a, k + 1 => if hb s a == on then some a else scan s on (a + 1) k
def imax (a b : Int) : Int := if b < a then a else b
def nxtF (s : ByteArray) (on : Bool) (F : Nat) : Int := match scan s on F (8 * s.size - F) with
  | some i => i
  | none => if on then -1 else imax F (8 * s.size)
def nxt (s : ByteArray) (f : Int) (on : Bool) : Int := if 65536 < s.size then 0 else nxtF s on (imax 0 f).toNat

theorem scan_hit (s : ByteArray) (on : Bool) (F j : Nat) (h : F + j < 8 * s.size) (e : scan s on F (8 * s.size - F) = scan s on (F + j) (8 * s.size - F - j)) (hh : (hb s ((F : Int) + (j : Int)) == on) = true) : nxtF s on F = (F : Int) + (j : Int) := by
  have h2 : (hb s ((F + j : Nat) : Int) == on) = true := by rw [Int.natCast_add]; exact hh
  unfold nxtF
  rw [e, show 8 * s.size - F - j = (8 * s.size - F - j - 1) + 1 from by omega]
  simp only [scan, h2]
  rw [if_pos trivial]
  exact Int.natCast_add F j
theorem scan_miss (s : ByteArray) (on : Bool) (F j : Nat) (h : F + j < 8 * s.size) (e : scan s on F (8 * s.size - F) = scan s on (F + j) (8 * s.size - F - j)) (hh : (hb s ((F : Int) + (j : Int)) == on) = false) :
    scan s on F (8 * s.size - F) = scan s on (F + (j + 1)) (8 * s.size - F - (j + 1)) := by
  have h2 : (hb s ((F + j : Nat) : Int) == on) = false := by rw [Int.natCast_add]; exact hh
  rw [e, show 8 * s.size - F - j = (8 * s.size - F - (j + 1)) + 1 from by omega]
  simp only [scan, h2]
  rfl
theorem scan_end (s : ByteArray) (on : Bool) (F j : Nat) (h : 8 * s.size ≤ F + j) (e : scan s on F (8 * s.size - F) = scan s on (F + j) (8 * s.size - F - j)) : nxtF s on F = if on then -1 else imax F (8 * s.size) := by
  unfold nxtF
  rw [e, show 8 * s.size - F - j = 0 from by omega]
  rfl

theorem l01Max_any (a b : Int) (w : World) :
    Calls Try.prog 129 #[.int .i64 a, .int .i64 b] w fun e w' => e = .returned (.int .i64 (imax a b)) ∧ w' = w := by
  by_cases h : b < a
  · have E : Hid (imax a b = a) := if_pos h
    go_enter Try.func129, Try.ntmps129
    go_wp2
    go_ret
    exact ⟨ret_int E.out.symm, rfl⟩
  · have E : Hid (imax a b = b) := if_neg h
    go_enter Try.func129, Try.ntmps129
    go_wp2
    go_ret
    exact ⟨ret_int E.out.symm, rfl⟩

theorem specNextBit_long (s : ByteArray) (f : Int) (on : Bool) (w : World) (hl : 65536 < s.size) :
    Calls Try.prog 95 #[.string s, .int .i64 f, .bool on] w fun e w' => e = .returned (.int .i64 0) ∧ w' = w := by
  go_enter Try.func95, Try.ntmps95
  go_wp2_with fail
  go_ret
  exact ⟨rfl, rfl⟩

theorem specNextBit_in (s : ByteArray) (f : Int) (F : Nat) (on : Bool) (w : World) (hs : s.size ≤ 65536) (hF : F ≤ 9223372036854775807) (hm : imax 0 f = F) :
    Calls Try.prog 95 #[.string s, .int .i64 f, .bool on] w fun e w' => e = .returned (.int .i64 (nxtF s on F)) ∧ w' = w := by
  go_enter Try.func95, Try.ntmps95
  go_wp2_with (go_at_call 129; refine (l01Max_any _ _ _).mono ?_; rintro e u1 ⟨rfl, hw1⟩; subst hw1)
  go_loop [8] (fun i => ∃ j : Nat, F + j ≤ 9223372036854775807 ∧ (j = 0 ∨ F + j ≤ 8 * s.size) ∧ i = .int .i64 ((F : Int) + (j : Int)) ∧ scan s on F (8 * s.size - F) = scan s on (F + j) (8 * s.size - F - j)) (fun i => 8 * s.size - (intOf i).toNat)
  case atStart => exact ⟨0, by omega, by omega, by go_num, rfl⟩
  case round =>
    obtain ⟨j, hj, hj2, rfl, hsc⟩ := hrel
    have HS : Hid (scan s on F (8 * s.size - F) = scan s on (F + j) (8 * s.size - F - j)) := hsc
    clear hsc hm
    by_cases hlt : F + j < 8 * s.size
    · cases hbv : (hb s ((F : Int) + (j : Int)) == on)
      · have HN : Hid (scan s on F (8 * s.size - F) = scan s on (F + (j + 1)) (8 * s.size - F - (j + 1))) := scan_miss s on F j hlt HS.out hbv
        go_wp2_with (go_at_call 130; refine (specHasBit_any _ _ _ (by omega) (by omega)).mono ?_; rintro e u1 ⟨rfl, hw1⟩; subst hw1)
        refine ⟨⟨j + 1, by omega, by omega, by go_num, HN.out⟩, by simp [intOf]; omega⟩
      · have HN : Hid (nxtF s on F = (F : Int) + (j : Int)) := scan_hit s on F j hlt HS.out hbv
        go_wp2_with (go_at_call 130; refine (specHasBit_any _ _ _ (by omega) (by omega)).mono ?_; rintro e u1 ⟨rfl, hw1⟩; subst hw1)
        go_ret
        exact ⟨ret_int HN.out.symm, rfl⟩
    · have hfin : Hid (nxtF s on F = if on then -1 else imax F (8 * s.size)) := scan_end s on F j (by omega) HS.out
      cases on
      · go_wp2_with (go_at_call 129; refine (l01Max_any _ _ _).mono ?_; rintro e u1 ⟨rfl, hw1⟩; subst hw1)
        go_ret
        exact ⟨ret_int hfin.out.symm, rfl⟩
      · go_wp2
        go_ret
        exact ⟨ret_int hfin.out.symm, rfl⟩

theorem implNextBit_long (s : ByteArray) (f : Int) (on : Bool) (w : World) (hl : 65536 < s.size) :
    Calls Try.prog 134 #[.string s, .int .i64 f, .bool on] w fun e w' => e = .returned (.int .i64 0) ∧ w' = w := by
  have hd : decide (65536 < (s.size : Int)) = true := by simp; omega
  go_enter Try.func134, Try.ntmps134
  go_wp2_with (go_at_call 57; refine (tooLong_any _ _).mono ?_; rintro e u1 ⟨rfl, hw1⟩; subst hw1)
  go_ret
  exact ⟨rfl, rfl⟩

theorem implNextBit_in (s : ByteArray) (f : Int) (F : Nat) (on : Bool) (w : World) (hs : s.size ≤ 65536) (hF : F ≤ 9223372036854775807) (hm : (if f < 0 then (0 : Int) else f) = F) :
    Calls Try.prog 134 #[.string s, .int .i64 f, .bool on] w fun e w' => e = .returned (.int .i64 (nxtF s on F)) ∧ w' = w := by
  have hd : decide (65536 < (s.size : Int)) = false := by simp; omega
  go_enter Try.func134, Try.ntmps134
  go_wp2_with (first | (go_at_call 57; refine (tooLong_any _ _).mono ?_; rintro e u1 ⟨rfl, hw1⟩; subst hw1) | (go_at_call 156; refine (setSize_any _ _ (by omega)).mono ?_; rintro e u1 ⟨rfl, hw1⟩; subst hw1))
  go_loop [17] (fun i => ∃ j : Nat, F + j ≤ 9223372036854775807 ∧ (j = 0 ∨ F + j ≤ 8 * s.size) ∧ i = .int .i64 (j : Int) ∧ scan s on F (8 * s.size - F) = scan s on (F + j) (8 * s.size - F - j)) (fun i => 8 * s.size - F - (intOf i).toNat)
  case atStart => exact ⟨0, by omega, by omega, by go_num, rfl⟩
  case round =>
    obtain ⟨j, hj, hj2, rfl, hsc⟩ := hrel
    have HS : Hid (scan s on F (8 * s.size - F) = scan s on (F + j) (8 * s.size - F - j)) := hsc
    clear hsc hm
    by_cases hlt : F + j < 8 * s.size
    · cases hbv : (hb s ((F : Int) + (j : Int)) == on)
      · have HN : Hid (scan s on F (8 * s.size - F) = scan s on (F + (j + 1)) (8 * s.size - F - (j + 1))) := scan_miss s on F j hlt HS.out hbv
        go_wp2_with (go_at_call 157; refine (implHasBit_any _ _ _ (by omega)).mono ?_; rintro e u1 ⟨rfl, hw1⟩; subst hw1)
        refine ⟨⟨j + 1, by omega, by omega, by go_num, HN.out⟩, by simp [intOf]; omega⟩
      · have HN : Hid (nxtF s on F = (F : Int) + (j : Int)) := scan_hit s on F j hlt HS.out hbv
        go_wp2_with (go_at_call 157; refine (implHasBit_any _ _ _ (by omega)).mono ?_; rintro e u1 ⟨rfl, hw1⟩; subst hw1)
        go_ret
        exact ⟨ret_int HN.out.symm, rfl⟩
    · have hfin : Hid (nxtF s on F = if on then -1 else imax F (8 * s.size)) := scan_end s on F j (by omega) HS.out
      cases on
      · by_cases hz : (F : Int) < 8 * (s.size : Int)
        · have hi : Hid (imax F (8 * s.size) = 8 * (s.size : Int)) := (show imax F (8 * s.size) = 8 * (s.size : Int) from if_neg (by omega))
          go_wp2_with (go_at_call 156; refine (setSize_any _ _ (by omega)).mono ?_; rintro e u1 ⟨rfl, hw1⟩; subst hw1)
          go_ret
          exact ⟨ret_int (hi.out.symm.trans hfin.out.symm), rfl⟩
        · have hi : Hid (imax F (8 * s.size) = F) := (show imax F (8 * s.size) = F from by unfold imax; split <;> omega)
          go_wp2_with (go_at_call 156; refine (setSize_any _ _ (by omega)).mono ?_; rintro e u1 ⟨rfl, hw1⟩; subst hw1)
          go_ret
          exact ⟨ret_int (hi.out.symm.trans hfin.out.symm), rfl⟩
      · go_wp2
        go_ret
        exact ⟨ret_int hfin.out.symm, rfl⟩
theorem first_b (f : Int) (h : f ≤ 9223372036854775807) : ∃ F : Nat, F ≤ 9223372036854775807 ∧ (imax 0 f).toNat = F ∧ imax 0 f = F ∧ (if f < 0 then (0 : Int) else f) = F := by
  refine ⟨(imax 0 f).toNat, ?_, rfl, ?_, ?_⟩
  · unfold imax; split <;> omega
  · unfold imax; split <;> omega
  · unfold imax; split <;> omega

theorem specNextBit_any (s : ByteArray) (f : Int) (on : Bool) (w : World) (h : f ≤ 9223372036854775807) :
    Calls Try.prog 95 #[.string s, .int .i64 f, .bool on] w fun e w' => e = .returned (.int .i64 (nxt s f on)) ∧ w' = w := by
  obtain ⟨F, h1, h2, h3, h4⟩ := first_b f h
  by_cases hl : 65536 < s.size
  · rw [show nxt s f on = 0 from if_pos hl]
    exact specNextBit_long s f on w hl
  · rw [show nxt s f on = nxtF s on F from (if_neg hl).trans (by rw [h2])]
    exact specNextBit_in s f F on w (by omega) h1 h3

theorem implNextBit_any (s : ByteArray) (f : Int) (on : Bool) (w : World) (h : f ≤ 9223372036854775807) :
    Calls Try.prog 134 #[.string s, .int .i64 f, .bool on] w fun e w' => e = .returned (.int .i64 (nxt s f on)) ∧ w' = w := by
  obtain ⟨F, h1, h2, h3, h4⟩ := first_b f h
  by_cases hl : 65536 < s.size
  · rw [show nxt s f on = 0 from if_pos hl]
    exact implNextBit_long s f on w hl
  · rw [show nxt s f on = nxtF s on F from (if_neg hl).trans (by rw [h2])]
    exact implNextBit_in s f F on w (by omega) h1 h4
end Go.Proofs.Ytomfbiiegcmmlab
