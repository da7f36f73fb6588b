import Derived.Test.YtfagohdmepnkkaaTwoQ
import Derived.Test.YtfagohdmepnkkaaSTwoC0
import Derived.Test.YtfagohdmepnkkaaSTwoC1
import Derived.Test.YtfagohdmepnkkaaSTwoC2
import Derived.Test.YtfagohdmepnkkaaSTwoC3
namespace Go.Proofs.Ytfagohdmepnkkaa
open Go.ChangeShapes Go.WideShapes Go.ChangeAt Go.RowKit

theorem specTwo_C (s : ByteArray) (host root va : Nat) (acc : Int) (user : Bool) (w : World) (hm : memOk s = true) (r0 : host ≤ 255) (r1 : root ≤ 255) (v1 : va ≤ 262143) (a1 : 1 ≤ acc) (a2 : acc ≤ 3) (k1 : Nat) (hk1 : Hid (k1 = root * 256 + 4 * (va / 8192))) (mem1 : ByteArray) (st1 : Int) (p1 : Nat) (z : Int) (hz : wv mem1 p1 = z) (hp1 : p1 + 4 ≤ mem1.size) (hm1 : mem1.size ≤ 65536) (s10 : 0 ≤ st1) (s11 : st1 ≤ 100) (HP1 : Hid (PL w ⟨s, host, 0, 0⟩ k1 1 (p1 : Int) ⟨mem1, host, st1, 0⟩)) (hC : ¬ z % 16 = 1) (hmM : memOk mem1 = true) (kb : k1 ≤ 262143) (k4 : k1 % 4 = 0) :
    Calls Try.prog 8 #[.string s, .int .i64 host, .int .i64 root, .int .i64 va, .int .i64 acc, .bool user] w fun e w' => e = .returned (twA (tailT mem1 host k1 z true va acc user (st1 + 1))) ∧ Below w.heap.size w w' := by
  obtain ⟨z0, z1⟩ := wv_b mem1 p1
  rw [hz] at z0 z1
  have hms := memOk_b hmM
  have bad : goodV z acc user true = false → tailT mem1 host k1 z true va acc user (st1 + 1) = ⟨1, 0, 0, (st1 + 1), mem1⟩ := fun h => if_neg (by rw [h]; decide)
  by_cases f1 : z % 2 = 0
  · rw [bad (by simp [goodV, f1])]
    exact specTwo_C_even s host root va acc user w hm r0 r1 v1 a1 a2 k1 hk1 mem1 st1 p1 z hz hp1 hm1 s10 s11 HP1 f1
  have f1 : z % 2 = 1 := by omega
  by_cases f2 : z / 256 % 32 = 0
  case neg =>
    rw [bad (by simp [goodV, f2])]
    exact specTwo_C_odd s host root va acc user w hm r0 r1 v1 a1 a2 k1 hk1 mem1 st1 p1 z hz hp1 hm1 s10 s11 HP1 f1 hC f2
  by_cases f3 : mayV z acc user = true
  case neg =>
    have f3 : mayV z acc user = false := by simpa using f3
    rw [bad (by simp [goodV, f3])]
    exact specTwo_C_may s host root va acc user w hm r0 r1 v1 a1 a2 k1 hk1 mem1 st1 p1 z hz hp1 hm1 s10 s11 HP1 f1 hC f2 f3
  have hg : goodV z acc user true = true := by simp [goodV, f1, f3, f2]
  by_cases f4 : (z / 256 + (va : Int) / 256 % 32) < 1024
  case neg =>
    have E : tailT mem1 host k1 z true va acc user (st1 + 1) = ⟨2, 0, 0, (st1 + 1), mem1⟩ := (if_pos hg).trans (if_neg f4)
    rw [E]
    exact specTwo_C_far s host root va acc user w hm r0 r1 v1 a1 a2 k1 hk1 mem1 st1 p1 z hz hp1 hm1 s10 s11 HP1 f1 hC f2 f3 (by omega)
  obtain ⟨ga, hga⟩ : ∃ ga : Nat, (z / 256 + (va : Int) / 256 % 32) * 256 + (va : Int) % 256 = (ga : Int) := Int.eq_ofNat_of_zero_le (by omega)
  have hgb : ga ≤ 262143 := by omega
  have hgt : ((z / 256 + (va : Int) / 256 % 32) * 256 + (va : Int) % 256).toNat = ga := by rw [hga]; rfl
  have E : tailT mem1 host k1 z true va acc user (st1 + 1) = if putA z acc = z then lastT mem1 host ga acc (st1 + 1)
      else if (walkV mem1 host k1 2 false).fault = 0 then lastT (setv (walkV mem1 host k1 2 false).mem (walkV mem1 host k1 2 false).pa.toNat (putA z acc)) host ga acc ((st1 + 1) + (walkV mem1 host k1 2 false).reads.length)
      else ⟨3, k1, 0, (st1 + 1) + (walkV mem1 host k1 2 false).reads.length, mem1⟩ := by
    rw [← hgt]
    exact (if_pos hg).trans (if_pos f4)
  rw [E]
  clear E bad hg
  have hpa3 := fun hf => walkV_pa mem1 host k1 2 false hf k4
  have hsz3 := walkV_size mem1 host k1 2 false kb
  have hln3 := walkV_len mem1 host k1 2 false
  have HP3y := fun hf => PL_yes w mem1 host (st1 + 1) 0 k1 2 hmM r0 kb (by decide) (by decide) (by omega) (by omega) hf
  have HP3n := fun hf => PL_no w mem1 host (st1 + 1) 0 k1 2 hmM r0 kb (by decide) (by decide) (by omega) (by omega) hf
  obtain ⟨r3, hr3⟩ : ∃ r, walkV mem1 host k1 2 false = r := ⟨_, rfl⟩
  rw [hr3] at hpa3 hsz3 hln3 HP3y HP3n ⊢
  clear hr3
  obtain rfl | rfl | rfl : acc = 1 ∨ acc = 2 ∨ acc = 3 := by omega
  · have hpa : putA z 1 = bits .or .i64 z 32 := rfl
    rw [hpa]
    by_cases hsame : bits .or .i64 z 32 = z
    · rw [if_pos hsame]
      by_cases hf4 : (walkV mem1 host ga 1 false).fault = 0
      · have EL : lastT mem1 host ga 1 (st1 + 1) = ⟨0, ga, (walkV mem1 host ga 1 false).pa, (st1 + 1) + (walkV mem1 host ga 1 false).reads.length, (walkV mem1 host ga 1 false).mem⟩ := if_pos hf4
        rw [EL]
        have HP4 := PL_yes w mem1 host (st1 + 1) 0 ga 1 hmM r0 hgb (by decide) (by decide) (by omega) (by omega) hf4
        obtain ⟨p4, hp4⟩ := Int.eq_ofNat_of_zero_le (walkV_pa0 mem1 host ga 1 false hf4)
        rw [hp4] at HP4 ⊢
        exact specTwo_C1_same_ok s host root va user w hm r0 r1 v1 k1 hk1 mem1 st1 p1 z hz hp1 hm1 s10 s11 HP1 f1 hC f2 f3 f4 hsame ga hga _ _ p4 HP4
      · have EL : lastT mem1 host ga 1 (st1 + 1) = ⟨3, ga, 0, (st1 + 1) + (walkV mem1 host ga 1 false).reads.length, mem1⟩ := if_neg hf4
        rw [EL]
        have HP4 := PL_no w mem1 host (st1 + 1) 0 ga 1 hmM r0 hgb (by decide) (by decide) (by omega) (by omega) hf4
        exact specTwo_C1_same_no s host root va user w hm r0 r1 v1 k1 hk1 mem1 st1 p1 z hz hp1 hm1 s10 s11 HP1 f1 hC f2 f3 f4 hsame ga hga _ HP4
    · rw [if_neg hsame]
      have hne : (bits .or .i64 z 32 == z) = false := by simpa using hsame
      by_cases hf3 : r3.fault = 0
      · rw [if_pos hf3]
        obtain ⟨q0, q1, q2⟩ := hpa3 hf3
        obtain ⟨p3, hp3⟩ := Int.eq_ofNat_of_zero_le q0
        have HP3 := HP3y hf3
        rw [hp3] at HP3 q1 ⊢
        have ht : Int.toNat (p3 : Int) = p3 := rfl
        rw [ht]
        have hmS : memOk (setv r3.mem p3 (bits .or .i64 z 32)) = true := memOk_size hmM (by rw [setv_size _ _ _ (by omega)]; exact hsz3)
        by_cases hf4 : (walkV (setv r3.mem p3 (bits .or .i64 z 32)) host ga 1 false).fault = 0
        · have EL : lastT (setv r3.mem p3 (bits .or .i64 z 32)) host ga 1 ((st1 + 1) + (r3.reads.length : Int)) = ⟨0, ga, (walkV (setv r3.mem p3 (bits .or .i64 z 32)) host ga 1 false).pa, ((st1 + 1) + (r3.reads.length : Int)) + (walkV (setv r3.mem p3 (bits .or .i64 z 32)) host ga 1 false).reads.length, (walkV (setv r3.mem p3 (bits .or .i64 z 32)) host ga 1 false).mem⟩ := if_pos hf4
          rw [EL]
          have HP4 := PL_yes w (setv r3.mem p3 (bits .or .i64 z 32)) host ((st1 + 1) + (r3.reads.length : Int)) 0 ga 1 hmS r0 hgb (by decide) (by decide) (by omega) (by omega) hf4
          obtain ⟨p4, hp4⟩ := Int.eq_ofNat_of_zero_le (walkV_pa0 (setv r3.mem p3 (bits .or .i64 z 32)) host ga 1 false hf4)
          rw [hp4] at HP4 ⊢
          exact specTwo_C1_put_ok s host root va user w hm r0 r1 v1 k1 hk1 mem1 st1 p1 z hz hp1 hm1 s10 s11 HP1 f1 hC f2 f3 f4 hne ga hga _ r3.mem _ p3 (by omega) (by omega) HP3 _ p4 HP4
        · have EL : lastT (setv r3.mem p3 (bits .or .i64 z 32)) host ga 1 ((st1 + 1) + (r3.reads.length : Int)) = ⟨3, ga, 0, ((st1 + 1) + (r3.reads.length : Int)) + (walkV (setv r3.mem p3 (bits .or .i64 z 32)) host ga 1 false).reads.length, (setv r3.mem p3 (bits .or .i64 z 32))⟩ := if_neg hf4
          rw [EL]
          have HP4 := PL_no w (setv r3.mem p3 (bits .or .i64 z 32)) host ((st1 + 1) + (r3.reads.length : Int)) 0 ga 1 hmS r0 hgb (by decide) (by decide) (by omega) (by omega) hf4
          exact specTwo_C1_put_no s host root va user w hm r0 r1 v1 k1 hk1 mem1 st1 p1 z hz hp1 hm1 s10 s11 HP1 f1 hC f2 f3 f4 hne ga hga _ r3.mem _ p3 (by omega) (by omega) HP3 HP4
      · rw [if_neg hf3]
        exact specTwo_C1_nput s host root va user w hm r0 r1 v1 k1 hk1 mem1 st1 p1 z hz hp1 hm1 s10 s11 HP1 f1 hC f2 f3 f4 hne _ (HP3n hf3)
  · have hpa : putA z 2 = bits .or .i64 (bits .or .i64 z 32) 64 := rfl
    rw [hpa]
    by_cases hsame : bits .or .i64 (bits .or .i64 z 32) 64 = z
    · rw [if_pos hsame]
      by_cases hf4 : (walkV mem1 host ga 2 false).fault = 0
      · have EL : lastT mem1 host ga 2 (st1 + 1) = ⟨0, ga, (walkV mem1 host ga 2 false).pa, (st1 + 1) + (walkV mem1 host ga 2 false).reads.length, (walkV mem1 host ga 2 false).mem⟩ := if_pos hf4
        rw [EL]
        have HP4 := PL_yes w mem1 host (st1 + 1) 0 ga 2 hmM r0 hgb (by decide) (by decide) (by omega) (by omega) hf4
        obtain ⟨p4, hp4⟩ := Int.eq_ofNat_of_zero_le (walkV_pa0 mem1 host ga 2 false hf4)
        rw [hp4] at HP4 ⊢
        exact specTwo_C2_same_ok s host root va user w hm r0 r1 v1 k1 hk1 mem1 st1 p1 z hz hp1 hm1 s10 s11 HP1 f1 hC f2 f3 f4 hsame ga hga _ _ p4 HP4
      · have EL : lastT mem1 host ga 2 (st1 + 1) = ⟨3, ga, 0, (st1 + 1) + (walkV mem1 host ga 2 false).reads.length, mem1⟩ := if_neg hf4
        rw [EL]
        have HP4 := PL_no w mem1 host (st1 + 1) 0 ga 2 hmM r0 hgb (by decide) (by decide) (by omega) (by omega) hf4
        exact specTwo_C2_same_no s host root va user w hm r0 r1 v1 k1 hk1 mem1 st1 p1 z hz hp1 hm1 s10 s11 HP1 f1 hC f2 f3 f4 hsame ga hga _ HP4
    · rw [if_neg hsame]
      have hne : (bits .or .i64 (bits .or .i64 z 32) 64 == z) = false := by simpa using hsame
      by_cases hf3 : r3.fault = 0
      · rw [if_pos hf3]
        obtain ⟨q0, q1, q2⟩ := hpa3 hf3
        obtain ⟨p3, hp3⟩ := Int.eq_ofNat_of_zero_le q0
        have HP3 := HP3y hf3
        rw [hp3] at HP3 q1 ⊢
        have ht : Int.toNat (p3 : Int) = p3 := rfl
        rw [ht]
        have hmS : memOk (setv r3.mem p3 (bits .or .i64 (bits .or .i64 z 32) 64)) = true := memOk_size hmM (by rw [setv_size _ _ _ (by omega)]; exact hsz3)
        by_cases hf4 : (walkV (setv r3.mem p3 (bits .or .i64 (bits .or .i64 z 32) 64)) host ga 2 false).fault = 0
        · have EL : lastT (setv r3.mem p3 (bits .or .i64 (bits .or .i64 z 32) 64)) host ga 2 ((st1 + 1) + (r3.reads.length : Int)) = ⟨0, ga, (walkV (setv r3.mem p3 (bits .or .i64 (bits .or .i64 z 32) 64)) host ga 2 false).pa, ((st1 + 1) + (r3.reads.length : Int)) + (walkV (setv r3.mem p3 (bits .or .i64 (bits .or .i64 z 32) 64)) host ga 2 false).reads.length, (walkV (setv r3.mem p3 (bits .or .i64 (bits .or .i64 z 32) 64)) host ga 2 false).mem⟩ := if_pos hf4
          rw [EL]
          have HP4 := PL_yes w (setv r3.mem p3 (bits .or .i64 (bits .or .i64 z 32) 64)) host ((st1 + 1) + (r3.reads.length : Int)) 0 ga 2 hmS r0 hgb (by decide) (by decide) (by omega) (by omega) hf4
          obtain ⟨p4, hp4⟩ := Int.eq_ofNat_of_zero_le (walkV_pa0 (setv r3.mem p3 (bits .or .i64 (bits .or .i64 z 32) 64)) host ga 2 false hf4)
          rw [hp4] at HP4 ⊢
          exact specTwo_C2_put_ok s host root va user w hm r0 r1 v1 k1 hk1 mem1 st1 p1 z hz hp1 hm1 s10 s11 HP1 f1 hC f2 f3 f4 hne ga hga _ r3.mem _ p3 (by omega) (by omega) HP3 _ p4 HP4
        · have EL : lastT (setv r3.mem p3 (bits .or .i64 (bits .or .i64 z 32) 64)) host ga 2 ((st1 + 1) + (r3.reads.length : Int)) = ⟨3, ga, 0, ((st1 + 1) + (r3.reads.length : Int)) + (walkV (setv r3.mem p3 (bits .or .i64 (bits .or .i64 z 32) 64)) host ga 2 false).reads.length, (setv r3.mem p3 (bits .or .i64 (bits .or .i64 z 32) 64))⟩ := if_neg hf4
          rw [EL]
          have HP4 := PL_no w (setv r3.mem p3 (bits .or .i64 (bits .or .i64 z 32) 64)) host ((st1 + 1) + (r3.reads.length : Int)) 0 ga 2 hmS r0 hgb (by decide) (by decide) (by omega) (by omega) hf4
          exact specTwo_C2_put_no s host root va user w hm r0 r1 v1 k1 hk1 mem1 st1 p1 z hz hp1 hm1 s10 s11 HP1 f1 hC f2 f3 f4 hne ga hga _ r3.mem _ p3 (by omega) (by omega) HP3 HP4
      · rw [if_neg hf3]
        exact specTwo_C2_nput s host root va user w hm r0 r1 v1 k1 hk1 mem1 st1 p1 z hz hp1 hm1 s10 s11 HP1 f1 hC f2 f3 f4 hne _ (HP3n hf3)
  · have hpa : putA z 3 = bits .or .i64 z 32 := rfl
    rw [hpa]
    by_cases hsame : bits .or .i64 z 32 = z
    · rw [if_pos hsame]
      by_cases hf4 : (walkV mem1 host ga 1 false).fault = 0
      · have EL : lastT mem1 host ga 3 (st1 + 1) = ⟨0, ga, (walkV mem1 host ga 1 false).pa, (st1 + 1) + (walkV mem1 host ga 1 false).reads.length, (walkV mem1 host ga 1 false).mem⟩ := if_pos hf4
        rw [EL]
        have HP4 := PL_yes w mem1 host (st1 + 1) 0 ga 1 hmM r0 hgb (by decide) (by decide) (by omega) (by omega) hf4
        obtain ⟨p4, hp4⟩ := Int.eq_ofNat_of_zero_le (walkV_pa0 mem1 host ga 1 false hf4)
        rw [hp4] at HP4 ⊢
        exact specTwo_C3_same_ok s host root va user w hm r0 r1 v1 k1 hk1 mem1 st1 p1 z hz hp1 hm1 s10 s11 HP1 f1 hC f2 f3 f4 hsame ga hga _ _ p4 HP4
      · have EL : lastT mem1 host ga 3 (st1 + 1) = ⟨3, ga, 0, (st1 + 1) + (walkV mem1 host ga 1 false).reads.length, mem1⟩ := if_neg hf4
        rw [EL]
        have HP4 := PL_no w mem1 host (st1 + 1) 0 ga 1 hmM r0 hgb (by decide) (by decide) (by omega) (by omega) hf4
        exact specTwo_C3_same_no s host root va user w hm r0 r1 v1 k1 hk1 mem1 st1 p1 z hz hp1 hm1 s10 s11 HP1 f1 hC f2 f3 f4 hsame ga hga _ HP4
    · rw [if_neg hsame]
      have hne : (bits .or .i64 z 32 == z) = false := by simpa using hsame
      by_cases hf3 : r3.fault = 0
      · rw [if_pos hf3]
        obtain ⟨q0, q1, q2⟩ := hpa3 hf3
        obtain ⟨p3, hp3⟩ := Int.eq_ofNat_of_zero_le q0
        have HP3 := HP3y hf3
        rw [hp3] at HP3 q1 ⊢
        have ht : Int.toNat (p3 : Int) = p3 := rfl
        rw [ht]
        have hmS : memOk (setv r3.mem p3 (bits .or .i64 z 32)) = true := memOk_size hmM (by rw [setv_size _ _ _ (by omega)]; exact hsz3)
        by_cases hf4 : (walkV (setv r3.mem p3 (bits .or .i64 z 32)) host ga 1 false).fault = 0
        · have EL : lastT (setv r3.mem p3 (bits .or .i64 z 32)) host ga 3 ((st1 + 1) + (r3.reads.length : Int)) = ⟨0, ga, (walkV (setv r3.mem p3 (bits .or .i64 z 32)) host ga 1 false).pa, ((st1 + 1) + (r3.reads.length : Int)) + (walkV (setv r3.mem p3 (bits .or .i64 z 32)) host ga 1 false).reads.length, (walkV (setv r3.mem p3 (bits .or .i64 z 32)) host ga 1 false).mem⟩ := if_pos hf4
          rw [EL]
          have HP4 := PL_yes w (setv r3.mem p3 (bits .or .i64 z 32)) host ((st1 + 1) + (r3.reads.length : Int)) 0 ga 1 hmS r0 hgb (by decide) (by decide) (by omega) (by omega) hf4
          obtain ⟨p4, hp4⟩ := Int.eq_ofNat_of_zero_le (walkV_pa0 (setv r3.mem p3 (bits .or .i64 z 32)) host ga 1 false hf4)
          rw [hp4] at HP4 ⊢
          exact specTwo_C3_put_ok s host root va user w hm r0 r1 v1 k1 hk1 mem1 st1 p1 z hz hp1 hm1 s10 s11 HP1 f1 hC f2 f3 f4 hne ga hga _ r3.mem _ p3 (by omega) (by omega) HP3 _ p4 HP4
        · have EL : lastT (setv r3.mem p3 (bits .or .i64 z 32)) host ga 3 ((st1 + 1) + (r3.reads.length : Int)) = ⟨3, ga, 0, ((st1 + 1) + (r3.reads.length : Int)) + (walkV (setv r3.mem p3 (bits .or .i64 z 32)) host ga 1 false).reads.length, (setv r3.mem p3 (bits .or .i64 z 32))⟩ := if_neg hf4
          rw [EL]
          have HP4 := PL_no w (setv r3.mem p3 (bits .or .i64 z 32)) host ((st1 + 1) + (r3.reads.length : Int)) 0 ga 1 hmS r0 hgb (by decide) (by decide) (by omega) (by omega) hf4
          exact specTwo_C3_put_no s host root va user w hm r0 r1 v1 k1 hk1 mem1 st1 p1 z hz hp1 hm1 s10 s11 HP1 f1 hC f2 f3 f4 hne ga hga _ r3.mem _ p3 (by omega) (by omega) HP3 HP4
      · rw [if_neg hf3]
        exact specTwo_C3_nput s host root va user w hm r0 r1 v1 k1 hk1 mem1 st1 p1 z hz hp1 hm1 s10 s11 HP1 f1 hC f2 f3 f4 hne _ (HP3n hf3)
end Go.Proofs.Ytfagohdmepnkkaa
