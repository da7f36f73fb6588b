import Derived.Test.YtjaelkagacmpkaaPTwoM
import Derived.Test.YtjaelkagacmpkaaSTwoC0
import Derived.Test.YtjaelkagacmpkaaSTwoC1
import Derived.Test.YtjaelkagacmpkaaSTwoC2
import Derived.Test.YtjaelkagacmpkaaSTwoC3
import Derived.Test.YtjaelkagacmpkaaSTwoB0
import Derived.Test.YtjaelkagacmpkaaSTwoB1
import Derived.Test.YtjaelkagacmpkaaSTwoB2
import Derived.Test.YtjaelkagacmpkaaSTwoB3
import Derived.Test.YtjaelkagacmpkaaSTwoA
namespace Go.Proofs.Ytjaelkagacmpkaa
open Go.ChangeShapes Go.WideShapes Go.ChangeAt Go.RowKit

theorem specTwo_C (s : ByteArray) (host root va : Nat) (acc : Int) (user : Bool) (w : World) (hm : memOk s = true) (r0 : host ≤ 255) (r1 : root ≤ 255) (v1 : va ≤ 262143) (a1 : 1 ≤ acc) (a2 : acc ≤ 3) (k1 : Nat) (hk1 : Hid (k1 = root * 256 + 4 * (va / 8192))) (mem1 : ByteArray) (st1 : Int) (p1 : Nat) (z : Int) (hz : wv mem1 p1 = z) (hp1 : p1 + 4 ≤ mem1.size) (hm1 : mem1.size ≤ 65536) (s10 : 0 ≤ st1) (s11 : st1 ≤ 100) (HP1 : Hid (PL w ⟨s, host, 0, 0⟩ k1 1 (p1 : Int) ⟨mem1, host, st1, 0⟩)) (hC : ¬ z % 16 = 1) (hmM : memOk mem1 = true) (kb : k1 ≤ 262143) (k4 : k1 % 4 = 0) :
    Calls Try.prog 14 #[.string s, .int .i64 host, .int .i64 root, .int .i64 va, .int .i64 acc, .bool user] w fun e w' => e = .returned (twA (tailT mem1 host k1 z true va acc user (st1 + 1))) ∧ Below w.heap.size w w' := by
  obtain ⟨z0, z1⟩ := wv_b mem1 p1
  rw [hz] at z0 z1
  have hms := memOk_b hmM
  have bad : goodV z acc user true = false → tailT mem1 host k1 z true va acc user (st1 + 1) = ⟨1, 0, 0, (st1 + 1), mem1⟩ := fun h => if_neg (by rw [h]; decide)
  by_cases f1 : z % 2 = 0
  · rw [bad (by simp [goodV, f1])]
    exact specTwo_C_even s host root va acc user w hm r0 r1 v1 a1 a2 k1 hk1 mem1 st1 p1 z hz hp1 hm1 s10 s11 HP1 f1
  have f1 : z % 2 = 1 := by omega
  by_cases f2 : z / 256 % 32 = 0
  case neg =>
    rw [bad (by simp [goodV, f2])]
    exact specTwo_C_odd s host root va acc user w hm r0 r1 v1 a1 a2 k1 hk1 mem1 st1 p1 z hz hp1 hm1 s10 s11 HP1 f1 hC f2
  by_cases f3 : mayV z acc user = true
  case neg =>
    have f3 : mayV z acc user = false := by simpa using f3
    rw [bad (by simp [goodV, f3])]
    exact specTwo_C_may s host root va acc user w hm r0 r1 v1 a1 a2 k1 hk1 mem1 st1 p1 z hz hp1 hm1 s10 s11 HP1 f1 hC f2 f3
  have hg : goodV z acc user true = true := by simp [goodV, f1, f3, f2]
  by_cases f4 : (z / 256 + (va : Int) / 256 % 32) < 1024
  case neg =>
    have E : tailT mem1 host k1 z true va acc user (st1 + 1) = ⟨2, 0, 0, (st1 + 1), mem1⟩ := (if_pos hg).trans (if_neg f4)
    rw [E]
    exact specTwo_C_far s host root va acc user w hm r0 r1 v1 a1 a2 k1 hk1 mem1 st1 p1 z hz hp1 hm1 s10 s11 HP1 f1 hC f2 f3 (by omega)
  obtain ⟨ga, hga⟩ : ∃ ga : Nat, (z / 256 + (va : Int) / 256 % 32) * 256 + (va : Int) % 256 = (ga : Int) := Int.eq_ofNat_of_zero_le (by omega)
  have hgb : ga ≤ 262143 := by omega
  have hgt : ((z / 256 + (va : Int) / 256 % 32) * 256 + (va : Int) % 256).toNat = ga := by rw [hga]; rfl
  have E : tailT mem1 host k1 z true va acc user (st1 + 1) = if putA z acc = z then lastT mem1 host ga acc (st1 + 1)
      else if (walkV mem1 host k1 2 false).fault = 0 then lastT (setv (walkV mem1 host k1 2 false).mem (walkV mem1 host k1 2 false).pa.toNat (putA z acc)) host ga acc ((st1 + 1) + (walkV mem1 host k1 2 false).reads.length)
      else ⟨3, k1, 0, (st1 + 1) + (walkV mem1 host k1 2 false).reads.length, mem1⟩ := by
    rw [← hgt]
    exact (if_pos hg).trans (if_pos f4)
  rw [E]
  clear E bad hg
  have hpa3 := fun hf => walkV_pa mem1 host k1 2 false hf k4
  have hsz3 := walkV_size mem1 host k1 2 false kb
  have hln3 := walkV_len mem1 host k1 2 false
  have HP3y := fun hf => PL_yes w mem1 host (st1 + 1) 0 k1 2 hmM r0 kb (by decide) (by decide) (by omega) (by omega) hf
  have HP3n := fun hf => PL_no w mem1 host (st1 + 1) 0 k1 2 hmM r0 kb (by decide) (by decide) (by omega) (by omega) hf
  obtain ⟨r3, hr3⟩ : ∃ r, walkV mem1 host k1 2 false = r := ⟨_, rfl⟩
  rw [hr3] at hpa3 hsz3 hln3 HP3y HP3n ⊢
  clear hr3
  obtain rfl | rfl | rfl : acc = 1 ∨ acc = 2 ∨ acc = 3 := by omega
  · have hpa : putA z 1 = bits .or .i64 z 32 := rfl
    rw [hpa]
    by_cases hsame : bits .or .i64 z 32 = z
    · rw [if_pos hsame]
      by_cases hf4 : (walkV mem1 host ga 1 false).fault = 0
      · have EL : lastT mem1 host ga 1 (st1 + 1) = ⟨0, ga, (walkV mem1 host ga 1 false).pa, (st1 + 1) + (walkV mem1 host ga 1 false).reads.length, (walkV mem1 host ga 1 false).mem⟩ := if_pos hf4
        rw [EL]
        have HP4 := PL_yes w mem1 host (st1 + 1) 0 ga 1 hmM r0 hgb (by decide) (by decide) (by omega) (by omega) hf4
        obtain ⟨p4, hp4⟩ := Int.eq_ofNat_of_zero_le (walkV_pa0 mem1 host ga 1 false hf4)
        rw [hp4] at HP4 ⊢
        exact specTwo_C1_same_ok s host root va user w hm r0 r1 v1 k1 hk1 mem1 st1 p1 z hz hp1 hm1 s10 s11 HP1 f1 hC f2 f3 f4 hsame ga hga _ _ p4 HP4
      · have EL : lastT mem1 host ga 1 (st1 + 1) = ⟨3, ga, 0, (st1 + 1) + (walkV mem1 host ga 1 false).reads.length, mem1⟩ := if_neg hf4
        rw [EL]
        have HP4 := PL_no w mem1 host (st1 + 1) 0 ga 1 hmM r0 hgb (by decide) (by decide) (by omega) (by omega) hf4
        exact specTwo_C1_same_no s host root va user w hm r0 r1 v1 k1 hk1 mem1 st1 p1 z hz hp1 hm1 s10 s11 HP1 f1 hC f2 f3 f4 hsame ga hga _ HP4
    · rw [if_neg hsame]
      have hne : (bits .or .i64 z 32 == z) = false := by simpa using hsame
      by_cases hf3 : r3.fault = 0
      · rw [if_pos hf3]
        obtain ⟨q0, q1, q2⟩ := hpa3 hf3
        obtain ⟨p3, hp3⟩ := Int.eq_ofNat_of_zero_le q0
        have HP3 := HP3y hf3
        rw [hp3] at HP3 q1 ⊢
        have ht : Int.toNat (p3 : Int) = p3 := rfl
        rw [ht]
        have hmS : memOk (setv r3.mem p3 (bits .or .i64 z 32)) = true := memOk_size hmM (by rw [setv_size _ _ _ (by omega)]; exact hsz3)
        by_cases hf4 : (walkV (setv r3.mem p3 (bits .or .i64 z 32)) host ga 1 false).fault = 0
        · have EL : lastT (setv r3.mem p3 (bits .or .i64 z 32)) host ga 1 ((st1 + 1) + (r3.reads.length : Int)) = ⟨0, ga, (walkV (setv r3.mem p3 (bits .or .i64 z 32)) host ga 1 false).pa, ((st1 + 1) + (r3.reads.length : Int)) + (walkV (setv r3.mem p3 (bits .or .i64 z 32)) host ga 1 false).reads.length, (walkV (setv r3.mem p3 (bits .or .i64 z 32)) host ga 1 false).mem⟩ := if_pos hf4
          rw [EL]
          have HP4 := PL_yes w (setv r3.mem p3 (bits .or .i64 z 32)) host ((st1 + 1) + (r3.reads.length : Int)) 0 ga 1 hmS r0 hgb (by decide) (by decide) (by omega) (by omega) hf4
          obtain ⟨p4, hp4⟩ := Int.eq_ofNat_of_zero_le (walkV_pa0 (setv r3.mem p3 (bits .or .i64 z 32)) host ga 1 false hf4)
          rw [hp4] at HP4 ⊢
          exact specTwo_C1_put_ok s host root va user w hm r0 r1 v1 k1 hk1 mem1 st1 p1 z hz hp1 hm1 s10 s11 HP1 f1 hC f2 f3 f4 hne ga hga _ r3.mem _ p3 (by omega) (by omega) HP3 _ p4 HP4
        · have EL : lastT (setv r3.mem p3 (bits .or .i64 z 32)) host ga 1 ((st1 + 1) + (r3.reads.length : Int)) = ⟨3, ga, 0, ((st1 + 1) + (r3.reads.length : Int)) + (walkV (setv r3.mem p3 (bits .or .i64 z 32)) host ga 1 false).reads.length, (setv r3.mem p3 (bits .or .i64 z 32))⟩ := if_neg hf4
          rw [EL]
          have HP4 := PL_no w (setv r3.mem p3 (bits .or .i64 z 32)) host ((st1 + 1) + (r3.reads.length : Int)) 0 ga 1 hmS r0 hgb (by decide) (by decide) (by omega) (by omega) hf4
          exact specTwo_C1_put_no s host root va user w hm r0 r1 v1 k1 hk1 mem1 st1 p1 z hz hp1 hm1 s10 s11 HP1 f1 hC f2 f3 f4 hne ga hga _ r3.mem _ p3 (by omega) (by omega) HP3 HP4
      · rw [if_neg hf3]
        exact specTwo_C1_nput s host root va user w hm r0 r1 v1 k1 hk1 mem1 st1 p1 z hz hp1 hm1 s10 s11 HP1 f1 hC f2 f3 f4 hne _ (HP3n hf3)
  · have hpa : putA z 2 = bits .or .i64 (bits .or .i64 z 32) 64 := rfl
    rw [hpa]
    by_cases hsame : bits .or .i64 (bits .or .i64 z 32) 64 = z
    · rw [if_pos hsame]
      by_cases hf4 : (walkV mem1 host ga 2 false).fault = 0
      · have EL : lastT mem1 host ga 2 (st1 + 1) = ⟨0, ga, (walkV mem1 host ga 2 false).pa, (st1 + 1) + (walkV mem1 host ga 2 false).reads.length, (walkV mem1 host ga 2 false).mem⟩ := if_pos hf4
        rw [EL]
        have HP4 := PL_yes w mem1 host (st1 + 1) 0 ga 2 hmM r0 hgb (by decide) (by decide) (by omega) (by omega) hf4
        obtain ⟨p4, hp4⟩ := Int.eq_ofNat_of_zero_le (walkV_pa0 mem1 host ga 2 false hf4)
        rw [hp4] at HP4 ⊢
        exact specTwo_C2_same_ok s host root va user w hm r0 r1 v1 k1 hk1 mem1 st1 p1 z hz hp1 hm1 s10 s11 HP1 f1 hC f2 f3 f4 hsame ga hga _ _ p4 HP4
      · have EL : lastT mem1 host ga 2 (st1 + 1) = ⟨3, ga, 0, (st1 + 1) + (walkV mem1 host ga 2 false).reads.length, mem1⟩ := if_neg hf4
        rw [EL]
        have HP4 := PL_no w mem1 host (st1 + 1) 0 ga 2 hmM r0 hgb (by decide) (by decide) (by omega) (by omega) hf4
        exact specTwo_C2_same_no s host root va user w hm r0 r1 v1 k1 hk1 mem1 st1 p1 z hz hp1 hm1 s10 s11 HP1 f1 hC f2 f3 f4 hsame ga hga _ HP4
    · rw [if_neg hsame]
      have hne : (bits .or .i64 (bits .or .i64 z 32) 64 == z) = false := by simpa using hsame
      by_cases hf3 : r3.fault = 0
      · rw [if_pos hf3]
        obtain ⟨q0, q1, q2⟩ := hpa3 hf3
        obtain ⟨p3, hp3⟩ := Int.eq_ofNat_of_zero_le q0
        have HP3 := HP3y hf3
        rw [hp3] at HP3 q1 ⊢
        have ht : Int.toNat (p3 : Int) = p3 := rfl
        rw [ht]
        have hmS : memOk (setv r3.mem p3 (bits .or .i64 (bits .or .i64 z 32) 64)) = true := memOk_size hmM (by rw [setv_size _ _ _ (by omega)]; exact hsz3)
        by_cases hf4 : (walkV (setv r3.mem p3 (bits .or .i64 (bits .or .i64 z 32) 64)) host ga 2 false).fault = 0
        · have EL : lastT (setv r3.mem p3 (bits .or .i64 (bits .or .i64 z 32) 64)) host ga 2 ((st1 + 1) + (r3.reads.length : Int)) = ⟨0, ga, (walkV (setv r3.mem p3 (bits .or .i64 (bits .or .i64 z 32) 64)) host ga 2 false).pa, ((st1 + 1) + (r3.reads.length : Int)) + (walkV (setv r3.mem p3 (bits .or .i64 (bits .or .i64 z 32) 64)) host ga 2 false).reads.length, (walkV (setv r3.mem p3 (bits .or .i64 (bits .or .i64 z 32) 64)) host ga 2 false).mem⟩ := if_pos hf4
          rw [EL]
          have HP4 := PL_yes w (setv r3.mem p3 (bits .or .i64 (bits .or .i64 z 32) 64)) host ((st1 + 1) + (r3.reads.length : Int)) 0 ga 2 hmS r0 hgb (by decide) (by decide) (by omega) (by omega) hf4
          obtain ⟨p4, hp4⟩ := Int.eq_ofNat_of_zero_le (walkV_pa0 (setv r3.mem p3 (bits .or .i64 (bits .or .i64 z 32) 64)) host ga 2 false hf4)
          rw [hp4] at HP4 ⊢
          exact specTwo_C2_put_ok s host root va user w hm r0 r1 v1 k1 hk1 mem1 st1 p1 z hz hp1 hm1 s10 s11 HP1 f1 hC f2 f3 f4 hne ga hga _ r3.mem _ p3 (by omega) (by omega) HP3 _ p4 HP4
        · have EL : lastT (setv r3.mem p3 (bits .or .i64 (bits .or .i64 z 32) 64)) host ga 2 ((st1 + 1) + (r3.reads.length : Int)) = ⟨3, ga, 0, ((st1 + 1) + (r3.reads.length : Int)) + (walkV (setv r3.mem p3 (bits .or .i64 (bits .or .i64 z 32) 64)) host ga 2 false).reads.length, (setv r3.mem p3 (bits .or .i64 (bits .or .i64 z 32) 64))⟩ := if_neg hf4
          rw [EL]
          have HP4 := PL_no w (setv r3.mem p3 (bits .or .i64 (bits .or .i64 z 32) 64)) host ((st1 + 1) + (r3.reads.length : Int)) 0 ga 2 hmS r0 hgb (by decide) (by decide) (by omega) (by omega) hf4
          exact specTwo_C2_put_no s host root va user w hm r0 r1 v1 k1 hk1 mem1 st1 p1 z hz hp1 hm1 s10 s11 HP1 f1 hC f2 f3 f4 hne ga hga _ r3.mem _ p3 (by omega) (by omega) HP3 HP4
      · rw [if_neg hf3]
        exact specTwo_C2_nput s host root va user w hm r0 r1 v1 k1 hk1 mem1 st1 p1 z hz hp1 hm1 s10 s11 HP1 f1 hC f2 f3 f4 hne _ (HP3n hf3)
  · have hpa : putA z 3 = bits .or .i64 z 32 := rfl
    rw [hpa]
    by_cases hsame : bits .or .i64 z 32 = z
    · rw [if_pos hsame]
      by_cases hf4 : (walkV mem1 host ga 1 false).fault = 0
      · have EL : lastT mem1 host ga 3 (st1 + 1) = ⟨0, ga, (walkV mem1 host ga 1 false).pa, (st1 + 1) + (walkV mem1 host ga 1 false).reads.length, (walkV mem1 host ga 1 false).mem⟩ := if_pos hf4
        rw [EL]
        have HP4 := PL_yes w mem1 host (st1 + 1) 0 ga 1 hmM r0 hgb (by decide) (by decide) (by omega) (by omega) hf4
        obtain ⟨p4, hp4⟩ := Int.eq_ofNat_of_zero_le (walkV_pa0 mem1 host ga 1 false hf4)
        rw [hp4] at HP4 ⊢
        exact specTwo_C3_same_ok s host root va user w hm r0 r1 v1 k1 hk1 mem1 st1 p1 z hz hp1 hm1 s10 s11 HP1 f1 hC f2 f3 f4 hsame ga hga _ _ p4 HP4
      · have EL : lastT mem1 host ga 3 (st1 + 1) = ⟨3, ga, 0, (st1 + 1) + (walkV mem1 host ga 1 false).reads.length, mem1⟩ := if_neg hf4
        rw [EL]
        have HP4 := PL_no w mem1 host (st1 + 1) 0 ga 1 hmM r0 hgb (by decide) (by decide) (by omega) (by omega) hf4
        exact specTwo_C3_same_no s host root va user w hm r0 r1 v1 k1 hk1 mem1 st1 p1 z hz hp1 hm1 s10 s11 HP1 f1 hC f2 f3 f4 hsame ga hga _ HP4
    · rw [if_neg hsame]
      have hne : (bits .or .i64 z 32 == z) = false := by simpa using hsame
      by_cases hf3 : r3.fault = 0
      · rw [if_pos hf3]
        obtain ⟨q0, q1, q2⟩ := hpa3 hf3
        obtain ⟨p3, hp3⟩ := Int.eq_ofNat_of_zero_le q0
        have HP3 := HP3y hf3
        rw [hp3] at HP3 q1 ⊢
        have ht : Int.toNat (p3 : Int) = p3 := rfl
        rw [ht]
        have hmS : memOk (setv r3.mem p3 (bits .or .i64 z 32)) = true := memOk_size hmM (by rw [setv_size _ _ _ (by omega)]; exact hsz3)
        by_cases hf4 : (walkV (setv r3.mem p3 (bits .or .i64 z 32)) host ga 1 false).fault = 0
        · have EL : lastT (setv r3.mem p3 (bits .or .i64 z 32)) host ga 3 ((st1 + 1) + (r3.reads.length : Int)) = ⟨0, ga, (walkV (setv r3.mem p3 (bits .or .i64 z 32)) host ga 1 false).pa, ((st1 + 1) + (r3.reads.length : Int)) + (walkV (setv r3.mem p3 (bits .or .i64 z 32)) host ga 1 false).reads.length, (walkV (setv r3.mem p3 (bits .or .i64 z 32)) host ga 1 false).mem⟩ := if_pos hf4
          rw [EL]
          have HP4 := PL_yes w (setv r3.mem p3 (bits .or .i64 z 32)) host ((st1 + 1) + (r3.reads.length : Int)) 0 ga 1 hmS r0 hgb (by decide) (by decide) (by omega) (by omega) hf4
          obtain ⟨p4, hp4⟩ := Int.eq_ofNat_of_zero_le (walkV_pa0 (setv r3.mem p3 (bits .or .i64 z 32)) host ga 1 false hf4)
          rw [hp4] at HP4 ⊢
          exact specTwo_C3_put_ok s host root va user w hm r0 r1 v1 k1 hk1 mem1 st1 p1 z hz hp1 hm1 s10 s11 HP1 f1 hC f2 f3 f4 hne ga hga _ r3.mem _ p3 (by omega) (by omega) HP3 _ p4 HP4
        · have EL : lastT (setv r3.mem p3 (bits .or .i64 z 32)) host ga 3 ((st1 + 1) + (r3.reads.length : Int)) = ⟨3, ga, 0, ((st1 + 1) + (r3.reads.length : Int)) + (walkV (setv r3.mem p3 (bits .or .i64 z 32)) host ga 1 false).reads.length, (setv r3.mem p3 (bits .or .i64 z 32))⟩ := if_neg hf4
          rw [EL]
          have HP4 := PL_no w (setv r3.mem p3 (bits .or .i64 z 32)) host ((st1 + 1) + (r3.reads.length : Int)) 0 ga 1 hmS r0 hgb (by decide) (by decide) (by omega) (by omega) hf4
          exact specTwo_C3_put_no s host root va user w hm r0 r1 v1 k1 hk1 mem1 st1 p1 z hz hp1 hm1 s10 s11 HP1 f1 hC f2 f3 f4 hne ga hga _ r3.mem _ p3 (by omega) (by omega) HP3 HP4
      · rw [if_neg hf3]
        exact specTwo_C3_nput s host root va user w hm r0 r1 v1 k1 hk1 mem1 st1 p1 z hz hp1 hm1 s10 s11 HP1 f1 hC f2 f3 f4 hne _ (HP3n hf3)

theorem specTwo_B (s : ByteArray) (host root va : Nat) (acc : Int) (user : Bool) (w : World) (hm : memOk s = true) (r0 : host ≤ 255) (r1 : root ≤ 255) (v1 : va ≤ 262143) (a1 : 1 ≤ acc) (a2 : acc ≤ 3) (k1 : Nat) (hk1 : Hid (k1 = root * 256 + 4 * (va / 8192))) (mem1 : ByteArray) (st1 : Int) (p1 : Nat) (y : Int) (hy : wv mem1 p1 = y) (hp1 : p1 + 4 ≤ mem1.size) (hm1 : mem1.size ≤ 65536) (s10 : 0 ≤ st1) (s11 : st1 ≤ 100) (HP1 : Hid (PL w ⟨s, host, 0, 0⟩ k1 1 (p1 : Int) ⟨mem1, host, st1, 0⟩)) (h16 : y % 16 = 1) (T : Nat) (hT : y / 256 = (T : Int)) (hT2 : T < 1024) (k2 : Nat) (hk2 : Hid (k2 = T * 256 + 4 * (va / 256 % 32))) (mem2 : ByteArray) (st2 : Int) (p2 : Nat) (z : Int) (hz : wv mem2 p2 = z) (hp2 : p2 + 4 ≤ mem2.size) (hm2 : mem2.size ≤ 65536) (s20 : 0 ≤ st2) (s21 : st2 ≤ 100) (HP2 : Hid (PL w ⟨mem1, host, st1 + 1, 0⟩ k2 1 (p2 : Int) ⟨mem2, host, st2, 0⟩)) (hmM : memOk mem2 = true) (kb : k2 ≤ 262143) (k4 : k2 % 4 = 0) :
    Calls Try.prog 14 #[.string s, .int .i64 host, .int .i64 root, .int .i64 va, .int .i64 acc, .bool user] w fun e w' => e = .returned (twA (tailT mem2 host k2 z false va acc user (st2 + 1))) ∧ Below w.heap.size w w' := by
  obtain ⟨z0, z1⟩ := wv_b mem2 p2
  rw [hz] at z0 z1
  have hms := memOk_b hmM
  have bad : goodV z acc user false = false → tailT mem2 host k2 z false va acc user (st2 + 1) = ⟨1, 0, 0, (st2 + 1), mem2⟩ := fun h => if_neg (by rw [h]; decide)
  by_cases f1 : z % 2 = 0
  · rw [bad (by simp [goodV, f1])]
    exact specTwo_B_even s host root va acc user w hm r0 r1 v1 a1 a2 k1 hk1 mem1 st1 p1 y hy hp1 hm1 s10 s11 HP1 h16 T hT hT2 k2 hk2 mem2 st2 p2 z hz hp2 hm2 s20 s21 HP2 f1
  have f1 : z % 2 = 1 := by omega
  by_cases hC : z % 16 = 1
  · have hmay : mayV z acc user = false := by
      have e1 : z / 2 % 2 = 0 := by omega
      have e2 : z / 4 % 2 = 0 := by omega
      have e3 : z / 8 % 2 = 0 := by omega
      simp [mayV, e1, e2, e3]
    rw [bad (by simp [goodV, hmay])]
    exact specTwo_B_table s host root va acc user w hm r0 r1 v1 a1 a2 k1 hk1 mem1 st1 p1 y hy hp1 hm1 s10 s11 HP1 h16 T hT hT2 k2 hk2 mem2 st2 p2 z hz hp2 hm2 s20 s21 HP2 hC
  by_cases f3 : mayV z acc user = true
  case neg =>
    have f3 : mayV z acc user = false := by simpa using f3
    rw [bad (by simp [goodV, f3])]
    exact specTwo_B_may s host root va acc user w hm r0 r1 v1 a1 a2 k1 hk1 mem1 st1 p1 y hy hp1 hm1 s10 s11 HP1 h16 T hT hT2 k2 hk2 mem2 st2 p2 z hz hp2 hm2 s20 s21 HP2 f1 hC f3
  have hg : goodV z acc user false = true := by simp [goodV, f1, f3]
  by_cases f4 : (z / 256) < 1024
  case neg =>
    have E : tailT mem2 host k2 z false va acc user (st2 + 1) = ⟨2, 0, 0, (st2 + 1), mem2⟩ := (if_pos hg).trans (if_neg f4)
    rw [E]
    exact specTwo_B_far s host root va acc user w hm r0 r1 v1 a1 a2 k1 hk1 mem1 st1 p1 y hy hp1 hm1 s10 s11 HP1 h16 T hT hT2 k2 hk2 mem2 st2 p2 z hz hp2 hm2 s20 s21 HP2 f1 hC f3 (by omega)
  obtain ⟨ga, hga⟩ : ∃ ga : Nat, (z / 256) * 256 + (va : Int) % 256 = (ga : Int) := Int.eq_ofNat_of_zero_le (by omega)
  have hgb : ga ≤ 262143 := by omega
  have hgt : ((z / 256) * 256 + (va : Int) % 256).toNat = ga := by rw [hga]; rfl
  have E : tailT mem2 host k2 z false va acc user (st2 + 1) = if putA z acc = z then lastT mem2 host ga acc (st2 + 1)
      else if (walkV mem2 host k2 2 false).fault = 0 then lastT (setv (walkV mem2 host k2 2 false).mem (walkV mem2 host k2 2 false).pa.toNat (putA z acc)) host ga acc ((st2 + 1) + (walkV mem2 host k2 2 false).reads.length)
      else ⟨3, k2, 0, (st2 + 1) + (walkV mem2 host k2 2 false).reads.length, mem2⟩ := by
    rw [← hgt]
    exact (if_pos hg).trans (if_pos f4)
  rw [E]
  clear E bad hg
  have hpa3 := fun hf => walkV_pa mem2 host k2 2 false hf k4
  have hsz3 := walkV_size mem2 host k2 2 false kb
  have hln3 := walkV_len mem2 host k2 2 false
  have HP3y := fun hf => PL_yes w mem2 host (st2 + 1) 0 k2 2 hmM r0 kb (by decide) (by decide) (by omega) (by omega) hf
  have HP3n := fun hf => PL_no w mem2 host (st2 + 1) 0 k2 2 hmM r0 kb (by decide) (by decide) (by omega) (by omega) hf
  obtain ⟨r3, hr3⟩ : ∃ r, walkV mem2 host k2 2 false = r := ⟨_, rfl⟩
  rw [hr3] at hpa3 hsz3 hln3 HP3y HP3n ⊢
  clear hr3
  obtain rfl | rfl | rfl : acc = 1 ∨ acc = 2 ∨ acc = 3 := by omega
  · have hpa : putA z 1 = bits .or .i64 z 32 := rfl
    rw [hpa]
    by_cases hsame : bits .or .i64 z 32 = z
    · rw [if_pos hsame]
      by_cases hf4 : (walkV mem2 host ga 1 false).fault = 0
      · have EL : lastT mem2 host ga 1 (st2 + 1) = ⟨0, ga, (walkV mem2 host ga 1 false).pa, (st2 + 1) + (walkV mem2 host ga 1 false).reads.length, (walkV mem2 host ga 1 false).mem⟩ := if_pos hf4
        rw [EL]
        have HP4 := PL_yes w mem2 host (st2 + 1) 0 ga 1 hmM r0 hgb (by decide) (by decide) (by omega) (by omega) hf4
        obtain ⟨p4, hp4⟩ := Int.eq_ofNat_of_zero_le (walkV_pa0 mem2 host ga 1 false hf4)
        rw [hp4] at HP4 ⊢
        exact specTwo_B1_same_ok s host root va user w hm r0 r1 v1 k1 hk1 mem1 st1 p1 y hy hp1 hm1 s10 s11 HP1 h16 T hT hT2 k2 hk2 mem2 st2 p2 z hz hp2 hm2 s20 s21 HP2 f1 hC f3 f4 hsame ga hga _ _ p4 HP4
      · have EL : lastT mem2 host ga 1 (st2 + 1) = ⟨3, ga, 0, (st2 + 1) + (walkV mem2 host ga 1 false).reads.length, mem2⟩ := if_neg hf4
        rw [EL]
        have HP4 := PL_no w mem2 host (st2 + 1) 0 ga 1 hmM r0 hgb (by decide) (by decide) (by omega) (by omega) hf4
        exact specTwo_B1_same_no s host root va user w hm r0 r1 v1 k1 hk1 mem1 st1 p1 y hy hp1 hm1 s10 s11 HP1 h16 T hT hT2 k2 hk2 mem2 st2 p2 z hz hp2 hm2 s20 s21 HP2 f1 hC f3 f4 hsame ga hga _ HP4
    · rw [if_neg hsame]
      have hne : (bits .or .i64 z 32 == z) = false := by simpa using hsame
      by_cases hf3 : r3.fault = 0
      · rw [if_pos hf3]
        obtain ⟨q0, q1, q2⟩ := hpa3 hf3
        obtain ⟨p3, hp3⟩ := Int.eq_ofNat_of_zero_le q0
        have HP3 := HP3y hf3
        rw [hp3] at HP3 q1 ⊢
        have ht : Int.toNat (p3 : Int) = p3 := rfl
        rw [ht]
        have hmS : memOk (setv r3.mem p3 (bits .or .i64 z 32)) = true := memOk_size hmM (by rw [setv_size _ _ _ (by omega)]; exact hsz3)
        by_cases hf4 : (walkV (setv r3.mem p3 (bits .or .i64 z 32)) host ga 1 false).fault = 0
        · have EL : lastT (setv r3.mem p3 (bits .or .i64 z 32)) host ga 1 ((st2 + 1) + (r3.reads.length : Int)) = ⟨0, ga, (walkV (setv r3.mem p3 (bits .or .i64 z 32)) host ga 1 false).pa, ((st2 + 1) + (r3.reads.length : Int)) + (walkV (setv r3.mem p3 (bits .or .i64 z 32)) host ga 1 false).reads.length, (walkV (setv r3.mem p3 (bits .or .i64 z 32)) host ga 1 false).mem⟩ := if_pos hf4
          rw [EL]
          have HP4 := PL_yes w (setv r3.mem p3 (bits .or .i64 z 32)) host ((st2 + 1) + (r3.reads.length : Int)) 0 ga 1 hmS r0 hgb (by decide) (by decide) (by omega) (by omega) hf4
          obtain ⟨p4, hp4⟩ := Int.eq_ofNat_of_zero_le (walkV_pa0 (setv r3.mem p3 (bits .or .i64 z 32)) host ga 1 false hf4)
          rw [hp4] at HP4 ⊢
          exact specTwo_B1_put_ok s host root va user w hm r0 r1 v1 k1 hk1 mem1 st1 p1 y hy hp1 hm1 s10 s11 HP1 h16 T hT hT2 k2 hk2 mem2 st2 p2 z hz hp2 hm2 s20 s21 HP2 f1 hC f3 f4 hne ga hga _ r3.mem _ p3 (by omega) (by omega) HP3 _ p4 HP4
        · have EL : lastT (setv r3.mem p3 (bits .or .i64 z 32)) host ga 1 ((st2 + 1) + (r3.reads.length : Int)) = ⟨3, ga, 0, ((st2 + 1) + (r3.reads.length : Int)) + (walkV (setv r3.mem p3 (bits .or .i64 z 32)) host ga 1 false).reads.length, (setv r3.mem p3 (bits .or .i64 z 32))⟩ := if_neg hf4
          rw [EL]
          have HP4 := PL_no w (setv r3.mem p3 (bits .or .i64 z 32)) host ((st2 + 1) + (r3.reads.length : Int)) 0 ga 1 hmS r0 hgb (by decide) (by decide) (by omega) (by omega) hf4
          exact specTwo_B1_put_no s host root va user w hm r0 r1 v1 k1 hk1 mem1 st1 p1 y hy hp1 hm1 s10 s11 HP1 h16 T hT hT2 k2 hk2 mem2 st2 p2 z hz hp2 hm2 s20 s21 HP2 f1 hC f3 f4 hne ga hga _ r3.mem _ p3 (by omega) (by omega) HP3 HP4
      · rw [if_neg hf3]
        exact specTwo_B1_nput s host root va user w hm r0 r1 v1 k1 hk1 mem1 st1 p1 y hy hp1 hm1 s10 s11 HP1 h16 T hT hT2 k2 hk2 mem2 st2 p2 z hz hp2 hm2 s20 s21 HP2 f1 hC f3 f4 hne _ (HP3n hf3)
  · have hpa : putA z 2 = bits .or .i64 (bits .or .i64 z 32) 64 := rfl
    rw [hpa]
    by_cases hsame : bits .or .i64 (bits .or .i64 z 32) 64 = z
    · rw [if_pos hsame]
      by_cases hf4 : (walkV mem2 host ga 2 false).fault = 0
      · have EL : lastT mem2 host ga 2 (st2 + 1) = ⟨0, ga, (walkV mem2 host ga 2 false).pa, (st2 + 1) + (walkV mem2 host ga 2 false).reads.length, (walkV mem2 host ga 2 false).mem⟩ := if_pos hf4
        rw [EL]
        have HP4 := PL_yes w mem2 host (st2 + 1) 0 ga 2 hmM r0 hgb (by decide) (by decide) (by omega) (by omega) hf4
        obtain ⟨p4, hp4⟩ := Int.eq_ofNat_of_zero_le (walkV_pa0 mem2 host ga 2 false hf4)
        rw [hp4] at HP4 ⊢
        exact specTwo_B2_same_ok s host root va user w hm r0 r1 v1 k1 hk1 mem1 st1 p1 y hy hp1 hm1 s10 s11 HP1 h16 T hT hT2 k2 hk2 mem2 st2 p2 z hz hp2 hm2 s20 s21 HP2 f1 hC f3 f4 hsame ga hga _ _ p4 HP4
      · have EL : lastT mem2 host ga 2 (st2 + 1) = ⟨3, ga, 0, (st2 + 1) + (walkV mem2 host ga 2 false).reads.length, mem2⟩ := if_neg hf4
        rw [EL]
        have HP4 := PL_no w mem2 host (st2 + 1) 0 ga 2 hmM r0 hgb (by decide) (by decide) (by omega) (by omega) hf4
        exact specTwo_B2_same_no s host root va user w hm r0 r1 v1 k1 hk1 mem1 st1 p1 y hy hp1 hm1 s10 s11 HP1 h16 T hT hT2 k2 hk2 mem2 st2 p2 z hz hp2 hm2 s20 s21 HP2 f1 hC f3 f4 hsame ga hga _ HP4
    · rw [if_neg hsame]
      have hne : (bits .or .i64 (bits .or .i64 z 32) 64 == z) = false := by simpa using hsame
      by_cases hf3 : r3.fault = 0
      · rw [if_pos hf3]
        obtain ⟨q0, q1, q2⟩ := hpa3 hf3
        obtain ⟨p3, hp3⟩ := Int.eq_ofNat_of_zero_le q0
        have HP3 := HP3y hf3
        rw [hp3] at HP3 q1 ⊢
        have ht : Int.toNat (p3 : Int) = p3 := rfl
        rw [ht]
        have hmS : memOk (setv r3.mem p3 (bits .or .i64 (bits .or .i64 z 32) 64)) = true := memOk_size hmM (by rw [setv_size _ _ _ (by omega)]; exact hsz3)
        by_cases hf4 : (walkV (setv r3.mem p3 (bits .or .i64 (bits .or .i64 z 32) 64)) host ga 2 false).fault = 0
        · have EL : lastT (setv r3.mem p3 (bits .or .i64 (bits .or .i64 z 32) 64)) host ga 2 ((st2 + 1) + (r3.reads.length : Int)) = ⟨0, ga, (walkV (setv r3.mem p3 (bits .or .i64 (bits .or .i64 z 32) 64)) host ga 2 false).pa, ((st2 + 1) + (r3.reads.length : Int)) + (walkV (setv r3.mem p3 (bits .or .i64 (bits .or .i64 z 32) 64)) host ga 2 false).reads.length, (walkV (setv r3.mem p3 (bits .or .i64 (bits .or .i64 z 32) 64)) host ga 2 false).mem⟩ := if_pos hf4
          rw [EL]
          have HP4 := PL_yes w (setv r3.mem p3 (bits .or .i64 (bits .or .i64 z 32) 64)) host ((st2 + 1) + (r3.reads.length : Int)) 0 ga 2 hmS r0 hgb (by decide) (by decide) (by omega) (by omega) hf4
          obtain ⟨p4, hp4⟩ := Int.eq_ofNat_of_zero_le (walkV_pa0 (setv r3.mem p3 (bits .or .i64 (bits .or .i64 z 32) 64)) host ga 2 false hf4)
          rw [hp4] at HP4 ⊢
          exact specTwo_B2_put_ok s host root va user w hm r0 r1 v1 k1 hk1 mem1 st1 p1 y hy hp1 hm1 s10 s11 HP1 h16 T hT hT2 k2 hk2 mem2 st2 p2 z hz hp2 hm2 s20 s21 HP2 f1 hC f3 f4 hne ga hga _ r3.mem _ p3 (by omega) (by omega) HP3 _ p4 HP4
        · have EL : lastT (setv r3.mem p3 (bits .or .i64 (bits .or .i64 z 32) 64)) host ga 2 ((st2 + 1) + (r3.reads.length : Int)) = ⟨3, ga, 0, ((st2 + 1) + (r3.reads.length : Int)) + (walkV (setv r3.mem p3 (bits .or .i64 (bits .or .i64 z 32) 64)) host ga 2 false).reads.length, (setv r3.mem p3 (bits .or .i64 (bits .or .i64 z 32) 64))⟩ := if_neg hf4
          rw [EL]
          have HP4 := PL_no w (setv r3.mem p3 (bits .or .i64 (bits .or .i64 z 32) 64)) host ((st2 + 1) + (r3.reads.length : Int)) 0 ga 2 hmS r0 hgb (by decide) (by decide) (by omega) (by omega) hf4
          exact specTwo_B2_put_no s host root va user w hm r0 r1 v1 k1 hk1 mem1 st1 p1 y hy hp1 hm1 s10 s11 HP1 h16 T hT hT2 k2 hk2 mem2 st2 p2 z hz hp2 hm2 s20 s21 HP2 f1 hC f3 f4 hne ga hga _ r3.mem _ p3 (by omega) (by omega) HP3 HP4
      · rw [if_neg hf3]
        exact specTwo_B2_nput s host root va user w hm r0 r1 v1 k1 hk1 mem1 st1 p1 y hy hp1 hm1 s10 s11 HP1 h16 T hT hT2 k2 hk2 mem2 st2 p2 z hz hp2 hm2 s20 s21 HP2 f1 hC f3 f4 hne _ (HP3n hf3)
  · have hpa : putA z 3 = bits .or .i64 z 32 := rfl
    rw [hpa]
    by_cases hsame : bits .or .i64 z 32 = z
    · rw [if_pos hsame]
      by_cases hf4 : (walkV mem2 host ga 1 false).fault = 0
      · have EL : lastT mem2 host ga 3 (st2 + 1) = ⟨0, ga, (walkV mem2 host ga 1 false).pa, (st2 + 1) + (walkV mem2 host ga 1 false).reads.length, (walkV mem2 host ga 1 false).mem⟩ := if_pos hf4
        rw [EL]
        have HP4 := PL_yes w mem2 host (st2 + 1) 0 ga 1 hmM r0 hgb (by decide) (by decide) (by omega) (by omega) hf4
        obtain ⟨p4, hp4⟩ := Int.eq_ofNat_of_zero_le (walkV_pa0 mem2 host ga 1 false hf4)
        rw [hp4] at HP4 ⊢
        exact specTwo_B3_same_ok s host root va user w hm r0 r1 v1 k1 hk1 mem1 st1 p1 y hy hp1 hm1 s10 s11 HP1 h16 T hT hT2 k2 hk2 mem2 st2 p2 z hz hp2 hm2 s20 s21 HP2 f1 hC f3 f4 hsame ga hga _ _ p4 HP4
      · have EL : lastT mem2 host ga 3 (st2 + 1) = ⟨3, ga, 0, (st2 + 1) + (walkV mem2 host ga 1 false).reads.length, mem2⟩ := if_neg hf4
        rw [EL]
        have HP4 := PL_no w mem2 host (st2 + 1) 0 ga 1 hmM r0 hgb (by decide) (by decide) (by omega) (by omega) hf4
        exact specTwo_B3_same_no s host root va user w hm r0 r1 v1 k1 hk1 mem1 st1 p1 y hy hp1 hm1 s10 s11 HP1 h16 T hT hT2 k2 hk2 mem2 st2 p2 z hz hp2 hm2 s20 s21 HP2 f1 hC f3 f4 hsame ga hga _ HP4
    · rw [if_neg hsame]
      have hne : (bits .or .i64 z 32 == z) = false := by simpa using hsame
      by_cases hf3 : r3.fault = 0
      · rw [if_pos hf3]
        obtain ⟨q0, q1, q2⟩ := hpa3 hf3
        obtain ⟨p3, hp3⟩ := Int.eq_ofNat_of_zero_le q0
        have HP3 := HP3y hf3
        rw [hp3] at HP3 q1 ⊢
        have ht : Int.toNat (p3 : Int) = p3 := rfl
        rw [ht]
        have hmS : memOk (setv r3.mem p3 (bits .or .i64 z 32)) = true := memOk_size hmM (by rw [setv_size _ _ _ (by omega)]; exact hsz3)
        by_cases hf4 : (walkV (setv r3.mem p3 (bits .or .i64 z 32)) host ga 1 false).fault = 0
        · have EL : lastT (setv r3.mem p3 (bits .or .i64 z 32)) host ga 3 ((st2 + 1) + (r3.reads.length : Int)) = ⟨0, ga, (walkV (setv r3.mem p3 (bits .or .i64 z 32)) host ga 1 false).pa, ((st2 + 1) + (r3.reads.length : Int)) + (walkV (setv r3.mem p3 (bits .or .i64 z 32)) host ga 1 false).reads.length, (walkV (setv r3.mem p3 (bits .or .i64 z 32)) host ga 1 false).mem⟩ := if_pos hf4
          rw [EL]
          have HP4 := PL_yes w (setv r3.mem p3 (bits .or .i64 z 32)) host ((st2 + 1) + (r3.reads.length : Int)) 0 ga 1 hmS r0 hgb (by decide) (by decide) (by omega) (by omega) hf4
          obtain ⟨p4, hp4⟩ := Int.eq_ofNat_of_zero_le (walkV_pa0 (setv r3.mem p3 (bits .or .i64 z 32)) host ga 1 false hf4)
          rw [hp4] at HP4 ⊢
          exact specTwo_B3_put_ok s host root va user w hm r0 r1 v1 k1 hk1 mem1 st1 p1 y hy hp1 hm1 s10 s11 HP1 h16 T hT hT2 k2 hk2 mem2 st2 p2 z hz hp2 hm2 s20 s21 HP2 f1 hC f3 f4 hne ga hga _ r3.mem _ p3 (by omega) (by omega) HP3 _ p4 HP4
        · have EL : lastT (setv r3.mem p3 (bits .or .i64 z 32)) host ga 3 ((st2 + 1) + (r3.reads.length : Int)) = ⟨3, ga, 0, ((st2 + 1) + (r3.reads.length : Int)) + (walkV (setv r3.mem p3 (bits .or .i64 z 32)) host ga 1 false).reads.length, (setv r3.mem p3 (bits .or .i64 z 32))⟩ := if_neg hf4
          rw [EL]
          have HP4 := PL_no w (setv r3.mem p3 (bits .or .i64 z 32)) host ((st2 + 1) + (r3.reads.length : Int)) 0 ga 1 hmS r0 hgb (by decide) (by decide) (by omega) (by omega) hf4
          exact specTwo_B3_put_no s host root va user w hm r0 r1 v1 k1 hk1 mem1 st1 p1 y hy hp1 hm1 s10 s11 HP1 h16 T hT hT2 k2 hk2 mem2 st2 p2 z hz hp2 hm2 s20 s21 HP2 f1 hC f3 f4 hne ga hga _ r3.mem _ p3 (by omega) (by omega) HP3 HP4
      · rw [if_neg hf3]
        exact specTwo_B3_nput s host root va user w hm r0 r1 v1 k1 hk1 mem1 st1 p1 y hy hp1 hm1 s10 s11 HP1 h16 T hT hT2 k2 hk2 mem2 st2 p2 z hz hp2 hm2 s20 s21 HP2 f1 hC f3 f4 hne _ (HP3n hf3)

theorem finG_no (f : FG) (host va : Nat) (acc : Int) (user : Bool) (h : ¬ f.code = 0) : finG f host va acc user = ⟨f.code, 0, f.zs, f.mem, f.steps, f.place⟩ := if_neg h
theorem tv_steps (a b c d d' : Int) (m : ByteArray) (h : d = d') : (⟨a, b, c, d, m⟩ : TV) = ⟨a, b, c, d', m⟩ := by rw [h]
theorem specTwo_yes (s : ByteArray) (host root va : Nat) (acc : Int) (user : Bool) (w : World) (hm : memOk s = true) (r0 : host ≤ 255) (r1 : root ≤ 255) (v1 : va ≤ 262143) (a1 : 1 ≤ acc) (a2 : acc ≤ 3) :
    Calls Try.prog 14 #[.string s, .int .i64 host, .int .i64 root, .int .i64 va, .int .i64 acc, .bool user] w fun e w' => e = .returned (twA (twoV s host root va acc user)) ∧ Below w.heap.size w w' := by
  have hk1 : k1V root va = root * 256 + 4 * (va / 8192) := rfl
  have hkb : k1V root va ≤ 262143 := by omega
  have hk4 : k1V root va % 4 = 0 := by omega
  have hsz1 := walkV_size s host (k1V root va) 1 false hkb
  have hln1 := walkV_len s host (k1V root va) 1 false
  have hpa1 := fun hf => walkV_pa s host (k1V root va) 1 false hf hk4
  have hsm1 := walkV_same s host (k1V root va) 1 false
  have hms := memOk_b hm
  unfold twoV feG
  by_cases hf1 : (walkV s host (k1V root va) 1 false).fault = 0
  case neg =>
    rw [if_neg hf1, finG_no _ _ _ _ _ (show ¬ (3 : Int) = 0 by decide), twoF_3]
    have h := specTwo_A s host root va acc user w hm r0 r1 v1 a1 a2 (k1V root va) hk1 (0 + ((walkV s host (k1V root va) 1 false).reads.length : Int)) (PL_no w s host 0 0 (k1V root va) 1 hm r0 hkb (by decide) (by decide) (by decide) (by decide) hf1)
    rw [hsm1 hf1, tv_steps _ _ _ _ (0 + ((walkV s host (k1V root va) 1 false).reads.length : Int)) _ (by simp)]
    exact h
  rw [if_pos hf1]
  obtain ⟨q0, q1, q2⟩ := hpa1 hf1
  obtain ⟨p1, hp1⟩ := Int.eq_ofNat_of_zero_le q0
  have HP1 := PL_yes w s host 0 0 (k1V root va) 1 hm r0 hkb (by decide) (by decide) (by decide) (by decide) hf1
  rw [hp1] at HP1 q1 ⊢
  have ht : Int.toNat (p1 : Int) = p1 := rfl
  rw [ht]
  obtain ⟨x1, hx1⟩ : ∃ r, (walkV s host (k1V root va) 1 false) = r := ⟨_, rfl⟩
  rw [hx1] at HP1 hsz1 hln1 hf1 hp1 ⊢
  clear hx1 hpa1 hsm1
  have hm1 : memOk x1.mem = true := memOk_size hm hsz1
  obtain ⟨z, hz⟩ : ∃ z, wv x1.mem p1 = z := ⟨_, rfl⟩
  obtain ⟨z0, z1⟩ := wv_b x1.mem p1
  rw [hz] at z0 z1 ⊢
  unfold fe1
  by_cases h16 : z % 16 = 1
  case neg =>
    rw [if_neg h16, twoF_tail _ _ _ _ _ rfl]
    exact specTwo_C s host root va acc user w hm r0 r1 v1 a1 a2 (k1V root va) hk1 x1.mem (0 + (x1.reads.length : Int)) p1 z hz (by omega) (by omega) (by omega) (by omega) HP1 h16 hm1 hkb hk4
  rw [if_pos h16]
  by_cases hT : z / 256 < 1024
  case neg =>
    rw [if_neg hT, finG_no _ _ _ _ _ (show ¬ (2 : Int) = 0 by decide), twoF_2]
    exact specTwo_B1 s host root va acc user w hm r0 r1 v1 a1 a2 (k1V root va) hk1 x1.mem (0 + (x1.reads.length : Int)) p1 z hz (by omega) (by omega) (by omega) (by omega) HP1 h16 (by omega)
  rw [if_pos hT]
  obtain ⟨T, hTT⟩ := Int.eq_ofNat_of_zero_le (show 0 ≤ z / 256 by omega)
  have ht2 : (z / 256).toNat = T := by omega
  rw [ht2]
  have hk2 : k2V T va = T * 256 + 4 * (va / 256 % 32) := rfl
  have hkb2 : k2V T va ≤ 262143 := by omega
  have hk42 : k2V T va % 4 = 0 := by omega
  have hsz2 := walkV_size x1.mem host (k2V T va) 1 false hkb2
  have hln2 := walkV_len x1.mem host (k2V T va) 1 false
  have hpa2 := fun hf => walkV_pa x1.mem host (k2V T va) 1 false hf hk42
  have hsm2 := walkV_same x1.mem host (k2V T va) 1 false
  unfold fe2
  by_cases hf2 : (walkV x1.mem host (k2V T va) 1 false).fault = 0
  case neg =>
    rw [if_neg hf2, finG_no _ _ _ _ _ (show ¬ (3 : Int) = 0 by decide), twoF_3]
    have h := specTwo_B2 s host root va acc user w hm r0 r1 v1 a1 a2 (k1V root va) hk1 x1.mem (0 + (x1.reads.length : Int)) p1 z hz (by omega) (by omega) (by omega) (by omega) HP1 h16 T hTT (by omega) (k2V T va) hk2 _ (PL_no w x1.mem host (0 + (x1.reads.length : Int) + 1) 0 (k2V T va) 1 hm1 r0 hkb2 (by decide) (by decide) (by omega) (by omega) hf2)
    rw [hsm2 hf2, tv_steps _ _ _ _ (0 + (x1.reads.length : Int) + 1 + ((walkV x1.mem host (k2V T va) 1 false).reads.length : Int)) _ (by simp; omega)]
    exact h
  rw [if_pos hf2, twoF_tail _ _ _ _ _ rfl]
  obtain ⟨v0, v2, v3⟩ := hpa2 hf2
  obtain ⟨p2, hp2⟩ := Int.eq_ofNat_of_zero_le v0
  have HP2 := PL_yes w x1.mem host (0 + (x1.reads.length : Int) + 1) 0 (k2V T va) 1 hm1 r0 hkb2 (by decide) (by decide) (by omega) (by omega) hf2
  rw [hp2] at HP2 v2
  simp only
  rw [hp2]
  have ht3 : Int.toNat (p2 : Int) = p2 := rfl
  rw [ht3]
  obtain ⟨x2, hx2⟩ : ∃ r, walkV x1.mem host (k2V T va) 1 false = r := ⟨_, rfl⟩
  rw [hx2] at HP2 hsz2 hln2 ⊢
  have hst : 0 + (x1.reads.length : Int) + (x2.reads.length : Int) + (([(root : Int), (T : Int)].length : Nat) : Int) = 0 + (x1.reads.length : Int) + 1 + (x2.reads.length : Int) + 1 := by
    simp
    omega
  rw [hst]
  exact specTwo_B s host root va acc user w hm r0 r1 v1 a1 a2 (k1V root va) hk1 x1.mem (0 + (x1.reads.length : Int)) p1 z hz (by omega) (by omega) (by omega) (by omega) HP1 h16 T hTT (by omega) (k2V T va) hk2 x2.mem (0 + (x1.reads.length : Int) + 1 + (x2.reads.length : Int)) p2 _ rfl (by omega) (by omega) (by omega) (by omega) HP2 (memOk_size hm1 hsz2) hkb2 hk42
end Go.Proofs.Ytjaelkagacmpkaa
