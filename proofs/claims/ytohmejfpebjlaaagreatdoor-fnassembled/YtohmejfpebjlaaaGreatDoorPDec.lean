import Derived.Test.YtohmejfpebjlaaaGreatDoorPEnc
import Derived.Test.YtohmejfpebjlaaaGreatDoorDecode2
namespace Go.Proofs.YtohmejfpebjlaaaGreatDoor
open Go.ChangeShapes Go.WideShapes Go.ChangeAt Go.RowKit

/-- The number that an operand reads out of a word. -/
def Opd.rd (o : Opd) (n : Int) : Int := o.lo + (fz n o.from.toNat o.bits.toNat - o.lo) % 2 ^ o.bits.toNat
def dcf (l : List Opd) (n : Int) (f : Int × Int × Int × Int) : Int × Int × Int × Int := l.foldl (fun f o => putF o.plc (o.rd n) f) f
theorem dcf_succ (l : List Opd) (n : Int) (f : Int × Int × Int × Int) (j : Nat) (h : j < l.length) : dcf (l.take (j + 1)) n f = putF l[j].plc (l[j].rd n) (dcf (l.take j) n f) := by
  unfold dcf
  rw [List.take_succ_eq_append_getElem h, List.foldl_append]
  rfl
theorem fz24 (n : Int) (h0 : 0 ≤ n) (h1 : n < 4294967296) : fz n 24 8 = n / 16777216 := by unfold fz; omega
theorem split_w (n : Int) (h0 : 0 ≤ n) (h1 : n < 4294967296) : ∃ o a b c i : Int, 0 ≤ o ∧ o < 256 ∧ 0 ≤ a ∧ a < 16 ∧ 0 ≤ b ∧ b < 16 ∧ 0 ≤ c ∧ c < 16 ∧ 0 ≤ i ∧ i < 4096 ∧ n = o * 16777216 + a * 1048576 + b * 65536 + c * 4096 + i ∧
    n / 16777216 = o ∧ fz n 24 8 = o ∧ fz n 20 4 = a ∧ fz n 16 4 = b ∧ fz n 12 4 = c ∧ fz n 0 12 = i ∧ fz n 0 20 = b * 65536 + c * 4096 + i := by
  refine ⟨n / 16777216, n / 1048576 % 16, n / 65536 % 16, n / 4096 % 16, n % 4096, ?_⟩
  unfold fz
  simp only [Int.reducePow]
  exact ⟨by omega, by omega, by omega, by omega, by omega, by omega, by omega, by omega, by omega, by omega, by omega, trivial, by omega, by omega, by omega, by omega, by omega, by omega⟩
/-- What the program's Decode answers, told apart. -/
def decI (n : Int) : Value :=
  if n < 0 ∨ encV (n / 16777216) (dcf (opsOf (n / 16777216)) n (0, 0, 0, 0)).1 (dcf (opsOf (n / 16777216)) n (0, 0, 0, 0)).2.1 (dcf (opsOf (n / 16777216)) n (0, 0, 0, 0)).2.2.1 (dcf (opsOf (n / 16777216)) n (0, 0, 0, 0)).2.2.2 ≠ n then rdV false 0 0 0 0 0
  else rdV true (n / 16777216) (dcf (opsOf (n / 16777216)) n (0, 0, 0, 0)).1 (dcf (opsOf (n / 16777216)) n (0, 0, 0, 0)).2.1 (dcf (opsOf (n / 16777216)) n (0, 0, 0, 0)).2.2.1 (dcf (opsOf (n / 16777216)) n (0, 0, 0, 0)).2.2.2
theorem decI_of (n a b c i : Int) (h : dcf (opsOf (n / 16777216)) n (0, 0, 0, 0) = (a, b, c, i)) : decI n = if n < 0 ∨ encV (n / 16777216) a b c i ≠ n then rdV false 0 0 0 0 0 else rdV true (n / 16777216) a b c i := by
  unfold decI
  rw [h]
theorem dec_join (n o x y z t a b c s : Int) (h0 : 0 ≤ n)
    (h : isOk o a b c s = true ↔ (isOk o x y z t = true ∧ encV o x y z t = n)) (hv : isOk o a b c s = true → x = a ∧ y = b ∧ z = c ∧ t = s) :
    (if n < 0 ∨ encV o x y z t ≠ n then rdV false 0 0 0 0 0 else rdV true o x y z t) = if isOk o a b c s = true then rdV true o a b c s else rdV false 0 0 0 0 0 := by
  by_cases hg : isOk o a b c s = true
  · obtain ⟨rfl, rfl, rfl, rfl⟩ := hv hg
    obtain ⟨_, h2⟩ := h.1 hg
    rw [if_pos hg, if_neg]
    rintro (h3 | h3)
    · omega
    · exact h3 h2
  · rw [if_neg hg, if_pos]
    refine .inr fun h3 => hg (h.2 ⟨?_, h3⟩)
    unfold encV at h3
    split at h3
    · assumption
    · omega
theorem sg12 (i : Int) (h0 : 0 ≤ i) (h1 : i < 4096) : (i < 2048 ∧ sg i 12 = i) ∨ (2048 ≤ i ∧ sg i 12 = i - 4096) := by
  simp [sg]; omega
theorem sg20 (i : Int) (h0 : 0 ≤ i) (h1 : i < 1048576) : (i < 524288 ∧ sg i 20 = i) ∨ (524288 ≤ i ∧ sg i 20 = i - 1048576) := by
  simp [sg]; omega
set_option maxHeartbeats 8000000 in
theorem decI_eq (n : Int) : decI n = decV n := by
  by_cases h0 : n < 0
  · rw [decI, if_pos (.inl h0), decV, decG, show isW n = false from by simp [isW]; omega]
    rfl
  by_cases h1 : 4294967296 ≤ n
  · have : encV (n / 16777216) (dcf (opsOf (n / 16777216)) n (0, 0, 0, 0)).1 (dcf (opsOf (n / 16777216)) n (0, 0, 0, 0)).2.1 (dcf (opsOf (n / 16777216)) n (0, 0, 0, 0)).2.2.1 (dcf (opsOf (n / 16777216)) n (0, 0, 0, 0)).2.2.2 = -1 := by
      unfold encV isOk
      rw [show kd (n / 16777216) = 0 from if_pos (nm_out _ (.inr (by omega)))]
      rfl
    rw [decI, if_pos (.inr (by rw [this]; omega)), decV, decG, show isW n = false from by simp [isW]; omega]
    rfl
  obtain ⟨o, a, b, c, i, o0, o1, a0, a1, b0, b1, c0, c1, i0, i1, hn, e1, e2, e3, e4, e5, e6, e7⟩ := split_w n (by omega) (by omega)
  have hv : decV n = if isOk o a (if kd o = 4 then 0 else b) (if kd o = 4 then 0 else c) (if kd o = 4 then (if o = 36 then sg (b * 65536 + c * 4096 + i) 20 else b * 65536 + c * 4096 + i) else sg i 12) = true
      then rdV true o a (if kd o = 4 then 0 else b) (if kd o = 4 then 0 else c) (if kd o = 4 then (if o = 36 then sg (b * 65536 + c * 4096 + i) 20 else b * 65536 + c * 4096 + i) else sg i 12) else rdV false 0 0 0 0 0 := by
    unfold decV decG dOp dA dB dC dI dOp
    rw [e2, e3, e4, e5, e6, e7, show isW n = true from by simp [isW]; omega]
    rfl
  rw [hv]
  clear hv
  have hk := kd_lt o
  have hS := sg12 i i0 i1
  have hS2 := sg20 (b * 65536 + c * 4096 + i) (by omega) (by omega)
  have h20 : o = 20 → kd o = 4 := by rintro rfl; decide +kernel
  have h36 : o = 36 → kd o = 4 := by rintro rfl; decide +kernel
  have h4 : kd o = 4 → o = 20 ∨ o = 36 := by
    intro h
    refine kd2_4 o ?_
    unfold kd at h
    split at h
    · cases h
    · exact h
  obtain ⟨k, hkk⟩ : ∃ k, kd o = k := ⟨_, rfl⟩
  have hop : ∀ q, opsOf o = q → dcf (opsOf (n / 16777216)) n (0, 0, 0, 0) = dcf q n (0, 0, 0, 0) := by rintro q rfl; rw [e1]
  rw [hkk] at hk h20 h36 h4 ⊢
  generalize sg i 12 = s at *
  generalize sg (b * 65536 + c * 4096 + i) 20 = s2 at *
  obtain rfl | rfl | rfl | rfl | rfl | rfl | rfl | rfl | rfl : k = 0 ∨ k = 1 ∨ k = 2 ∨ k = 3 ∨ k = 4 ∨ k = 5 ∨ k = 6 ∨ k = 7 ∨ k = 8 := by omega
  · clear hS2 h4 e2 h20 h36
    rw [decI_of n 0 0 0 0 (hop [] (by unfold opsOf; rw [hkk]; rfl)), e1]
    exact dec_join n o 0 0 0 0 _ _ _ _ (by omega) (by simp [isOk, hkk, kOk]) (by simp [isOk, hkk, kOk])
  · clear hS2 h4 e2 h20 h36
    rw [decI_of n a b c 0 ((hop [rP 0, rP 1, rP 2] (by unfold opsOf; rw [hkk]; rfl)).trans (by simp [dcf, Opd.rd, Opd.lo, Opd.from, Opd.bits, Opd.plc, putF, rP, e3, e4, e5]; omega)), e1]
    refine dec_join n o a b c 0 _ _ _ _ (by omega) ?_ ?_
    · simp [isOk, hkk, kOk, reg, encV]; omega
    · simp [isOk, hkk, kOk, reg]; omega
  · clear hS2 h4 e2 h20 h36
    rw [decI_of n a b c 0 ((hop [vP 0, vP 1, vP 2] (by unfold opsOf; rw [hkk]; rfl)).trans (by simp [dcf, Opd.rd, Opd.lo, Opd.from, Opd.bits, Opd.plc, putF, vP, e3, e4, e5]; omega)), e1]
    refine dec_join n o a b c 0 _ _ _ _ (by omega) ?_ ?_
    · simp [isOk, hkk, kOk, reg, encV]; omega
    · simp [isOk, hkk, kOk, reg]; omega
  · clear hS2 h4 e2 h20 h36
    rw [decI_of n a b 0 0 ((hop [vP 0, rP 1] (by unfold opsOf; rw [hkk]; rfl)).trans (by simp [dcf, Opd.rd, Opd.lo, Opd.from, Opd.bits, Opd.plc, putF, rP, vP, e3, e4]; omega)), e1]
    refine dec_join n o a b 0 0 _ _ _ _ (by omega) ?_ ?_
    · simp [isOk, hkk, kOk, reg, encV]; omega
    · simp [isOk, hkk, kOk, reg]; omega
  · clear hS e2 h20 h36
    rcases h4 rfl with rfl | rfl
    · rw [decI_of n a 0 0 (b * 65536 + c * 4096 + i) ((hop [rP 0, .imm 0 20] (by unfold opsOf; rw [hkk]; rfl)).trans (by simp [dcf, Opd.rd, Opd.lo, Opd.from, Opd.bits, Opd.plc, putF, rP, e3, e7]; omega)), e1]
      refine dec_join n 20 a 0 0 (b * 65536 + c * 4096 + i) _ _ _ _ (by omega) ?_ ?_
      · simp [isOk, hkk, kOk, reg, encV, immOk]; omega
      · simp [isOk, hkk, kOk, reg, immOk]
    · rw [decI_of n a 0 0 s2 ((hop [rP 0, .imm (-524288) 20] (by unfold opsOf; rw [hkk]; rfl)).trans (by simp [dcf, Opd.rd, Opd.lo, Opd.from, Opd.bits, Opd.plc, putF, rP, e3, e7]; omega)), e1]
      refine dec_join n 36 a 0 0 s2 _ _ _ _ (by omega) ?_ ?_
      · simp [isOk, hkk, kOk, reg, encV, immOk]; omega
      · simp [isOk, hkk, kOk, reg, immOk]
  · have n20 : ¬ o = 20 := fun h => by have := h20 h; omega
    have n36 : ¬ o = 36 := fun h => by have := h36 h; omega
    clear hS2 h4 e2 h20 h36
    rw [decI_of n a 0 0 s ((hop [rP 0, .imm (-2048) 12] (by unfold opsOf; rw [hkk]; rfl)).trans (by simp [dcf, Opd.rd, Opd.lo, Opd.from, Opd.bits, Opd.plc, putF, rP, e3, e6]; omega)), e1]
    refine dec_join n o a 0 0 s _ _ _ _ (by omega) ?_ ?_
    · simp [isOk, hkk, kOk, reg, encV, immOk, n20, n36]; omega
    · simp [isOk, hkk, kOk, reg, immOk, n20, n36]; omega
  · have n20 : ¬ o = 20 := fun h => by have := h20 h; omega
    have n36 : ¬ o = 36 := fun h => by have := h36 h; omega
    clear hS2 h4 e2 h20 h36
    rw [decI_of n 0 0 0 s ((hop [.imm (-2048) 12] (by unfold opsOf; rw [hkk]; rfl)).trans (by simp [dcf, Opd.rd, Opd.lo, Opd.from, Opd.bits, Opd.plc, putF, e6]; omega)), e1]
    refine dec_join n o 0 0 0 s _ _ _ _ (by omega) ?_ ?_
    · simp [isOk, hkk, kOk, reg, encV, immOk, n20, n36]; omega
    · simp [isOk, hkk, kOk, reg, immOk, n20, n36]; omega
  · clear hS2 h4 e2 h20 h36
    rw [decI_of n 0 0 0 0 (hop [] (by unfold opsOf; rw [hkk]; rfl)), e1]
    refine dec_join n o 0 0 0 0 _ _ _ _ (by omega) ?_ ?_
    · simp [isOk, hkk, kOk, reg, encV]; omega
    · simp [isOk, hkk, kOk, reg]; omega
  · have n20 : ¬ o = 20 := fun h => by have := h20 h; omega
    have n36 : ¬ o = 36 := fun h => by have := h36 h; omega
    clear hS2 h4 e2 h20 h36
    rw [decI_of n a b 0 s ((hop [rP 0, rP 1, .imm (-2048) 12] (by unfold opsOf; rw [hkk]; rfl)).trans (by simp [dcf, Opd.rd, Opd.lo, Opd.from, Opd.bits, Opd.plc, putF, rP, e3, e4, e6]; omega)), e1]
    refine dec_join n o a b 0 s _ _ _ _ (by omega) ?_ ?_
    · simp [isOk, hkk, kOk, reg, encV, immOk, n20, n36]; omega
    · simp [isOk, hkk, kOk, reg, immOk, n20, n36]; omega
end Go.Proofs.YtohmejfpebjlaaaGreatDoor
