import Derived.Test.YtmmodmanfoipiaaDoorHasBitP
import Derived.Laws.BitsAllLaws
import Derived.Test.YtmmodmanfoipiaaDoorJoined
namespace Go.Proofs.YtmmodmanfoipiaaDoor
open Go.RowKit

def zer (n : Nat) : List UInt8 := List.replicate n 0
def bl (s : ByteArray) (k : Nat) : List UInt8 := s.data.toList ++ zer (k + 1 - s.size)
theorem bl_len (s : ByteArray) (k : Nat) : (bl s k).length = s.size + (k + 1 - s.size) := by simp [bl, zer]
theorem bl_at (s : ByteArray) (k j : Nat) : ((bl s k).getD j 0).toNat = (bt s j).toNat := by
  unfold bl
  by_cases h : j < s.size
  · have : j < s.data.toList.length := by simpa using h
    have e := bt_eq s j h
    rw [List.getD_eq_getElem?_getD, List.getElem?_append_left this, List.getElem?_eq_getElem this]
    show (s.data.toList[j]).toNat = _
    rw [Array.getElem_toList]
    show s[j].toNat = _
    omega
  · have hb : bt s j = 0 := by unfold bt; rw [dif_neg h]
    have hl : s.data.toList.length ≤ j := by simpa using (show s.size ≤ j by omega)
    rw [hb]
    rw [List.getD_eq_getElem?_getD, List.getElem?_append_right hl]
    unfold zer
    rw [List.getElem?_replicate]
    split <;> rfl

/-- The byte x with its bit k put. -/
def nbN (x k : Nat) (on : Bool) : Nat := if on then x ||| 2 ^ k else x &&& (255 - 2 ^ k)
def nb (x : Int) (k : Nat) (on : Bool) : UInt8 := UInt8.ofNat (nbN x.toNat k on)

theorem fin_or : ∀ x : Fin 256, ∀ k : Fin 8, (if x.val / 2 ^ k.val % 2 = 1 then x.val else x.val ^^^ 2 ^ k.val) = x.val ||| 2 ^ k.val := by decide +kernel
theorem fin_and : ∀ x : Fin 256, ∀ k : Fin 8, (if x.val / 2 ^ k.val % 2 = 1 then x.val ^^^ 2 ^ k.val else x.val) = x.val &&& (255 - 2 ^ k.val) := by decide +kernel
theorem fin_lt : ∀ x : Fin 256, ∀ k : Fin 8, x.val ||| 2 ^ k.val < 256 := by decide +kernel
theorem fin_bit : ∀ x : Fin 256, ∀ k j : Fin 8, (x.val ||| 2 ^ k.val) / 2 ^ j.val % 2 = (if j = k then 1 else x.val / 2 ^ j.val % 2) := by decide +kernel
theorem fin_bit0 : ∀ x : Fin 256, ∀ k j : Fin 8, (x.val &&& (255 - 2 ^ k.val)) / 2 ^ j.val % 2 = (if j = k then 0 else x.val / 2 ^ j.val % 2) := by decide +kernel

theorem nbN_lt (x k : Nat) (on : Bool) (hx : x < 256) (hk : k < 8) : nbN x k on < 256 := by
  unfold nbN
  split
  · exact fin_lt ⟨x, hx⟩ ⟨k, hk⟩
  · exact Nat.lt_of_le_of_lt Nat.and_le_left hx
theorem nb_nat (x : Int) (k : Nat) (on : Bool) (h0 : 0 ≤ x) (h1 : x ≤ 255) (hk : k < 8) : ((nb x k on).toNat : Int) = nbN x.toNat k on := by
  have := nbN_lt x.toNat k on (by omega) hk
  unfold nb
  rw [UInt8.toNat_ofNat']
  omega

theorem pow8 (k : Nat) (hk : k < 8) : (2 : Int) ^ k % 256 = ((2 ^ k : Nat) : Int) ∧ 2 ^ k < 256 := by
  have h : 2 ^ k ≤ 2 ^ 7 := Nat.pow_le_pow_right (by omega) (by omega)
  have e : (2 : Int) ^ k = ((2 ^ k : Nat) : Int) := by simp
  rw [e]
  clear e
  generalize 2 ^ k = P at h ⊢
  omega
theorem bits_on (x : Int) (k : Nat) (h0 : 0 ≤ x) (h1 : x ≤ 255) (hk : k < 8) : bits .or .u8 x (2 ^ k % 256) = ((nb x k true).toNat : Int) := by
  obtain ⟨e, h⟩ := pow8 k hk
  rw [e, u8_or x _ h0 (by omega) (by omega) (by omega), nb_nat x k true h0 h1 hk, Int.toNat_natCast]
  rfl
theorem bits_off (x : Int) (k : Nat) (h0 : 0 ≤ x) (h1 : x ≤ 255) (hk : k < 8) : bits .andNot .u8 x (2 ^ k % 256) = ((nb x k false).toNat : Int) := by
  obtain ⟨e, h⟩ := pow8 k hk
  rw [e, u8_andNot x _ h0 (by omega) (by omega) (by omega), nb_nat x k false h0 h1 hk, Int.toNat_natCast]
  rfl
theorem bits_flip (x : Int) (k : Nat) (on : Bool) (h0 : 0 ≤ x) (h1 : x ≤ 255) (hk : k < 8) (h : ((x / 2 ^ k % 2 == 1) == on) = false) : bits .xor .u8 x (2 ^ k % 256) = ((nb x k on).toNat : Int) := by
  obtain ⟨e, hp⟩ := pow8 k hk
  rw [e, u8_xor x _ h0 (by omega) (by omega) (by omega), nb_nat x k on h0 h1 hk, Int.toNat_natCast]
  obtain ⟨X, rfl⟩ := Int.eq_ofNat_of_zero_le h0
  rw [Int.toNat_natCast]
  have eb : ((X : Int) / 2 ^ k % 2 == 1) = decide (X / 2 ^ k % 2 = 1) := by
    rw [Bool.eq_iff_iff]
    simp
    have : ((X : Int) / 2 ^ k % 2) = ((X / 2 ^ k % 2 : Nat) : Int) := by simp
    rw [this]
    omega
  rw [eb] at h
  have f1 := fin_or ⟨X, by omega⟩ ⟨k, hk⟩
  have f2 := fin_and ⟨X, by omega⟩ ⟨k, hk⟩
  unfold nbN
  cases on
  · have hh : X / 2 ^ k % 2 = 1 := by simpa using h
    simp only [hh, if_true] at f2
    simp [f2]
  · have hh : ¬ X / 2 ^ k % 2 = 1 := by simpa using h
    simp only [hh, if_false] at f1
    simp [f1]
theorem bits_same (x : Int) (k : Nat) (on : Bool) (h0 : 0 ≤ x) (h1 : x ≤ 255) (hk : k < 8) (h : ((x / 2 ^ k % 2 == 1) == on) = true) : ((nb x k on).toNat : Int) = x := by
  rw [nb_nat x k on h0 h1 hk]
  obtain ⟨X, rfl⟩ := Int.eq_ofNat_of_zero_le h0
  rw [Int.toNat_natCast]
  have eb : ((X : Int) / 2 ^ k % 2 == 1) = decide (X / 2 ^ k % 2 = 1) := by
    rw [Bool.eq_iff_iff]
    simp
    have : ((X : Int) / 2 ^ k % 2) = ((X / 2 ^ k % 2 : Nat) : Int) := by simp
    rw [this]
    omega
  rw [eb] at h
  have f1 := fin_or ⟨X, by omega⟩ ⟨k, hk⟩
  have f2 := fin_and ⟨X, by omega⟩ ⟨k, hk⟩
  unfold nbN
  cases on
  · have hh : ¬ X / 2 ^ k % 2 = 1 := by simpa using h
    simp only [hh, if_false] at f2
    simp [← f2]
  · have hh : X / 2 ^ k % 2 = 1 := by simpa using h
    simp only [hh, if_true] at f1
    simp [← f1]

/-- What a set is with its bit m put. -/
def pb (s : ByteArray) (m : Nat) (on : Bool) : List UInt8 := (bl s (m / 8)).set (m / 8) (nb (bt s (m / 8)) (m % 8) on)
end Go.Proofs.YtmmodmanfoipiaaDoor
