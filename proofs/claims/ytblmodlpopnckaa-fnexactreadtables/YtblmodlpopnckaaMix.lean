import Derived.Test.YtblmodlpopnckaaBytes
import Derived.Test.YtblmodlpopnckaaMod
namespace Go.Proofs.Ytblmodlpopnckaa
open Go.ChangeShapes Go.WideShapes Go.ChangeAt Go.RowKit

/-- A sum that goes on through the first k bytes of a text. -/
def mixR (x : Int) (s : ByteArray) : Nat → Int
  | 0 => x
  | k + 1 => (mixR x s k * 65599 + bt s k + 1) % 2147483629
theorem mixR_b {x : Int} (s : ByteArray) (h0 : 0 ≤ x) (h1 : x ≤ 2147483629) : ∀ k, 0 ≤ mixR x s k ∧ mixR x s k ≤ 2147483629
  | 0 => ⟨h0, h1⟩
  | k + 1 => by simp only [mixR]; omega
def mixS (sd : Int) : Int := sd % 2147483629 + 1
theorem mixS_b (sd : Int) : 0 ≤ mixS sd ∧ mixS sd ≤ 2147483629 := by unfold mixS; omega
def mixE (x : Int) : Int := (x * 40503 + 77) % 2147483629
theorem mixE_b (x : Int) : 0 ≤ mixE x ∧ mixE x ≤ 2147483628 := by unfold mixE; omega
def mixv (s : ByteArray) (sd : Int) : Int := if 65536 < s.size then 0 else mixE (mixR (mixS sd) s s.size)
theorem mixv_b (s : ByteArray) (sd : Int) : 0 ≤ mixv s sd ∧ mixv s sd ≤ 2147483628 := by
  unfold mixv
  split
  · omega
  · exact mixE_b _
theorem bt_app_l {a b : ByteArray} {k : Nat} (h : k < a.size) : bt (a ++ b) k = bt a k := by
  unfold bt
  rw [dif_pos (by rw [ByteArray.size_append]; omega), dif_pos h, ByteArray.getElem_append_left h]
theorem bt_app_r {a b : ByteArray} {k : Nat} : bt (a ++ b) (a.size + k) = bt b k := by
  unfold bt
  by_cases h : k < b.size
  · rw [dif_pos (by rw [ByteArray.size_append]; omega), dif_pos h, ByteArray.getElem_append_right (by omega)]
    simp
  · rw [dif_neg (by rw [ByteArray.size_append]; omega), dif_neg h]
theorem mixR_l (x : Int) (a b : ByteArray) : ∀ k, k ≤ a.size → mixR x (a ++ b) k = mixR x a k
  | 0, _ => rfl
  | k + 1, h => by simp only [mixR]; rw [mixR_l x a b k (by omega), bt_app_l (by omega)]
theorem mixR_r (x : Int) (a b : ByteArray) : ∀ k, mixR x (a ++ b) (a.size + k) = mixR (mixR x a a.size) b k
  | 0 => mixR_l x a b a.size (Nat.le_refl _)
  | k + 1 => by
    rw [← Nat.add_assoc]
    simp only [mixR]
    rw [mixR_r x a b k, bt_app_r]
theorem mixR_app (x : Int) (a b : ByteArray) : mixR x (a ++ b) (a ++ b).size = mixR (mixR x a a.size) b b.size := by
  rw [ByteArray.size_append, mixR_r]

theorem mix_seed (sd : Int) : (sd.tmod 2147483629 + 2147483629) % 2147483629 = sd % 2147483629 := by
  have h1 := Int.tmod_eq_emod (a := sd) (b := 2147483629)
  split at h1 <;> omega
theorem tmod_bd (sd : Int) : -2147483629 < sd.tmod 2147483629 ∧ sd.tmod 2147483629 < 2147483629 := by
  have h1 := Int.tmod_eq_emod (a := sd) (b := 2147483629)
  split at h1 <;> omega

end Go.Proofs.Ytblmodlpopnckaa
