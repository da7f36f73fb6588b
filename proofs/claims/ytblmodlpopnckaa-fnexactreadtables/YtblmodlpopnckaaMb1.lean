import Derived.Test.YtblmodlpopnckaaKw1
import Derived.Test.YtblmodlpopnckaaMix
import Derived.Test.YtblmodlpopnckaaMFa
import Derived.Test.YtblmodlpopnckaaQu1
import Derived.Test.YtblmodlpopnckaaRp
import Derived.Test.YtblmodlpopnckaaLG
namespace Go.Proofs.Ytblmodlpopnckaa
open Go.ChangeShapes Go.WideShapes Go.ChangeAt Go.RowKit

/-- Bytes 0, so many. -/
def zpd (n : Nat) : ByteArray := ⟨(zerL n).toArray⟩
theorem zpd_size (n : Nat) : (zpd n).size = n := by simp [zpd, zerL, ByteArray.size]
theorem zpd_succ (b : ByteArray) (n : Nat) : b ++ zpd n ++ ⟨#[0]⟩ = b ++ zpd (n + 1) := by
  apply ByteArray.ext
  apply Array.ext'
  simp [zpd, zerL, List.replicate_succ']
theorem zpd_0 (b : ByteArray) : b ++ zpd 0 = b := by
  apply ByteArray.ext
  simp [zpd, zerL]
theorem ba_sz (a b : ByteArray) : (a ++ b).size = a.size + b.size := by
  show (a ++ b).data.size = a.data.size + b.data.size
  rw [ByteArray.data_append, Array.size_append]
theorem join2B (u : World) (a b : ByteArray) (hz : a.size + b.size ≤ 1099511627776) : Calls Try.prog 36 #[.slice (some ⟨u.heap.size, 0, none⟩) 2 2] (u.alloc (.cells #[.string a, .string b] 9)) fun e w' => e = .returned (.string (a ++ b)) ∧ Below u.heap.size u w' := by
  have e : (⟨(catB [a, b]).toArray⟩ : ByteArray) = a ++ b := ba_of _ _ (by simp [catB])
  rw [← e]
  refine (joined_any u.heap.size 2 2 [a, b] _ rfl (by simp) ?_ (by omega) ?_).mono ?_
  · intro i hi
    match i, hi with
    | 0, _ => simp
    | 1, _ => simp
  · simp [catB]
    omega
  · rintro e w' ⟨rfl, hb⟩
    exact ⟨rfl, (LG.new u _ _).bel.trans (hb.mono (by simp))⟩
def padN (n : Nat) : Nat := (64 - n % 64) % 64
def insT (t : ByteArray) : ByteArray := t ++ zpd (padN t.size)
theorem insT_size (t : ByteArray) : (insT t).size = t.size + padN t.size := by rw [insT, ba_sz, zpd_size]
theorem i_four (u : World) (a b c d : Int) : Irow (u.alloc (.cells #[.int .i64 a, .int .i64 b, .int .i64 c, .int .i64 d] 2)) (.slice (some ⟨u.heap.size, 0, none⟩) 4 4) [a, b, c, d] := by
  refine .inr ⟨u.heap.size, 0, 4, rfl, Nat.le_refl _, by simp, fun k hk => ?_⟩
  have hc := (LG.new u #[.int .i64 a, .int .i64 b, .int .i64 c, .int .i64 d] 2).cel
  match k, hk with
  | 0, _ => exact hc 0 _ rfl
  | 1, _ => exact hc 1 _ rfl
  | 2, _ => exact hc 2 _ rfl
  | 3, _ => exact hc 3 _ rfl
def btM : ByteArray := ⟨#[66, 79, 79, 84]⟩
theorem pwT_sz (t : List Int) : (pwT t).size = 4 * t.length := by
  rw [← pwL_size t]
  simp [pwT, ByteArray.size]
/-- The first sector's text, without its bytes 0. -/
def mbH (ws : List Int) (p e : Int) : ByteArray := btM ++ pwT [p, e, (ws.length : Int), mixv (pwT ws) 71]
theorem mbH_size (ws : List Int) (p e : Int) : (mbH ws p e).size = 20 := by
  rw [mbH, ba_sz, pwT_sz]
  rfl
def mbT (ws : List Int) (p e : Int) : ByteArray := insT (mbH ws p e) ++ insT (pwT ws)
def mbB (ws : List Int) (p e : Int) : Bool := decide (1 ≤ ws.length) && decide (ws.length ≤ 1000) && wordsB ws ws.length && decide (0 ≤ p) && decide (p ≤ 65535) && (p % 4 == 0) && isW e
def mbV (ws : List Int) (p e : Int) : ByteArray := if mbB ws p e = true then mbT ws p e else ⟨#[]⟩
end Go.Proofs.Ytblmodlpopnckaa
