import Derived.Test.YtappocopgckhkaaKw1
import Derived.Test.YtappocopgckhkaaMix
import Derived.Test.YtappocopgckhkaaMFa
import Derived.Test.YtappocopgckhkaaQu1
import Derived.Test.YtappocopgckhkaaRp
import Derived.Test.YtappocopgckhkaaLG
namespace Go.Proofs.Ytappocopgckhkaa
open Go.ChangeShapes Go.WideShapes Go.ChangeAt Go.RowKit

/-- Bytes 0, so many. -/
def zpd (n : Nat) : ByteArray := ⟨(zerL n).toArray⟩
theorem zpd_size (n : Nat) : (zpd n).size = n := by simp [zpd, zerL, ByteArray.size]
theorem zpd_succ (b : ByteArray) (n : Nat) : b ++ zpd n ++ ⟨#[0]⟩ = b ++ zpd (n + 1) := by
  apply ByteArray.ext
  apply Array.ext'
  simp [zpd, zerL, List.replicate_succ']
theorem zpd_0 (b : ByteArray) : b ++ zpd 0 = b := by
  apply ByteArray.ext
  simp [zpd, zerL]
theorem ba_sz (a b : ByteArray) : (a ++ b).size = a.size + b.size := by
  show (a ++ b).data.size = a.data.size + b.data.size
  rw [ByteArray.data_append, Array.size_append]
theorem repeatZ (n : Nat) (hn : n ≤ 1000) (w : World) : Calls Try.prog 61 #[.string { data := #[0] }, .int .i64 (n : Nat)] w fun e w' => e = .returned (.string (zpd n)) ∧ Below w.heap.size w w' := by
  have h := Try.strings_Repeat { data := #[0] } n w (by omega) (by show 1 * n ≤ _; omega)
  rw [show (({ data := #[0] } : ByteArray).data.toList) = [0] from rfl, rep_zerL] at h
  exact h
theorem join2B (u : World) (a b : ByteArray) (hz : a.size + b.size ≤ 1099511627776) : Calls Try.prog 28 #[.slice (some ⟨u.heap.size, 0, none⟩) 2 2] (u.alloc (.cells #[.string a, .string b] 9)) fun e w' => e = .returned (.string (a ++ b)) ∧ Below u.heap.size u w' := by
  have e : (⟨(catB [a, b]).toArray⟩ : ByteArray) = a ++ b := ba_of _ _ (by simp [catB])
  rw [← e]
  refine (joined_any u.heap.size 2 2 [a, b] _ rfl (by simp) ?_ (by omega) ?_).mono ?_
  · intro i hi
    match i, hi with
    | 0, _ => simp
    | 1, _ => simp
  · simp [catB]
    omega
  · rintro e w' ⟨rfl, hb⟩
    exact ⟨rfl, (LG.new u _ _).bel.trans (hb.mono (by simp))⟩
def padN (n : Nat) : Nat := (64 - n % 64) % 64
def insT (t : ByteArray) : ByteArray := t ++ zpd (padN t.size)
theorem insT_size (t : ByteArray) : (insT t).size = t.size + padN t.size := by rw [insT, ba_sz, zpd_size]
theorem i_four (u : World) (a b c d : Int) : Irow (u.alloc (.cells #[.int .i64 a, .int .i64 b, .int .i64 c, .int .i64 d] 2)) (.slice (some ⟨u.heap.size, 0, none⟩) 4 4) [a, b, c, d] := by
  refine .inr ⟨u.heap.size, 0, 4, rfl, Nat.le_refl _, by simp, fun k hk => ?_⟩
  have hc := (LG.new u #[.int .i64 a, .int .i64 b, .int .i64 c, .int .i64 d] 2).cel
  match k, hk with
  | 0, _ => exact hc 0 _ rfl
  | 1, _ => exact hc 1 _ rfl
  | 2, _ => exact hc 2 _ rfl
  | 3, _ => exact hc 3 _ rfl
def btM : ByteArray := ⟨#[66, 79, 79, 84]⟩
theorem pwT_sz (t : List Int) : (pwT t).size = 4 * t.length := by
  rw [← pwL_size t]
  simp [pwT, ByteArray.size]
/-- The first sector's text, without its bytes 0. -/
def mbH (ws : List Int) (p e : Int) : ByteArray := btM ++ pwT [p, e, (ws.length : Int), mixv (pwT ws) 71]
theorem mbH_size (ws : List Int) (p e : Int) : (mbH ws p e).size = 20 := by
  rw [mbH, ba_sz, pwT_sz]
  rfl
def mbT (ws : List Int) (p e : Int) : ByteArray := insT (mbH ws p e) ++ insT (pwT ws)
def mbB (ws : List Int) (p e : Int) : Bool := decide (1 ≤ ws.length) && decide (ws.length ≤ 1000) && wordsB ws ws.length && decide (0 ≤ p) && decide (p ≤ 65535) && (p % 4 == 0) && isW e
def mbV (ws : List Int) (p e : Int) : ByteArray := if mbB ws p e = true then mbT ws p e else ⟨#[]⟩
set_option maxRecDepth 100000 in
set_option maxHeartbeats 4000000 in
theorem inSectors_any (t : ByteArray) (ht : t.size ≤ 100000) (w : World) : Calls Try.prog 30 #[.string t] w fun e w' => e = .returned (.string (insT t)) ∧ Below w.heap.size w w' := by
  have h1 : ((t.size : Nat) : Int).tmod 64 = ((t.size % 64 : Nat) : Int) := by rw [Int.tmod_eq_emod_of_nonneg (by omega)]; omega
  have h2 : (64 - ((t.size % 64 : Nat) : Int)).tmod 64 = ((padN t.size : Nat) : Int) := by unfold padN; rw [Int.tmod_eq_emod_of_nonneg (by omega)]; omega
  have hp : padN t.size ≤ 63 := by unfold padN; omega
  have HRP : Hid (∀ u, Calls Try.prog 61 #[.string { data := #[0] }, .int .i64 (padN t.size : Nat)] u fun e w' => e = .returned (.string (zpd (padN t.size))) ∧ Below u.heap.size u w') := fun u => repeatZ _ (by omega) u
  have hz := zpd_size (padN t.size)
  have HJ : Hid (∀ u : World, Calls Try.prog 28 #[.slice (some ⟨u.heap.size, 0, none⟩) 2 2] (u.alloc (.cells #[.string t, .string (zpd (padN t.size))] 9)) fun e w' => e = .returned (.string (t ++ zpd (padN t.size))) ∧ Below u.heap.size u w') := fun u => join2B u _ _ (by omega)
  have E : Hid (insT t = t ++ zpd (padN t.size)) := rfl
  have hm : t.size % 64 ≤ 63 := by omega
  generalize insT t = V at *
  generalize zpd (padN t.size) = z at *
  generalize padN t.size = n at *
  generalize t.size % 64 = m at *
  go_enter Try.func30, Try.ntmps30
  go_wp2_with fail
  refine Calls.mono (HRP.out _) ?_
  rintro e u1 ⟨rfl, hb⟩
  have HB : Hid (Below w.heap.size w u1) := hb
  clear hb
  go_wp2_with fail
  refine Calls.mono (HJ.out u1) ?_
  rintro e u2 ⟨rfl, hb⟩
  have HB2 : Hid (Below w.heap.size w u2) := HB.out.trans (hb.mono HB.out.size)
  clear hb HB
  go_wp2
  go_ret
  exact ⟨by rw [E.out]; rfl, HB2.out⟩
end Go.Proofs.Ytappocopgckhkaa
