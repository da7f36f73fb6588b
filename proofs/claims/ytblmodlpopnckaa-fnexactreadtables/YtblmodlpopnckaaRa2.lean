import Derived.Test.YtblmodlpopnckaaRa1
import Derived.Test.YtblmodlpopnckaaPt1
import Derived.Test.YtblmodlpopnckaaQu1
namespace Go.Proofs.Ytblmodlpopnckaa
open Go.ChangeShapes Go.WideShapes Go.ChangeAt Go.RowKit

/-- The sum of n bytes from a place on. -/
def smT (m : ByteArray) (p : Nat) : Nat → Int
  | 0 => 0
  | n + 1 => smT m p n + bt m (p + n)
def szT (m : ByteArray) (p : Nat) : Int := bt m (p + 6) + bt m (p + 7) * 256 - 8
def tnA (m : ByteArray) (p : Nat) : Bool := allP (fun j => capB (bt m (p + j))) 4
/-- The code of a table that is read at a place. -/
def rtC (m : ByteArray) (p : Nat) : Int :=
  if tbB m.size p 8 = false then 5 else if tnA m p = false then 3 else if tbdB (szT m p) = false then 3
  else if inW m.size ((p + 8 : Nat) : Int) (szT m p) = false then 5 else if smT m p (8 + (szT m p).toNat) % 256 ≠ 0 then 10 else 0
def rtF (m : ByteArray) (p : Nat) : FT := if rtC m p = 0 then ⟨m.extract p (p + 4), bt m (p + 5), m.extract (p + 8) (p + 8 + (szT m p).toNat)⟩ else ⟨⟨#[]⟩, 0, ⟨#[]⟩⟩
theorem bt_ex (m : ByteArray) (a n j : Nat) (h : a + n ≤ m.size) (hj : j < n) : bt (m.extract a (a + n)) j = bt m (a + j) := by
  have hz : (m.extract a (a + n)).size = n := by rw [ByteArray.size_extract]; omega
  rw [← bt_eq _ j (by omega), ← bt_eq m (a + j) (by omega)]
  congr 2
  rw [ByteArray.getElem_extract]
theorem ex_len (m : ByteArray) (a n : Nat) (h : a + n ≤ m.size) : (m.extract a (a + n)).data.toList.length = n := by
  have hz : (m.extract a (a + n)).size = n := by rw [ByteArray.size_extract]; omega
  rw [Array.length_toList]
  exact hz
set_option maxRecDepth 100000 in
/-- A slice of bytes that holds a part of a text, as a text. -/
theorem conv_ex {u : World} {g cap : Nat} {m : ByteArray} {a n : Nat} (h : a + n ≤ m.size) (hc : ∀ j, j < n → u.cell? ⟨g, j, none⟩ = some (.int .u8 (bt m (a + j)))) :
    Sem.run Try.prog (convert 71 9 (.slice (some ⟨g, 0, none⟩) n cap)) u = .ok (.string (m.extract a (a + n))) u := by
  have hs := ex_len m a n h
  have h9 := run_convert_bytes_back (P := Try.prog) u 71 9 5 ⟨g, 0, none⟩ cap (m.extract a (a + n)).data.toList Try.underlying71 Try.underlying5 Try.underlying9 (fun j hj => by
    have hadd : (⟨g, 0, none⟩ : Addr).add j = ⟨g, j, none⟩ := by unfold Addr.add; split <;> simp_all
    have hjn : j < n := by omega
    have hj2 : j < (m.extract a (a + n)).size := by rw [ByteArray.size_extract]; omega
    rw [hadd, hc j hjn, ← bt_ex m a n j h hjn, ← bt_list _ j hj2]
    clear h hs hc hadd hjn hj2
    generalize (m.extract a (a + n)).data.toList = l at *
    simp [List.getD, List.getElem?_eq_getElem hj])
  rw [hs] at h9
  exact h9
end Go.Proofs.Ytblmodlpopnckaa
