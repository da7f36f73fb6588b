import Derived.Test.YtkicaihfknfgkaaDoorSplit
namespace Go.Proofs.YtkicaihfknfgkaaDoor
open Go.ChangeShapes Go.WideShapes Go.ChangeAt Go.RowKit

/-- The ops' names, 1 to 54; '.': there is none. -/
def nmT : List ByteArray := [⟨#[97, 100, 100]⟩, ⟨#[115, 117, 98]⟩, ⟨#[97, 110, 100]⟩, ⟨#[111, 114]⟩, ⟨#[120, 111, 114]⟩, ⟨#[115, 104, 108]⟩, ⟨#[115, 104, 114]⟩, ⟨#[115, 97, 114]⟩, ⟨#[109, 117, 108]⟩, ⟨#[100, 105, 118]⟩, ⟨#[114, 101, 109]⟩, ⟨#[108, 101, 115, 115]⟩, ⟨#[98, 101, 108, 111, 119]⟩, ⟨#[46]⟩, ⟨#[46]⟩, ⟨#[97, 100, 100, 105]⟩, ⟨#[97, 110, 100, 105]⟩, ⟨#[111, 114, 105]⟩, ⟨#[120, 111, 114, 105]⟩, ⟨#[104, 105, 103, 104]⟩, ⟨#[46]⟩, ⟨#[46]⟩, ⟨#[46]⟩, ⟨#[108, 111, 97, 100]⟩, ⟨#[108, 111, 97, 100, 98]⟩, ⟨#[115, 116, 111, 114, 101]⟩, ⟨#[115, 116, 111, 114, 101, 98]⟩, ⟨#[102, 97, 100, 100]⟩, ⟨#[115, 119, 97, 112]⟩, ⟨#[105, 102, 115, 97, 109, 101]⟩, ⟨#[46]⟩, ⟨#[101, 113]⟩, ⟨#[110, 101]⟩, ⟨#[108, 116]⟩, ⟨#[108, 111]⟩, ⟨#[99, 97, 108, 108]⟩, ⟨#[106, 117, 109, 112]⟩, ⟨#[46]⟩, ⟨#[46]⟩, ⟨#[115, 121, 115]⟩, ⟨#[114, 101, 116]⟩, ⟨#[119, 97, 105, 116]⟩, ⟨#[103, 101, 116, 99]⟩, ⟨#[112, 117, 116, 99]⟩, ⟨#[102, 108, 117, 115, 104]⟩, ⟨#[105, 110]⟩, ⟨#[111, 117, 116]⟩, ⟨#[104, 121, 112, 101, 114]⟩, ⟨#[104, 97, 108, 116]⟩, ⟨#[46]⟩, ⟨#[46]⟩, ⟨#[118, 108, 111, 97, 100]⟩, ⟨#[118, 115, 116, 111, 114, 101]⟩, ⟨#[118, 97, 100, 100]⟩]
def nm (op : Int) : ByteArray := if op < 1 ∨ 54 < op then ⟨#[]⟩ else if nmT.getD (op.toNat - 1) ⟨#[]⟩ = ⟨#[46]⟩ then ⟨#[]⟩ else nmT.getD (op.toNat - 1) ⟨#[]⟩
theorem beqL_eq {a : ByteArray} {l : List UInt8} (h : (a.toList == l) = true) : a = ⟨l.toArray⟩ := by
  rw [ByteArray.toList_eq] at h
  obtain ⟨⟨x⟩⟩ := a
  have : x = l := by simpa using h
  rw [this]
theorem beqL_of {a : ByteArray} {l : List UInt8} (h : a = ⟨l.toArray⟩) : (a.toList == l) = true := by subst h; rw [ByteArray.toList_eq]; simp
theorem beqL_ne {a : ByteArray} {l : List UInt8} (h : (a.toList == l) = false) : ¬ a = ⟨l.toArray⟩ := by
  intro h2
  rw [beqL_of h2] at h
  cases h
theorem beqL_no {a : ByteArray} {l : List UInt8} (h : ¬ a = ⟨l.toArray⟩) : (a.toList == l) = false := by
  cases h2 : (a.toList == l)
  · rfl
  · exact absurd (beqL_eq h2) h
theorem nm_out (op : Int) (h : op < 1 ∨ 54 < op) : nm op = ⟨#[]⟩ := if_pos h
theorem nm_in (op : Int) (h0 : 1 ≤ op) (h1 : op ≤ 54) : nm op = if nmT.getD (op.toNat - 1) ⟨#[]⟩ = ⟨#[46]⟩ then ⟨#[]⟩ else nmT.getD (op.toNat - 1) ⟨#[]⟩ := by
  unfold nm
  rw [if_neg (by omega)]
theorem nmT_len : nmT.length = 54 := rfl
theorem strs_get (l : List ByteArray) (k : Nat) (h : k < l.length) : (strs l)[k]? = some (.string (l.getD k ⟨#[]⟩)) := by
  simp [strs, List.getD, h]

end Go.Proofs.YtkicaihfknfgkaaDoor
