import Derived.Test.YtohmejfpebjlaaaGreatDoorAsmLine
namespace Go.Proofs.YtohmejfpebjlaaaGreatDoor
open Go.ChangeShapes Go.WideShapes Go.ChangeAt Go.WideMaps Go.WideElems Go.RowKit

/-- The block of lines: the texts, and the empty one behind. -/
def linO (ps : List ByteArray) : Obj := .cells ((ps ++ [(⟨#[]⟩ : ByteArray)]).map Value.string).toArray 9
theorem splitLines (ps : List ByteArray) (h : ∀ p ∈ ps, (10 : UInt8) ∉ p.data.toList) (hs : (linB ps).size ≤ 100000) (m : Int) (w : World) (hm : w.cell? ⟨2, 0, none⟩ = some (.int .i64 m)) :
    Calls Tryz.prog 54 #[.string (linB ps), .string ⟨#[10]⟩] w fun e w' => e = .returned (.slice (some ⟨w.heap.size, 0, none⟩) (ps.length + 1) (ps.length + 1)) ∧ w' = w.alloc (linO ps) := by
  obtain ⟨h1, h2⟩ := split_lines ps h
  refine (Tryz.strings_Split _ _ m w (by omega) hm (by decide)).mono ?_
  rintro e u ⟨rfl, rfl⟩
  rw [h2, h1]
  exact ⟨rfl, rfl⟩
theorem linO_at (ps : List ByteArray) (w : World) (k : Nat) (p : ByteArray) (hk : (ps ++ [⟨#[]⟩])[k]? = some p) : (w.alloc (linO ps)).cell? ⟨w.heap.size, k, none⟩ = some (.string p) := by
  unfold linO
  have : (w.alloc (.cells ((ps ++ [(⟨#[]⟩ : ByteArray)]).map Value.string).toArray 9)).heap[w.heap.size]? = some (.cells ((ps ++ [(⟨#[]⟩ : ByteArray)]).map Value.string).toArray 9 (0, 0)) := heap_new _ _
  simp only [World.cell?, this]
  simp only [List.getElem?_toArray, List.getElem?_map, hk, Option.map_some]
  rfl
set_option maxRecDepth 100000 in
set_option maxHeartbeats 1000000 in
theorem linesOf_ok (ps : List ByteArray) (h : ∀ p ∈ ps, (10 : UInt8) ∉ p.data.toList) (hs : (linB ps).size ≤ 100000) (hl : ps.length ≤ 100) (w : World) (hm : MaxAt w) :
    Calls Tryz.prog 36 #[.string (linB ps)] w fun e w' => e = .returned (.slice (some ⟨w.heap.size, 0, none⟩) ps.length (ps.length + 1)) ∧ w' = w.alloc (linO ps) := by
  obtain ⟨m, hm⟩ := hm
  have hsp := splitLines ps h hs m w hm
  have hc := linO_at ps w ps.length ⟨#[]⟩ (by simp)
  clear h hs hm
  generalize linB ps = tx at *
  generalize linO ps = ob at *
  generalize ps.length = n at *
  go_enter Tryz.func36, Tryz.ntmps36
  go_wp2_with (first | (go_at_call 54; refine Calls.mono hsp ?_; rintro e u1 ⟨rfl, rfl⟩))
  go_ret
  exact ⟨rfl, rfl⟩
end Go.Proofs.YtohmejfpebjlaaaGreatDoor
