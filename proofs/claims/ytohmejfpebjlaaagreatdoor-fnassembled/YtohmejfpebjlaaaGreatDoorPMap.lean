import Derived.Test.YtohmejfpebjlaaaGreatDoorPName
import Derived.Maps.OwnSet
import Derived.Laws.Rows
namespace Go.Proofs.YtohmejfpebjlaaaGreatDoor
open Go.ChangeShapes Go.WideShapes Go.ChangeAt Go.WideMaps Go.WideElems Go.RowKit Go.Maps

/-- The map of names behind k rounds. -/
def nmD : Nat → DataW Unit
  | 0 => .map []
  | k + 1 => if nm (k : Int) = ⟨#[]⟩ then nmD k else (nmD k).put (.string (nm (k : Int)).data.toList) (.lit (.int .i64 k))
theorem lawS : Keyed Tryz.prog 9 := string_keyed Tryz.underlying9
theorem zero64 (w : World) : (zeroValue 2).run Tryz.prog w = .ok (.int .i64 0) w := by kernel_rfl
def opArr : Array Value := ((List.range 55).map fun (k : Nat) => Value.string (nm (k : Int))).toArray
/-- The names lie whole. -/
def NamesB (w : World) : Prop := ∃ t fr, w.heap[0]? = some (.cells opArr t fr)
theorem NamesB.below {B : Nat} {w w' : World} (h : NamesB w) (hb : Below B w w') (hB : 0 < B) : NamesB w' := by
  obtain ⟨t, fr, h⟩ := h
  exact ⟨t, fr, (hb.block 0 hB).trans h⟩
theorem nm_max (k : Int) : (nm k).size ≤ maxLen := by
  have : (nm k).size ≤ 6 := by
    unfold nm
    split
    · decide
    split
    · decide
    · rename_i h1 h2
      have hk : k.toNat - 1 < nmT.length := by rw [nmT_len]; omega
      rw [List.getD_eq_getElem?_getD, List.getElem?_eq_getElem hk]
      exact (show ∀ x ∈ nmT, x.size ≤ 6 by decide +kernel) _ (List.getElem_mem hk)
  unfold maxLen
  omega
set_option maxRecDepth 100000 in
theorem opArr_at : ∀ (k : Nat) (w : World), k < 55 → (Instr.index 91 (.agg opArr) (.int .i64 k)).run Tryz.prog w = .ok (.string (nm k)) w
  | 0, _, _ => by kernel_rfl
  | 1, _, _ => by kernel_rfl
  | 2, _, _ => by kernel_rfl
  | 3, _, _ => by kernel_rfl
  | 4, _, _ => by kernel_rfl
  | 5, _, _ => by kernel_rfl
  | 6, _, _ => by kernel_rfl
  | 7, _, _ => by kernel_rfl
  | 8, _, _ => by kernel_rfl
  | 9, _, _ => by kernel_rfl
  | 10, _, _ => by kernel_rfl
  | 11, _, _ => by kernel_rfl
  | 12, _, _ => by kernel_rfl
  | 13, _, _ => by kernel_rfl
  | 14, _, _ => by kernel_rfl
  | 15, _, _ => by kernel_rfl
  | 16, _, _ => by kernel_rfl
  | 17, _, _ => by kernel_rfl
  | 18, _, _ => by kernel_rfl
  | 19, _, _ => by kernel_rfl
  | 20, _, _ => by kernel_rfl
  | 21, _, _ => by kernel_rfl
  | 22, _, _ => by kernel_rfl
  | 23, _, _ => by kernel_rfl
  | 24, _, _ => by kernel_rfl
  | 25, _, _ => by kernel_rfl
  | 26, _, _ => by kernel_rfl
  | 27, _, _ => by kernel_rfl
  | 28, _, _ => by kernel_rfl
  | 29, _, _ => by kernel_rfl
  | 30, _, _ => by kernel_rfl
  | 31, _, _ => by kernel_rfl
  | 32, _, _ => by kernel_rfl
  | 33, _, _ => by kernel_rfl
  | 34, _, _ => by kernel_rfl
  | 35, _, _ => by kernel_rfl
  | 36, _, _ => by kernel_rfl
  | 37, _, _ => by kernel_rfl
  | 38, _, _ => by kernel_rfl
  | 39, _, _ => by kernel_rfl
  | 40, _, _ => by kernel_rfl
  | 41, _, _ => by kernel_rfl
  | 42, _, _ => by kernel_rfl
  | 43, _, _ => by kernel_rfl
  | 44, _, _ => by kernel_rfl
  | 45, _, _ => by kernel_rfl
  | 46, _, _ => by kernel_rfl
  | 47, _, _ => by kernel_rfl
  | 48, _, _ => by kernel_rfl
  | 49, _, _ => by kernel_rfl
  | 50, _, _ => by kernel_rfl
  | 51, _, _ => by kernel_rfl
  | 52, _, _ => by kernel_rfl
  | 53, _, _ => by kernel_rfl
  | 54, _, _ => by kernel_rfl
  | k + 55, _, h => absurd h (by omega)
set_option maxRecDepth 100000 in
set_option maxHeartbeats 2000000 in
theorem opsByName_any (w : World) (hn : NamesB w) (hw : 0 < w.heap.size) :
    Calls Tryz.prog 33 #[] w fun e w' => e = .returned (.map (some w.heap.size)) ∧ w'.ownsMap Tryz.prog 9 (plainElem Tryz.prog 2) w.heap.size 55 (nmD 55) ∧ Below w.heap.size w w' := by
  have HN := hn
  obtain ⟨tt, fr, hh⟩ := hn
  have HH : Hid (w.heap[0]? = some (.cells opArr tt fr)) := hh
  clear hh HN
  have hmm := @run_makeMap Tryz.prog
  have hix := opArr_at
  go_enter Tryz.func33, Tryz.ntmps33
  go_wp2_with (refine wpList_load_row rfl 91 _ rfl 0 rfl tt opArr fr _ ((Below.heap_alloc _ _ _ hw).trans HH.out) Tryz.underlying91 rfl (by kernel_rfl) ?_)
  go_loopw [6] (fun i wr => ∃ k : Nat, k ≤ 55 ∧ i = .int .i64 k ∧ wr.ownsMap Tryz.prog 9 (plainElem Tryz.prog 2) w.heap.size k (nmD k) ∧ Below w.heap.size w wr) (fun i _ => 55 - (intOf i).toNat)
  case atStart => exact ⟨0, Nat.zero_le _, rfl, World.ownsMap_made _ _ _ _, (Below.refl _ _).alloc (Nat.le_refl _) _⟩
  case round =>
    obtain ⟨k, hk, rfl, hown, hbl⟩ := hrel
    by_cases hlt : k < 55
    · have hx := fun w => hix k w hlt
      have hkey : keyOf Tryz.prog 9 (.string (nm (k : Int))) = some (.string (nm (k : Int)).data.toList) := keyOf_string_mk Tryz.underlying9 (nm_max _)
      have HD : Hid (nmD (k + 1) = if nm (k : Int) = ⟨#[]⟩ then nmD k else (nmD k).put (.string (nm (k : Int)).data.toList) (.lit (.int .i64 k))) := (show nmD (k + 1) = _ from rfl)
      clear hix
      generalize nm (k : Int) = x at *
      cases hb : (x.toList == [])
      · have HE : Hid (nmD (k + 1) = (nmD k).put (.string x.data.toList) (.lit (.int .i64 k))) := HD.out.trans (if_neg (beqL_ne hb))
        go_wp2_with (at_mapUpdate; refine wpList_mapUpdate_own _ rfl _ _ _ 68 rfl 9 2 lawS Tryz.underlying68 _ w.heap.size k _ rfl hown (by unfold maxLen; omega) _ _ _ rfl rfl hkey _ [] (plainElem_int Tryz.underlying2 (WalkArith.wf_i64 (by omega))) ?_)
        intro w1 hown1 hgrow1
        go_wp2
        go_roundw
        case rel => exact ⟨k + 1, by omega, by go_num, by rw [HE.out]; exact hown1, hbl.grown hgrow1 hbl.size (fun j hj => by cases hj; exact Nat.le_refl _)⟩
        case measure => simp [intOf]; omega
      · have HE : Hid (nmD (k + 1) = nmD k) := HD.out.trans (if_pos (beqL_eq hb))
        go_wp2
        go_roundw
        case rel => exact ⟨k + 1, by omega, by go_num, by rw [HE.out]; exact hown.mono (by omega), hbl⟩
        case measure => simp [intOf]; omega
    · obtain rfl : k = 55 := by omega
      go_wp2
      go_ret
      exact ⟨rfl, hown, hbl⟩
/-- What the map tells of a name that is there. -/
theorem nmD_at (op : Int) (h : nm op ≠ ⟨#[]⟩) : (nmD 55).atKey (.string (nm op).data.toList) (.lit (.int .i64 0)) = .lit (.int .i64 op) ∧ Maps.has (nmD 55) (.string (nm op).data.toList) = true := by
  have hop : 1 ≤ op ∧ op ≤ 54 := by
    by_cases h2 : op < 1 ∨ 54 < op
    · exact absurd (nm_out op h2) h
    · omega
  obtain ⟨k, rfl⟩ : ∃ k : Nat, op = k := ⟨op.toNat, by omega⟩
  have hk : k = 1 ∨ k = 2 ∨ k = 3 ∨ k = 4 ∨ k = 5 ∨ k = 6 ∨ k = 7 ∨ k = 8 ∨ k = 9 ∨ k = 10 ∨ k = 11 ∨ k = 12 ∨ k = 13 ∨ k = 14 ∨ k = 15 ∨ k = 16 ∨ k = 17 ∨ k = 18 ∨ k = 19 ∨ k = 20 ∨ k = 21 ∨ k = 22 ∨ k = 23 ∨ k = 24 ∨ k = 25 ∨ k = 26 ∨ k = 27 ∨ k = 28 ∨ k = 29 ∨ k = 30 ∨ k = 31 ∨ k = 32 ∨ k = 33 ∨ k = 34 ∨ k = 35 ∨ k = 36 ∨ k = 37 ∨ k = 38 ∨ k = 39 ∨ k = 40 ∨ k = 41 ∨ k = 42 ∨ k = 43 ∨ k = 44 ∨ k = 45 ∨ k = 46 ∨ k = 47 ∨ k = 48 ∨ k = 49 ∨ k = 50 ∨ k = 51 ∨ k = 52 ∨ k = 53 ∨ k = 54 := by omega
  rcases hk with rfl | rfl | rfl | rfl | rfl | rfl | rfl | rfl | rfl | rfl | rfl | rfl | rfl | rfl | rfl | rfl | rfl | rfl | rfl | rfl | rfl | rfl | rfl | rfl | rfl | rfl | rfl | rfl | rfl | rfl | rfl | rfl | rfl | rfl | rfl | rfl | rfl | rfl | rfl | rfl | rfl | rfl | rfl | rfl | rfl | rfl | rfl | rfl | rfl | rfl | rfl | rfl | rfl | rfl
  all_goals first | exact absurd (by decide +kernel) h | exact ⟨by kernel_rfl, by kernel_rfl⟩
end Go.Proofs.YtohmejfpebjlaaaGreatDoor
