import Derived.Test.YtmmodmanfoipiaaDoorJoinedCore
namespace Go.Proofs.YtmmodmanfoipiaaDoor
open Go.ChangeShapes Go.WideShapes Go.ChangeAt Go.RowKit

def catB (ps : List ByteArray) : List UInt8 := ps.flatMap fun p => p.data.toList
theorem catB_succ (ps : List ByteArray) (k : Nat) (h : k < ps.length) : catB (ps.take (k + 1)) = catB (ps.take k) ++ (ps.getD k ByteArray.empty).data.toList := by
  rw [List.take_succ_eq_append_getElem h]
  unfold catB
  rw [List.flatMap_append]
  simp [List.getElem?_eq_getElem h]
theorem catB_le (ps : List ByteArray) (k : Nat) : (catB (ps.take k)).length ≤ (catB ps).length := by
  have h : catB ps = catB (ps.take k) ++ catB (ps.drop k) := by
    unfold catB
    rw [← List.flatMap_append, List.take_append_drop]
  rw [h, List.length_append]
  omega
theorem strCells_eq (s : ByteArray) : Lib.strCells s = cells8 s.data.toList := rfl
set_option maxRecDepth 100000 in
set_option maxHeartbeats 400000 in
theorem joined_any (b n cap : Nat) (ps : List ByteArray) (w : World) (hn : ps.length = n) (hb : b < w.heap.size) (hc : ∀ i, i < n → w.cell? ⟨b, i, none⟩ = some (.string (ps.getD i ByteArray.empty)))
    (hN : n ≤ 1000) (hsz : (catB ps).length ≤ 1099511627776) :
    Calls Tryd.prog 16 #[.slice (some ⟨b, 0, none⟩) n cap] w fun e w' => e = .returned (.string ⟨(catB ps).toArray⟩) ∧ Below w.heap.size w w' := by
  obtain ⟨i0, hi, hz0, hz1, hz2⟩ := info_parts Tryd.info5
  go_enter Tryd.func16, Tryd.ntmps16
  go_wp2
  go_loopw [3, 8] (fun v i wr => ∃ k : Nat, k ≤ n ∧ i = .int .i64 k ∧ wr.ownsRow w.heap.size 5 1 v (catB (ps.take k)).length (cells8 (catB (ps.take k))) ∧ Below w.heap.size w wr) (fun _ i _ => n - (intOf i).toNat)
  case atStart => exact ⟨0, Nat.zero_le _, rfl, World.ownsRow_nil _ _ _ _, Below.refl _ _⟩
  case round =>
    obtain ⟨k, hk, rfl, hown, hbl⟩ := hrel
    by_cases hlt : k < n
    · have hcx : wr.cell? ⟨b, k, none⟩ = some (.string (ps.getD k ByteArray.empty)) := (hbl.cell (p := ⟨b, k, none⟩) hb).trans (hc k hlt)
      have hle := catB_le ps (k + 1)
      have hsu := catB_succ ps k (by omega)
      have hlen : (catB (ps.take (k + 1))).length = (catB (ps.take k)).length + (ps.getD k ByteArray.empty).size := by rw [hsu, List.length_append]; rfl
      have HS : Hid (catB (ps.take (k + 1)) = catB (ps.take k) ++ (ps.getD k ByteArray.empty).data.toList) := hsu
      have HL : Hid ((catB (ps.take (k + 1))).length = (catB (ps.take k)).length + (ps.getD k ByteArray.empty).size) := hlen
      have hbd : (catB (ps.take k)).length + (ps.getD k ByteArray.empty).size ≤ 1099511627776 := by omega
      clear hle hsu hlen
      generalize ps.getD k ByteArray.empty = p at *
      go_wp2_with (at_builtin; refine Lib.wpList_append_own_string _ rfl _ _ 22 9 rfl w.heap.size 5 i0 Tryd.underlying22 Tryd.underlying9 hi hz0 hz1 hz2 _ _ _ rfl hown p rfl (by unfold maxLen; omega) (by omega) hbl.size ?_)
      intro v' w1 hown' hgrow _
      go_wp2
      refine ⟨⟨k + 1, by omega, by go_num, own_cast hown' HL.out.symm (by rw [HS.out, cells8_app]; rfl), hbl.grown hgrow hbl.size (fun j hj => (hown.lt j hj).1)⟩, by simp [intOf]; omega⟩
    · obtain rfl : k = n := by omega
      have hcv := conv_own wr _ _ _ _ hown
      go_wp2
      go_ret
      exact ⟨by rw [List.take_of_length_le (by omega)]; rfl, hbl⟩

end Go.Proofs.YtmmodmanfoipiaaDoor
