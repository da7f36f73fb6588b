import Derived.Test.YtalpcjclahkgnaaGreatRowS
namespace Go.Proofs.YtalpcjclahkgnaaGreat
open Go.ChangeShapes Go.WideShapes Go.ChangeAt Go.RowKit

set_option maxRecDepth 100000
/-- The bytes of texts. -/
def totS : List ByteArray → Int
  | [] => 0
  | z :: zs => (z.size : Int) + totS zs
theorem totS_nn (zs : List ByteArray) : 0 ≤ totS zs := by
  induction zs with
  | nil => exact Int.le_refl _
  | cons z zs ih => unfold totS; omega
theorem totS_el (zs : List ByteArray) (z : ByteArray) (hz : z ∈ zs) : (z.size : Int) ≤ totS zs := by
  induction zs with
  | nil => simp at hz
  | cons y zs ih =>
    have := totS_nn zs
    unfold totS
    rcases List.mem_cons.1 hz with rfl | h
    · omega
    · have := ih h
      omega
theorem totS_drop (zs : List ByteArray) (k : Nat) (hk : k < zs.length) : totS (zs.drop k) = (zs[k].size : Int) + totS (zs.drop (k + 1)) := by
  rw [List.drop_eq_getElem_cons hk]
  rfl
set_option maxHeartbeats 4000000 in
theorem szSS_any {w : World} {v : Value} {zs : List ByteArray} (h : Srow w v zs) (l : Int) (h0 : 0 ≤ l) (h1 : l ≤ 1048576) (hm : zs.length ≤ maxLen) (hs : ∀ z ∈ zs, z.size ≤ maxLen) (q : Int) (hq : q = if l < (zs.length : Int) + totS zs then -1 else l - ((zs.length : Int) + totS zs)) :
    Calls Tryz.prog 48 #[v, .int .i64 l] w fun e w' => e = .returned (.int .i64 q) ∧ Below w.heap.size w w' := by
  obtain ⟨ao, cap, rfl⟩ := h.sl
  have HR : Hid (Srow w (.slice ao zs.length cap) zs) := h
  have HS : Hid _ := hs
  have hnn := totS_nn zs
  have hmx : maxLen ≤ 9223372036854775807 := by decide
  clear h hs
  by_cases t1 : l < (zs.length : Int)
  · rw [if_pos (by omega)] at hq
    have HQ : Hid _ := hq
    have hw : IntKind.i64.wrap (l - (zs.length : Int)) = l - (zs.length : Int) := by rw [IntKind.wrap_i64]; omega
    have g1 : l - (zs.length : Int) < 0 := by omega
    clear hq hnn hm hmx h0 h1
    go_enter Tryz.func48, Tryz.ntmps48
    go_wp2
    go_ret
    exact ⟨ret_int HQ.out.symm, Below.refl _ _⟩
  · obtain ⟨l2, hl2⟩ : ∃ l2 : Int, l2 = l - zs.length := ⟨_, rfl⟩
    have hw : IntKind.i64.wrap (l - (zs.length : Int)) = l2 := by rw [IntKind.wrap_i64]; omega
    have g1 : ¬ l2 < 0 := by omega
    have HQ : Hid (q = if l2 < totS zs then -1 else l2 - totS zs) := (show q = if l2 < totS zs then -1 else l2 - totS zs by
      rw [hq]
      by_cases t : l2 < totS zs
      · rw [if_pos t, if_pos (by omega)]
      · rw [if_neg t, if_neg (by omega)]; omega)
    have hl2m : l2 ≤ 1048576 := by omega
    have hcl : zs.length ≤ 1048576 := by omega
    clear hq hl2
    go_enter Tryz.func48, Tryz.ntmps48
    go_wp2
    go_loopw [1, 5] (fun x i wr => ∃ (k : Nat) (y : Int), k ≤ zs.length ∧ i = .int .i64 k ∧ x = .int .i64 y ∧ 0 ≤ y ∧ y ≤ 1048576 ∧ (q = if y < totS (zs.drop k) then -1 else y - totS (zs.drop k)) ∧ Below w.heap.size w wr) (fun _ i _ => zs.length - (intOf i).toNat)
    case atStart => exact ⟨0, l2, Nat.zero_le _, rfl, rfl, by omega, by omega, by rw [List.drop_zero]; exact HQ.out, Below.refl _ _⟩
    case round =>
      obtain ⟨k, y, hk, rfl, rfl, y0, y1, hy, hb⟩ := hrel
      have HB : Hid _ := hb
      by_cases hlt : k < zs.length
      · obtain ⟨g, o, cap2, hv, _, hg, hc⟩ := HR.out.resolve_left (fun h => by rw [h.1] at hlt; simp at hlt)
        injection hv with hv1 hv2 hv3
        subst hv1 hv3
        clear hv2
        have d0 := hc.below hb hg k hlt
        have hzb := HS.out zs[k] (List.getElem_mem hlt)
        have hd := totS_drop zs k hlt
        have hnd := totS_nn (zs.drop (k + 1))
        generalize zs[k] = z at *
        have hk0 : (0 : Int) ≤ (k : Int) := by omega
        have hk1 : (k : Int) < (zs.length : Int) := by omega
        clear hc hb
        by_cases t : y < (z.size : Int)
        · have HQ2 : Hid (q = -1) := (show q = -1 by rw [hy, if_pos (by omega)])
          have hw2 : IntKind.i64.wrap (y - (z.size : Int)) = y - (z.size : Int) := by rw [IntKind.wrap_i64]; omega
          have g4 : y - (z.size : Int) < 0 := by omega
          clear hy hd hnd
          go_wp2_with fail
          go_ret
          exact ⟨ret_int HQ2.out.symm, HB.out⟩
        · obtain ⟨y2, hy2⟩ : ∃ y2 : Int, y2 = y - (z.size : Int) := ⟨_, rfl⟩
          have hw2 : IntKind.i64.wrap (y - (z.size : Int)) = y2 := by rw [IntKind.wrap_i64]; omega
          have g4 : ¬ y2 < 0 := by omega
          have HQ2 : Hid (q = if y2 < totS (zs.drop (k + 1)) then -1 else y2 - totS (zs.drop (k + 1))) := (show q = if y2 < totS (zs.drop (k + 1)) then -1 else y2 - totS (zs.drop (k + 1)) by
            by_cases t9 : y2 < totS (zs.drop (k + 1))
            · rw [if_pos t9, hy, if_pos (by omega)]
            · rw [if_neg t9, hy, if_neg (by omega)]; omega)
          have HY : Hid (0 ≤ y2 ∧ y2 ≤ 1048576) := (show 0 ≤ y2 ∧ y2 ≤ 1048576 by omega)
          clear hy hd hnd t hy2 y0 y1
          go_wp2_with fail
          go_roundw
          case rel => exact ⟨k + 1, y2, hlt, by go_num, rfl, HY.out.1, HY.out.2, HQ2.out, HB.out⟩
          case measure => simp [intOf]; omega
      · obtain rfl : k = zs.length := by omega
        have HQ2 : Hid (q = y) := (show q = y by rw [hy, List.drop_length]; show (if y < 0 then (-1 : Int) else y - 0) = y; rw [if_neg (by omega)]; omega)
        clear hy
        go_wp2
        go_ret
        exact ⟨ret_int HQ2.out.symm, hb⟩
end Go.Proofs.YtalpcjclahkgnaaGreat
