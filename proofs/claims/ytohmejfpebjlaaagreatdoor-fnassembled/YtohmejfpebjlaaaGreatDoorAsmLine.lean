import Derived.Test.YtohmejfpebjlaaaGreatDoorAsmAdd
namespace Go.Proofs.YtohmejfpebjlaaaGreatDoor
open Go.ChangeShapes Go.WideShapes Go.ChangeAt Go.WideMaps Go.WideElems Go.RowKit

theorem trim_id (l : List UInt8) (h0 : ∃ x r, l = x :: r ∧ 97 ≤ x.toNat ∧ x.toNat ≤ 122) (h1 : Ends l) : Lib.trimS l [32, 9] = l := by
  obtain ⟨p, c, e, hc⟩ := h1
  have hr : Lib.trimRightS l [32, 9] = l := by
    have hn : ([32, 9] : List UInt8).contains c = false := by
      rw [← Bool.not_eq_true]
      intro h
      simp at h
      rcases h with rfl | rfl <;> revert hc <;> decide
    subst e
    unfold Lib.trimRightS
    rw [List.reverse_append, List.reverse_singleton, List.singleton_append, List.dropWhile_cons_of_neg (by rw [hn]; decide), List.reverse_cons, List.reverse_reverse]
  obtain ⟨x, r, e2, hx⟩ := h0
  unfold Lib.trimS
  rw [hr]
  have hn : ([32, 9] : List UInt8).contains x = false := by
    rw [← Bool.not_eq_true]
    intro h
    simp at h
    rcases h with rfl | rfl <;> revert hx <;> decide
  unfold Lib.trimLeftS
  rw [e2, List.dropWhile_cons_of_neg (by rw [hn]; decide)]
theorem trim_ok (s : ByteArray) (w : World) (hs : s.size ≤ 1000) (h0 : ∃ x r, s.data.toList = x :: r ∧ 97 ≤ x.toNat ∧ x.toNat ≤ 122) (h1 : Ends s.data.toList) :
    Calls Tryz.prog 57 #[.string s, .string ⟨#[32, 9]⟩] w fun e w' => e = .returned (.string s) ∧ Below w.heap.size w w' := by
  have hcon := Any.strings_Trim_laid Tryz.lays160 (by kernel_rfl) s ⟨#[32, 9]⟩ w (by omega) (by decide) (ascii_of_all (by decide))
  refine Calls.mono hcon ?_
  rintro e u ⟨rfl, hb⟩
  refine ⟨?_, hb⟩
  rw [show Lib.trimS s.data.toList (⟨#[32, 9]⟩ : ByteArray).data.toList = s.data.toList from trim_id _ h0 h1, toArr]
set_option maxRecDepth 100000 in
set_option maxHeartbeats 1000000 in
theorem addLine_ok {w wr : World} {base : Int} {mb : Nat} {lb v : Value} {zs : List Int} (h : AS w base mb lb wr v zs) (hz : zs.length < 999) (op a b c imm k : Int) (hok : isOk op a b c imm = true) (hn : Names w) (hw0 : 0 < w.heap.size) (hm : MaxAt w) (hw : 2 < w.heap.size) (ht : Tab w) (hw1 : 1 < w.heap.size) (hown : w.ownsMap Tryz.prog 9 (plainElem Tryz.prog 2) mb 55 (nmD 55)) :
    Calls Tryz.prog 37 #[.pointer (some ⟨w.heap.size, 0, none⟩), .string (txt op a b c imm ⟨#[]⟩), .int .i64 k] wr fun e u => e = .returned (.int .i64 0) ∧ ∃ v', AS w base mb lb u v' (zs ++ [encV op a b c imm]) := by
  have hadd := fun u (hu : AS w base mb lb u v zs) => addInstr_ok hu hz op a b c imm k hok hn hw0 hm hw ht hw1 hown
  have hsz := text_size op a b c imm hok
  obtain ⟨g0, g1, g2⟩ := txt_good op a b c imm hok
  have HA : Hid (AS w base mb lb wr v zs) := h
  clear h hz hn hm hw ht hw1 hown hok
  generalize txt op a b c imm ⟨#[]⟩ = tx at *
  have htr := fun u => trim_ok tx u hsz g0 g2
  have hpos : 0 < tx.size := by
    obtain ⟨x, r, e, _⟩ := g0
    rw [size_list, e]
    simp
  have hx0 : 97 ≤ bt tx 0 ∧ bt tx 0 ≤ 122 := by
    obtain ⟨x, r, e, hx⟩ := g0
    have e3 : tx.data.toList[0]? = some x := by rw [e]; rfl
    unfold bt
    rw [dif_pos hpos]
    have e4 : tx[0] = x := by
      have : tx.data.toList[0]'(by rw [e]; simp) = x := Option.some.inj ((List.getElem?_eq_getElem _).symm.trans e3)
      rw [← this]
      rfl
    rw [e4]
    omega
  have hx1 : bt tx (tx.size - 1) ≠ 58 := by
    obtain ⟨p, x, e, hx⟩ := g2
    have hl : tx.size - 1 = p.length := by rw [size_list, e]; simp
    have hlt : tx.size - 1 < tx.data.toList.length := by rw [← size_list]; omega
    have e3 : tx.data.toList[tx.size - 1]? = some x := by rw [hl, e]; simp
    unfold bt
    rw [dif_pos (by omega)]
    have e4 : tx[tx.size - 1]'(by omega) = x := by
      have : tx.data.toList[tx.size - 1]'hlt = x := Option.some.inj ((List.getElem?_eq_getElem hlt).symm.trans e3)
      rw [← this]
      rfl
    rw [e4]
    omega
  have ix0 := fun w => idx_str tx 0 hpos w 0 rfl
  have ix1 := fun w => idx_str tx (tx.size - 1) (by omega) w ((tx.size : Int) - 1) (by omega)
  have hne : ¬ tx.toList = [] := fun h => by rw [ByteArray.toList_eq] at h; rw [size_list, h] at hpos; exact absurd hpos (by decide)
  clear g0 g1 g2
  generalize bt tx 0 = y0 at *
  generalize bt tx (tx.size - 1) = y1 at *
  have hd0 : (y0 == 35) = false := by rw [beq_eq_false_iff_ne]; omega
  have hd2 : (y0 == 46) = false := by rw [beq_eq_false_iff_ne]; omega
  have hd1 : (y1 == 58) = false := by rw [beq_eq_false_iff_ne]; omega
  have hie : tx.toList.isEmpty = false := by simpa using hne
  go_enter Tryz.func37, Tryz.ntmps37
  go_wp2_with (first | (go_at_call 57; refine Calls.mono (htr _) ?_; rintro e u1 ⟨rfl, hu1⟩; replace HA : Hid _ := HA.out.step hu1) | (go_at_call 60; refine Calls.mono (hadd _ HA.out) ?_; rintro e u2 ⟨rfl, v', HR⟩))
  all_goals first
    | (go_ret; exact ⟨rfl, v', HR⟩)
    | (exfalso; simp_all; done)
    | (trace_state; sorry)
end Go.Proofs.YtohmejfpebjlaaaGreatDoor
