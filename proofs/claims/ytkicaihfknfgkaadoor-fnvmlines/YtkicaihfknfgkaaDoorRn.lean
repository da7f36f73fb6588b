import Derived.Test.YtkicaihfknfgkaaDoorFmt
import Derived.Test.YtkicaihfknfgkaaDoorNumDec
import Derived.Test.YtkicaihfknfgkaaDoorFault2
import Derived.Shelf.Strconv.ParseIntPublic10
import Derived.Lib.ParseIntBTie
import Derived.Deep.QuietTactic
import Derived.Lib.ParseIntB
import Derived.Lib.SplitLaws
import Derived.Lib.CountLaws
import Derived.Lib.IndexMore
namespace Go.Proofs.YtkicaihfknfgkaaDoor
open Go.ChangeShapes Go.WideShapes Go.ChangeAt Go.RowKit

theorem ext_list {a b : ByteArray} (h : a.data.toList = b.data.toList) : a = b := ByteArray.ext (Array.toList_inj.1 h)

theorem pu_digit (M acc n : Nat) (r : List UInt8) (h : n < 10) (ha : acc < 1844674407370955162) (hM : acc * 10 + n ≤ M) : Lib.parseUintM M acc (dch n :: r) = Lib.parseUintM M (acc * 10 + n) r := by
  have e := dch_nat n h
  rw [Lib.parseUintM, e, if_pos (by omega), if_neg (by omega), if_neg (by omega), show 48 + n - 48 = n by omega]
theorem pu_decN (M n : Nat) : ∀ (r : List UInt8), n ≤ 1000000000 → n ≤ M → Lib.parseUintM M 0 (decN n ++ r) = Lib.parseUintM M n r := by
  induction n using Nat.strongRecOn with
  | ind n ih =>
    intro r h1 h2
    by_cases h : n < 10
    · rw [decN_lt n h]
      exact (pu_digit M 0 n r h (by omega) (by omega)).trans (by rw [Nat.zero_mul, Nat.zero_add])
    · rw [decN_ge n (by omega), List.append_assoc, ih (n / 10) (by omega) _ (by omega) (by omega)]
      exact (pu_digit M (n / 10) (n % 10) r (by omega) (by omega) (by omega)).trans (by rw [show n / 10 * 10 + n % 10 = n by omega])
theorem parse_dec (n : Int) (h0 : -1000000000 ≤ n) (h1 : n ≤ 1000000000) : Lib.parseIntB 64 (decL n) = .ok n := by
  have hp : ∀ k : Nat, k ≤ 1000000000 → Lib.parseUintB 64 (decN k) = .ok k := by
    intro k hk
    obtain ⟨c, r, e, _, _⟩ := decN_head k
    have := pu_decN (2 ^ 64 - 1) k [] hk (by omega)
    rw [List.append_nil] at this
    unfold Lib.parseUintB
    rw [if_neg (by rw [e]; simp), this]
    rfl
  unfold decL
  split
  · rename_i hn
    simp only [Lib.parseIntB]
    rw [if_pos (by decide), hp _ (by omega)]
    have e1 : ¬ ((2 : Nat) ^ (64 - 1) < (-n).toNat) := by omega
    simp [e1]
    omega
  · obtain ⟨c, r, e, h2, h3⟩ := decN_head n.toNat
    have hq := hp n.toNat (by omega)
    rw [e] at hq ⊢
    simp only [Lib.parseIntB]
    rw [if_neg (by omega), hq]
    have e1 : ¬ ((2 : Nat) ^ (64 - 1) ≤ n.toNat) := by omega
    have e2 : ¬ (c.toNat = 45) := by omega
    simp [e1, e2]
    omega
/-- The library's two errors lie in their variables. -/
def ErrsAt (w : World) : Prop := (∃ ev, w.cell? ⟨1, 0, none⟩ = some ev ∧ (ev = .nilIface ∨ ∃ te pe, ev = .iface te pe)) ∧ ∃ ev, w.cell? ⟨2, 0, none⟩ = some ev ∧ (ev = .nilIface ∨ ∃ te pe, ev = .iface te pe)
theorem ErrsAt.below {B : Nat} {w w' : World} (h : ErrsAt w) (hb : Below B w w') (h1 : 1 < B) (h2 : 2 < B) : ErrsAt w' := by
  obtain ⟨⟨e1, c1, k1⟩, e2, c2, k2⟩ := h
  exact ⟨⟨e1, (hb.cell (p := ⟨1, 0, none⟩) h1).trans c1, k1⟩, e2, (hb.cell (p := ⟨2, 0, none⟩) h2).trans c2, k2⟩
/-- What the program reads as a number. -/
def numP (s : ByteArray) : Int × Bool :=
  match Lib.parseIntB 64 s.data.toList with
  | .ok v => if decB v = s then (v, true) else (0, false)
  | _ => (0, false)
theorem numP_good {s : ByteArray} (h : (numP s).2 = true) : s = decB (numP s).1 := by
  unfold numP at h ⊢
  split at h
  · next v hv =>
    split at h
    · next e => simp only [if_pos e]; exact e.symm
    · cases h
  · cases h
set_option maxRecDepth 100000 in
set_option maxHeartbeats 2000000 in
theorem readNumber_any (s : ByteArray) (hs : s.size ≤ 1048576) (w : World) (ht : Tab w) (hw : 0 < w.heap.size) (he : ErrsAt w) :
    Calls Tryd.prog 36 #[.string s] w fun e w' => e = .returned (.tuple #[.int .i64 (numP s).1, .bool (numP s).2]) ∧ Below w.heap.size w w' := by
  obtain ⟨⟨e1, c1, k1⟩, e2, c2, k2⟩ := he
  cases hp : Lib.parseIntB 64 s.data.toList with
  | ok v =>
    have hpar := Tryd.strconv_ParseInt_10_at64_ok s (by omega) v hp w
    have hbd := Lib.parseIntB_bounds hp
    have hb63 : ((2 ^ (64 - 1) : Nat) : Int) = 9223372036854775808 := rfl
    rw [hb63] at hbd
    have hf := fun u hu => fmt_any v (by omega) (by omega) u hu
    have HT : Hid (Tab w) := ht
    have HP : Hid (numP s = if decB v = s then (v, true) else (0, false)) := (by show numP s = _; unfold numP; rw [hp])
    clear ht hp hb63 c1 c2 k1 k2
    generalize decB v = d at *
    have hpar2 : Calls Tryd.prog 40 #[.string s, .int .i64 10, .int .i64 64] w fun e w' => e = .returned (.tuple #[.int .i64 v, .nilIface]) ∧ Below w.heap.size w w' := by
      refine Calls.mono hpar ?_
      rintro e u ⟨rfl, rfl | ⟨t, rfl⟩⟩
      · exact ⟨rfl, Below.refl _ _⟩
      · exact ⟨rfl, Lib.bytesWorld_below _ _ _⟩
    clear hpar hbd
    by_cases hd : d = s
    · rw [HP.out, if_pos hd]
      subst hd
      clear HP
      go_enter Tryd.func36, Tryd.ntmps36
      go_wp2_with (first | (go_at_call 40; refine Calls.mono hpar2 ?_; rintro e u1 ⟨rfl, hu1⟩) | (go_at_call 33; refine Calls.mono (hf _ (HT.out.below hu1 hw)) ?_; rintro e u2 ⟨rfl, hu2⟩))
      go_ret2
      exact ⟨rfl, hu1.trans (hu2.mono hu1.size)⟩
    · rw [HP.out, if_neg hd]
      clear HP
      have hdl : (d.toList == s.toList) = false := by
        rw [beq_eq_false_iff_ne]
        intro h
        rw [ByteArray.toList_eq, ByteArray.toList_eq] at h
        exact hd (ext_list h)
      go_enter Tryd.func36, Tryd.ntmps36
      go_wp2_with (first | (go_at_call 40; refine Calls.mono hpar2 ?_; rintro e u1 ⟨rfl, hu1⟩) | (go_at_call 33; refine Calls.mono (hf _ (HT.out.below hu1 hw)) ?_; rintro e u2 ⟨rfl, hu2⟩))
      go_ret2
      exact ⟨rfl, hu1.trans (hu2.mono hu1.size)⟩
  | «syntax» =>
    have hpar := Any.strconv_ParseInt_10_at64_syntax Tryd.laysC174 s (by omega) hp e1 w c1 k1
    have HP : Hid (numP s = (0, false)) := (by show numP s = _; unfold numP; rw [hp])
    clear hp c1 c2 k1 k2 ht
    rw [HP.out]
    clear HP
    go_enter Tryd.func36, Tryd.ntmps36
    go_wp2_with (go_at_call 40; refine Calls.mono hpar ?_; rintro e u1 ⟨N, rfl, hN, hc, hu1⟩)
    go_ret2
    exact ⟨rfl, hu1⟩
  | range =>
    have hpar := Any.strconv_ParseInt_10_at64_range Tryd.laysC174 s (by omega) hp e2 w c2 k2
    have HP : Hid (numP s = (0, false)) := (by show numP s = _; unfold numP; rw [hp])
    clear hp c1 c2 k1 k2 ht
    rw [HP.out]
    clear HP
    generalize Lib.intSat 64 s.data.toList = m at *
    go_enter Tryd.func36, Tryd.ntmps36
    go_wp2_with (go_at_call 40; refine Calls.mono hpar ?_; rintro e u1 ⟨N, rfl, hN, hc, hu1⟩)
    go_ret2
    exact ⟨rfl, hu1⟩
theorem numP_dec (n : Int) (h0 : -1000000000 ≤ n) (h1 : n ≤ 1000000000) : numP (decB n) = (n, true) := by
  unfold numP
  have e : Lib.parseIntB 64 (decB n).data.toList = .ok n := by
    show Lib.parseIntB 64 (decL n).toArray.toList = _
    rw [List.toList_toArray]
    exact parse_dec n h0 h1
  rw [e]
  simp
set_option maxRecDepth 100000 in
set_option maxHeartbeats 2000000 in
theorem hasPrefix_any (s p : ByteArray) (w : World) : Calls Tryd.prog 45 #[.string s, .string p] w fun e w' => e = .returned (.bool (beg s p)) ∧ w' = w := by
  by_cases h : p.size ≤ s.size
  · rw [show beg s p = ((s.extract 0 p.size).toList == p.toList) from by unfold beg; rw [decide_eq_true h]; rfl]
    have hsl := sl_to s p.size h
    go_enter Tryd.func45, Tryd.ntmps45
    go_wp2
    go_ret
    exact ⟨rfl, rfl⟩
  · rw [show beg s p = false from by unfold beg; rw [decide_eq_false h]; rfl]
    go_enter Tryd.func45, Tryd.ntmps45
    go_wp2
    go_ret
    exact ⟨rfl, rfl⟩
theorem beg_le {s p : ByteArray} (h : beg s p = true) : p.size ≤ s.size := by
  unfold beg at h
  rw [Bool.and_eq_true] at h
  exact of_decide_eq_true h.1
theorem sl_from (s : ByteArray) (k : Nat) (h : k ≤ s.size) (w : World) : Sem.run Tryd.prog (Instr.slice 9 (.string s) (some (.int .i64 (k : Int))) none none) w = .ok (.string (s.extract k s.size)) w := by
  rw [run_slice_string_from_if _ _ _ _ _ Tryd.underlying9, if_pos (by omega)]
  rfl
/-- What CutPrefix leaves. -/
def cpB (s p : ByteArray) : ByteArray := if beg s p = true then s.extract p.size s.size else s
set_option maxRecDepth 100000 in
set_option maxHeartbeats 2000000 in
theorem liteCut_any (s p : ByteArray) (w : World) : Calls Tryd.prog 39 #[.string s, .string p] w fun e w' => e = .returned (.tuple #[.string (cpB s p), .bool (beg s p)]) ∧ w' = w := by
  have hp := hasPrefix_any s p
  cases hb : beg s p
  · have e : cpB s p = s := by unfold cpB; rw [hb]; rfl
    rw [e]
    rw [hb] at hp
    go_enter Tryd.func39, Tryd.ntmps39
    go_wp2_with (go_at_call 45; refine Calls.mono (hp _) ?_; rintro e u1 ⟨rfl, rfl⟩)
    go_ret2
    exact ⟨rfl, rfl⟩
  · have e : cpB s p = s.extract p.size s.size := by unfold cpB; rw [hb]; rfl
    rw [e]
    rw [hb] at hp
    have hsl := sl_from s p.size (beg_le hb)
    go_enter Tryd.func39, Tryd.ntmps39
    go_wp2_with (go_at_call 45; refine Calls.mono (hp _) ?_; rintro e u1 ⟨rfl, rfl⟩)
    go_ret2
    exact ⟨rfl, rfl⟩
set_option maxRecDepth 100000 in
set_option maxHeartbeats 2000000 in
theorem cutPrefix_any (s p : ByteArray) (w : World) : Calls Tryd.prog 35 #[.string s, .string p] w fun e w' => e = .returned (.tuple #[.string (cpB s p), .bool (beg s p)]) ∧ w' = w := by
  have hp := liteCut_any s p
  go_enter Tryd.func35, Tryd.ntmps35
  go_wp2_with (go_at_call 39; refine Calls.mono (hp _) ?_; rintro e u1 ⟨rfl, rfl⟩)
  go_ret2
  exact ⟨rfl, rfl⟩
theorem cpB_size (s p : ByteArray) : (cpB s p).size ≤ s.size := by
  unfold cpB
  split
  · rw [ByteArray.size_extract]; omega
  · omega
end Go.Proofs.YtkicaihfknfgkaaDoor
