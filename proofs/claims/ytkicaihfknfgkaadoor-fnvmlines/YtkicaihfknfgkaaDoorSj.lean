import Derived.Test.YtkicaihfknfgkaaDoorSplit
import Derived.Test.YtkicaihfknfgkaaDoorRn
import Derived.Test.YtkicaihfknfgkaaDoorVt2
import Derived.Lib.OthersKept
import Derived.WalkSmall
namespace Go.Proofs.YtkicaihfknfgkaaDoor
open Go.ChangeShapes Go.WideShapes Go.ChangeAt Go.RowKit

/-- Behind a byte of 128 or more, no byte of its rune is below that. -/
theorem decode_skip (s : ByteArray) (pos : Nat) (h : pos < s.size) (ha : 128 ≤ bt s pos) : 1 ≤ (Utf8.decode s pos).2 ∧ pos + (Utf8.decode s pos).2 ≤ s.size ∧ (Utf8.decode s pos).1 ≠ 32 ∧ ∀ j, j < (Utf8.decode s pos).2 → 128 ≤ bt s (pos + j) := by
  have e0 : bt s pos = ((s.get! (pos + 0)).toNat : Int) := by rw [get_at s pos h, bt_eq s pos h]
  have hg : ∀ k, pos + k < s.size → ((s.get! (pos + k)).toNat : Int) = bt s (pos + k) := fun k hk => by rw [← bt_eq s (pos + k) hk]; simp [ByteArray.get!, getElem!_pos, hk]; rfl
  have hn : ¬ (s.get! (pos + 0)).toNat < 128 := by omega
  simp only [Utf8.decode, hn, if_false]
  have one : 1 ≤ 1 ∧ pos + 1 ≤ s.size ∧ Utf8.runeError ≠ 32 ∧ ∀ j, j < 1 → 128 ≤ bt s (pos + j) := ⟨Nat.le_refl _, h, by decide, fun j hj => by obtain rfl : j = 0 := by omega
                                                                                                                                                exact ha⟩
  split
  · rename_i h1
    simp only [Bool.and_eq_true, beq_iff_eq, decide_eq_true_eq] at h1
    obtain ⟨a1, b1, c1⟩ := h1
    split
    · refine ⟨by omega, by omega, by omega, fun j hj => ?_⟩
      obtain rfl | rfl : j = 0 ∨ j = 1 := by omega
      · exact ha
      · have := hg 1 b1; omega
    · exact one
  split
  · rename_i h1
    simp only [Bool.and_eq_true, beq_iff_eq, decide_eq_true_eq] at h1
    obtain ⟨⟨a1, b1, c1⟩, b2, c2⟩ := h1
    split
    · rename_i h2
      simp only [Bool.and_eq_true, decide_eq_true_eq] at h2
      refine ⟨by omega, by omega, by omega, fun j hj => ?_⟩
      obtain rfl | rfl | rfl : j = 0 ∨ j = 1 ∨ j = 2 := by omega
      · exact ha
      · have := hg 1 b1; omega
      · have := hg 2 b2; omega
    · exact one
  split
  · rename_i h1
    simp only [Bool.and_eq_true, beq_iff_eq, decide_eq_true_eq] at h1
    obtain ⟨⟨⟨a1, b1, c1⟩, b2, c2⟩, b3, c3⟩ := h1
    split
    · rename_i h2
      simp only [Bool.and_eq_true, decide_eq_true_eq] at h2
      refine ⟨by omega, by omega, by omega, fun j hj => ?_⟩
      obtain rfl | rfl | rfl | rfl : j = 0 ∨ j = 1 ∨ j = 2 ∨ j = 3 := by omega
      · exact ha
      · have := hg 1 b1; omega
      · have := hg 2 b2; omega
      · have := hg 3 b3; omega
    · exact one
  · exact one
theorem decode_low (s : ByteArray) (pos : Nat) (h : pos < s.size) (ha : bt s pos < 128) : ((Utf8.decode s pos).1 : Int) = bt s pos ∧ (Utf8.decode s pos).2 = 1 := by
  have e0 := bt_eq s pos h
  have := decode_ascii s pos h (by omega)
  rw [this]
  exact ⟨e0, rfl⟩
/-- Over bytes that are no blank the words stay as they are. -/
theorem spl_skip (s : ByteArray) (c : Int) (k : Nat) : ∀ n, (∀ j, j < n → bt s (k + j) ≠ c) → spl s c (k + n) = spl s c k
  | 0, _ => rfl
  | n + 1, h => by
    rw [← Nat.add_assoc, spl, if_neg (h n (by omega))]
    exact spl_skip s c k n (fun j hj => h j (by omega))

set_option maxRecDepth 100000
theorem wl_append_exV {P : Program} {ops : Array Oper} {rest : List Oper} {o : Oper} {a : Act} {w : World} {Q : Exit → Act → World → Prop} (hgd : o.guard = none) (s x : Operand) (t : TypeId)
    (ho : o.op = .call { callee := .builtin .append, args := #[s, x], argTypes := #[t, t] }) (v v2 : Value) (hs : a.eval s = v) (hx : a.eval x = v2) {R : Value → World → Prop}
    (hr : ∃ v' w', (Builtin.append_ #[t, t] o.type #[v, v2]).run P w = .ok v' w' ∧ R v' w') (h : ∀ v' w', R v' w' → wpList P ops Q rest (a.put o.dst v') w') : wpList P ops Q (o :: rest) a w :=
  wpList_plain hgd fun _ hK => by
    obtain ⟨v', w', hr, hR⟩ := hr
    unfold Oper.wp execOp
    simp only [ho, resolve, invoke, builtin, Sem.run_bind, Sem.run_pure, Result.andThen_ok, List.map_toArray, List.map_cons, List.map_nil, hs, hx, hr]
    exact hK _ _ (h v' w' hR)
/-- One text more. -/
theorem app1V {w : World} {B n : Nat} {v : Value} {xs : List Value} (H0 : w.ownsRow B 9 1 v n xs) (x : ByteArray) (hn : n ≤ 1048576) (hB : B ≤ w.heap.size) :
    ∃ v' u', (Builtin.append_ #[31, 31] 31 #[v, .slice (some ⟨w.heap.size, 0, none⟩) 1 1]).run Tryd.prog (w.alloc (.cells #[.string x] 9)) = .ok v' u' ∧ (u'.ownsRow B 9 1 v' (n + 1) (xs ++ [.string x]) ∧ (w.alloc (.cells #[.string x] 9)).grownBy u' v.ownBlock) := by
  obtain ⟨i0, hi0, hz0, hz1, hz2⟩ := info_parts infoVt
  obtain ⟨v', w', hr, h2, h3, _, _⟩ := run_append_own_at (P := Tryd.prog) (w.alloc (.cells #[.string x] 9)) B 31 31 9 i0 (.string ⟨#[]⟩) 1 16 Tryd.underlying31 hi0 hz0 hz1 hz2 rfl (by decide) v n xs (World.ownsRow.alloc H0 _) ⟨w.heap.size, 0, none⟩ 1 1 [.string x] rfl (by
    intro j u hj
    match j, hj with
    | 0, hj =>
      simp at hj
      subst hj
      simp [Addr.add_lit]) (by intro u hu; simp at hu; subst hu; rfl) (by unfold maxLen; omega) (by omega) (by simp; omega)
  exact ⟨v', w', hr, h2, h3⟩
theorem joined1 (u : World) (x : ByteArray) (hx : x.size ≤ 1048576) : Calls Tryd.prog 21 #[.slice (some ⟨u.heap.size, 0, none⟩) 1 1] (u.alloc (.cells #[.string x] 9)) fun e w' => e = .returned (.string x) ∧ Below u.heap.size u w' := by
  refine (joined_any u.heap.size 1 1 [x] (u.alloc (.cells #[.string x] 9)) rfl (by simp) ?_ (by decide) ?_).mono ?_
  · intro i hi
    obtain rfl : i = 0 := by omega
    exact (LG.new u #[.string x] 9).cel 0 _ rfl
  · rw [catB_len]; simp [catB]; omega
  · rintro e w' ⟨rfl, hb⟩
    exact ⟨ret_str (by simp [catB]), (bx1 u _).trans (hb.mono (by simp))⟩
set_option maxHeartbeats 8000000 in
theorem wordsOf_any (s : ByteArray) (w : World) (hs : s.size ≤ 65536) :
    Calls Tryd.prog 15 #[.string s] w fun e w' => ∃ v, e = .returned v ∧ w'.ownsRow w.heap.size 9 1 v (splitB s 32).length (strs (splitB s 32)) ∧ Below w.heap.size w w' := by
  have HI0 : Hid ((w.iter s 0).heap[w.heap.size]? = some (.stringIter s 0)) := World.iter_heap w s 0
  have HB0 : Hid (Below w.heap.size w (w.iter s 0)) := (Below.refl _ _).alloc (Nat.le_refl _) _
  go_enter Tryd.func15, Tryd.ntmps15
  go_wp2
  go_loopw [3, 4] (fun v f wr => ∃ pos : Nat, pos ≤ s.size ∧ f = .int .i64 ((spl s 32 pos).1 : Int) ∧ wr.ownsRow (w.heap.size + 1) 9 1 v (spl s 32 pos).2.length (strs (spl s 32 pos).2) ∧ wr.heap[w.heap.size]? = some (.stringIter s pos) ∧ Below w.heap.size w wr) (fun _ _ wr => s.size - wr.iterPos w.heap.size)
  case atStart => exact ⟨0, Nat.zero_le _, rfl, ⟨rfl, .inl ⟨rfl, rfl⟩⟩, HI0.out, HB0.out⟩
  case round =>
    obtain ⟨pos, hpos, rfl, hown, hit, hbw⟩ := hrel
    clear HI0 HB0
    have hsz : w.heap.size < wr.heap.size := (Array.getElem?_eq_some_iff.1 hit).1
    obtain ⟨b0, b1⟩ := spl_le s 32 pos
    obtain ⟨av, cv, rfl⟩ := s_slV hown
    by_cases hp : pos < s.size
    · have hnx : ∀ ty, (Instr.next (.pointer (some ⟨w.heap.size, 0, none⟩)) true ty).run Tryd.prog wr = _ := fun ty => Lib.run_next_any_at wr w.heap.size s pos ty hit hp
      have hd1 := decode_le s pos
      have HIT : Hid ((wr.iterAt w.heap.size s (pos + (Utf8.decode s pos).2)).heap[w.heap.size]? = some (.stringIter s (pos + (Utf8.decode s pos).2))) := Lib.iterAt_heap wr w.heap.size s pos _ hit
      have HBW : Hid (Below w.heap.size w (wr.iterAt w.heap.size s (pos + (Utf8.decode s pos).2))) := Lib.below_iterAt hbw (k := w.heap.size) (Nat.le_refl _) s _
      have HOW : Hid ((wr.iterAt w.heap.size s (pos + (Utf8.decode s pos).2)).ownsRow (w.heap.size + 1) 9 1 (.slice av (spl s 32 pos).2.length cv) (spl s 32 pos).2.length (strs (spl s 32 pos).2)) := ownsRow_iterAt hown (by omega) s _
      have HPO : Hid (wr.iterPos w.heap.size = pos) := iterPos_of hit
      clear hown hbw hit
      by_cases h32 : bt s pos = 32
      · obtain ⟨d1, d2⟩ := decode_low s pos hp (by omega)
        rw [h32] at d1
        obtain ⟨rn, hrn⟩ : ∃ rn, (Utf8.decode s pos).1 = rn := ⟨_, rfl⟩
        obtain ⟨wd, hwd⟩ : ∃ wd, (Utf8.decode s pos).2 = wd := ⟨_, rfl⟩
        rw [hrn] at d1 hd1 hnx
        rw [hwd] at d2 hnx HIT HBW HOW
        obtain rfl : rn = 32 := by omega
        subst d2
        have HS : Hid (spl s 32 (pos + 1) = (pos + 1, (spl s 32 pos).2 ++ [s.extract (spl s 32 pos).1 pos])) := (show _ = _ by rw [spl, if_pos h32])
        have hsl := sl_mid s (spl s 32 pos).1 pos b0 (by omega)
        have hxs : (s.extract (spl s 32 pos).1 pos).size ≤ 65536 := by rw [ByteArray.size_extract]; omega
        generalize s.extract (spl s 32 pos).1 pos = x at *
        generalize (spl s 32 pos).1 = fr at *
        generalize (spl s 32 pos).2 = ws at *
        generalize (wr.iterAt w.heap.size s (pos + 1)) = u0 at *
        have HJ : Hid (∀ u : World, Calls Tryd.prog 21 #[.slice (some ⟨u.heap.size, 0, none⟩) 1 1] (u.alloc (.cells #[.string x] 9)) fun e w' => e = .returned (.string x) ∧ Below u.heap.size u w') := fun u => joined1 u x (by omega)
        clear hrn hwd hd1 d1 h32
        go_wp2_with (first
          | (go_at_call 21; refine Calls.mono (HJ.out _) ?_; rintro e u3 ⟨rfl, hu⟩; have HO3 : Hid (u3.ownsRow (w.heap.size + 1) 9 1 (.slice av ws.length cv) ws.length (strs ws)) := own_belowN HOW.out hu; have HB3 : Hid (Below w.heap.size w u3) := HBW.out.trans (hu.mono HBW.out.size); have HI3 : Hid (u3.heap[w.heap.size]? = some (.stringIter s (pos + 1))) := (hu.block _ (Array.getElem?_eq_some_iff.1 HIT.out).1).trans HIT.out; have HAP : Hid _ := app1V HO3.out x (by omega) (Array.getElem?_eq_some_iff.1 HI3.out).1; clear hu)
          | (at_builtin; refine wl_append_exV rfl _ _ 31 rfl _ _ rfl rfl HAP.out ?_; rintro sv u5 ⟨ho, hg⟩; have HO5 : Hid (u5.ownsRow (w.heap.size + 1) 9 1 sv (ws.length + 1) (strs ws ++ [.string x])) := ho; have HB5 : Hid (Below w.heap.size w u5) := (HB3.out.trans ((bx1 u3 _).mono HB3.out.size)).grown hg (HB3.out.trans ((bx1 u3 _).mono HB3.out.size)).size (fun j hj => by have := (HO3.out.lt j hj).1; omega); have HI5 : Hid (u5.heap[w.heap.size]? = some (.stringIter s (pos + 1))) := (hg.block _ (by have := (Array.getElem?_eq_some_iff.1 HI3.out).1; simp; omega) (fun e9 => by have := (HO3.out.lt _ e9.symm).1; omega)).trans (((bx1 u3 _).block _ (Array.getElem?_eq_some_iff.1 HI3.out).1).trans HI3.out); clear ho hg))
        go_roundw
        case rel => exact ⟨pos + 1, by omega, by rw [HS.out]; go_num, by rw [HS.out]; simp only [List.length_append, List.length_cons, List.length_nil, strs_app]; exact HO5.out, HI5.out, HB5.out⟩
        case measure => rw [iterPos_of HI5.out, HPO.out]; omega
      · have hstep : 1 ≤ (Utf8.decode s pos).2 ∧ pos + (Utf8.decode s pos).2 ≤ s.size ∧ (Utf8.decode s pos).1 ≠ 32 ∧ spl s 32 (pos + (Utf8.decode s pos).2) = spl s 32 pos := by
          by_cases h7 : bt s pos < 128
          · obtain ⟨d1, d2⟩ := decode_low s pos hp h7
            exact ⟨by omega, by omega, by omega, by rw [d2, spl, if_neg h32]⟩
          · obtain ⟨d1, d2, d3, d4⟩ := decode_skip s pos hp (by omega)
            exact ⟨d1, d2, d3, spl_skip s 32 pos _ (fun j hj => by have := d4 j hj; omega)⟩
        obtain ⟨q0, q1, q2, q3⟩ := hstep
        have HS : Hid _ := q3
        clear q3
        generalize (Utf8.decode s pos).1 = rn at *
        generalize (Utf8.decode s pos).2 = wd at *
        generalize (wr.iterAt w.heap.size s (pos + wd)) = u0 at *
        have q3 : ¬ ((rn : Int) = 32) := by omega
        go_wp2
        go_roundw
        case rel => exact ⟨pos + wd, by omega, by rw [HS.out], by rw [HS.out]; exact HOW.out, HIT.out, HBW.out⟩
        case measure => rw [iterPos_of HIT.out, HPO.out]; omega
    · have hnx : ∀ ty, (Instr.next (.pointer (some ⟨w.heap.size, 0, none⟩)) true ty).run Tryd.prog wr = _ := fun ty => Lib.run_next_end_at wr w.heap.size s pos ty hit hp
      obtain rfl : pos = s.size := by omega
      have hsl := sl_end s (spl s 32 s.size).1 b0
      have hxs : (s.extract (spl s 32 s.size).1 s.size).size ≤ 65536 := by rw [ByteArray.size_extract]; omega
      have HE : Hid (splitB s 32 = (spl s 32 s.size).2 ++ [s.extract (spl s 32 s.size).1 s.size]) := rfl
      have HOW : Hid _ := hown
      have HBW : Hid _ := hbw
      have HIT : Hid _ := hit
      clear hown hbw hit
      generalize s.extract (spl s 32 s.size).1 s.size = x at *
      generalize (spl s 32 s.size).1 = fr at *
      generalize (spl s 32 s.size).2 = ws at *
      have HJ : Hid (∀ u : World, Calls Tryd.prog 21 #[.slice (some ⟨u.heap.size, 0, none⟩) 1 1] (u.alloc (.cells #[.string x] 9)) fun e w' => e = .returned (.string x) ∧ Below u.heap.size u w') := fun u => joined1 u x (by omega)
      go_wp2_with (first
        | (go_at_call 21; refine Calls.mono (HJ.out _) ?_; rintro e u3 ⟨rfl, hu⟩; have HO3 : Hid (u3.ownsRow (w.heap.size + 1) 9 1 (.slice av ws.length cv) ws.length (strs ws)) := own_belowN HOW.out hu; have HB3 : Hid (Below w.heap.size w u3) := HBW.out.trans (hu.mono HBW.out.size); have HAP : Hid _ := app1V HO3.out x (by omega) (by have := hu.size; omega); clear hu)
        | (at_builtin; refine wl_append_exV rfl _ _ 31 rfl _ _ rfl rfl HAP.out ?_; rintro sv u5 ⟨ho, hg⟩; have HO5 : Hid (u5.ownsRow (w.heap.size + 1) 9 1 sv (ws.length + 1) (strs ws ++ [.string x])) := ho; have HB5 : Hid (Below w.heap.size w u5) := (HB3.out.trans ((bx1 u3 _).mono HB3.out.size)).grown hg (HB3.out.trans ((bx1 u3 _).mono HB3.out.size)).size (fun j hj => by have := (HO3.out.lt j hj).1; omega); clear ho hg))
      go_ret
      have HF : Hid (u5.ownsRow w.heap.size 9 1 sv (splitB s 32).length (strs (splitB s 32))) := (show World.ownsRow _ _ _ _ _ _ _ by rw [HE.out]; simp only [List.length_append, List.length_cons, List.length_nil, strs_app]; exact own_weakN HO5.out (by omega))
      exact ⟨sv, rfl, HF.out, HB5.out⟩
end Go.Proofs.YtkicaihfknfgkaaDoor
