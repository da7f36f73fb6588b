import Derived.Test.YtohmejfpebjlaaaGreatDoorOperands
namespace Go.Proofs.YtohmejfpebjlaaaGreatDoor
open Go.ChangeShapes Go.WideShapes Go.ChangeAt Go.RowKit

theorem nmT_size : ∀ x ∈ nmT, x.size ≤ 6 := by decide +kernel
theorem nm_size (op : Int) : (nm op).size ≤ 6 := by
  unfold nm
  split
  · decide
  · split
    · decide
    · rename_i h _
      have hk : (op.toNat - 1) < nmT.length := by rw [nmT_len]; omega
      rw [List.getD_eq_getElem?_getD, List.getElem?_eq_getElem hk]
      exact nmT_size _ (List.getElem_mem hk)
theorem fB_size (k : Nat) (h : k < 9) : (fB k).size ≤ 3 := by
  obtain rfl | rfl | rfl | rfl | rfl | rfl | rfl | rfl | rfl : k = 0 ∨ k = 1 ∨ k = 2 ∨ k = 3 ∨ k = 4 ∨ k = 5 ∨ k = 6 ∨ k = 7 ∨ k = 8 := by omega
  all_goals decide

/-- Whether the told text stands in the operand's place. -/
def isT (f t : ByteArray) (j : Nat) : Bool := !(t.toList == []) && (bt f j == 105 || bt f j == 108)
def sep (j : Nat) : ByteArray := if j = 0 then ⟨#[32]⟩ else ⟨#[44, 32]⟩
def txtL (f : ByteArray) (o : Nat → ByteArray) (name t : ByteArray) : Nat → ByteArray
  | 0 => name
  | j + 1 => (txtL f o name t j ++ sep j) ++ (if isT f t j = true then t else o j)
def txt (op a b c imm : Int) (t : ByteArray) : ByteArray := txtL (fB (kd op)) (opS (fB (kd op)) a b c imm) (nm op) t (fB (kd op)).size
theorem sep_size (j : Nat) : (sep j).size ≤ 2 := by unfold sep; split <;> decide
theorem opS_size (f : ByteArray) (a b c imm : Int) (j : Nat) (ha0 : -9223372036854775808 ≤ a) (ha1 : a ≤ 9223372036854775807) (hb0 : -9223372036854775808 ≤ b) (hb1 : b ≤ 9223372036854775807) (hc0 : -9223372036854775808 ≤ c) (hc1 : c ≤ 9223372036854775807) (hi0 : -9223372036854775808 ≤ imm) (hi1 : imm ≤ 9223372036854775807) : (opS f a b c imm j).size ≤ 31 := by
  have s1 := decB_size a ha0 ha1
  have s2 := decB_size b hb0 hb1
  have s3 := decB_size c hc0 hc1
  have s4 := decB_size imm hi0 hi1
  have e1 : (⟨#[114]⟩ : ByteArray).size = 1 := rfl
  have e2 : (⟨#[118]⟩ : ByteArray).size = 1 := rfl
  unfold opS
  split
  · rw [ByteArray.size_append]; omega
  · split
    · rw [ByteArray.size_append]; omega
    · split
      · rw [ByteArray.size_append]; omega
      · split
        · rw [ByteArray.size_append]
          split
          · omega
          · split <;> omega
        · omega
theorem txtL_size (f : ByteArray) (o : Nat → ByteArray) (name t : ByteArray) (M : Nat) (hn : name.size ≤ 6) (ht : t.size ≤ M) (ho : ∀ j, (o j).size ≤ M) : ∀ j, (txtL f o name t j).size ≤ 6 + j * (M + 2)
  | 0 => by simpa [txtL] using hn
  | j + 1 => by
    have h1 := txtL_size f o name t M hn ht ho j
    have h2 := sep_size j
    have h3 : (if isT f t j = true then t else o j).size ≤ M := by split; exact ht; exact ho j
    simp only [txtL, ByteArray.size_append]
    rw [Nat.add_mul]
    omega

theorem own_slice {w : World} {base : Nat} {e : TypeId} {size : Nat} {v : Value} {n : Nat} {xs : List Value} (h : w.ownsRow base e size v n xs) : ∃ q cap, v = .slice q n cap := by
  rcases h.2 with ⟨hv, h0⟩ | ⟨g, cap, cur, hv, _⟩
  · exact ⟨none, 0, by rw [hv, h0]⟩
  · exact ⟨_, cap, hv⟩
theorem strs_opsL (f : ByteArray) (a b c imm : Int) (n j : Nat) (h : j < n) : (strs (opsL f a b c imm n))[j]? = some (.string (opS f a b c imm j)) := by
  simp [strs, opsL, h]

theorem app2_size (X Y : ByteArray) (h : X.size ≤ 6 + 3 * (1048576 + 2)) (h2 : Y.size ≤ 2) : (X ++ Y).size ≤ 5000000 := by
  rw [ByteArray.size_append]
  omega

set_option maxRecDepth 100000 in
set_option maxHeartbeats 2000000 in
theorem l02Text_any (op a b c imm : Int) (t : ByteArray) (w : World) (ht : t.size ≤ 1048576) (h0 : -9223372036854775808 ≤ op) (h1 : op ≤ 9223372036854775807)
    (ha0 : -9223372036854775808 ≤ a) (ha1 : a ≤ 9223372036854775807) (hb0 : -9223372036854775808 ≤ b) (hb1 : b ≤ 9223372036854775807) (hc0 : -9223372036854775808 ≤ c) (hc1 : c ≤ 9223372036854775807) (hi0 : -9223372036854775808 ≤ imm) (hi1 : imm ≤ 9223372036854775807) :
    Calls Tryz.prog 34 #[ins op a b c imm, .string t] w fun e w' => e = .returned (.string (txt op a b c imm t)) ∧ Below w.heap.size w w' := by
  have hf3 := fB_size _ (kd_lt op)
  have hts := txtL_size (fB (kd op)) (opS (fB (kd op)) a b c imm) (nm op) t 1048576 (nm_size op) ht (fun j => Nat.le_trans (opS_size _ a b c imm j ha0 ha1 hb0 hb1 hc0 hc1 hi0 hi1) (by decide))
  have hos := fun j => opS_size (fB (kd op)) a b c imm j ha0 ha1 hb0 hb1 hc0 hc1 hi0 hi1
  have HX : Hid (txt op a b c imm t = txtL (fB (kd op)) (opS (fB (kd op)) a b c imm) (nm op) t (fB (kd op)).size) := (show txt op a b c imm t = txtL (fB (kd op)) (opS (fB (kd op)) a b c imm) (nm op) t (fB (kd op)).size from rfl)
  obtain ⟨f, hf⟩ : ∃ f, fB (kd op) = f := ⟨_, rfl⟩
  rw [hf] at hf3 hts hos HX
  have HF : Hid (fB (kd op) = f) := hf
  clear hf
  have HS : Hid (∀ j, (txtL f (opS f a b c imm) (nm op) t j).size ≤ 6 + j * (1048576 + 2)) := hts
  have HO : Hid (∀ j, (opS f a b c imm j).size ≤ 31) := hos
  clear hts hos
  unfold ins
  obtain ⟨name, hname⟩ : ∃ name, nm op = name := ⟨_, rfl⟩
  rw [hname] at HS HX
  have HM : Hid (nm op = name) := hname
  clear hname
  go_enter Tryz.func34, Tryz.ntmps34
  go_wp2_with (first | (go_at_call 41; refine (l02Name_any _ _ (by omega) (by omega)).mono ?_; rintro e u1 ⟨rfl, hw1⟩; rw [HM.out]; have z1 : w.heap.size < u1.heap.size := (by have := hw1.size; simp at this; omega); obtain ⟨hc, hf⟩ := bcell hw1) | (go_at_call 56; refine (l02Operands_f op a b c imm f _ HF.out hf3 h0 h1 ha0 ha1 hb0 hb1 hc0 hc1 hi0 hi1).mono ?_; rintro e u2 ⟨v, rfl, hown, hw2⟩; have z2 : w.heap.size < u2.heap.size := (by have := hw2.size; omega); obtain ⟨hc2, hf2⟩ := bcell hw2; obtain ⟨q, cap, rfl⟩ := own_slice hown) | (go_at_call 18; refine (l02Form_any _ _ (by omega) (by omega)).mono ?_; rintro e u3 ⟨rfl, hw3⟩; rw [HF.out]))
  have hown3 := own_below hown hw3
  have hblw : Below w.heap.size w u3 := ((bstep (Below.refl _ _) _ hw1).trans (hw2.mono (by omega))).trans (hw3.mono (by omega))
  clear hc hf hc2 hf2 hw1 hw2 hw3 hown
  go_loopw [5, 8] (fun x i wr => ∃ j : Nat, j ≤ f.size ∧ i = .int .i64 j ∧ x = .string (txtL f (opS f a b c imm) name t j) ∧ wr = u3) (fun _ i _ => f.size - (intOf i).toNat)
  case atStart => exact ⟨0, Nat.zero_le _, rfl, rfl, rfl⟩
  case round =>
    obtain ⟨j, hj, rfl, rfl, rfl⟩ := hrel
    by_cases hlt : j < f.size
    · obtain ⟨g, cap', hv, hg1, hg2⟩ := hown3.form (by omega)
      obtain ⟨rfl, rfl⟩ : q = some ⟨g, 0, none⟩ ∧ cap = cap' := by
        injection hv with h1 h2 h3
        exact ⟨h1, h3⟩
      have hcell : wr.cell? ⟨g, j, none⟩ = some (.string (opS f a b c imm j)) := (hown3.cellAt j (by omega)).trans (strs_opsL f a b c imm f.size j hlt)
      have s0 := Nat.le_trans (HS.out j) (Nat.add_le_add_left (Nat.mul_le_mul_right (1048576 + 2) (by omega : j ≤ 3)) 6)
      have s1 := HO.out j
      have hn : txtL f (opS f a b c imm) name t (j + 1) = (txtL f (opS f a b c imm) name t j ++ sep j) ++ (if isT f t j = true then t else opS f a b c imm j) := rfl
      generalize txtL f (opS f a b c imm) name t j = X at *
      have HN : Hid (txtL f (opS f a b c imm) name t (j + 1) = (X ++ sep j) ++ (if isT f t j = true then t else opS f a b c imm j)) := hn
      clear hn hv hown3
      by_cases hj0 : j = 0
      · subst hj0
        have ix := fun w => idx_str f 0 hlt w 0 rfl
        have s2 : (X ++ (⟨#[32]⟩ : ByteArray)).size ≤ 5000000 := app2_size X _ s0 (by decide)
        cases et : (t.toList == [])
        · cases e105 : (bt f 0 == 105)
          · cases e108 : (bt f 0 == 108)
            · have z : True := trivial
              have HT : Hid (txtL f (opS f a b c imm) name t (0 + 1) = (X ++ ⟨#[32]⟩) ++ opS f a b c imm 0) := HN.out.trans (by rw [show isT f t 0 = false from by simp [isT, et, e105, e108], if_neg (by decide), show sep 0 = ⟨#[32]⟩ from rfl])
              clear HN
              go_wp2_with fail
              go_roundw
              case rel => exact ⟨0 + 1, by omega, by go_num, by rw [HT.out], trivial⟩
              case measure => simp [intOf]; omega
            · have z : True := trivial
              have HT : Hid (txtL f (opS f a b c imm) name t (0 + 1) = (X ++ ⟨#[32]⟩) ++ t) := HN.out.trans (by rw [show isT f t 0 = true from by simp [isT, et, e105, e108], if_pos rfl, show sep 0 = ⟨#[32]⟩ from rfl])
              clear HN
              go_wp2_with fail
              go_roundw
              case rel => exact ⟨0 + 1, by omega, by go_num, by rw [HT.out], trivial⟩
              case measure => simp [intOf]; omega
          · have z : True := trivial
            have HT : Hid (txtL f (opS f a b c imm) name t (0 + 1) = (X ++ ⟨#[32]⟩) ++ t) := HN.out.trans (by rw [show isT f t 0 = true from by simp [isT, et, e105], if_pos rfl, show sep 0 = ⟨#[32]⟩ from rfl])
            clear HN
            go_wp2_with fail
            go_roundw
            case rel => exact ⟨0 + 1, by omega, by go_num, by rw [HT.out], trivial⟩
            case measure => simp [intOf]; omega
        · have z : True := trivial
          have HT : Hid (txtL f (opS f a b c imm) name t (0 + 1) = (X ++ ⟨#[32]⟩) ++ opS f a b c imm 0) := HN.out.trans (by rw [show isT f t 0 = false from by simp [isT, et], if_neg (by decide), show sep 0 = ⟨#[32]⟩ from rfl])
          clear HN
          go_wp2_with fail
          go_roundw
          case rel => exact ⟨0 + 1, by omega, by go_num, by rw [HT.out], trivial⟩
          case measure => simp [intOf]; omega
      · have hkne : ((j : Int) == 0) = false := by simp; omega
        have ix := fun w => idx_str f j hlt w j rfl
        have s2 : (X ++ (⟨#[44, 32]⟩ : ByteArray)).size ≤ 5000000 := app2_size X _ s0 (by decide)
        cases et : (t.toList == [])
        · cases e105 : (bt f j == 105)
          · cases e108 : (bt f j == 108)
            · have z : True := trivial
              have HT : Hid (txtL f (opS f a b c imm) name t (j + 1) = (X ++ ⟨#[44, 32]⟩) ++ opS f a b c imm j) := HN.out.trans (by rw [show isT f t j = false from by simp [isT, et, e105, e108], if_neg (by decide), show sep j = ⟨#[44, 32]⟩ from if_neg hj0])
              clear HN
              go_wp2_with fail
              go_roundw
              case rel => exact ⟨j + 1, by omega, by go_num, by rw [HT.out], trivial⟩
              case measure => simp [intOf]; omega
            · have z : True := trivial
              have HT : Hid (txtL f (opS f a b c imm) name t (j + 1) = (X ++ ⟨#[44, 32]⟩) ++ t) := HN.out.trans (by rw [show isT f t j = true from by simp [isT, et, e105, e108], if_pos rfl, show sep j = ⟨#[44, 32]⟩ from if_neg hj0])
              clear HN
              go_wp2_with fail
              go_roundw
              case rel => exact ⟨j + 1, by omega, by go_num, by rw [HT.out], trivial⟩
              case measure => simp [intOf]; omega
          · have z : True := trivial
            have HT : Hid (txtL f (opS f a b c imm) name t (j + 1) = (X ++ ⟨#[44, 32]⟩) ++ t) := HN.out.trans (by rw [show isT f t j = true from by simp [isT, et, e105], if_pos rfl, show sep j = ⟨#[44, 32]⟩ from if_neg hj0])
            clear HN
            go_wp2_with fail
            go_roundw
            case rel => exact ⟨j + 1, by omega, by go_num, by rw [HT.out], trivial⟩
            case measure => simp [intOf]; omega
        · have z : True := trivial
          have HT : Hid (txtL f (opS f a b c imm) name t (j + 1) = (X ++ ⟨#[44, 32]⟩) ++ opS f a b c imm j) := HN.out.trans (by rw [show isT f t j = false from by simp [isT, et], if_neg (by decide), show sep j = ⟨#[44, 32]⟩ from if_neg hj0])
          clear HN
          go_wp2_with fail
          go_roundw
          case rel => exact ⟨j + 1, by omega, by go_num, by rw [HT.out], trivial⟩
          case measure => simp [intOf]; omega
    · obtain rfl : j = f.size := by omega
      go_wp2_with fail
      go_ret
      exact ⟨ret_str HX.out.symm, hblw⟩
end Go.Proofs.YtohmejfpebjlaaaGreatDoor
