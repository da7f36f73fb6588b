import Derived.Test.YtniaohflkopncaaSk5
namespace Go.Proofs.Ytniaohflkopncaa
open Go.ChangeShapes Go.WideShapes Go.ChangeAt Go.RowKit

theorem stW_mix (S : ByteArray) (n : Nat) (hS : S.size ≤ 60000) : mixv (S ++ pw n) 11 = stW (mixR (mixS 11) S S.size) n := by
  unfold mixv stW
  rw [if_neg (by rw [ByteArray.size_append, pw_size]; omega), mixR_app, pw_size]
set_option maxRecDepth 100000 in
set_option maxHeartbeats 4000000 in
theorem specCrypt_in (s : ByteArray) (tw : Int) (d : ByteArray) (w : World) (hs : s.size ≤ 4096) (hd : d.size ≤ 65536) :
    Calls Try.prog 32 #[.string s, .int .i64 tw, .string d] w fun e w' => e = .returned (.string (crV s tw d)) ∧ Below w.heap.size w w' := by
  have hhd : (s ++ pw tw).size ≤ 60000 := by rw [ByteArray.size_append, pw_size]; omega
  have hps : (pw tw).size ≤ 4 := Nat.le_of_eq (pw_size tw)
  obtain ⟨x0, x1⟩ := hdS_b s tw
  obtain ⟨X, hX⟩ : ∃ X, hdS s tw = X := ⟨_, rfl⟩
  have HC : Hid (crV s tw d = ⟨(crK X d.data.toList d.size).toArray⟩) := (show crV s tw d = ⟨(crK X d.data.toList d.size).toArray⟩ by rw [← hX]; rfl)
  have HX0 : Hid (mixR (mixS 11) (s ++ pw tw) (s ++ pw tw).size = X) := hX
  rw [hX] at x0 x1
  generalize crV s tw d = R at *
  obtain ⟨S, hS⟩ : ∃ S, s ++ pw tw = S := ⟨_, rfl⟩
  have HS : Hid (s ++ pw tw = S) := hS
  rw [hS] at hhd HX0
  have HW : Hid (∀ n : Nat, mixv (S ++ pw n) 11 = stW X n) := (fun n => by rw [stW_mix S n hhd, HX0.out])
  have HSZ : Hid (∀ n : Nat, (S ++ pw n).size ≤ 1048576) := (fun n => by rw [ByteArray.size_append, pw_size]; omega)
  clear hS hX
  have q1 : decide (4096 < (s.size : Int)) = false := decide_eq_false (by omega)
  have q2 : decide (65536 < (d.size : Int)) = false := decide_eq_false (by omega)
  go_enter Try.func32, Try.ntmps32
  go_wp2_with (go_at_call 65; refine (specPutWord_any _ _).mono ?_; rintro e u3 ⟨rfl, hb3⟩; have HB3 : Hid _ := hb3; clear hb3; have hcv2 := bw_conv u3 d)
  rw [HS.out]
  have HR0 : Hid (Row8 u3.heap.size (Lib.bytesWorld u3 5 d) (.slice (some ⟨u3.heap.size, 0, none⟩) d.size (grownCap u3 d.size 0 5)) d.data.toList) := row8_conv u3 d (by omega)
  have HB4 : Hid (Below w.heap.size w (Lib.bytesWorld u3 5 d)) := HB3.out.trans ((bw_below u3 d).mono HB3.out.size)
  have hG : w.heap.size ≤ u3.heap.size := HB3.out.size
  have hG2 : u3.heap.size < (Lib.bytesWorld u3 5 d).heap.size := by rw [Lib.bytesWorld_size]; omega
  have hdl : d.data.toList.length = d.size := by simp
  clear hcv2 HB3 HX0 HS q1 q2
  generalize Lib.bytesWorld u3 5 d = u5 at *
  generalize grownCap u3 d.size 0 5 = cap5 at *
  generalize u3.heap.size = G at *
  have HDL : Hid (d.data.toList.length = d.size) := hdl
  generalize d.data.toList = dl at *
  clear hdl
  go_loopw [9, 10] (fun y i wr => ∃ k : Nat, k ≤ d.size ∧ y = .int .i64 (stK X k) ∧ i = .int .i64 k ∧ Row8 G wr (.slice (some ⟨G, 0, none⟩) d.size cap5) (crK X dl k) ∧ G < wr.heap.size ∧ Below w.heap.size w wr) (fun _ i _ => d.size - (intOf i).toNat)
  case atStart => exact ⟨0, Nat.zero_le _, rfl, rfl, HR0.out, hG2, HB4.out⟩
  case round =>
    obtain ⟨k, hk, rfl, rfl, hrb, hgw, hb⟩ := hrel
    clear HR0 HB4 hG2
    have HRB : Hid (Row8 G wr (.slice (some ⟨G, 0, none⟩) d.size cap5) (crK X dl k)) := hrb
    have HB : Hid (Below w.heap.size w wr) := hb
    have HL : Hid ((crK X dl k).length = d.size) := (show (crK X dl k).length = d.size by rw [crK_len]; exact HDL.out)
    clear hrb hb
    by_cases hlt : k < d.size
    · have HN : Hid (crK X dl (k + 1) = (crK X dl k).set k (cx ((crK X dl k).getD k 0) (stK X (k + 1)) (k % 3))) := rfl
      rcases (show k % 3 = 0 ∨ k % 3 = 1 ∨ k % 3 = 2 by omega) with h3 | h3 | h3
      · have hp : (k : Int) % 3 = 0 := by omega
        have HST : Hid (stK X (k + 1) = stW X (k / 3)) := rfl
        rw [h3] at HN
        obtain ⟨y0, y1⟩ := stK_b X (k + 1)
        obtain ⟨Y, hY⟩ : ∃ Y, stK X (k + 1) = Y := ⟨_, rfl⟩
        have HY : Hid (stK X (k + 1) = Y) := hY
        rw [hY] at HN HST y0 y1
        clear hY
        have hps2 : (pw ((k : Int) / 3)).size ≤ 4 := Nat.le_of_eq (pw_size _)
        have HW2 : Hid _ := HW.out (k / 3)
        rw [← HST.out] at HW2
        go_wp2_with fail
        refine (specPutWord_any _ _).mono ?_
        rintro e u2 ⟨rfl, hb2⟩
        have HB2 : Hid _ := hb2
        clear hb2
        have HRB2 : Hid (Row8 G u2 (.slice (some ⟨G, 0, none⟩) d.size cap5) (crK X dl k)) := HRB.out.carry (fun g _ hg => HB2.out.block g hg)
        have HB3 : Hid (Below w.heap.size w u2) := HB.out.trans (HB2.out.mono HB.out.size)
        have hgw2 : G < u2.heap.size := Nat.lt_of_lt_of_le hgw HB2.out.size
        obtain ⟨-, c0, f0⟩ := row8_at HRB2.out k (by rw [HL.out]; exact hlt)
        generalize (crK X dl k).getD k 0 = b at *
        have hk0 : (0 : Int) ≤ (k : Int) := by omega
        have hk1 : (k : Int) < (d.size : Int) := by omega
        clear HRB HB HB2
        generalize crK X dl k = L0 at *
        go_wp2_with (go_at_call 66; refine (specMix_any _ _ _ (HSZ.out (k / 3))).mono ?_; rw [HW2.out]; rintro e u6 ⟨rfl, hw4⟩; rw [hw4]; clear hw4)
        refine ⟨⟨k + 1, hlt, by rw [HY.out], by go_num, ?_, by simp; exact hgw2, ?_⟩, by simp [intOf]; omega⟩
        · rw [HN.out]
          exact (row8_put HRB2.out HL.out k hlt _ _ (cx0 b Y)).carry (fun _ _ _ => rfl)
        · exact HB3.out.setCell hG _
      · have hp : (k : Int) % 3 = 1 := by omega
        have HST : Hid (stK X k = stK X (k + 1)) := (stK_on X k (by omega)).symm
        rw [h3] at HN
        obtain ⟨y0, y1⟩ := stK_b X (k + 1)
        obtain ⟨Y, hY⟩ : ∃ Y, stK X (k + 1) = Y := ⟨_, rfl⟩
        have HY : Hid (stK X (k + 1) = Y) := hY
        rw [hY] at HN HST y0 y1
        clear hY
        rw [HST.out]
        have HRB2 : Hid (Row8 G wr (.slice (some ⟨G, 0, none⟩) d.size cap5) (crK X dl k)) := HRB.out.carry (fun g _ hg => rfl)
        have HB3 : Hid (Below w.heap.size w wr) := HB.out
        have hgw2 : G < wr.heap.size := hgw
        obtain ⟨-, c0, f0⟩ := row8_at HRB2.out k (by rw [HL.out]; exact hlt)
        generalize (crK X dl k).getD k 0 = b at *
        have hk0 : (0 : Int) ≤ (k : Int) := by omega
        have hk1 : (k : Int) < (d.size : Int) := by omega
        clear HRB HB HST
        generalize crK X dl k = L0 at *
        go_wp2
        refine ⟨⟨k + 1, hlt, by rw [HY.out], by go_num, ?_, by simp; exact hgw2, ?_⟩, by simp [intOf]; omega⟩
        · rw [HN.out]
          exact (row8_put HRB2.out HL.out k hlt _ _ (cx1 b Y)).carry (fun _ _ _ => rfl)
        · exact HB3.out.setCell hG _
      · have hp : (k : Int) % 3 = 2 := by omega
        have HST : Hid (stK X k = stK X (k + 1)) := (stK_on X k (by omega)).symm
        rw [h3] at HN
        obtain ⟨y0, y1⟩ := stK_b X (k + 1)
        obtain ⟨Y, hY⟩ : ∃ Y, stK X (k + 1) = Y := ⟨_, rfl⟩
        have HY : Hid (stK X (k + 1) = Y) := hY
        rw [hY] at HN HST y0 y1
        clear hY
        rw [HST.out]
        have HRB2 : Hid (Row8 G wr (.slice (some ⟨G, 0, none⟩) d.size cap5) (crK X dl k)) := HRB.out.carry (fun g _ hg => rfl)
        have HB3 : Hid (Below w.heap.size w wr) := HB.out
        have hgw2 : G < wr.heap.size := hgw
        obtain ⟨-, c0, f0⟩ := row8_at HRB2.out k (by rw [HL.out]; exact hlt)
        generalize (crK X dl k).getD k 0 = b at *
        have hk0 : (0 : Int) ≤ (k : Int) := by omega
        have hk1 : (k : Int) < (d.size : Int) := by omega
        clear HRB HB HST
        generalize crK X dl k = L0 at *
        go_wp2
        refine ⟨⟨k + 1, hlt, by rw [HY.out], by go_num, ?_, by simp; exact hgw2, ?_⟩, by simp [intOf]; omega⟩
        · rw [HN.out]
          exact (row8_put HRB2.out HL.out k hlt _ _ (cx2 b Y)).carry (fun _ _ _ => rfl)
        · exact HB3.out.setCell hG _
    · obtain rfl : k = d.size := by omega
      have hcv := row8_back HRB.out
      go_wp2
      go_ret
      exact ⟨by rw [HC.out]; rfl, HB.out⟩
theorem specCrypt_any (s : ByteArray) (tw : Int) (d : ByteArray) (w : World) :
    Calls Try.prog 32 #[.string s, .int .i64 tw, .string d] w fun e w' => e = .returned (.string (cryV s tw d)) ∧ Below w.heap.size w w' := by
  cases h1 : ovB s
  · by_cases h2 : 65536 < d.size
    · have E : Hid (cryV s tw d = ⟨#[]⟩) := (show cryV s tw d = ⟨#[]⟩ by unfold cryV; rw [if_pos (.inr h2)])
      have q1 : decide (4096 < (s.size : Int)) = false := h1
      have q2 : decide (65536 < (d.size : Int)) = true := decide_eq_true (by omega)
      clear h1 h2
      go_enter Try.func32, Try.ntmps32
      go_wp2
      go_ret
      exact ⟨str_eq E.out.symm, Below.refl _ _⟩
    · have E : cryV s tw d = crV s tw d := (show cryV s tw d = crV s tw d by unfold cryV; rw [if_neg (by simp [h1, h2])])
      rw [E]
      exact specCrypt_in s tw d w (ovB_le h1) (by omega)
  · have E : Hid (cryV s tw d = ⟨#[]⟩) := (show cryV s tw d = ⟨#[]⟩ by unfold cryV; rw [if_pos (.inl h1)])
    have q1 : decide (4096 < (s.size : Int)) = true := h1
    clear h1
    go_enter Try.func32, Try.ntmps32
    go_wp2
    go_ret
    exact ⟨str_eq E.out.symm, Below.refl _ _⟩
end Go.Proofs.Ytniaohflkopncaa
