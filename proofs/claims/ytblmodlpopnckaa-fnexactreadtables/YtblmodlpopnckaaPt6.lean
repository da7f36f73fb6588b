import Derived.Test.YtblmodlpopnckaaPt4
namespace Go.Proofs.Ytblmodlpopnckaa
open Go.ChangeShapes Go.WideShapes Go.ChangeAt Go.RowKit

set_option maxRecDepth 100000 in
set_option maxHeartbeats 4000000 in
theorem l21Name_any (n : ByteArray) (w : World) : Calls Try.prog 39 #[.string n] w fun e w' => e = .returned (.bool (tnB n)) ∧ w' = w := by
  cases q : ((n.size : Int) != 4)
  rotate_left
  · have E : Hid (tnB n = false) := (show tnB n = false by unfold tnB; rw [decide_eq_false (fun hh => by rw [hh] at q; simp at q)]; rfl)
    go_enter Try.func39, Try.ntmps39
    go_wp2
    go_ret
    exact ⟨ret_bool E.out.symm, rfl⟩
  have h4 : n.size = 4 := by have : (n.size : Int) = 4 := by simpa using q
                             omega
  have E : Hid (tnB n = allP (fun j => capB (bt n j)) 4) := (show tnB n = _ by unfold tnB; rw [decide_eq_true h4]; rfl)
  have H4 : Hid (n.size = 4) := h4
  go_enter Try.func39, Try.ntmps39
  go_wp2
  clear q h4
  go_loopw [3] (fun i wr => ∃ k : Nat, k ≤ 4 ∧ i = .int .i64 k ∧ allP (fun j => capB (bt n j)) k = true ∧ wr = w) (fun i _ => 4 - (intOf i).toNat)
  case atStart => exact ⟨0, Nat.zero_le _, rfl, rfl, rfl⟩
  case round =>
    obtain ⟨k, hk, rfl, hall, rfl⟩ := hrel
    have HALL : Hid (allP (fun j => capB (bt n j)) k = true) := hall
    clear hall
    by_cases hlt : k < 4
    · have hix := fun u => idx_str n k (by have := H4.out; omega) u k rfl
      have HS : Hid (allP (fun j => capB (bt n j)) (k + 1) = (allP (fun j => capB (bt n j)) k && capB (bt n k))) := allP_succ _ _
      have HBAD : Hid (capB (bt n k) = false → tnB n = false) := fun hh => by rw [E.out, allP_bad hlt hh]
      have HCB : Hid (capB (bt n k) = (decide (65 ≤ bt n k) && decide (bt n k ≤ 90))) := rfl
      generalize bt n k = b at *
      have hk0 : (0 : Int) ≤ (k : Int) := by omega
      have hk1 : (k : Int) < 4 := by omega
      cases q1 : decide (b < 65)
      rotate_left
      · have E2 : Hid (tnB n = false) := HBAD.out (by have := of_decide_eq_true q1; rw [HCB.out, decide_eq_false (show ¬ 65 ≤ b by omega)]; rfl)
        clear HBAD HCB HS
        go_wp2
        go_ret
        exact ⟨ret_bool E2.out.symm, rfl⟩
      cases q2 : decide (90 < b)
      rotate_left
      · have E2 : Hid (tnB n = false) := HBAD.out (by have := of_decide_eq_true q2; rw [HCB.out, decide_eq_false (show ¬ b ≤ 90 by omega), Bool.and_false])
        clear HBAD HCB HS
        go_wp2
        go_ret
        exact ⟨ret_bool E2.out.symm, rfl⟩
      have E2 : Hid (allP (fun j => capB (bt n j)) (k + 1) = true) := (show _ = _ by have h1 := of_decide_eq_false q1; have h2 := of_decide_eq_false q2; rw [HS.out, HALL.out, HCB.out, decide_eq_true (show 65 ≤ b by omega), decide_eq_true (show b ≤ 90 by omega)]; rfl)
      clear HBAD HCB HS
      go_wp2
      exact ⟨⟨k + 1, hlt, by go_num, E2.out, by first | trivial | rfl⟩, by simp [intOf]; omega⟩
    · have hke : k = 4 := by omega
      subst hke
      have E2 : Hid (tnB n = true) := (show _ = _ by rw [E.out, HALL.out])
      go_wp2
      go_ret
      exact ⟨ret_bool E2.out.symm, rfl⟩
set_option maxRecDepth 100000 in
set_option maxHeartbeats 4000000 in
theorem l21Bytes_any (t : ByteArray) (ht : t.size ≤ 1048576) (w : World) : Calls Try.prog 40 #[.string t] w fun e w' => e = .returned (.int .i64 (smb t t.size)) ∧ w' = w := by
  go_enter Try.func40, Try.ntmps40
  go_wp2
  go_loopw [3, 4] (fun sm i wr => ∃ k : Nat, k ≤ t.size ∧ sm = .int .i64 (smb t k) ∧ i = .int .i64 k ∧ wr = w) (fun _ i _ => t.size - (intOf i).toNat)
  case atStart => exact ⟨0, Nat.zero_le _, rfl, rfl, rfl⟩
  case round =>
    obtain ⟨k, hk, rfl, rfl, rfl⟩ := hrel
    by_cases hlt : k < t.size
    · have hix := fun u => idx_str t k hlt u k rfl
      have HSM : Hid (smb t (k + 1) = smb t k + bt t k) := rfl
      have hb1 := smb_b t k
      have hb2 := bt_b t k
      obtain ⟨m1, m2⟩ := hb1
      have m3 : smb t k ≤ 300000000 := by omega
      generalize smb t k = m at *
      generalize bt t k = b at *
      obtain ⟨b1, b2⟩ := hb2
      have hk0 : (0 : Int) ≤ (k : Int) := by omega
      have hk1 : (k : Int) < (t.size : Int) := by omega
      clear m2
      go_wp2
      exact ⟨⟨k + 1, hlt, (by rw [HSM.out]), (by go_num), by first | trivial | rfl⟩, (by simp [intOf]; omega)⟩
    · have hke : k = t.size := by omega
      rw [hke]
      have hnl : ¬ ((t.size : Nat) : Int) < (t.size : Int) := by omega
      go_wp2
      go_ret
      exact ⟨rfl, rfl⟩
end Go.Proofs.Ytblmodlpopnckaa
