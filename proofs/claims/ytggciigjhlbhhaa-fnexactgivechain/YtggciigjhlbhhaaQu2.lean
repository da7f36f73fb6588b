import Derived.Test.YtggciigjhlbhhaaPk0
import Derived.Deep.DeepCutAuto
namespace Go.Proofs.Ytggciigjhlbhhaa
open Go.ChangeShapes Go.WideShapes Go.ChangeAt Go.RowKit

/-- A queue. -/
structure QV where
  size : Int
  desc : Int
  avail : Int
  used : Int
  taken : Int
  given : Int
def qA (q : QV) : Value := .agg #[.int .i64 q.size, .int .i64 q.desc, .int .i64 q.avail, .int .i64 q.used, .int .i64 q.taken, .int .i64 q.given]
def qC (q : QV) : Array Value := #[.int .i64 q.size, .int .i64 q.desc, .int .i64 q.avail, .int .i64 q.used, .int .i64 q.taken, .int .i64 q.given]
def szB (n : Int) : Bool := decide (n ∈ [1, 2, 4, 8, 16])
def cnB (n : Int) : Bool := decide (0 ≤ n ∧ n ≤ 65535)
theorem isQueueSize_any (n : Int) (w : World) : Calls Try.prog 65 #[.int .i64 n] w fun e w' => e = .returned (.bool (szB n)) ∧ w' = w := by
  by_cases h1 : 1 ≤ n
  · by_cases h2 : n ≤ 16
    · obtain ⟨k, rfl⟩ := Int.eq_ofNat_of_zero_le (show 0 ≤ n by omega)
      have hk : k < 17 := by omega
      have hk1 : 1 ≤ k := by omega
      clear h1 h2
      have E : Hid (((65536 : Int).tmod (k : Int) == 0) = szB k) := by
        show ((65536 : Int).tmod (k : Int) == 0) = szB k
        have : ∀ m : Fin 17, 1 ≤ m.1 → ((65536 : Int).tmod ((m.1 : Nat) : Int) == 0) = szB ((m.1 : Nat) : Int) := by decide
        exact this ⟨k, hk⟩ hk1
      have h1 : (1 : Int) ≤ (k : Int) := by omega
      have h2 : (k : Int) ≤ 16 := by omega
      have h3 : ¬ (k : Int) = 0 := by omega
      go_enter Try.func65, Try.ntmps65
      go_wp2
      go_ret
      exact ⟨ret_bool E.out, rfl⟩
    · have E : Hid (szB n = false) := by
        show szB n = false
        simp [szB]
        omega
      go_enter Try.func65, Try.ntmps65
      go_wp2
      go_ret
      exact ⟨ret_bool E.out.symm, rfl⟩
  · have E : Hid (szB n = false) := by
      show szB n = false
      simp [szB]
      omega
    go_enter Try.func65, Try.ntmps65
    go_wp2
    go_ret
    exact ⟨ret_bool E.out.symm, rfl⟩
theorem isCount_any (n : Int) (w : World) : Calls Try.prog 66 #[.int .i64 n] w fun e w' => e = .returned (.bool (cnB n)) ∧ w' = w := by
  by_cases h1 : 0 ≤ n
  · have E : Hid (decide (n < 65536) = cnB n) := by
      show _ = cnB n
      unfold cnB
      exact decide_eq_decide.2 (by omega)
    go_enter Try.func66, Try.ntmps66
    go_wp2
    go_ret
    exact ⟨ret_bool E.out, rfl⟩
  · have E : Hid (cnB n = false) := by
      show cnB n = false
      simp [cnB]
      omega
    go_enter Try.func66, Try.ntmps66
    go_wp2
    go_ret
    exact ⟨ret_bool E.out.symm, rfl⟩
/-- A queue is right in a memory. -/
def qOk (s : ByteArray) (q : QV) : Bool := memOk s && szB q.size && cnB q.taken && cnB q.given && tbB s.size q.desc (q.size * 16) && tbB s.size q.avail (8 + q.size * 4) && tbB s.size q.used (8 + q.size * 8)
def qF (s : ByteArray) (q : QV) : Int := if qOk s q = true then 0 else 1
theorem szB_b {n : Int} (h : szB n = true) : 1 ≤ n ∧ n ≤ 16 := by
  simp [szB] at h
  omega
set_option maxRecDepth 100000 in
set_option maxHeartbeats 4000000 in
theorem implQueueFault_any (s : ByteArray) (q : QV) (w : World) (hs : s.size ≤ 1048576) :
    Calls Try.prog 48 #[.string s, qA q] w fun e w' => e = .returned (.int .i64 (qF s q)) ∧ Below w.heap.size w w' := by
  have HM : Hid _ := fun u => implMemFault_any s u (by omega)
  have HS : Hid _ := fun u => isQueueSize_any q.size u
  have HT : Hid _ := fun u => isCount_any q.taken u
  have HG : Hid _ := fun u => isCount_any q.given u
  have E : Hid (qF s q = if memC s = 0 then (if szB q.size = true then (if cnB q.taken = true then (if cnB q.given = true then (if tbB s.size q.desc (q.size * 16) = true then (if tbB s.size q.avail (8 + q.size * 4) = true then (if tbB s.size q.used (8 + q.size * 8) = true then 0 else 1) else 1) else 1) else 1) else 1) else 1) else 1) := by
    show qF s q = _
    unfold qF qOk memC
    cases memOk s <;> cases szB q.size <;> cases cnB q.taken <;> cases cnB q.given <;> cases tbB s.size q.desc (q.size * 16) <;> cases tbB s.size q.avail (8 + q.size * 4) <;> cases tbB s.size q.used (8 + q.size * 8) <;> rfl
  obtain ⟨sz, d, a, us, tk, gv⟩ := q
  simp only at *
  rw [E.out]
  clear E
  unfold qA
  simp only
  generalize memC s = mc at *
  by_cases hm : mc = 0
  · subst hm
    cases h1 : szB sz
    · rw [h1] at HS
      clear h1
      go_enter Try.func48, Try.ntmps48
      go_wp2_with (first | (go_at_call 64; have hA := HM.out; refine Calls.mono (hA _) ?_; rintro e u1 ⟨rfl, hu1⟩; rw [hu1]; clear hu1 hA HM) | (go_at_call 65; have hA := HS.out; refine Calls.mono (hA _) ?_; rintro e u1 ⟨rfl, hu1⟩; rw [hu1]; clear hu1 hA HS))
      go_ret
      exact ⟨rfl, bx1 _ _⟩
    · rw [h1] at HS
      have zb := szB_b h1
      have HD : Hid _ := fun u => holdsTable_any s d (sz * 16) u hs (by unfold i64B; omega)
      have HA : Hid _ := fun u => holdsTable_any s a (8 + sz * 4) u hs (by unfold i64B; omega)
      have HU : Hid _ := fun u => holdsTable_any s us (8 + sz * 8) u hs (by unfold i64B; omega)
      clear h1
      cases h2 : cnB tk
      · rw [h2] at HT
        clear h2
        go_enter Try.func48, Try.ntmps48
        go_wp2_with (first | (go_at_call 64; have hA := HM.out; refine Calls.mono (hA _) ?_; rintro e u1 ⟨rfl, hu1⟩; rw [hu1]; clear hu1 hA HM) | (go_at_call 65; have hA := HS.out; refine Calls.mono (hA _) ?_; rintro e u1 ⟨rfl, hu1⟩; rw [hu1]; clear hu1 hA HS) | (go_at_call 66; have hA := HT.out; refine Calls.mono (hA _) ?_; rintro e u1 ⟨rfl, hu1⟩; rw [hu1]; clear hu1 hA HT))
        go_ret
        exact ⟨rfl, bx1 _ _⟩
      · rw [h2] at HT
        clear h2
        cases h3 : cnB gv
        · rw [h3] at HG
          clear h3
          go_enter Try.func48, Try.ntmps48
          go_wp2_with (first | (go_at_call 64; have hA := HM.out; refine Calls.mono (hA _) ?_; rintro e u1 ⟨rfl, hu1⟩; rw [hu1]; clear hu1 hA HM) | (go_at_call 65; have hA := HS.out; refine Calls.mono (hA _) ?_; rintro e u1 ⟨rfl, hu1⟩; rw [hu1]; clear hu1 hA HS) | (go_at_call 66; have hA := HT.out; refine Calls.mono (hA _) ?_; rintro e u1 ⟨rfl, hu1⟩; rw [hu1]; clear hu1 hA HT) | (go_at_call 66; have hA := HG.out; refine Calls.mono (hA _) ?_; rintro e u1 ⟨rfl, hu1⟩; rw [hu1]; clear hu1 hA HG))
          go_ret
          exact ⟨rfl, bx1 _ _⟩
        · rw [h3] at HG
          clear h3
          cases h4 : tbB s.size d (sz * 16)
          · rw [h4] at HD
            clear h4
            have b1 := zb.1
            have b2 := zb.2
            go_enter Try.func48, Try.ntmps48
            go_wp2_with (first | (go_at_call 64; have hA := HM.out; refine Calls.mono (hA _) ?_; rintro e u1 ⟨rfl, hu1⟩; rw [hu1]; clear hu1 hA HM) | (go_at_call 65; have hA := HS.out; refine Calls.mono (hA _) ?_; rintro e u1 ⟨rfl, hu1⟩; rw [hu1]; clear hu1 hA HS) | (go_at_call 66; have hA := HT.out; refine Calls.mono (hA _) ?_; rintro e u1 ⟨rfl, hu1⟩; rw [hu1]; clear hu1 hA HT) | (go_at_call 66; have hA := HG.out; refine Calls.mono (hA _) ?_; rintro e u1 ⟨rfl, hu1⟩; rw [hu1]; clear hu1 hA HG) | (go_at_call 67; have hA := HD.out; refine Calls.mono (hA _) ?_; rintro e u1 ⟨rfl, hu1⟩; rw [hu1]; clear hu1 hA HD))
            go_ret
            exact ⟨rfl, bx1 _ _⟩
          · rw [h4] at HD
            clear h4
            cases h5 : tbB s.size a (8 + sz * 4)
            · rw [h5] at HA
              clear h5
              have b1 := zb.1
              have b2 := zb.2
              go_enter Try.func48, Try.ntmps48
              go_wp2_with (first | (go_at_call 64; have hA := HM.out; refine Calls.mono (hA _) ?_; rintro e u1 ⟨rfl, hu1⟩; rw [hu1]; clear hu1 hA HM) | (go_at_call 65; have hA := HS.out; refine Calls.mono (hA _) ?_; rintro e u1 ⟨rfl, hu1⟩; rw [hu1]; clear hu1 hA HS) | (go_at_call 66; have hA := HT.out; refine Calls.mono (hA _) ?_; rintro e u1 ⟨rfl, hu1⟩; rw [hu1]; clear hu1 hA HT) | (go_at_call 66; have hA := HG.out; refine Calls.mono (hA _) ?_; rintro e u1 ⟨rfl, hu1⟩; rw [hu1]; clear hu1 hA HG) | (go_at_call 67; have hA := HD.out; refine Calls.mono (hA _) ?_; rintro e u1 ⟨rfl, hu1⟩; rw [hu1]; clear hu1 hA HD) | (go_at_call 67; have hA := HA.out; refine Calls.mono (hA _) ?_; rintro e u1 ⟨rfl, hu1⟩; rw [hu1]; clear hu1 hA HA))
              go_ret
              exact ⟨rfl, bx1 _ _⟩
            · rw [h5] at HA
              clear h5
              cases h6 : tbB s.size us (8 + sz * 8)
              · rw [h6] at HU
                clear h6
                have b1 := zb.1
                have b2 := zb.2
                go_enter Try.func48, Try.ntmps48
                go_wp2_with (first | (go_at_call 64; have hA := HM.out; refine Calls.mono (hA _) ?_; rintro e u1 ⟨rfl, hu1⟩; rw [hu1]; clear hu1 hA HM) | (go_at_call 65; have hA := HS.out; refine Calls.mono (hA _) ?_; rintro e u1 ⟨rfl, hu1⟩; rw [hu1]; clear hu1 hA HS) | (go_at_call 66; have hA := HT.out; refine Calls.mono (hA _) ?_; rintro e u1 ⟨rfl, hu1⟩; rw [hu1]; clear hu1 hA HT) | (go_at_call 66; have hA := HG.out; refine Calls.mono (hA _) ?_; rintro e u1 ⟨rfl, hu1⟩; rw [hu1]; clear hu1 hA HG) | (go_at_call 67; have hA := HD.out; refine Calls.mono (hA _) ?_; rintro e u1 ⟨rfl, hu1⟩; rw [hu1]; clear hu1 hA HD) | (go_at_call 67; have hA := HA.out; refine Calls.mono (hA _) ?_; rintro e u1 ⟨rfl, hu1⟩; rw [hu1]; clear hu1 hA HA) | (go_at_call 67; have hA := HU.out; refine Calls.mono (hA _) ?_; rintro e u1 ⟨rfl, hu1⟩; rw [hu1]; clear hu1 hA HU))
                go_ret
                exact ⟨rfl, bx1 _ _⟩
              · rw [h6] at HU
                clear h6
                have b1 := zb.1
                have b2 := zb.2
                go_enter Try.func48, Try.ntmps48
                go_wp2_with (first | (go_at_call 64; have hA := HM.out; refine Calls.mono (hA _) ?_; rintro e u1 ⟨rfl, hu1⟩; rw [hu1]; clear hu1 hA HM) | (go_at_call 65; have hA := HS.out; refine Calls.mono (hA _) ?_; rintro e u1 ⟨rfl, hu1⟩; rw [hu1]; clear hu1 hA HS) | (go_at_call 66; have hA := HT.out; refine Calls.mono (hA _) ?_; rintro e u1 ⟨rfl, hu1⟩; rw [hu1]; clear hu1 hA HT) | (go_at_call 66; have hA := HG.out; refine Calls.mono (hA _) ?_; rintro e u1 ⟨rfl, hu1⟩; rw [hu1]; clear hu1 hA HG) | (go_at_call 67; have hA := HD.out; refine Calls.mono (hA _) ?_; rintro e u1 ⟨rfl, hu1⟩; rw [hu1]; clear hu1 hA HD) | (go_at_call 67; have hA := HA.out; refine Calls.mono (hA _) ?_; rintro e u1 ⟨rfl, hu1⟩; rw [hu1]; clear hu1 hA HA) | (go_at_call 67; have hA := HU.out; refine Calls.mono (hA _) ?_; rintro e u1 ⟨rfl, hu1⟩; rw [hu1]; clear hu1 hA HU))
                go_ret
                exact ⟨rfl, bx1 _ _⟩
  · have hm2 : (mc != 0) = true := by simp [hm]
    rw [if_neg hm]
    clear hm
    go_enter Try.func48, Try.ntmps48
    go_wp2_with (first | (go_at_call 64; have hA := HM.out; refine Calls.mono (hA _) ?_; rintro e u1 ⟨rfl, hu1⟩; rw [hu1]; clear hu1 hA HM))
    go_ret
    exact ⟨rfl, bx1 _ _⟩
end Go.Proofs.Ytggciigjhlbhhaa
