import Derived.Test.YtjaelkagacmpkaaMFm
import Derived.Test.YtjaelkagacmpkaaNewM6
namespace Go.Proofs.Ytjaelkagacmpkaa
open Go.ChangeShapes Go.WideShapes Go.ChangeAt Go.RowKit

def szM (m : MV) : Bool := decide ((m.rs.length : Int) + m.cs.length + m.vs.length + m.mem.size + m.is.length + m.os.length ≤ 1048576)
structure MMax (m : MV) : Prop where
  r : m.rs.length ≤ maxLen
  c : m.cs.length ≤ maxLen
  v : m.vs.length ≤ maxLen
  i : m.is.length ≤ maxLen
  o : m.os.length ≤ maxLen
  s : m.mem.size ≤ maxLen
theorem boxC {w u : World} {m : MV} {a : MA} {t : Nat} (hu : Below (w.alloc (.cells (mC m a) t)).heap.size (w.alloc (.cells (mC m a) t)) u) : u.heap[w.heap.size]? = some (.cells (mC m a) t (0, 0)) := (hu.block _ (by simp)).trans (heap_new _ _)
set_option maxRecDepth 100000 in
set_option maxHeartbeats 4000000 in
theorem szMachine_any (w : World) (m : MV) (a : MA) (h : MMax m) : Calls Try.prog 39 #[.agg (mC m a), .int .i64 1048576] w fun e w' => ∃ r, e = .returned (.int .i64 r) ∧ decide (r < 0) = !szM m ∧ Below w.heap.size w w' := by
  obtain ⟨h1, h2, h3, h4, h5, h6⟩ := h
  have hmx : maxLen ≤ 9223372036854775807 := by decide
  have HZ1 := fun (l : Int) (w : World) (h0 : 0 ≤ l) (hh : l ≤ 1048576) => szIS_any a.ar m.rs.length a.cr l w h0 hh h1
  have HZ2 := fun (l : Int) (w : World) (h0 : 0 ≤ l) (hh : l ≤ 1048576) => szIS_any a.ac m.cs.length a.cc l w h0 hh h2
  have HZ3 := fun (l : Int) (w : World) (h0 : 0 ≤ l) (hh : l ≤ 1048576) => szIS_any a.av m.vs.length a.cv l w h0 hh h3
  have HZ4 := fun (l : Int) (w : World) (h0 : 0 ≤ l) (hh : l ≤ 1048576) => szPVS_any a.ai m.is.length a.ci l w h0 hh h4
  have HZ5 := fun (l : Int) (w : World) (h0 : 0 ≤ l) (hh : l ≤ 1048576) => szPVS_any a.ao m.os.length a.co l w h0 hh h5
  obtain ⟨n1, e1⟩ : ∃ n, m.rs.length = n := ⟨_, rfl⟩
  obtain ⟨n2, e2⟩ : ∃ n, m.cs.length = n := ⟨_, rfl⟩
  obtain ⟨n3, e3⟩ : ∃ n, m.vs.length = n := ⟨_, rfl⟩
  obtain ⟨n4, e4⟩ : ∃ n, m.is.length = n := ⟨_, rfl⟩
  obtain ⟨n5, e5⟩ : ∃ n, m.os.length = n := ⟨_, rfl⟩
  obtain ⟨n6, e6⟩ : ∃ n, m.mem.size = n := ⟨_, rfl⟩
  rw [e6] at h6
  have hw6 : ∀ l : Int, 0 ≤ l → l ≤ 1048576 → IntKind.i64.wrap (l - (n6 : Int)) = l - n6 := fun l h0 h1 => by rw [IntKind.wrap_i64]; omega
  have HSZ : Hid (szM m = decide ((n1 : Int) + n2 + n3 + n6 + n4 + n5 ≤ 1048576)) := (show szM m = _ by unfold szM; rw [e1, e2, e3, e4, e5, e6])
  rw [e1] at HZ1
  rw [e2] at HZ2
  rw [e3] at HZ3
  rw [e4] at HZ4
  rw [e5] at HZ5
  unfold mC
  rw [e1, e2, e3, e4, e5]
  have HZ1H : Hid _ := HZ1
  have HZ2H : Hid _ := HZ2
  have HZ3H : Hid _ := HZ3
  have HZ4H : Hid _ := HZ4
  have HZ5H : Hid _ := HZ5
  have HBX : Hid (Below w.heap.size w (w.alloc (.cells #[.int .i64 m.pc, .slice a.ar n1 a.cr, .int .i64 m.md, .slice a.ac n2 a.cc, .slice a.av n3 a.cv, .string m.mem, .int .i64 m.st, .int .i64 m.ct, .int .i64 m.ln, .slice a.ai n4 a.ci, .slice a.ao n5 a.co, .int .i64 m.tr] 69))) := (Below.refl _ _).alloc (Nat.le_refl _) _
  clear HZ1 HZ2 HZ3 HZ4 HZ5 e1 e2 e3 e4 e5 h1 h2 h3 h4 h5
  obtain ⟨l0, hl0⟩ : ∃ l : Int, l = 1048576 := ⟨_, rfl⟩
  have b00 : 0 ≤ l0 := by omega
  have b01 : l0 ≤ 1048576 := by omega
  rw [← hl0]
  by_cases q0 : l0 < (n1 : Int)
  · have hd : decide ((-1 : Int) < 0) = (!szM m) := by
      rw [HSZ.out]
      have hz : decide ((n1 : Int) + n2 + n3 + n6 + n4 + n5 ≤ 1048576) = false := decide_eq_false (by omega)
      rw [hz]
      rfl
    have z0 := fun w' => HZ1H.out l0 w' (by omega) (by omega)
    rw [if_pos q0] at z0
    have Z0 : Hid _ := z0
    clear z0
    have HD : Hid _ := hd
    clear hd q0 hl0 b00 b01
    go_enter Try.func39, Try.ntmps39
    go_wp2_with (first | (go_at_call 90; refine Calls.mono (Z0.out _) ?_; rintro e u0 ⟨rfl, hu0⟩; rw [hu0]; clear hu0 Z0))
    go_ret
    exact ⟨-1, rfl, HD.out, HBX.out⟩
  · obtain ⟨l1, hl1⟩ : ∃ l : Int, l = l0 - n1 := ⟨_, rfl⟩
    have b10 : 0 ≤ l1 := by omega
    have b11 : l1 ≤ 1048576 := by omega
    have t1 : ¬ l1 < 0 := by omega
    have z0 := fun w' => HZ1H.out l0 w' (by omega) (by omega)
    rw [if_neg q0, ← hl1] at z0
    have Z0 : Hid _ := z0
    clear z0
    by_cases q1 : l1 < (n2 : Int)
    · have hd : decide ((-1 : Int) < 0) = (!szM m) := by
        rw [HSZ.out]
        have hz : decide ((n1 : Int) + n2 + n3 + n6 + n4 + n5 ≤ 1048576) = false := decide_eq_false (by omega)
        rw [hz]
        rfl
      have z1 := fun w' => HZ2H.out l1 w' (by omega) (by omega)
      rw [if_pos q1] at z1
      have Z1 : Hid _ := z1
      clear z1
      have HD : Hid _ := hd
      clear hd q0 q1 hl0 b00 b01 hl1 b10 b11
      go_enter Try.func39, Try.ntmps39
      go_wp2_with (first | (go_at_call 90; refine Calls.mono (Z0.out _) ?_; rintro e u0 ⟨rfl, hu0⟩; rw [hu0]; clear hu0 Z0) | (go_at_call 90; refine Calls.mono (Z1.out _) ?_; rintro e u1 ⟨rfl, hu1⟩; rw [hu1]; clear hu1 Z1))
      go_ret
      exact ⟨-1, rfl, HD.out, HBX.out⟩
    · obtain ⟨l2, hl2⟩ : ∃ l : Int, l = l1 - n2 := ⟨_, rfl⟩
      have b20 : 0 ≤ l2 := by omega
      have b21 : l2 ≤ 1048576 := by omega
      have t2 : ¬ l2 < 0 := by omega
      have z1 := fun w' => HZ2H.out l1 w' (by omega) (by omega)
      rw [if_neg q1, ← hl2] at z1
      have Z1 : Hid _ := z1
      clear z1
      by_cases q2 : l2 < (n3 : Int)
      · have hd : decide ((-1 : Int) < 0) = (!szM m) := by
          rw [HSZ.out]
          have hz : decide ((n1 : Int) + n2 + n3 + n6 + n4 + n5 ≤ 1048576) = false := decide_eq_false (by omega)
          rw [hz]
          rfl
        have z2 := fun w' => HZ3H.out l2 w' (by omega) (by omega)
        rw [if_pos q2] at z2
        have Z2 : Hid _ := z2
        clear z2
        have HD : Hid _ := hd
        clear hd q0 q1 q2 hl0 b00 b01 hl1 b10 b11 hl2 b20 b21
        go_enter Try.func39, Try.ntmps39
        go_wp2_with (first | (go_at_call 90; refine Calls.mono (Z0.out _) ?_; rintro e u0 ⟨rfl, hu0⟩; rw [hu0]; clear hu0 Z0) | (go_at_call 90; refine Calls.mono (Z1.out _) ?_; rintro e u1 ⟨rfl, hu1⟩; rw [hu1]; clear hu1 Z1) | (go_at_call 90; refine Calls.mono (Z2.out _) ?_; rintro e u2 ⟨rfl, hu2⟩; rw [hu2]; clear hu2 Z2))
        go_ret
        exact ⟨-1, rfl, HD.out, HBX.out⟩
      · obtain ⟨l3, hl3⟩ : ∃ l : Int, l = l2 - n3 := ⟨_, rfl⟩
        have b30 : 0 ≤ l3 := by omega
        have b31 : l3 ≤ 1048576 := by omega
        have t3 : ¬ l3 < 0 := by omega
        have z2 := fun w' => HZ3H.out l2 w' (by omega) (by omega)
        rw [if_neg q2, ← hl3] at z2
        have Z2 : Hid _ := z2
        clear z2
        by_cases q3 : l3 < (n6 : Int)
        · have hd : decide ((-1 : Int) < 0) = (!szM m) := by
            rw [HSZ.out]
            have hz : decide ((n1 : Int) + n2 + n3 + n6 + n4 + n5 ≤ 1048576) = false := decide_eq_false (by omega)
            rw [hz]
            rfl
          have hw7 := hw6 l3 b30 b31
          have hneg : l3 - (n6 : Int) < 0 := by omega
          have HD : Hid _ := hd
          clear hd q0 q1 q2 q3 hl0 b00 b01 hl1 b10 b11 hl2 b20 b21 hl3 b30 b31
          go_enter Try.func39, Try.ntmps39
          go_wp2_with (first | (go_at_call 90; refine Calls.mono (Z0.out _) ?_; rintro e u0 ⟨rfl, hu0⟩; rw [hu0]; clear hu0 Z0) | (go_at_call 90; refine Calls.mono (Z1.out _) ?_; rintro e u1 ⟨rfl, hu1⟩; rw [hu1]; clear hu1 Z1) | (go_at_call 90; refine Calls.mono (Z2.out _) ?_; rintro e u2 ⟨rfl, hu2⟩; rw [hu2]; clear hu2 Z2))
          go_ret
          exact ⟨-1, rfl, HD.out, HBX.out⟩
        · obtain ⟨l4, hl4⟩ : ∃ l : Int, l = l3 - n6 := ⟨_, rfl⟩
          have b40 : 0 ≤ l4 := by omega
          have b41 : l4 ≤ 1048576 := by omega
          have t4 : ¬ l4 < 0 := by omega
          have hw8 : IntKind.i64.wrap (l3 - (n6 : Int)) = l4 := (hw6 l3 b30 b31).trans hl4.symm
          by_cases q4 : l4 < (n4 : Int)
          · have hd : decide ((-1 : Int) < 0) = (!szM m) := by
              rw [HSZ.out]
              have hz : decide ((n1 : Int) + n2 + n3 + n6 + n4 + n5 ≤ 1048576) = false := decide_eq_false (by omega)
              rw [hz]
              rfl
            have z4 := fun w' => HZ4H.out l4 w' (by omega) (by omega)
            rw [if_pos q4] at z4
            have Z4 : Hid _ := z4
            clear z4
            have HD : Hid _ := hd
            clear hd q0 q1 q2 q3 q4 hl0 b00 b01 hl1 b10 b11 hl2 b20 b21 hl3 b30 b31 hl4 b40 b41
            go_enter Try.func39, Try.ntmps39
            go_wp2_with (first | (go_at_call 90; refine Calls.mono (Z0.out _) ?_; rintro e u0 ⟨rfl, hu0⟩; rw [hu0]; clear hu0 Z0) | (go_at_call 90; refine Calls.mono (Z1.out _) ?_; rintro e u1 ⟨rfl, hu1⟩; rw [hu1]; clear hu1 Z1) | (go_at_call 90; refine Calls.mono (Z2.out _) ?_; rintro e u2 ⟨rfl, hu2⟩; rw [hu2]; clear hu2 Z2) | (go_at_call 91; refine Calls.mono (Z4.out _) ?_; rintro e u4 ⟨rfl, hu4⟩; rw [hu4]; clear hu4 Z4))
            go_ret
            exact ⟨-1, rfl, HD.out, HBX.out⟩
          · obtain ⟨l5, hl5⟩ : ∃ l : Int, l = l4 - n4 := ⟨_, rfl⟩
            have b50 : 0 ≤ l5 := by omega
            have b51 : l5 ≤ 1048576 := by omega
            have t5 : ¬ l5 < 0 := by omega
            have z4 := fun w' => HZ4H.out l4 w' (by omega) (by omega)
            rw [if_neg q4, ← hl5] at z4
            have Z4 : Hid _ := z4
            clear z4
            by_cases q5 : l5 < (n5 : Int)
            · have hd : decide ((-1 : Int) < 0) = (!szM m) := by
                rw [HSZ.out]
                have hz : decide ((n1 : Int) + n2 + n3 + n6 + n4 + n5 ≤ 1048576) = false := decide_eq_false (by omega)
                rw [hz]
                rfl
              have z5 := fun w' => HZ5H.out l5 w' (by omega) (by omega)
              rw [if_pos q5] at z5
              have Z5 : Hid _ := z5
              clear z5
              have HD : Hid _ := hd
              clear hd q0 q1 q2 q3 q4 q5 hl0 b00 b01 hl1 b10 b11 hl2 b20 b21 hl3 b30 b31 hl4 b40 b41 hl5 b50 b51
              go_enter Try.func39, Try.ntmps39
              go_wp2_with (first | (go_at_call 90; refine Calls.mono (Z0.out _) ?_; rintro e u0 ⟨rfl, hu0⟩; rw [hu0]; clear hu0 Z0) | (go_at_call 90; refine Calls.mono (Z1.out _) ?_; rintro e u1 ⟨rfl, hu1⟩; rw [hu1]; clear hu1 Z1) | (go_at_call 90; refine Calls.mono (Z2.out _) ?_; rintro e u2 ⟨rfl, hu2⟩; rw [hu2]; clear hu2 Z2) | (go_at_call 91; refine Calls.mono (Z4.out _) ?_; rintro e u4 ⟨rfl, hu4⟩; rw [hu4]; clear hu4 Z4) | (go_at_call 91; refine Calls.mono (Z5.out _) ?_; rintro e u5 ⟨rfl, hu5⟩; rw [hu5]; clear hu5 Z5))
              go_ret
              exact ⟨-1, rfl, HD.out, HBX.out⟩
            · obtain ⟨l6, hl6⟩ : ∃ l : Int, l = l5 - n5 := ⟨_, rfl⟩
              have b60 : 0 ≤ l6 := by omega
              have b61 : l6 ≤ 1048576 := by omega
              have t6 : ¬ l6 < 0 := by omega
              have z5 := fun w' => HZ5H.out l5 w' (by omega) (by omega)
              rw [if_neg q5, ← hl6] at z5
              have Z5 : Hid _ := z5
              clear z5
              have hd : decide (l6 < 0) = (!szM m) := by
                rw [HSZ.out]
                have hz : decide ((n1 : Int) + n2 + n3 + n6 + n4 + n5 ≤ 1048576) = true := decide_eq_true (by omega)
                rw [hz]
                exact decide_eq_false t6
              have HD : Hid _ := hd
              clear hd q0 q1 q2 q3 q4 q5 hl0 b00 b01 hl1 b10 b11 hl2 b20 b21 hl3 b30 b31 hl4 b40 b41 hl5 b50 b51 hl6 b60 b61
              go_enter Try.func39, Try.ntmps39
              go_wp2_with (first | (go_at_call 90; refine Calls.mono (Z0.out _) ?_; rintro e u0 ⟨rfl, hu0⟩; rw [hu0]; clear hu0 Z0) | (go_at_call 90; refine Calls.mono (Z1.out _) ?_; rintro e u1 ⟨rfl, hu1⟩; rw [hu1]; clear hu1 Z1) | (go_at_call 90; refine Calls.mono (Z2.out _) ?_; rintro e u2 ⟨rfl, hu2⟩; rw [hu2]; clear hu2 Z2) | (go_at_call 91; refine Calls.mono (Z4.out _) ?_; rintro e u4 ⟨rfl, hu4⟩; rw [hu4]; clear hu4 Z4) | (go_at_call 91; refine Calls.mono (Z5.out _) ?_; rintro e u5 ⟨rfl, hu5⟩; rw [hu5]; clear hu5 Z5))
              go_ret
              exact ⟨_, rfl, HD.out, HBX.out⟩
end Go.Proofs.Ytjaelkagacmpkaa
