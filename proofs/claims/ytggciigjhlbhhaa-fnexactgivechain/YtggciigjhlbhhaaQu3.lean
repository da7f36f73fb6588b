import Derived.Test.YtggciigjhlbhhaaGc1
import Derived.Test.YtggciigjhlbhhaaPlA
import Derived.Deep.RegionHeld3
namespace Go.Proofs.Ytggciigjhlbhhaa
open Go.ChangeShapes Go.WideShapes Go.ChangeAt Go.RowKit

theorem inSz_any (w : World) (g : Nat) (x : Int) (h : w.heap[g]? = some (.cells #[.int .i64 1, .int .i64 2, .int .i64 4, .int .i64 8, .int .i64 16] 2 (0, 0))) :
    Calls Try.prog 43 #[.slice (some ⟨g, 0, none⟩) 5 5, .int .i64 x] w fun e w' => e = .returned (.bool (szB x)) ∧ w' = w := by
  have hr : Irow w (.slice (some ⟨g, 0, none⟩) 5 5) [1, 2, 4, 8, 16] := by
    refine .inr ⟨g, 0, 5, rfl, by simp, (Array.getElem?_eq_some_iff.1 h).1, fun k hk => ?_⟩
    have hk5 : k < 5 := by simpa using hk
    have : ∀ m : Fin 5, w.cell? ⟨g, 0 + m.1, none⟩ = some (.int .i64 ([1, 2, 4, 8, 16][m.1])) := by
      intro m
      obtain ⟨m, hm⟩ := m
      match m, hm with
      | 0, _ => simp [World.cell?, h]
      | 1, _ => simp [World.cell?, h]
      | 2, _ => simp [World.cell?, h]
      | 3, _ => simp [World.cell?, h]
      | 4, _ => simp [World.cell?, h]
    exact this ⟨k, hk5⟩
  exact inInts_any x hr (by decide)
theorem heap_new2 (w : World) (o o' : Obj) : ((w.alloc o).alloc o').heap[w.heap.size + 1]? = some o' := by
  have h := heap_new (w.alloc o) o'
  rw [show (w.alloc o).heap.size = w.heap.size + 1 by simp] at h
  exact h
theorem bx2 (w : World) (o o' : Obj) : Below w.heap.size w ((w.alloc o).alloc o') := (bx1 w o).alloc (by simp) _
set_option maxRecDepth 100000 in
set_option maxHeartbeats 4000000 in
theorem specQueueFault_any (s : ByteArray) (q : QV) (w : World) (hs : s.size ≤ 1048576) :
    Calls Try.prog 19 #[.string s, qA q] w fun e w' => e = .returned (.int .i64 (qF s q)) ∧ Below w.heap.size w w' := by
  have HM : Hid _ := fun u => specMemFault_any s u (by omega)
  obtain ⟨sz, d, a, us, tk, gv⟩ := q
  have HS : Hid _ := fun (u : World) g => inSz_any u g sz
  cases hm : memOk s
  · rw [memC_no hm] at HM
    have E : Hid (qF s ⟨sz, d, a, us, tk, gv⟩ = 1) := qF_no (show qOk _ _ = _ by simp [qOk, hm])
    clear hm
    unfold qA
    go_enter Try.func19, Try.ntmps19
    go_wp2_with (first | (go_at_call 42; refine Calls.mono (HM.out _) ?_; rintro e u1 ⟨rfl, hu1⟩; rw [hu1]; clear hu1))
    go_ret
    exact ⟨ret_int E.out.symm, bx1 _ _⟩
  rw [memC_ok hm] at HM
  cases h1 : szB sz
  · rw [h1] at HS
    have E : Hid (qF s ⟨sz, d, a, us, tk, gv⟩ = 1) := qF_no (show qOk _ _ = _ by simp [qOk, h1])
    clear h1 hm
    unfold qA
    go_enter Try.func19, Try.ntmps19
    go_wp2_with (first | (go_at_call 42; refine Calls.mono (HM.out _) ?_; rintro e u1 ⟨rfl, hu1⟩; rw [hu1]; clear hu1) | (go_at_call 43; refine Calls.mono (HS.out _ _ (heap_new2 _ _ _)) ?_; rintro e u1 ⟨rfl, hu1⟩; rw [hu1]; clear hu1))
    go_ret
    exact ⟨ret_int E.out.symm, bx2 _ _ _⟩
  rw [h1] at HS
  obtain ⟨b1, b2⟩ := szB_b h1
  by_cases g2 : tk < 0
  · have c1 : cnB tk = false := by simp [cnB]; omega
    have E : Hid (qF s ⟨sz, d, a, us, tk, gv⟩ = 1) := qF_no (show qOk _ _ = _ by simp [qOk, c1])
    clear hm h1 c1
    unfold qA
    go_enter Try.func19, Try.ntmps19
    go_wp2_with (first | (go_at_call 42; refine Calls.mono (HM.out _) ?_; rintro e u1 ⟨rfl, hu1⟩; rw [hu1]; clear hu1) | (go_at_call 43; refine Calls.mono (HS.out _ _ (heap_new2 _ _ _)) ?_; rintro e u1 ⟨rfl, hu1⟩; rw [hu1]; clear hu1))
    go_ret
    exact ⟨ret_int E.out.symm, bx2 _ _ _⟩
  by_cases g3 : 65535 < tk
  · have c1 : cnB tk = false := by simp [cnB]; omega
    have E : Hid (qF s ⟨sz, d, a, us, tk, gv⟩ = 1) := qF_no (show qOk _ _ = _ by simp [qOk, c1])
    clear hm h1 c1
    unfold qA
    go_enter Try.func19, Try.ntmps19
    go_wp2_with (first | (go_at_call 42; refine Calls.mono (HM.out _) ?_; rintro e u1 ⟨rfl, hu1⟩; rw [hu1]; clear hu1) | (go_at_call 43; refine Calls.mono (HS.out _ _ (heap_new2 _ _ _)) ?_; rintro e u1 ⟨rfl, hu1⟩; rw [hu1]; clear hu1))
    go_ret
    exact ⟨ret_int E.out.symm, bx2 _ _ _⟩
  have ctk : cnB tk = true := by simp [cnB]; omega
  by_cases g4 : gv < 0
  · have c1 : cnB gv = false := by simp [cnB]; omega
    have E : Hid (qF s ⟨sz, d, a, us, tk, gv⟩ = 1) := qF_no (show qOk _ _ = _ by simp [qOk, c1])
    clear hm h1 ctk c1
    unfold qA
    go_enter Try.func19, Try.ntmps19
    go_wp2_with (first | (go_at_call 42; refine Calls.mono (HM.out _) ?_; rintro e u1 ⟨rfl, hu1⟩; rw [hu1]; clear hu1) | (go_at_call 43; refine Calls.mono (HS.out _ _ (heap_new2 _ _ _)) ?_; rintro e u1 ⟨rfl, hu1⟩; rw [hu1]; clear hu1))
    go_ret
    exact ⟨ret_int E.out.symm, bx2 _ _ _⟩
  by_cases g5 : 65535 < gv
  · have c1 : cnB gv = false := by simp [cnB]; omega
    have E : Hid (qF s ⟨sz, d, a, us, tk, gv⟩ = 1) := qF_no (show qOk _ _ = _ by simp [qOk, c1])
    clear hm h1 ctk c1
    unfold qA
    go_enter Try.func19, Try.ntmps19
    go_wp2_with (first | (go_at_call 42; refine Calls.mono (HM.out _) ?_; rintro e u1 ⟨rfl, hu1⟩; rw [hu1]; clear hu1) | (go_at_call 43; refine Calls.mono (HS.out _ _ (heap_new2 _ _ _)) ?_; rintro e u1 ⟨rfl, hu1⟩; rw [hu1]; clear hu1))
    go_ret
    exact ⟨ret_int E.out.symm, bx2 _ _ _⟩
  have cgv : cnB gv = true := by simp [cnB]; omega
  rcases (Decidable.em (d % 4 = 0)).symm with g6 | g6
  · have td : (d.tmod 4 != 0) = true := by rw [tmod4n]; simp [g6]
    have E : Hid (qF s ⟨sz, d, a, us, tk, gv⟩ = 1) := qF_no (show qOk _ _ = _ by simp [qOk, tbB, g6])
    clear hm h1 ctk cgv g6
    unfold qA
    go_enter Try.func19, Try.ntmps19
    go_wp2_with (first | (go_at_call 42; refine Calls.mono (HM.out _) ?_; rintro e u1 ⟨rfl, hu1⟩; rw [hu1]; clear hu1) | (go_at_call 43; refine Calls.mono (HS.out _ _ (heap_new2 _ _ _)) ?_; rintro e u1 ⟨rfl, hu1⟩; rw [hu1]; clear hu1))
    go_ret
    exact ⟨ret_int E.out.symm, bx2 _ _ _⟩
  have td : (d.tmod 4 != 0) = false := by rw [tmod4n]; simp [g6]
  rcases (Decidable.em (a % 4 = 0)).symm with g7 | g7
  · have ta : (a.tmod 4 != 0) = true := by rw [tmod4n]; simp [g7]
    have E : Hid (qF s ⟨sz, d, a, us, tk, gv⟩ = 1) := qF_no (show qOk _ _ = _ by simp [qOk, tbB, g7])
    clear hm h1 ctk cgv g6 g7
    unfold qA
    go_enter Try.func19, Try.ntmps19
    go_wp2_with (first | (go_at_call 42; refine Calls.mono (HM.out _) ?_; rintro e u1 ⟨rfl, hu1⟩; rw [hu1]; clear hu1) | (go_at_call 43; refine Calls.mono (HS.out _ _ (heap_new2 _ _ _)) ?_; rintro e u1 ⟨rfl, hu1⟩; rw [hu1]; clear hu1))
    go_ret
    exact ⟨ret_int E.out.symm, bx2 _ _ _⟩
  have ta : (a.tmod 4 != 0) = false := by rw [tmod4n]; simp [g7]
  rcases (Decidable.em (us % 4 = 0)).symm with g8 | g8
  · have tus : (us.tmod 4 != 0) = true := by rw [tmod4n]; simp [g8]
    have E : Hid (qF s ⟨sz, d, a, us, tk, gv⟩ = 1) := qF_no (show qOk _ _ = _ by simp [qOk, tbB, g8])
    clear hm h1 ctk cgv g6 g7 g8
    unfold qA
    go_enter Try.func19, Try.ntmps19
    go_wp2_with (first | (go_at_call 42; refine Calls.mono (HM.out _) ?_; rintro e u1 ⟨rfl, hu1⟩; rw [hu1]; clear hu1) | (go_at_call 43; refine Calls.mono (HS.out _ _ (heap_new2 _ _ _)) ?_; rintro e u1 ⟨rfl, hu1⟩; rw [hu1]; clear hu1))
    go_ret
    exact ⟨ret_int E.out.symm, bx2 _ _ _⟩
  have tus : (us.tmod 4 != 0) = false := by rw [tmod4n]; simp [g8]
  have HD : Hid _ := fun u => l10In_any s d (16 * sz) u hs
  have ed : (16 * sz) = (sz * 16) := by omega
  cases kd : inW s.size d (sz * 16)
  · rw [ed, kd] at HD
    rw [← ed] at HD
    have E : Hid (qF s ⟨sz, d, a, us, tk, gv⟩ = 1) := qF_no (show qOk _ _ = _ by simp [qOk, tbB, kd])
    clear hm h1 ctk cgv g6 g7 g8 kd ed
    unfold qA
    go_enter Try.func19, Try.ntmps19
    go_wp2_with (first | (go_at_call 42; refine Calls.mono (HM.out _) ?_; rintro e u1 ⟨rfl, hu1⟩; rw [hu1]; clear hu1) | (go_at_call 43; refine Calls.mono (HS.out _ _ (heap_new2 _ _ _)) ?_; rintro e u1 ⟨rfl, hu1⟩; rw [hu1]; clear hu1) | (go_at_call 44; have hA := HD.out; refine Calls.mono (hA _) ?_; rintro e u1 ⟨rfl, hu1⟩; rw [hu1]; clear hu1 hA HD))
    go_ret
    exact ⟨ret_int E.out.symm, bx2 _ _ _⟩
  rw [ed, kd] at HD
  rw [← ed] at HD
  have HA : Hid _ := fun u => l10In_any s a (8 + 4 * sz) u hs
  have ea : (8 + 4 * sz) = (8 + sz * 4) := by omega
  cases ka : inW s.size a (8 + sz * 4)
  · rw [ea, ka] at HA
    rw [← ea] at HA
    have E : Hid (qF s ⟨sz, d, a, us, tk, gv⟩ = 1) := qF_no (show qOk _ _ = _ by simp [qOk, tbB, ka])
    clear hm h1 ctk cgv g6 g7 g8 kd ka ed ea
    unfold qA
    go_enter Try.func19, Try.ntmps19
    go_wp2_with (first | (go_at_call 42; refine Calls.mono (HM.out _) ?_; rintro e u1 ⟨rfl, hu1⟩; rw [hu1]; clear hu1) | (go_at_call 43; refine Calls.mono (HS.out _ _ (heap_new2 _ _ _)) ?_; rintro e u1 ⟨rfl, hu1⟩; rw [hu1]; clear hu1) | (go_at_call 44; have hA := HD.out; refine Calls.mono (hA _) ?_; rintro e u1 ⟨rfl, hu1⟩; rw [hu1]; clear hu1 hA HD) | (go_at_call 44; have hA := HA.out; refine Calls.mono (hA _) ?_; rintro e u1 ⟨rfl, hu1⟩; rw [hu1]; clear hu1 hA HA))
    go_ret
    exact ⟨ret_int E.out.symm, bx2 _ _ _⟩
  rw [ea, ka] at HA
  rw [← ea] at HA
  have HU : Hid _ := fun u => l10In_any s us (8 + 8 * sz) u hs
  have eus : (8 + 8 * sz) = (8 + sz * 8) := by omega
  cases kus : inW s.size us (8 + sz * 8)
  · rw [eus, kus] at HU
    rw [← eus] at HU
    have E : Hid (qF s ⟨sz, d, a, us, tk, gv⟩ = 1) := qF_no (show qOk _ _ = _ by simp [qOk, tbB, kus])
    clear hm h1 ctk cgv g6 g7 g8 kd ka kus ed ea eus
    unfold qA
    go_enter Try.func19, Try.ntmps19
    go_wp2_with (first | (go_at_call 42; refine Calls.mono (HM.out _) ?_; rintro e u1 ⟨rfl, hu1⟩; rw [hu1]; clear hu1) | (go_at_call 43; refine Calls.mono (HS.out _ _ (heap_new2 _ _ _)) ?_; rintro e u1 ⟨rfl, hu1⟩; rw [hu1]; clear hu1) | (go_at_call 44; have hA := HD.out; refine Calls.mono (hA _) ?_; rintro e u1 ⟨rfl, hu1⟩; rw [hu1]; clear hu1 hA HD) | (go_at_call 44; have hA := HA.out; refine Calls.mono (hA _) ?_; rintro e u1 ⟨rfl, hu1⟩; rw [hu1]; clear hu1 hA HA) | (go_at_call 44; have hA := HU.out; refine Calls.mono (hA _) ?_; rintro e u1 ⟨rfl, hu1⟩; rw [hu1]; clear hu1 hA HU))
    go_ret
    exact ⟨ret_int E.out.symm, bx2 _ _ _⟩
  rw [eus, kus] at HU
  rw [← eus] at HU
  have E : Hid (qF s ⟨sz, d, a, us, tk, gv⟩ = 0) := qF_ok (show qOk _ _ = _ by simp [qOk, tbB, hm, h1, ctk, cgv, g6, g7, g8, kd, ka, kus])
  clear hm h1 ctk cgv g6 g7 g8 kd ka kus ed ea eus
  unfold qA
  go_enter Try.func19, Try.ntmps19
  go_wp2_with (first | (go_at_call 42; refine Calls.mono (HM.out _) ?_; rintro e u1 ⟨rfl, hu1⟩; rw [hu1]; clear hu1) | (go_at_call 43; refine Calls.mono (HS.out _ _ (heap_new2 _ _ _)) ?_; rintro e u1 ⟨rfl, hu1⟩; rw [hu1]; clear hu1) | (go_at_call 44; have hA := HD.out; refine Calls.mono (hA _) ?_; rintro e u1 ⟨rfl, hu1⟩; rw [hu1]; clear hu1 hA HD) | (go_at_call 44; have hA := HA.out; refine Calls.mono (hA _) ?_; rintro e u1 ⟨rfl, hu1⟩; rw [hu1]; clear hu1 hA HA) | (go_at_call 44; have hA := HU.out; refine Calls.mono (hA _) ?_; rintro e u1 ⟨rfl, hu1⟩; rw [hu1]; clear hu1 hA HU))
  go_ret
  exact ⟨ret_int E.out.symm, bx2 _ _ _⟩
end Go.Proofs.Ytggciigjhlbhhaa
