import Derived.Test.YtblmodlpopnckaaRa4
import Derived.Test.YtblmodlpopnckaaPt6
import Derived.Test.YtblmodlpopnckaaGetWord
import Derived.Test.YtblmodlpopnckaaLG
import Derived.Test.YtblmodlpopnckaaRegE
namespace Go.Proofs.Ytblmodlpopnckaa
open Go.ChangeShapes Go.WideShapes Go.ChangeAt Go.RowKit

theorem tnB_ex {m : ByteArray} {p : Nat} (h : p + 4 ≤ m.size) : tnB (m.extract p (p + 4)) = tnA m p := by
  have hz : (m.extract p (p + 4)).size = 4 := by rw [ByteArray.size_extract]; omega
  unfold tnB tnA
  rw [decide_eq_true hz, Bool.true_and]
  unfold allP
  have e : ∀ l : List Nat, (∀ j ∈ l, j < 4) → (l.all fun k => capB (bt (m.extract p (p + 4)) k)) = l.all fun k => capB (bt m (p + k)) := by
    intro l hl
    induction l with
    | nil => rfl
    | cons x l ih =>
      rw [List.all_cons, List.all_cons, ih (fun j hj => hl j (List.mem_cons_of_mem _ hj)), bt_ex m p 4 x h (hl x List.mem_cons_self)]
  exact e _ (fun j hj => List.mem_range.1 hj)
theorem smb_ex {m : ByteArray} {p n : Nat} (h : p + n ≤ m.size) : ∀ k, k ≤ n → smb (m.extract p (p + n)) k = smT m p k
  | 0, _ => rfl
  | k + 1, hk => by
    show smb (m.extract p (p + n)) k + bt (m.extract p (p + n)) k = smT m p k + bt m (p + k)
    rw [smb_ex h k (by omega), bt_ex m p n k h (by omega)]
theorem slB (s : ByteArray) (a b : Nat) (h : a ≤ b) (hb : b ≤ s.size) (w : World) : Sem.run Try.prog (Instr.slice 9 (.string s) (some (.int .i64 (a : Int))) (some (.int .i64 (b : Int))) none) w = .ok (.string (s.extract a b)) w := by
  have h1 : (0 : Int) ≤ (a : Int) := by omega
  have h2 : (0 : Int) ≤ (b : Int) := by omega
  simp [Instr.slice, Instr.sliceBounds, run_sliceBound, run_underlying Try.underlying9, h, hb]
theorem LG.next2 {w u u' : World} {b t : Nat} {cs : Array Value} (h : LG w u b cs t) (hb : Below u.heap.size u u') : LG w u' b cs t :=
  ⟨h.bel.trans (hb.mono h.bel.size), (hb.block b h.lt).trans h.box, h.ge⟩
theorem bset3 {w u : World} (h : Below w.heap.size w u) (x y z : Value) : Below w.heap.size w (((u.setCell ⟨w.heap.size, 0, none⟩ x).setCell ⟨w.heap.size, 1, none⟩ y).setCell ⟨w.heap.size, 2, none⟩ z) :=
  ((h.setCell (by simp) _).setCell (by simp) _).setCell (by simp) _
theorem smT_b (m : ByteArray) (p : Nat) : ∀ k : Nat, 0 ≤ smT m p k ∧ smT m p k ≤ 255 * k
  | 0 => by simp [smT]
  | k + 1 => by
    have := smT_b m p k
    have := bt_b m (p + k)
    simp only [smT]
    omega
set_option maxRecDepth 100000 in
set_option maxHeartbeats 8000000 in
theorem l21Read_any {w : World} {m : ByteArray} {p : Nat} (hm : m.size ≤ 65536) (hp : p ≤ 4294967295) : Calls Try.prog 20 #[.string m, .int .i64 (p : Int)] w fun e w' => e = .returned (.tuple #[.agg #[.string (rtF m p).name, .int .i64 (rtF m p).rev, .string (rtF m p).body], .int .i64 (rtC m p)]) ∧ Below w.heap.size w w' := by
  have HL : Hid (LG w (w.alloc (.cells #[.string ⟨#[]⟩, .int .i64 0, .string ⟨#[]⟩] 40)) w.heap.size #[.string ⟨#[]⟩, .int .i64 0, .string ⟨#[]⟩] 40) := LG.new w _ _
  have HI8 : Hid (∀ u, Calls Try.prog 16 #[.string m, .int .i64 (p : Int), .int .i64 8] u fun e w' => e = .returned (.bool (inW m.size p 8)) ∧ w' = u) := fun u => l10In_any m p 8 u (by omega)
  have y0 := HL.out.cel 0 _ rfl
  have y1 := HL.out.cel 1 _ rfl
  have y2 := HL.out.cel 2 _ rfl
  have z0 := HL.out.frz 0
  have z1 := HL.out.frz 1
  have z2 := HL.out.frz 2
  have fl := HL.out.lt
  have hp1 : (p : Int) ≤ 4294967295 := by omega
  have ht : (p : Int).tmod 4 = (p : Int) % 4 := Int.tmod_eq_emod_of_nonneg (by omega)
  by_cases q : (p : Int) % 4 = 0
  rotate_left
  · have E2 : Hid (rtC m p = 5) := if_pos (by unfold tbB; rw [decide_eq_false q]; rfl)
    have EF : rtF m p = ⟨⟨#[]⟩, 0, ⟨#[]⟩⟩ := if_neg (by rw [E2.out]; decide)
    generalize (p : Int) % 4 = r at *
    clear hm hp
    go_enter Try.func20, Try.ntmps20
    go_upto_region 1 with fail
    generalize (w.alloc (.cells #[.string ⟨#[]⟩, .int .i64 0, .string ⟨#[]⟩] 40)) = u0 at *
    go_wp2_with fail
    try simp only [Exit.inBlock, Exit.then]
    refine bodyPost_ret (v := .tuple #[.agg #[.string ⟨#[]⟩, .int .i64 0, .string ⟨#[]⟩], .int .i64 5]) ?_ rfl ⟨by rw [EF, E2.out], ?_⟩
    · simp [results, Try.results20, go_sem, y0, y1, y2]
    · first | exact bset3 (bdn HL.out.bel _) _ _ _ | exact bset3 HL.out.bel _ _ _
  have T0 : Hid (tbB m.size p 8 = inW m.size p 8) := (show tbB m.size p 8 = _ by unfold tbB; rw [decide_eq_true q, Bool.true_and])
  cases t0 : inW m.size p 8
  · have E2 : Hid (rtC m p = 5) := if_pos (by rw [T0.out, t0])
    have EF : rtF m p = ⟨⟨#[]⟩, 0, ⟨#[]⟩⟩ := if_neg (by rw [E2.out]; decide)
    rw [t0] at HI8
    clear hm hp
    go_enter Try.func20, Try.ntmps20
    go_upto_region 1 with fail
    generalize (w.alloc (.cells #[.string ⟨#[]⟩, .int .i64 0, .string ⟨#[]⟩] 40)) = u0 at *
    go_upto_region 2 with ((go_at_call 16; refine Calls.mono (HI8.out _) ?_; rintro e u1 ⟨rfl, hw⟩; rw [hw]; clear hw))
    go_wp2_with fail
    try simp only [Exit.inBlock, Exit.then]
    refine bodyPost_ret (v := .tuple #[.agg #[.string ⟨#[]⟩, .int .i64 0, .string ⟨#[]⟩], .int .i64 5]) ?_ rfl ⟨by rw [EF, E2.out], ?_⟩
    · simp [results, Try.results20, go_sem, y0, y1, y2]
    · first | exact bset3 (bdn HL.out.bel _) _ _ _ | exact bset3 HL.out.bel _ _ _
  have HP : Hid (p + 8 ≤ m.size) := (show p + 8 ≤ m.size by have := inW_iff.1 t0; omega)
  have T1 : Hid (tbB m.size p 8 = true) := (show tbB m.size p 8 = true by rw [T0.out, t0])
  clear T0
  rw [t0] at HI8
  have b4 := bt_b m (p + 4)
  have b5 := bt_b m (p + 5)
  have b6 := bt_b m (p + 6)
  have b7 := bt_b m (p + 7)
  have hwv : wv m (p + 4) = bt m (p + 4) + bt m (p + 5) * 256 + bt m (p + 6) * 65536 + bt m (p + 7) * 16777216 := rfl
  have hsz : szT m p = bt m (p + 6) + bt m (p + 7) * 256 - 8 := rfl
  have HWD : Hid (∀ (i : Int) u, i = ((p + 4 : Nat) : Int) → Calls Try.prog 17 #[.string m, .int .i64 i] u fun e w' => e = .returned (.int .i64 (wv m (p + 4))) ∧ Below u.heap.size u w') := fun i u hi => by
    rw [hi]
    refine (l01Word_any m (p + 4) u (by have := HP.out; omega) hm).mono ?_
    rintro e w' ⟨rfl, k, rfl⟩
    exact ⟨rfl, bdn (Below.refl _ _) k⟩
  have hd : (wv m (p + 4)).tdiv 65536 = szT m p + 8 := by
    rw [Int.tdiv_eq_ediv_of_nonneg (by omega)]
    omega
  have hr0 : (wv m (p + 4)).tdiv 256 = wv m (p + 4) / 256 := Int.tdiv_eq_ediv_of_nonneg (by omega)
  have hr : ((wv m (p + 4)).tdiv 256).tmod 256 = bt m (p + 5) := by
    rw [hr0, Int.tmod_eq_emod_of_nonneg (by omega)]
    omega
  have hw0 : 0 ≤ wv m (p + 4) := by omega
  have hw1 : wv m (p + 4) ≤ 4294967295 := by omega
  have ht0 : 0 ≤ (wv m (p + 4)).tdiv 256 := by omega
  have ht1 : (wv m (p + 4)).tdiv 256 ≤ 16777215 := by omega
  clear hr0 hwv b4
  have HNA : Hid (∀ u, Calls Try.prog 39 #[.string (m.extract p (p + 4))] u fun e w' => e = .returned (.bool (tnA m p)) ∧ w' = u) := fun u => by
    rw [← tnB_ex (by have := HP.out; omega)]
    exact l21Name_any _ u
  have s1 : ∀ u, Sem.run Try.prog (Instr.slice 9 (.string m) (some (.int .i64 (p : Int))) (some (.int .i64 ((p : Int) + 4))) none) u = .ok (.string (m.extract p (p + 4))) u := fun u => slB m p (p + 4) (by omega) (by have := HP.out; omega) u
  have HZ : Hid (szT m p = szT m p) := rfl
  obtain ⟨Z, hZ⟩ : ∃ Z, szT m p + 8 = Z := ⟨_, rfl⟩
  have HZ2 : Hid (szT m p + 8 = Z) := hZ
  rw [hZ] at hd
  have hZ0 : 0 ≤ Z := by omega
  have hZ1 : Z ≤ 65535 := by omega
  have hzt : Z.tmod 4 = Z % 4 := Int.tmod_eq_emod_of_nonneg hZ0
  clear hsz b6 b7 hZ HZ
  generalize wv m (p + 4) = W at *
  cases t1 : tnA m p
  · rw [t1] at HNA
    have E2 : Hid (rtC m p = 3) := (show rtC m p = 3 by
      unfold rtC
      rw [if_neg (by rw [T1.out]; decide), if_pos t1])
    have EF : rtF m p = ⟨⟨#[]⟩, 0, ⟨#[]⟩⟩ := if_neg (by rw [E2.out]; decide)
    clear hm hp
    go_enter Try.func20, Try.ntmps20
    go_upto_region 1 with fail
    generalize (w.alloc (.cells #[.string ⟨#[]⟩, .int .i64 0, .string ⟨#[]⟩] 40)) = u0 at *
    go_upto_region 3 with ((go_at_call 16; refine Calls.mono (HI8.out _) ?_; rintro e u1 ⟨rfl, hw⟩; rw [hw]; clear hw))
    go_upto_region 5 with ((go_at_call 17; refine Calls.mono (HWD.out _ _ (by omega)) ?_; rintro e u3 ⟨rfl, hb⟩; have HL3 : Hid _ := (HL.out.next2 hb); clear hb HL; have HL := HL3; clear HL3))
    clear y0 y1 y2 z0 z1 z2 fl
    have y0 := HL.out.cel 0 _ rfl
    have y1 := HL.out.cel 1 _ rfl
    have y2 := HL.out.cel 2 _ rfl
    have z0 := HL.out.frz 0
    have z1 := HL.out.frz 1
    have z2 := HL.out.frz 2
    have fl := HL.out.lt
    go_upto_region 6 with ((go_at_call 39; refine Calls.mono (HNA.out _) ?_; rintro e u4 ⟨rfl, hw⟩; rw [hw]; clear hw))
    go_wp2_with fail
    try simp only [Exit.inBlock, Exit.then]
    refine bodyPost_ret (v := .tuple #[.agg #[.string ⟨#[]⟩, .int .i64 0, .string ⟨#[]⟩], .int .i64 3]) ?_ rfl ⟨by rw [EF, E2.out], ?_⟩
    · simp [results, Try.results20, go_sem, y0, y1, y2]
    · first | exact bset3 (bdn HL.out.bel _) _ _ _ | exact bset3 HL.out.bel _ _ _
  rw [t1] at HNA
  by_cases z8 : Z < 8
  · have E2 : Hid (rtC m p = 3) := (show rtC m p = 3 by
      unfold rtC
      rw [if_neg (by rw [T1.out]; decide), if_neg (by rw [t1]; decide), if_pos (by unfold tbdB; rw [show szT m p = Z - 8 by have := HZ2.out; omega]; rw [decide_eq_false (by omega)]; rfl)])
    have EF : rtF m p = ⟨⟨#[]⟩, 0, ⟨#[]⟩⟩ := if_neg (by rw [E2.out]; decide)
    clear hm hp
    go_enter Try.func20, Try.ntmps20
    go_upto_region 1 with fail
    generalize (w.alloc (.cells #[.string ⟨#[]⟩, .int .i64 0, .string ⟨#[]⟩] 40)) = u0 at *
    go_upto_region 3 with ((go_at_call 16; refine Calls.mono (HI8.out _) ?_; rintro e u1 ⟨rfl, hw⟩; rw [hw]; clear hw))
    go_upto_region 5 with ((go_at_call 17; refine Calls.mono (HWD.out _ _ (by omega)) ?_; rintro e u3 ⟨rfl, hb⟩; have HL3 : Hid _ := (HL.out.next2 hb); clear hb HL; have HL := HL3; clear HL3))
    clear y0 y1 y2 z0 z1 z2 fl
    have y0 := HL.out.cel 0 _ rfl
    have y1 := HL.out.cel 1 _ rfl
    have y2 := HL.out.cel 2 _ rfl
    have z0 := HL.out.frz 0
    have z1 := HL.out.frz 1
    have z2 := HL.out.frz 2
    have fl := HL.out.lt
    go_upto_region 6 with ((go_at_call 39; refine Calls.mono (HNA.out _) ?_; rintro e u4 ⟨rfl, hw⟩; rw [hw]; clear hw))
    go_wp2_with fail
    try simp only [Exit.inBlock, Exit.then]
    refine bodyPost_ret (v := .tuple #[.agg #[.string ⟨#[]⟩, .int .i64 0, .string ⟨#[]⟩], .int .i64 3]) ?_ rfl ⟨by rw [EF, E2.out], ?_⟩
    · simp [results, Try.results20, go_sem, y0, y1, y2]
    · first | exact bset3 (bdn HL.out.bel _) _ _ _ | exact bset3 HL.out.bel _ _ _
  by_cases z9 : 208 < Z
  · have E2 : Hid (rtC m p = 3) := (show rtC m p = 3 by
      unfold rtC
      rw [if_neg (by rw [T1.out]; decide), if_neg (by rw [t1]; decide), if_pos (by unfold tbdB; rw [show szT m p = Z - 8 by have := HZ2.out; omega]; rw [decide_eq_true (show 0 ≤ Z - 8 by omega), decide_eq_false (show ¬ Z - 8 ≤ 200 by omega)]; rfl)])
    have EF : rtF m p = ⟨⟨#[]⟩, 0, ⟨#[]⟩⟩ := if_neg (by rw [E2.out]; decide)
    clear hm hp
    go_enter Try.func20, Try.ntmps20
    go_upto_region 1 with fail
    generalize (w.alloc (.cells #[.string ⟨#[]⟩, .int .i64 0, .string ⟨#[]⟩] 40)) = u0 at *
    go_upto_region 3 with ((go_at_call 16; refine Calls.mono (HI8.out _) ?_; rintro e u1 ⟨rfl, hw⟩; rw [hw]; clear hw))
    go_upto_region 5 with ((go_at_call 17; refine Calls.mono (HWD.out _ _ (by omega)) ?_; rintro e u3 ⟨rfl, hb⟩; have HL3 : Hid _ := (HL.out.next2 hb); clear hb HL; have HL := HL3; clear HL3))
    clear y0 y1 y2 z0 z1 z2 fl
    have y0 := HL.out.cel 0 _ rfl
    have y1 := HL.out.cel 1 _ rfl
    have y2 := HL.out.cel 2 _ rfl
    have z0 := HL.out.frz 0
    have z1 := HL.out.frz 1
    have z2 := HL.out.frz 2
    have fl := HL.out.lt
    go_upto_region 6 with ((go_at_call 39; refine Calls.mono (HNA.out _) ?_; rintro e u4 ⟨rfl, hw⟩; rw [hw]; clear hw))
    go_wp2_with fail
    try simp only [Exit.inBlock, Exit.then]
    refine bodyPost_ret (v := .tuple #[.agg #[.string ⟨#[]⟩, .int .i64 0, .string ⟨#[]⟩], .int .i64 3]) ?_ rfl ⟨by rw [EF, E2.out], ?_⟩
    · simp [results, Try.results20, go_sem, y0, y1, y2]
    · first | exact bset3 (bdn HL.out.bel _) _ _ _ | exact bset3 HL.out.bel _ _ _
  by_cases zm : Z % 4 = 0
  rotate_left
  · have hz4 : ¬ Z.tmod 4 = 0 := by rw [hzt]; exact zm
    have hz5 : (Z.tmod 4 != 0) = true := by simpa using hz4
    have hz6 : (Z % 4 != 0) = true := by simpa using zm
    have E2 : Hid (rtC m p = 3) := (show rtC m p = 3 by
      unfold rtC
      rw [if_neg (by rw [T1.out]; decide), if_neg (by rw [t1]; decide), if_pos (by unfold tbdB; rw [show szT m p = Z - 8 by have := HZ2.out; omega]; rw [decide_eq_true (show 0 ≤ Z - 8 by omega), decide_eq_true (show Z - 8 ≤ 200 by omega)]; simp; omega)])
    have EF : rtF m p = ⟨⟨#[]⟩, 0, ⟨#[]⟩⟩ := if_neg (by rw [E2.out]; decide)
    clear hm hp
    go_enter Try.func20, Try.ntmps20
    go_upto_region 1 with fail
    generalize (w.alloc (.cells #[.string ⟨#[]⟩, .int .i64 0, .string ⟨#[]⟩] 40)) = u0 at *
    clear hzt
    go_upto_region 3 with ((go_at_call 16; refine Calls.mono (HI8.out _) ?_; rintro e u1 ⟨rfl, hw⟩; rw [hw]; clear hw))
    go_upto_region 5 with ((go_at_call 17; refine Calls.mono (HWD.out _ _ (by omega)) ?_; rintro e u3 ⟨rfl, hb⟩; have HL3 : Hid _ := (HL.out.next2 hb); clear hb HL; have HL := HL3; clear HL3))
    clear y0 y1 y2 z0 z1 z2 fl
    have y0 := HL.out.cel 0 _ rfl
    have y1 := HL.out.cel 1 _ rfl
    have y2 := HL.out.cel 2 _ rfl
    have z0 := HL.out.frz 0
    have z1 := HL.out.frz 1
    have z2 := HL.out.frz 2
    have fl := HL.out.lt
    go_upto_region 6 with ((go_at_call 39; refine Calls.mono (HNA.out _) ?_; rintro e u4 ⟨rfl, hw⟩; rw [hw]; clear hw))
    go_wp2_with fail
    try simp only [Exit.inBlock, Exit.then]
    refine bodyPost_ret (v := .tuple #[.agg #[.string ⟨#[]⟩, .int .i64 0, .string ⟨#[]⟩], .int .i64 3]) ?_ rfl ⟨by rw [EF, E2.out], ?_⟩
    · simp [results, Try.results20, go_sem, y0, y1, y2]
    · first | exact bset3 (bdn HL.out.bel _) _ _ _ | exact bset3 HL.out.bel _ _ _
  have hz4 : Z.tmod 4 = 0 := by rw [hzt]; exact zm
  have T2 : Hid (tbdB (szT m p) = true) := (show tbdB (szT m p) = true by unfold tbdB; rw [show szT m p = Z - 8 by have := HZ2.out; omega, decide_eq_true (show 0 ≤ Z - 8 by omega), decide_eq_true (show Z - 8 ≤ 200 by omega)]; simp; omega)
  have HIZ : Hid (∀ u, Calls Try.prog 16 #[.string m, .int .i64 (p : Int), .int .i64 Z] u fun e w' => e = .returned (.bool (inW m.size p Z)) ∧ w' = u) := fun u => l10In_any m p Z u (by omega)
  have T3 : Hid (inW m.size ((p + 8 : Nat) : Int) (szT m p) = inW m.size p Z) := (show inW m.size ((p + 8 : Nat) : Int) (szT m p) = inW m.size p Z by
    unfold inW
    exact decide_eq_decide.2 (by have := HZ2.out; omega))
  clear hzt zm
  cases t3 : inW m.size p Z
  · have E2 : Hid (rtC m p = 5) := (show rtC m p = 5 by
      unfold rtC
      rw [if_neg (by rw [T1.out]; decide), if_neg (by rw [t1]; decide), if_neg (by rw [T2.out]; decide), if_pos (by rw [T3.out, t3])])
    have EF : rtF m p = ⟨⟨#[]⟩, 0, ⟨#[]⟩⟩ := if_neg (by rw [E2.out]; decide)
    rw [t3] at HIZ
    clear hm hp
    go_enter Try.func20, Try.ntmps20
    go_upto_region 1 with fail
    generalize (w.alloc (.cells #[.string ⟨#[]⟩, .int .i64 0, .string ⟨#[]⟩] 40)) = u0 at *
    go_upto_region 3 with ((go_at_call 16; refine Calls.mono (HI8.out _) ?_; rintro e u1 ⟨rfl, hw⟩; rw [hw]; clear hw))
    go_upto_region 5 with ((go_at_call 17; refine Calls.mono (HWD.out _ _ (by omega)) ?_; rintro e u3 ⟨rfl, hb⟩; have HL3 : Hid _ := (HL.out.next2 hb); clear hb HL; have HL := HL3; clear HL3))
    clear y0 y1 y2 z0 z1 z2 fl
    have y0 := HL.out.cel 0 _ rfl
    have y1 := HL.out.cel 1 _ rfl
    have y2 := HL.out.cel 2 _ rfl
    have z0 := HL.out.frz 0
    have z1 := HL.out.frz 1
    have z2 := HL.out.frz 2
    have fl := HL.out.lt
    go_upto_region 7 with ((go_at_call 39; refine Calls.mono (HNA.out _) ?_; rintro e u4 ⟨rfl, hw⟩; rw [hw]; clear hw))
    go_upto_region 8 with ((go_at_call 16; refine Calls.mono (HIZ.out _) ?_; rintro e u5 ⟨rfl, hw⟩; rw [hw]; clear hw))
    go_wp2_with fail
    try simp only [Exit.inBlock, Exit.then]
    refine bodyPost_ret (v := .tuple #[.agg #[.string ⟨#[]⟩, .int .i64 0, .string ⟨#[]⟩], .int .i64 5]) ?_ rfl ⟨by rw [EF, E2.out], ?_⟩
    · simp [results, Try.results20, go_sem, y0, y1, y2]
    · first | exact bset3 (bdn HL.out.bel _) _ _ _ | exact bset3 HL.out.bel _ _ _
  rw [t3] at HIZ
  have hin := (inW_iff.1 t3).2.2
  obtain ⟨zn, hzn⟩ : ∃ zn : Nat, Z = (zn : Int) := ⟨Z.toNat, by omega⟩
  have HZN : Hid (8 + (szT m p).toNat = zn ∧ 8 ≤ zn) := ⟨by have := HZ2.out; omega, by omega⟩
  have hpz : p + zn ≤ m.size := by omega
  have s2 : ∀ u, Sem.run Try.prog (Instr.slice 9 (.string m) (some (.int .i64 (p : Int))) (some (.int .i64 ((p : Int) + Z))) none) u = .ok (.string (m.extract p (p + zn))) u := fun u => by
    have h9 := slB m p (p + zn) (by omega) hpz u
    rw [show (((p + zn : Nat)) : Int) = (p : Int) + Z by omega] at h9
    exact h9
  have s3 : ∀ u, Sem.run Try.prog (Instr.slice 9 (.string m) (some (.int .i64 ((p : Int) + 8))) (some (.int .i64 ((p : Int) + Z))) none) u = .ok (.string (m.extract (p + 8) (p + zn))) u := fun u => by
    have h9 := slB m (p + 8) (p + zn) (by omega) hpz u
    rw [show (((p + zn : Nat)) : Int) = (p : Int) + Z by omega] at h9
    exact h9
  have HBY : Hid (∀ u, Calls Try.prog 40 #[.string (m.extract p (p + zn))] u fun e w' => e = .returned (.int .i64 (smT m p zn)) ∧ w' = u) := fun u => by
    have hz : (m.extract p (p + zn)).size = zn := by rw [ByteArray.size_extract]; omega
    have h9 := l21Bytes_any (m.extract p (p + zn)) (by omega) u
    rw [hz, smb_ex hpz zn (Nat.le_refl _)] at h9
    exact h9
  have hS := smT_b m p zn
  have HPR : Hid (rtC m p = if smT m p zn % 256 ≠ 0 then 10 else 0) := (show rtC m p = _ by
    unfold rtC
    rw [if_neg (by rw [T1.out]; decide), if_neg (by rw [t1]; decide), if_neg (by rw [T2.out]; decide), if_neg (by rw [T3.out, t3]; decide), HZN.out.1])
  have hSt : (smT m p zn).tmod 256 = smT m p zn % 256 := Int.tmod_eq_emod_of_nonneg hS.1
  have hS0 := hS.1
  have hS1 : smT m p zn ≤ 65535 := by omega
  clear hS hin hpz hzn
  generalize smT m p zn = SS at *
  generalize SS % 256 = sv at *
  by_cases t4 : sv = 0
  rotate_left
  · have E2 : Hid (rtC m p = 10) := HPR.out.trans (if_pos t4)
    have EF : rtF m p = ⟨⟨#[]⟩, 0, ⟨#[]⟩⟩ := if_neg (by rw [E2.out]; decide)
    clear hm hp HPR
    go_enter Try.func20, Try.ntmps20
    go_upto_region 1 with fail
    generalize (w.alloc (.cells #[.string ⟨#[]⟩, .int .i64 0, .string ⟨#[]⟩] 40)) = u0 at *
    go_upto_region 3 with ((go_at_call 16; refine Calls.mono (HI8.out _) ?_; rintro e u1 ⟨rfl, hw⟩; rw [hw]; clear hw))
    go_upto_region 5 with ((go_at_call 17; refine Calls.mono (HWD.out _ _ (by omega)) ?_; rintro e u3 ⟨rfl, hb⟩; have HL3 : Hid _ := (HL.out.next2 hb); clear hb HL; have HL := HL3; clear HL3))
    clear y0 y1 y2 z0 z1 z2 fl
    have y0 := HL.out.cel 0 _ rfl
    have y1 := HL.out.cel 1 _ rfl
    have y2 := HL.out.cel 2 _ rfl
    have z0 := HL.out.frz 0
    have z1 := HL.out.frz 1
    have z2 := HL.out.frz 2
    have fl := HL.out.lt
    go_upto_region 7 with ((go_at_call 39; refine Calls.mono (HNA.out _) ?_; rintro e u4 ⟨rfl, hw⟩; rw [hw]; clear hw))
    go_upto_region 9 with ((go_at_call 16; refine Calls.mono (HIZ.out _) ?_; rintro e u5 ⟨rfl, hw⟩; rw [hw]; clear hw))
    go_upto_region 10 with (go_at_call 40; refine Calls.mono (HBY.out _) ?_; rintro e u6 ⟨rfl, hw⟩; rw [hw]; clear hw)
    go_wp2_with fail
    try simp only [Exit.inBlock, Exit.then]
    refine bodyPost_ret (v := .tuple #[.agg #[.string ⟨#[]⟩, .int .i64 0, .string ⟨#[]⟩], .int .i64 10]) ?_ rfl ⟨by rw [EF, E2.out], ?_⟩
    · simp [results, Try.results20, go_sem, y0, y1, y2]
    · first | exact bset3 (bdn HL.out.bel _) _ _ _ | exact bset3 HL.out.bel _ _ _
  have E2 : Hid (rtC m p = 0) := HPR.out.trans (if_neg (fun h => h t4))
  have EF : rtF m p = ⟨m.extract p (p + 4), bt m (p + 5), m.extract (p + 8) (p + zn)⟩ := by
    unfold rtF
    rw [if_pos E2.out, show p + 8 + (szT m p).toNat = p + zn by have := HZN.out; omega]
  clear hm hp HPR
  go_enter Try.func20, Try.ntmps20
  go_upto_region 1 with fail
  generalize (w.alloc (.cells #[.string ⟨#[]⟩, .int .i64 0, .string ⟨#[]⟩] 40)) = u0 at *
  go_upto_region 3 with ((go_at_call 16; refine Calls.mono (HI8.out _) ?_; rintro e u1 ⟨rfl, hw⟩; rw [hw]; clear hw))
  go_upto_region 5 with ((go_at_call 17; refine Calls.mono (HWD.out _ _ (by omega)) ?_; rintro e u3 ⟨rfl, hb⟩; have HL3 : Hid _ := (HL.out.next2 hb); clear hb HL; have HL := HL3; clear HL3))
  clear y0 y1 y2 z0 z1 z2 fl
  have y0 := HL.out.cel 0 _ rfl
  have y1 := HL.out.cel 1 _ rfl
  have y2 := HL.out.cel 2 _ rfl
  have z0 := HL.out.frz 0
  have z1 := HL.out.frz 1
  have z2 := HL.out.frz 2
  have fl := HL.out.lt
  go_upto_region 7 with ((go_at_call 39; refine Calls.mono (HNA.out _) ?_; rintro e u4 ⟨rfl, hw⟩; rw [hw]; clear hw))
  go_upto_region 9 with ((go_at_call 16; refine Calls.mono (HIZ.out _) ?_; rintro e u5 ⟨rfl, hw⟩; rw [hw]; clear hw))
  go_upto_region 11 with (go_at_call 40; refine Calls.mono (HBY.out _) ?_; rintro e u6 ⟨rfl, hw⟩; rw [hw]; clear hw)
  have HLD : Hid _ := HL.out.drew
  refine AnyE.start (fun w9 => LG w w9 w.heap.size #[.string ⟨#[]⟩, .int .i64 0, .string ⟨#[]⟩] 40) [16, 17] (by kernel_rfl) ?_
  refine AnyE.take (i := 0) (v := .string m) rfl (by kernel_rfl) (by kernel_rfl) (by kernel_rfl) (by kernel_rfl) (by kernel_rfl) (fun _ _ _ h => h) (Or.inl ⟨by kernel_rfl, fun w9 h9 => ?_⟩) HLD.out ?_
  · go_simp
    try (rw [IntKind.wrap_i64]; omega)
  refine AnyE.take (i := 1) (v := .int .i64 (p : Int)) rfl (by kernel_rfl) (by kernel_rfl) (by kernel_rfl) (by kernel_rfl) (by kernel_rfl) (fun _ _ _ h => h) (Or.inl ⟨by kernel_rfl, fun w9 h9 => ?_⟩) HLD.out ?_
  · go_simp
    try (rw [IntKind.wrap_i64]; omega)
  refine AnyE.take (i := 2) (v := .int .i64 (p : Int)) rfl (by kernel_rfl) (by kernel_rfl) (by kernel_rfl) (by kernel_rfl) (by kernel_rfl) (fun _ _ _ h => h) (Or.inl ⟨by kernel_rfl, fun w9 h9 => ?_⟩) HLD.out ?_
  · go_simp
    try (rw [IntKind.wrap_i64]; omega)
  refine AnyE.take (i := 3) (v := .int .i64 ((p : Int) + 4)) rfl (by kernel_rfl) (by kernel_rfl) (by kernel_rfl) (by kernel_rfl) (by kernel_rfl) (fun _ _ _ h => h) (Or.inl ⟨by kernel_rfl, fun w9 h9 => ?_⟩) HLD.out ?_
  · go_simp
    try (rw [IntKind.wrap_i64]; omega)
  refine AnyE.take (i := 4) (v := .string (m.extract p (p + 4))) rfl (by kernel_rfl) (by kernel_rfl) (by kernel_rfl) (by kernel_rfl) (by kernel_rfl) (fun _ _ _ h => h) (Or.inl ⟨by kernel_rfl, fun w9 h9 => ?_⟩) HLD.out ?_
  · go_simp
    try (rw [IntKind.wrap_i64]; omega)
  refine AnyE.take (i := 5) (v := .int .i64 W) rfl (by kernel_rfl) (by kernel_rfl) (by kernel_rfl) (by kernel_rfl) (by kernel_rfl) (fun _ _ _ h => h) (Or.inl ⟨by kernel_rfl, fun w9 h9 => ?_⟩) HLD.out ?_
  · go_simp
    try (rw [IntKind.wrap_i64]; omega)
  refine AnyE.take (i := 6) (v := .int .i64 (W.tdiv 256)) rfl (by kernel_rfl) (by kernel_rfl) (by kernel_rfl) (by kernel_rfl) (by kernel_rfl) (fun _ _ _ h => h) (Or.inl ⟨by kernel_rfl, fun w9 h9 => ?_⟩) HLD.out ?_
  · go_simp
    try (rw [IntKind.wrap_i64]; omega)
  refine AnyE.take (i := 7) (v := .int .i64 (bt m (p + 5))) rfl (by kernel_rfl) (by kernel_rfl) (by kernel_rfl) (by kernel_rfl) (by kernel_rfl) (fun _ _ _ h => h) (Or.inl ⟨by kernel_rfl, fun w9 h9 => ?_⟩) HLD.out ?_
  · go_simp
    try (rw [IntKind.wrap_i64]; omega)
  refine AnyE.take (i := 8) (v := .string m) rfl (by kernel_rfl) (by kernel_rfl) (by kernel_rfl) (by kernel_rfl) (by kernel_rfl) (fun _ _ _ h => h) (Or.inl ⟨by kernel_rfl, fun w9 h9 => ?_⟩) HLD.out ?_
  · go_simp
    try (rw [IntKind.wrap_i64]; omega)
  refine AnyE.take (i := 9) (v := .int .i64 (p : Int)) rfl (by kernel_rfl) (by kernel_rfl) (by kernel_rfl) (by kernel_rfl) (by kernel_rfl) (fun _ _ _ h => h) (Or.inl ⟨by kernel_rfl, fun w9 h9 => ?_⟩) HLD.out ?_
  · go_simp
    try (rw [IntKind.wrap_i64]; omega)
  refine AnyE.take (i := 10) (v := .int .i64 ((p : Int) + 8)) rfl (by kernel_rfl) (by kernel_rfl) (by kernel_rfl) (by kernel_rfl) (by kernel_rfl) (fun _ _ _ h => h) (Or.inl ⟨by kernel_rfl, fun w9 h9 => ?_⟩) HLD.out ?_
  · go_simp
    try (rw [IntKind.wrap_i64]; omega)
  refine AnyE.take (i := 11) (v := .int .i64 (p : Int)) rfl (by kernel_rfl) (by kernel_rfl) (by kernel_rfl) (by kernel_rfl) (by kernel_rfl) (fun _ _ _ h => h) (Or.inl ⟨by kernel_rfl, fun w9 h9 => ?_⟩) HLD.out ?_
  · go_simp
    try (rw [IntKind.wrap_i64]; omega)
  refine AnyE.take (i := 12) (v := .int .i64 Z) rfl (by kernel_rfl) (by kernel_rfl) (by kernel_rfl) (by kernel_rfl) (by kernel_rfl) (fun _ _ _ h => h) (Or.inl ⟨by kernel_rfl, fun w9 h9 => ?_⟩) HLD.out ?_
  · go_simp
    try (rw [IntKind.wrap_i64]; omega)
  refine AnyE.take (i := 13) (v := .int .i64 ((p : Int) + Z)) rfl (by kernel_rfl) (by kernel_rfl) (by kernel_rfl) (by kernel_rfl) (by kernel_rfl) (fun _ _ _ h => h) (Or.inl ⟨by kernel_rfl, fun w9 h9 => ?_⟩) HLD.out ?_
  · go_simp
    try (rw [IntKind.wrap_i64]; omega)
  refine AnyE.take (i := 14) (v := .string (m.extract (p + 8) (p + zn))) rfl (by kernel_rfl) (by kernel_rfl) (by kernel_rfl) (by kernel_rfl) (by kernel_rfl) (fun _ _ _ h => h) (Or.inl ⟨by kernel_rfl, fun w9 h9 => ?_⟩) HLD.out ?_
  · go_simp
    try (rw [IntKind.wrap_i64]; omega)
  refine AnyE.take (i := 15) (v := .agg #[.string (m.extract p (p + 4)), .int .i64 (bt m (p + 5)), .string (m.extract (p + 8) (p + zn))]) rfl (by kernel_rfl) (by kernel_rfl) (by kernel_rfl) (by kernel_rfl) (by kernel_rfl) (fun _ _ _ h => h) (Or.inl ⟨by kernel_rfl, fun w9 h9 => ?_⟩) HLD.out ?_
  · go_simp
    try (rw [IntKind.wrap_i64]; omega)
  refine AnyE.one 16 (by kernel_rfl) rfl (by kernel_rfl) fun K hK => ?_
  go_simp
  go_wp2
  refine hK _ _ (fun h => absurd (by decide) h) ?_
  clear hK K
  refine AnyE.one 17 (by kernel_rfl) rfl (by kernel_rfl) fun K hK => ?_
  go_simp
  refine hK _ _ (fun h => absurd (by decide) h) ?_
  clear hK K
  refine AnyE.done (by kernel_rfl) ?_ _
  go_simp
  go_wp2_with fail
  try simp only [Exit.inBlock, Exit.then]
  refine bodyPost_ret (v := .tuple #[.agg #[.string (m.extract p (p + 4)), .int .i64 (bt m (p + 5)), .string (m.extract (p + 8) (p + zn))], .int .i64 0]) ?_ rfl ⟨by rw [EF, E2.out], ?_⟩
  · simp [results, Try.results20, go_sem, y0, y1, y2]
  · first | exact bset3 (bdn HLD.out.bel _) _ _ _ | exact bset3 HLD.out.bel _ _ _
end Go.Proofs.Ytblmodlpopnckaa
