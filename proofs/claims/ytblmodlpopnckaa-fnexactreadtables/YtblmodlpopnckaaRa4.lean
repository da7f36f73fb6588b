import Derived.Test.YtblmodlpopnckaaRa3
namespace Go.Proofs.Ytblmodlpopnckaa
open Go.ChangeShapes Go.WideShapes Go.ChangeAt Go.RowKit

theorem gdn {w u : World} {r : Option Nat} (h : w.grownBy u r) (n : Nat) : w.grownBy (u.drewN n) r := ⟨h.os, h.tape, h.output, h.size, h.block⟩
theorem gset {w u : World} {r : Option Nat} (h : w.grownBy u r) (k : Nat) (v : Value) : w.grownBy (u.setCell ⟨w.heap.size, k, none⟩ v) r :=
  ⟨h.os, h.tape, h.output, by simpa [World.setCell] using h.size, fun j hj hr => by
    rw [Below.heap_setCell _ _ _ _ (by simp; omega)]
    exact h.block j hj hr⟩
theorem set3 {w u : World} {r : Option Nat} (h : w.grownBy u r) (x y z : Value) : w.grownBy (((u.setCell ⟨w.heap.size, 0, none⟩ x).setCell ⟨w.heap.size, 1, none⟩ y).setCell ⟨w.heap.size, 2, none⟩ z) r := gset (gset (gset h 0 x) 1 y) 2 z
theorem T1.drw {w u : World} {b : Nat} {m : ByteArray} {p a : Nat} {sm : Int} {v : Value} {n : Nat} (h : T1 w u b m p a sm v n) (k : Nat) : T1 w (u.drewN k) b m p a sm v n := ⟨⟨gdn h.rd.g k, h.rd.box⟩, h.bx, h.ow⟩
theorem T1.at {w u : World} {b : Nat} {m : ByteArray} {p k : Nat} {v : Value} {n : Nat} (h : T1 w u b m p (p + k) (smT m p k % 256) v n) (hb : b < w.heap.size) (hk : p + k < m.size) (hm : m.size ≤ 65536) : Calls Try.prog 45 #[.pointer (some ⟨b, 0, none⟩)] u fun e w' => e = .returned (.int .u8 (bt m (p + k))) ∧ T1 w w' b m p (p + (k + 1)) (smT m p (k + 1) % 256) v n :=
  Calls.mono (next_any h.rd.self hk hm) (fun e u1 ⟨e1, h1⟩ => ⟨e1, by
    have h2 := h.next hb h1
    rw [u8_sum] at h2
    exact h2⟩)
theorem T1.form {w u : World} {b : Nat} {m : ByteArray} {p a : Nat} {sm : Int} {v : Value} (h : T1 w u b m p a sm v 4) : ∃ g cap, v = .slice (some ⟨g, 0, none⟩) 4 cap := by
  rcases h.ow.2 with ⟨_, e⟩ | ⟨g, cap, cur, e, _⟩
  · exact absurd e (by decide)
  · exact ⟨g, cap, e⟩
theorem T2.drw {w u : World} {b : Nat} {m : ByteArray} {p a : Nat} {sm : Int} {g C : Nat} {v : Value} {n : Nat} (h : T2 w u b m p a sm g C v n) (k : Nat) : T2 w (u.drewN k) b m p a sm g C v n := ⟨⟨gdn h.rd.g k, h.rd.box⟩, h.bx, h.lo, h.hi, h.hc, h.nm, h.ow⟩
theorem T2.at {w u : World} {b : Nat} {m : ByteArray} {p k : Nat} {g C : Nat} {v : Value} {n : Nat} (h : T2 w u b m p (p + k) (smT m p k % 256) g C v n) (hb : b < w.heap.size) (hk : p + k < m.size) (hm : m.size ≤ 65536) : Calls Try.prog 45 #[.pointer (some ⟨b, 0, none⟩)] u fun e w' => e = .returned (.int .u8 (bt m (p + k))) ∧ T2 w w' b m p (p + (k + 1)) (smT m p (k + 1) % 256) g C v n :=
  Calls.mono (next_any h.rd.self hk hm) (fun e u1 ⟨e1, h1⟩ => ⟨e1, by
    have h2 := h.next hb h1
    rw [u8_sum] at h2
    exact h2⟩)
set_option maxRecDepth 100000 in
set_option maxHeartbeats 8000000 in
theorem table_any {w : World} {b : Nat} {m : ByteArray} {p : Nat} (h : RD w w b m p 0) (hm : m.size ≤ 65536) : Calls Try.prog 25 #[.pointer (some ⟨b, 0, none⟩)] w fun e w' => e = .returned (.tuple #[.agg #[.string (rtF m p).name, .int .i64 (rtF m p).rev, .string (rtF m p).body], .int .i64 (rtC m p)]) ∧ w.grownBy w' (some b) := by
  have H0 : Hid (T1 w (w.alloc (.cells #[.string ⟨#[]⟩, .int .i64 0, .string ⟨#[]⟩] 40)) b m p p 0 (.slice none 0 0) 0) := ⟨h.step (bx1 _ _), heap_new w _, World.ownsRow_nil _ _ _ _⟩
  have hbl : b < w.heap.size := h.lt
  have HHT : Hid (∀ u, Calls Try.prog 23 #[.string m, .int .i64 (p : Int), .int .i64 8] u fun e w' => e = .returned (.bool (tbB m.size p 8)) ∧ w' = u) := fun u => holdsTable_any m p 8 u (by omega) ⟨by omega, by omega⟩
  clear h
  go_enter Try.func25, Try.ntmps25
  go_upto_region 1 with fail
  generalize (w.alloc (.cells #[.string ⟨#[]⟩, .int .i64 0, .string ⟨#[]⟩] 40)) = u0 at *
  refine wp_scope_fwd ?_
  intro fe hret hgo
  have HR : Hid _ := hret
  have HG : Hid _ := hgo
  clear hret hgo
  have c0 := H0.out.rd.c0
  have c1 := H0.out.rd.c1
  have c2 := H0.out.rd.c2
  have bl := H0.out.rd.lt
  have z0 := (frzN H0.out.bx) 0
  have z1 := (frzN H0.out.bx) 1
  have z2 := (frzN H0.out.bx) 2
  have y0 := celN H0.out.bx 0 _ rfl
  have y1 := celN H0.out.bx 1 _ rfl
  have y2 := celN H0.out.bx 2 _ rfl
  have fl := (Array.getElem?_eq_some_iff.1 H0.out.bx).1
  cases t0 : tbB m.size p 8
  · have E1 : Hid (rtC m p = 5) := if_pos t0
    rw [t0] at HHT
    go_upto_region 3 with fail
    go_quiet ((go_at_call 23; exact Calls.quiet_of_same (HHT.out _)))
    go_wp2_with fail
    go_step3
    refine HG.out 0 _ _ ⟨_, rfl, ?_⟩
    clear HG
    go_wp2_with fail
    try go_step3
    go_wp2_with fail
    rw [Exit.noGoto_ret]
    have EF : rtF m p = ⟨⟨#[]⟩, 0, ⟨#[]⟩⟩ := if_neg (by rw [E1.out]; decide)
    try simp only [Exit.inBlock, Exit.then]
    refine bodyPost_ret (v := .tuple #[.agg #[.string ⟨#[]⟩, .int .i64 0, .string ⟨#[]⟩], .int .i64 5]) ?_ rfl ⟨by rw [EF, E1.out], ?_⟩
    · simp [results, Try.results25, go_sem, y0, y1, y2]
    · first | exact set3 (gdn H0.out.rd.g _) _ _ _ | exact set3 H0.out.rd.g _ _ _
  have HP : Hid (p + 8 ≤ m.size) := (show p + 8 ≤ m.size by
    have t1 := t0
    unfold tbB inW at t1
    simp only [Bool.and_eq_true, decide_eq_true_eq] at t1
    omega)
  have HBL : Hid (b < w.heap.size) := hbl
  have HM : Hid (m.size ≤ 65536) := hm
  rw [t0] at HHT
  go_upto_region 3 with fail
  go_quiet ((go_at_call 23; exact Calls.quiet_of_same (HHT.out _)))
  go_wp2_with fail
  go_loopw [4, 19] (fun s4 i wr => ∃ k : Nat, k ≤ 4 ∧ i = .int .i64 k ∧ Hid (allP (fun j => capB (bt m (p + j))) k = true) ∧ Hid (T1 w wr b m p (p + k) (smT m p k % 256) s4 k)) (fun _ i _ => 4 - (intOf i).toNat)
  case atStart => exact ⟨0, Nat.zero_le _, rfl, rfl, H0.out.drw _⟩
  case round =>
    obtain ⟨k, hk, rfl, HALL, HT⟩ := hrel
    clear H0 c0 c1 c2 bl z0 z1 z2 y0 y1 y2 fl
    by_cases hlt : k < 4
    · have HK : Hid (k < 4) := hlt
      have HS : Hid (allP (fun j => capB (bt m (p + j))) (k + 1) = (allP (fun j => capB (bt m (p + j))) k && capB (bt m (p + k)))) := allP_succ _ _
      have HBAD : Hid (capB (bt m (p + k)) = false → rtC m p = 3) := fun hh => by
        unfold rtC
        rw [if_neg (by rw [t0]; decide), if_pos (by exact allP_bad hlt hh)]
      have HC : Hid (∀ u, Calls Try.prog 46 #[.int .u8 (bt m (p + k))] u fun e w' => e = .returned (.bool (capB (bt m (p + k)))) ∧ w' = u) := fun u => isCapital_any _ u
      have hk0 : (0 : Int) ≤ (k : Int) := by omega
      have hk1 : (k : Int) < 4 := by omega
      clear hm hbl hk
      cases V : capB (bt m (p + k))
      · have E2 : Hid (rtC m p = 3) := HBAD.out V
        rw [V] at HC
        clear HBAD HS
        go_wp2_with (first | (go_at_call 45; refine Calls.mono (T1.at (k := k) HT.out HBL.out (by have := HP.out; have := HK.out; omega) HM.out) ?_; rintro e u1 ⟨rfl, h1⟩; have HT1 : Hid _ := h1; clear h1 HT; have HT := HT1; clear HT1) | (go_at_call 46; refine Calls.mono (HC.out _) ?_; rintro e u1 ⟨rfl, hw1⟩; rw [hw1]; clear hw1))
        have c0 := HT.out.rd.c0
        have c1 := HT.out.rd.c1
        have c2 := HT.out.rd.c2
        have bl := HT.out.rd.lt
        have z0 := (frzN HT.out.bx) 0
        have z1 := (frzN HT.out.bx) 1
        have z2 := (frzN HT.out.bx) 2
        have y0 := celN HT.out.bx 0 _ rfl
        have y1 := celN HT.out.bx 1 _ rfl
        have y2 := celN HT.out.bx 2 _ rfl
        have fl := (Array.getElem?_eq_some_iff.1 HT.out.bx).1
        go_step3
        refine HG.out 1 _ _ ⟨_, rfl, ?_⟩
        clear HG
        go_wp2_with fail
        try go_step3
        go_wp2_with fail
        rw [Exit.noGoto_ret]
        have EF : rtF m p = ⟨⟨#[]⟩, 0, ⟨#[]⟩⟩ := if_neg (by rw [E2.out]; decide)
        try simp only [Exit.inBlock, Exit.then]
        refine bodyPost_ret (v := .tuple #[.agg #[.string ⟨#[]⟩, .int .i64 0, .string ⟨#[]⟩], .int .i64 3]) ?_ rfl ⟨by rw [EF, E2.out], ?_⟩
        · simp [results, Try.results25, go_sem, y0, y1, y2]
        · first | exact set3 (gdn HT.out.rd.g _) _ _ _ | exact set3 HT.out.rd.g _ _ _
      · rw [V] at HC HS
        go_wp2_with (first | (go_at_call 45; refine Calls.mono (T1.at (k := k) HT.out HBL.out (by have := HP.out; have := HK.out; omega) HM.out) ?_; rintro e u1 ⟨rfl, h1⟩; have HT1 : Hid _ := h1; clear h1 HT; have HT := HT1; clear HT1) | (go_at_call 46; refine Calls.mono (HC.out _) ?_; rintro e u1 ⟨rfl, hw1⟩; rw [hw1]; clear hw1) | (at_builtin; refine wl_append_ex rfl _ _ 71 rfl _ _ rfl rfl (app1B HT.out.ow (bt m (p + k)) (by have := HK.out; omega) (by have := (Array.getElem?_eq_some_iff.1 HT.out.bx).1; omega)) ?_; rintro v' u' ⟨ho, hg⟩; have HT2 : Hid _ := HT.out.app HBL.out ho hg; clear ho hg HT))
        exact ⟨⟨k + 1, HK.out, by go_num, (show _ = _ by rw [HS.out, HALL.out]; rfl), HT2.out⟩, by have := HK.out; simp [intOf]; omega⟩
    · have hke : k = 4 := by omega
      subst hke
      have HNM : Hid (tnA m p = true) := HALL
      clear HALL
      have b5 := bt_b m (p + 5)
      have b6 := bt_b m (p + 6)
      have b7 := bt_b m (p + 7)
      go_upto_region 11 with ((go_at_call 45; refine Calls.mono (T1.at (k := 4) HT.out HBL.out (by have := HP.out; omega) HM.out) ?_; rintro e u1 ⟨rfl, h1⟩; have HT1 : Hid _ := h1; clear h1 HT; have HT := HT1; clear HT1))
      go_upto_region 12 with ((go_at_call 45; refine Calls.mono (T1.at (k := 5) HT.out HBL.out (by have := HP.out; omega) HM.out) ?_; rintro e u1 ⟨rfl, h1⟩; have HT1 : Hid _ := h1; clear h1 HT; have HT := HT1; clear HT1))
      go_upto_region 13 with ((go_at_call 45; refine Calls.mono (T1.at (k := 6) HT.out HBL.out (by have := HP.out; omega) HM.out) ?_; rintro e u1 ⟨rfl, h1⟩; have HT1 : Hid _ := h1; clear h1 HT; have HT := HT1; clear HT1))
      go_upto_region 14 with ((go_at_call 45; refine Calls.mono (T1.at (k := 7) HT.out HBL.out (by have := HP.out; omega) HM.out) ?_; rintro e u1 ⟨rfl, h1⟩; have HT1 : Hid _ := h1; clear h1 HT; have HT := HT1; clear HT1))
      go_upto_region 15 with fail
      have HZ : Hid (bt m (p + 6) + bt m (p + 7) * 256 - 8 = szT m p) := rfl
      generalize bt m (p + 6) + bt m (p + 7) * 256 - 8 = z at *
      have HBO : Hid (∀ u, Calls Try.prog 47 #[.int .i64 z] u fun e w' => e = .returned (.bool (tbdB z)) ∧ w' = u) := fun u => isTableBody_any z u
      clear b6 b7
      cases t2 : tbdB z
      · have E2 : Hid (rtC m p = 3) := (show rtC m p = 3 by
          unfold rtC
          rw [if_neg (by rw [t0]; decide), if_neg (by rw [HNM.out]; decide), if_pos (by rw [← HZ.out]; exact t2)])
        rw [t2] at HBO
        go_wp2_with (go_at_call 47; refine Calls.mono (HBO.out _) ?_; rintro e u1 ⟨rfl, hw1⟩; rw [hw1]; clear hw1)
        have c0 := HT.out.rd.c0
        have c1 := HT.out.rd.c1
        have c2 := HT.out.rd.c2
        have bl := HT.out.rd.lt
        have z0 := (frzN HT.out.bx) 0
        have z1 := (frzN HT.out.bx) 1
        have z2 := (frzN HT.out.bx) 2
        have y0 := celN HT.out.bx 0 _ rfl
        have y1 := celN HT.out.bx 1 _ rfl
        have y2 := celN HT.out.bx 2 _ rfl
        have fl := (Array.getElem?_eq_some_iff.1 HT.out.bx).1
        go_step3
        refine HG.out 1 _ _ ⟨_, rfl, ?_⟩
        clear HG
        go_wp2_with fail
        try go_step3
        go_wp2_with fail
        rw [Exit.noGoto_ret]
        have EF : rtF m p = ⟨⟨#[]⟩, 0, ⟨#[]⟩⟩ := if_neg (by rw [E2.out]; decide)
        try simp only [Exit.inBlock, Exit.then]
        refine bodyPost_ret (v := .tuple #[.agg #[.string ⟨#[]⟩, .int .i64 0, .string ⟨#[]⟩], .int .i64 3]) ?_ rfl ⟨by rw [EF, E2.out], ?_⟩
        · simp [results, Try.results25, go_sem, y0, y1, y2]
        · first | exact set3 (gdn HT.out.rd.g _) _ _ _ | exact set3 HT.out.rd.g _ _ _
      obtain ⟨g, cap, rfl⟩ := HT.out.form
      have HT8 : Hid _ := HT.out
      clear HT
      have hzb : 0 ≤ z ∧ z ≤ 200 := by
        unfold tbdB at t2
        simp only [Bool.and_eq_true, decide_eq_true_eq] at t2
        exact t2.1
      have hz0 := hzb.1
      have hz1 := hzb.2
      clear hzb
      have HWI : Hid (∀ u, Calls Try.prog 41 #[.int .i64 m.size, .int .i64 ((p + 8 : Nat) : Int), .int .i64 z] u fun e w' => e = .returned (.bool (inW m.size ((p + 8 : Nat) : Int) z)) ∧ w' = u) := fun u => isWithin_any m.size _ z u (by have := HM.out; omega) ⟨by omega, by omega⟩
      have HT : Hid (T1 w _ b m p (p + 8) (smT m p 8 % 256) (.slice (some ⟨g, 0, none⟩) 4 cap) 4) := HT8.out
      clear HT8
      rw [t2] at HBO
      have c0 := HT.out.rd.c0
      have c1 := HT.out.rd.c1
      have c2 := HT.out.rd.c2
      have bl := HT.out.rd.lt
      have z0 := (frzN HT.out.bx) 0
      have z1 := (frzN HT.out.bx) 1
      have z2 := (frzN HT.out.bx) 2
      have y0 := celN HT.out.bx 0 _ rfl
      have y1 := celN HT.out.bx 1 _ rfl
      have y2 := celN HT.out.bx 2 _ rfl
      have fl := (Array.getElem?_eq_some_iff.1 HT.out.bx).1
      cases t3 : inW m.size ((p + 8 : Nat) : Int) z
      · have E2 : Hid (rtC m p = 5) := (show rtC m p = 5 by
          unfold rtC
          rw [if_neg (by rw [t0]; decide), if_neg (by rw [HNM.out]; decide), if_neg (by rw [← HZ.out, t2]; decide), if_pos (by rw [← HZ.out]; exact t3)])
        rw [t3] at HWI
        generalize p + 8 = q at *
        go_upto_region 16 with (go_at_call 47; refine Calls.mono (HBO.out _) ?_; rintro e u1 ⟨rfl, hw1⟩; rw [hw1]; clear hw1)
        go_quiet ((go_at_call 41; exact Calls.quiet_of_same (HWI.out _)))
        go_wp2_with fail
        go_step3
        refine HG.out 0 _ _ ⟨_, rfl, ?_⟩
        clear HG
        go_wp2_with fail
        try go_step3
        go_wp2_with fail
        rw [Exit.noGoto_ret]
        have EF : rtF m p = ⟨⟨#[]⟩, 0, ⟨#[]⟩⟩ := if_neg (by rw [E2.out]; decide)
        try simp only [Exit.inBlock, Exit.then]
        refine bodyPost_ret (v := .tuple #[.agg #[.string ⟨#[]⟩, .int .i64 0, .string ⟨#[]⟩], .int .i64 5]) ?_ rfl ⟨by rw [EF, E2.out], ?_⟩
        · simp [results, Try.results25, go_sem, y0, y1, y2]
        · first | exact set3 (gdn HT.out.rd.g _) _ _ _ | exact set3 HT.out.rd.g _ _ _
      have HW : Hid (p + 8 + z.toNat ≤ m.size) := (show p + 8 + z.toNat ≤ m.size by have := inW_iff.1 t3; omega)
      rw [t3] at HWI
      have HT2 : Hid _ := HT.out.two
      clear HT
      clear c0 c1 c2 bl z0 z1 z2 y0 y1 y2 fl
      have c0 := HT2.out.rd.c0
      have c1 := HT2.out.rd.c1
      have c2 := HT2.out.rd.c2
      have bl := HT2.out.rd.lt
      have z0 := (frzN HT2.out.bx) 0
      have z1 := (frzN HT2.out.bx) 1
      have z2 := (frzN HT2.out.bx) 2
      have y0 := celN HT2.out.bx 0 _ rfl
      have y1 := celN HT2.out.bx 1 _ rfl
      have y2 := celN HT2.out.bx 2 _ rfl
      have fl := (Array.getElem?_eq_some_iff.1 HT2.out.bx).1
      have HQ : Hid (∀ u, Calls Try.prog 41 #[.int .i64 m.size, .int .i64 ((p + 8 : Nat) : Int), .int .i64 z] u fun e w' => e = .returned (.bool true) ∧ w' = u) := HWI.out
      clear HWI
      obtain ⟨q, hq⟩ : ∃ q, q = p + 8 := ⟨_, rfl⟩
      rw [← hq] at c1 HQ
      have HQ2 : Hid (q = p + 8) := hq
      clear hq
      go_upto_region 16 with (go_at_call 47; refine Calls.mono (HBO.out _) ?_; rintro e u1 ⟨rfl, hw1⟩; rw [hw1]; clear hw1)
      go_quiet ((go_at_call 41; exact Calls.quiet_of_same (HQ.out _)))
      go_wp2_with fail
      go_loopw [5, 63] (fun s5 i wr => ∃ n : Nat, n ≤ z.toNat ∧ i = .int .i64 n ∧ Hid (T2 w wr b m p (p + (8 + n)) (smT m p (8 + n) % 256) g _ s5 n)) (fun _ i _ => 300 - (intOf i).toNat)
      case atStart => exact ⟨0, Nat.zero_le _, rfl, HT2.out.drw _⟩
      case round =>
        obtain ⟨n, hn, rfl, HT⟩ := hrel
        clear c0 c1 c2 bl z0 z1 z2 y0 y1 y2 fl HT2
        by_cases hlt : n < z.toNat
        · have HN : Hid (n < z.toNat ∧ z.toNat ≤ 200) := ⟨hlt, by omega⟩
          have hn0 : (0 : Int) ≤ (n : Int) := by omega
          have hn1 : (n : Int) < z := by omega
          clear hm hbl hn
          go_wp2_with (first | (go_at_call 45; refine Calls.mono (T2.at (k := 8 + n) HT.out HBL.out (by have := HW.out; have := HN.out; omega) HM.out) ?_; rintro e u1 ⟨rfl, h1⟩; have HT1 : Hid _ := h1; clear h1 HT; have HT := HT1; clear HT1) | (at_builtin; refine wl_append_ex rfl _ _ 71 rfl _ _ rfl rfl (app1B HT.out.ow (bt m (p + (8 + n))) (by have := HN.out; omega) (by have := HT.out.hc; omega)) ?_; rintro v' u' ⟨ho, hg⟩; have HT3 : Hid _ := HT.out.app HBL.out (by rw [Nat.add_assoc]; exact ho) hg; clear ho hg HT))
          exact ⟨⟨n + 1, HN.out.1, by go_num, HT3.out⟩, by have := HN.out; simp [intOf]; omega⟩
        · have hne : ¬ (n : Int) < z := by omega
          have HX : Hid (n = (szT m p).toNat) := (show n = (szT m p).toNat by rw [← HZ.out]; omega)
          have HPR : Hid (rtC m p = if smT m p (8 + n) % 256 ≠ 0 then 10 else 0) := (show rtC m p = _ by
            rw [HX.out]
            unfold rtC
            rw [if_neg (by rw [t0]; decide), if_neg (by rw [HNM.out]; decide), if_neg (by rw [← HZ.out, t2]; decide), if_neg (by rw [← HZ.out, t3]; decide)])
          have k1 := conv_ex (cap := cap) (by have := HP.out; omega) HT.out.nm
          have k2 := conv_row HT.out.ow (by have := HW.out; omega)
          clear hm hbl hlt hn
          generalize smT m p (8 + n) % 256 = sv at *
          have HT9 : Hid _ := HT.out
          clear HT
          have c0 := HT9.out.rd.c0
          have c1 := HT9.out.rd.c1
          have c2 := HT9.out.rd.c2
          have bl := HT9.out.rd.lt
          have z0 := (frzN HT9.out.bx) 0
          have z1 := (frzN HT9.out.bx) 1
          have z2 := (frzN HT9.out.bx) 2
          have y0 := celN HT9.out.bx 0 _ rfl
          have y1 := celN HT9.out.bx 1 _ rfl
          have y2 := celN HT9.out.bx 2 _ rfl
          have fl := (Array.getElem?_eq_some_iff.1 HT9.out.bx).1
          by_cases t4 : sv = 0
          · have E2 : Hid (rtC m p = 0) := HPR.out.trans (if_neg (fun h => h t4))
            clear HPR
            go_wp2_with fail
            try simp only [Exit.inBlock, Exit.then]
            refine HR.out _ _ ?_
            have EF : rtF m p = ⟨m.extract p (p + 4), bt m (p + 5), m.extract (p + 8) (p + 8 + n)⟩ := by
              unfold rtF
              rw [if_pos E2.out, ← HX.out]
            refine bodyPost_ret (v := .tuple #[.agg #[.string (m.extract p (p + 4)), .int .i64 (bt m (p + 5)), .string (m.extract (p + 8) (p + 8 + n))], .int .i64 0]) ?_ rfl ⟨by rw [EF, E2.out], ?_⟩
            · simp [results, Try.results25, go_sem, y0, y1, y2]
            · first | exact set3 (gdn HT9.out.rd.g _) _ _ _ | exact set3 HT9.out.rd.g _ _ _
          · have E2 : Hid (rtC m p = 10) := HPR.out.trans (if_pos t4)
            clear HPR k1 k2
            go_wp2_with fail
            go_step3
            refine HG.out 2 _ _ ⟨_, rfl, ?_⟩
            clear HG
            go_wp2_with fail
            try go_step3
            go_wp2_with fail
            rw [Exit.noGoto_ret]
            have EF : rtF m p = ⟨⟨#[]⟩, 0, ⟨#[]⟩⟩ := if_neg (by rw [E2.out]; decide)
            try simp only [Exit.inBlock, Exit.then]
            refine bodyPost_ret (v := .tuple #[.agg #[.string ⟨#[]⟩, .int .i64 0, .string ⟨#[]⟩], .int .i64 10]) ?_ rfl ⟨by rw [EF, E2.out], ?_⟩
            · simp [results, Try.results25, go_sem, y0, y1, y2]
            · first | exact set3 (gdn HT9.out.rd.g _) _ _ _ | exact set3 HT9.out.rd.g _ _ _
end Go.Proofs.Ytblmodlpopnckaa
