import Derived.Test.YtdlodflinibaoaaPWk5
namespace Go.Proofs.Ytdlodflinibaoaa
open Go.ChangeShapes Go.WideShapes Go.ChangeAt Go.RowKit

theorem walk_fe (s : ByteArray) (root va : Nat) (acc : Int) (user : Bool) : walkV s root va acc user = if (feV s root va).1 = 0 then finV s (feV s root va).2.1 (feV s root va).2.2.1 (feV s root va).2.2.2 va acc user else ⟨2, 0, 0, false, (feV s root va).2.1, s⟩ := by
  have e1 : at1 root va = root * 256 + 4 * (va / 8192) := by unfold at1; omega
  have e2 : ∀ y : Int, 0 ≤ y → at2 y va = (y / 256).toNat * 256 + 4 * (va / 256 % 32) := by
    intro y hy
    unfold at2
    omega
  unfold walkV feV
  rw [e1]
  have h0 := (wv_b s (root * 256 + 4 * (va / 8192))).1
  by_cases hr : (root + 1) * 256 ≤ s.size
  · rw [if_pos hr, if_pos (by omega)]
    by_cases h16 : wv s (root * 256 + 4 * (va / 8192)) % 16 = 1
    · rw [if_pos h16, if_pos h16]
      by_cases ht : (wv s (root * 256 + 4 * (va / 8192)) / 256 + 1) * 256 ≤ (s.size : Int)
      · rw [if_pos ht, if_pos ht, e2 _ h0]
        rfl
      · rw [if_neg ht, if_neg ht]
        rfl
    · rw [if_neg h16, if_neg h16]
      rfl
  · rw [if_neg hr, if_neg (by omega)]
    rfl
theorem feV_code (s : ByteArray) (root va : Nat) : (feV s root va).1 = 0 ∨ (feV s root va).1 = 2 := by
  unfold feV
  split <;> (try split) <;> (try split) <;> simp
theorem page_any2 {w0 wr u : World} {b B n : Nat} {s : ByteArray} {rv : Value} {zs : List Int} {x : WS} (h : WSt w0 b B n s wr rv zs x) (hu : Below wr.heap.size wr u) (e0 : 0 ≤ x.e) (e1 : x.e ≤ 4294967295) (hv : x.va ≤ 262143) :
    Calls Try.prog 113 #[.pointer (some ⟨B, 0, none⟩)] u fun e w' => e = .returned (.int .i64 (pgV x.e x.va x.lg)) ∧ ∃ q, w' = u.drewN q :=
  page_any B _ _ x u (h.below hu).box e0 e1 hv
theorem pgV_b (e : Int) (va : Nat) (lg : Bool) (h0 : 0 ≤ e) (h1 : e ≤ 4294967295) : 0 ≤ pgV e va lg ∧ pgV e va lg ≤ 16777300 := by
  unfold pgV
  split <;> omega
set_option maxRecDepth 100000 in
set_option maxHeartbeats 4000000 in
theorem findM {w0 wr : World} {b B n : Nat} {s : ByteArray} {rv : Value} {x : WS} (h : WSt w0 b B n s wr rv [] x) (hn : s.size = n * 256) (hs : s.size ≤ 65536) (root : Nat) (hr : root ≤ 100000) (hv : x.va ≤ 262143) (a1 : 1 ≤ x.acc) (a2 : x.acc ≤ 3) :
    Calls Try.prog 86 #[.pointer (some ⟨B, 0, none⟩), .int .i64 root] wr fun e u => e = .returned (.int .i64 (walkV s root x.va x.acc x.user).fault) ∧ ∃ rv' x', WSt w0 b B n (walkV s root x.va x.acc x.user).mem u rv' (walkV s root x.va x.acc x.user).reads x' ∧ x'.va = x.va ∧ x'.acc = x.acc ∧ x'.user = x.user ∧ ((walkV s root x.va x.acc x.user).fault = 0 → x'.pa = (walkV s root x.va x.acc x.user).pa ∧ x'.e = (walkV s root x.va x.acc x.user).entry ∧ x'.lg = (walkV s root x.va x.acc x.user).large) := by
  have hfe := findEntryM h hn hs root hr hv
  rw [walk_fe]
  obtain ⟨⟨fc, zs, k, lg⟩, hF⟩ : ∃ f, feV s root x.va = f := ⟨_, rfl⟩
  have hfc02 := feV_code s root x.va
  rw [hF] at hfe hfc02 ⊢
  simp only at *
  obtain ⟨va, acc, user, at0, e0, lg0, pa0⟩ := x
  simp only at *
  have V : Hid (va ≤ 262143) := hv
  have HN : Hid (s.size = n * 256) := hn
  have HS : Hid (s.size ≤ 65536) := hs
  clear hF h hv hn hs
  by_cases hfc : fc = 0
  · subst hfc
    rw [if_pos rfl]
    unfold finV
    obtain ⟨y0, y1⟩ := wv_b s k
    obtain ⟨y, hy⟩ : ∃ y, wv s k = y := ⟨_, rfl⟩
    have HY : Hid _ := hy
    rw [hy] at y0 y1 ⊢
    obtain ⟨p0, p1⟩ := pgV_b y va lg y0 y1
    by_cases hg : goodV y acc user lg = true
    · rw [if_pos hg]
      obtain ⟨p, hp⟩ : ∃ p, pgV y va lg = p := ⟨_, rfl⟩
      have HPg : Hid _ := hp
      rw [hp] at p0 p1 ⊢
      by_cases hin : (p + 1) * 256 ≤ (s.size : Int)
      · rw [if_pos hin]
        have hd : (decide (0 ≤ p) && decide (p < (n : Int))) = true := by
          have := HN.out
          simp
          omega
        have hh := fun w => memHolds_any b n p w
        rw [hd] at hh
        have m1 := mHoldsM b n
        unfold mv at hh
        have hva : (va : Int) % 256 ≤ 255 := by omega
        have hwr : IntKind.i64.wrap (p * 256) = p * 256 := by rw [IntKind.wrap_i64]; omega
        have hwr2 : IntKind.i64.wrap (p * 256 + (va : Int) % 256) = p * 256 + (va : Int) % 256 := by rw [IntKind.wrap_i64]; omega
        have htm : (va : Int).tmod 256 = (va : Int) % 256 := Int.tmod_eq_emod_of_nonneg (by omega)
        clear hd hp hy
        go_enter Try.func86, Try.ntmps86
        go_wp2_with (first | (go_at_call 111; refine Calls.mono hfe ?_; rintro e u ⟨rfl, rv1, ⟨va1, acc1, user1, at1, ee1, lg1, pa1⟩, hst, hv1, hv2, hv3, hv4⟩; simp only at hv1 hv2 hv3 hv4; obtain ⟨hk1, hk2, hk3, hk4, hk5⟩ := hv4 True.intro; subst hv1 hv2 hv3 hk1 hk3; rw [HY.out] at hk2; subst hk2; have H1 : Hid _ := hst; have HK4 : Hid _ := hk4; have HK5 : Hid _ := hk5; clear hst hk4 hk5 hv4) | (go_at_call 112; refine (isLet_any B _ _ _ _ H1.out.box y0 y1 a1 a2).mono ?_; rintro e u2 ⟨rfl, hu2⟩; have H2 : Hid _ := H1.out.below hu2; obtain ⟨c0, c1, c2, c3, c4, c5, c6, c7, c8, cf⟩ := H2.out.box.cells; simp only at c0 c1 c2 c3 c4 c5 c6 c8; unfold mv at c0; clear hu2))
        have hpg0 := fun q => page_any2 H2.out (bdn (Below.refl _ _) q) y0 y1 V.out
        simp only at hpg0
        rw [HPg.out] at hpg0
        have hpg : Hid _ := hpg0
        clear hpg0
        go_quiet (first | (go_at_call 113; exact Calls.quiet_of (hpg.out _)) | (go_at_call 167; exact Calls.quiet_of_same (hh _)))
        go_wp2
        have HPG0 := fun u (hu : Below u2.heap.size u2 u) => page_any2 H2.out hu y0 y1 V.out
        simp only at HPG0
        rw [HPg.out] at HPG0
        have HPG : Hid _ := HPG0
        have HV2 : Hid _ := fun u (hu : Below u2.heap.size u2 u) => H2.out.below hu
        clear HPG0
        go_region_with (go_at_call 113; refine Calls.mono (HPG.out _ (by exact ⟨rfl, rfl, rfl, Nat.le_refl _, fun _ _ => rfl⟩)) ?_; rintro e u4 ⟨rfl, q4, hu4⟩; have H4 : Hid _ := HV2.out u4 (by rw [hu4]; exact ⟨rfl, rfl, rfl, Nat.le_refl _, fun _ _ => rfl⟩); obtain ⟨k0, k1, k2, k3, k4, k5, k6, k7, k8, kf⟩ := H4.out.box.cells; simp only at k0 k1 k2 k3 k4 k5 k6 k8; clear hu4 c0 c1 c2 c3 c4 c5 c6 c7 c8 cf)
        all_goals
          go_wp2_with (go_at_call 114; refine (putFlagsM (H4.out.put8 _) HN.out HS.out k rfl HK4.out HK5.out HY.out.symm).mono ?_; rintro e u6 ⟨rfl, hst6⟩; have H6 : Hid _ := hst6; clear hst6)
          go_ret
          exact ⟨rfl, _, _, H6.out, rfl, rfl, rfl, fun _ => ⟨rfl, rfl, rfl⟩⟩
      · rw [if_neg hin]
        have hd : (decide (0 ≤ p) && decide (p < (n : Int))) = false := by
          have := HN.out
          simp
          omega
        have hh := fun w => memHolds_any b n p w
        rw [hd] at hh
        have m1 := mHoldsM b n
        unfold mv at hh
        clear hd hp hy
        go_enter Try.func86, Try.ntmps86
        go_wp2_with (first | (go_at_call 111; refine Calls.mono hfe ?_; rintro e u ⟨rfl, rv1, ⟨va1, acc1, user1, at1, ee1, lg1, pa1⟩, hst, hv1, hv2, hv3, hv4⟩; simp only at hv1 hv2 hv3 hv4; obtain ⟨hk1, hk2, hk3, hk4, hk5⟩ := hv4 True.intro; subst hv1 hv2 hv3 hk1 hk3; rw [HY.out] at hk2; subst hk2; have H1 : Hid _ := hst; have HK4 : Hid _ := hk4; have HK5 : Hid _ := hk5; clear hst hk4 hk5 hv4) | (go_at_call 112; refine (isLet_any B _ _ _ _ H1.out.box y0 y1 a1 a2).mono ?_; rintro e u2 ⟨rfl, hu2⟩; have H2 : Hid _ := H1.out.below hu2; obtain ⟨c0, c1, c2, c3, c4, c5, c6, c7, c8, cf⟩ := H2.out.box.cells; simp only at c0 c1 c2 c3 c4 c5 c6 c8; unfold mv at c0; clear hu2))
        have hpg0 := fun q => page_any2 H2.out (bdn (Below.refl _ _) q) y0 y1 V.out
        simp only at hpg0
        rw [HPg.out] at hpg0
        have hpg : Hid _ := hpg0
        clear hpg0
        go_quiet (first | (go_at_call 113; exact Calls.quiet_of (hpg.out _)) | (go_at_call 167; exact Calls.quiet_of_same (hh _)))
        go_wp2
        go_ret
        exact ⟨rfl, _, _, H2.out.drew nq, rfl, rfl, rfl, fun h => by cases h⟩
    · rw [if_neg hg]
      have hg2 : goodV y acc user lg = false := by simpa using hg
      clear hy hg
      go_enter Try.func86, Try.ntmps86
      go_wp2_with (first | (go_at_call 111; refine Calls.mono hfe ?_; rintro e u ⟨rfl, rv1, ⟨va1, acc1, user1, at1, ee1, lg1, pa1⟩, hst, hv1, hv2, hv3, hv4⟩; simp only at hv1 hv2 hv3 hv4; obtain ⟨hk1, hk2, hk3, hk4, hk5⟩ := hv4 True.intro; subst hv1 hv2 hv3 hk1 hk3; rw [HY.out] at hk2; subst hk2; have H1 : Hid _ := hst; have HK4 : Hid _ := hk4; have HK5 : Hid _ := hk5; clear hst hk4 hk5 hv4) | (go_at_call 112; refine (isLet_any B _ _ _ _ H1.out.box y0 y1 a1 a2).mono ?_; rintro e u2 ⟨rfl, hu2⟩; have H2 : Hid _ := H1.out.below hu2; obtain ⟨c0, c1, c2, c3, c4, c5, c6, c7, c8, cf⟩ := H2.out.box.cells; simp only at c0 c1 c2 c3 c4 c5 c6 c8; unfold mv at c0; clear hu2))
      go_ret
      exact ⟨rfl, _, _, H2.out, rfl, rfl, rfl, fun h => by cases h⟩
  · obtain rfl : fc = 2 := by omega
    rw [if_neg (by decide)]
    go_enter Try.func86, Try.ntmps86
    go_wp2_with (go_at_call 111; refine Calls.mono hfe ?_; rintro e u ⟨rfl, rv1, x1, hst, hv1, hv2, hv3, _⟩; have H1 : Hid _ := hst; clear hst)
    go_ret
    exact ⟨rfl, _, _, H1.out, hv1, hv2, hv3, fun h => by cases h⟩
end Go.Proofs.Ytdlodflinibaoaa
