import Derived.Test.YtdlodflinibaoaaSWalk
namespace Go.Proofs.Ytdlodflinibaoaa
open Go.ChangeShapes Go.WideShapes Go.ChangeAt Go.RowKit

set_option maxRecDepth 100000 in
set_option maxHeartbeats 1000000 in
/-- The table that the root leads to is not in memory. -/
theorem specWalk_B1 (s : ByteArray) (root va : Nat) (acc : Int) (user : Bool) (w : World) (hm : memOk s = true) (r1 : root ≤ 255) (v1 : va ≤ 262143) (a1 : 1 ≤ acc) (a2 : acc ≤ 3) (hr : (root + 1) * 256 ≤ s.size) (hT : wv s (root * 256 + 4 * (va / 8192)) % 16 = 1) (ht : (s.size : Int) < (wv s (root * 256 + 4 * (va / 8192)) / 256 + 1) * 256) :
    Calls Try.prog 82 #[.string s, .int .i64 root, .int .i64 va, .int .i64 acc, .bool user] w fun e w' => ∃ v, e = .returned (wkA ⟨2, 0, 0, false, [(root : Int)], s⟩ v) ∧ w'.ownsRow w.heap.size 2 1 v 1 [.int .i64 root] ∧ Below w.heap.size w w' := by
  have hc : Hid _ := memC_ok hm
  obtain ⟨_, hs, _⟩ := memOk_b hm
  have hv : (decide (262144 ≤ (va : Int))) = false := by
    simp
    omega
  have i1 : (va : Int) / 8192 ≤ 31 := by omega
  have V1 : Hid (va ≤ 262143) := v1
  clear hm v1
  obtain ⟨e0, e1⟩ := wv_b s (root * 256 + 4 * (va / 8192))
  obtain ⟨x, hx⟩ : ∃ x, wv s (root * 256 + 4 * (va / 8192)) = x := ⟨_, rfl⟩
  have HE : Hid _ := hx
  have cent0 := fun w' => l03Entry_at s root (va / 8192) root ((va : Int) / 8192) w' rfl (by omega) hr (by have := V1.out; omega) hs
  rw [hx] at e0 e1 hT cent0 ht
  have cent : Hid _ := cent0
  clear cent0 hx
  have g1 : bits .and .i64 x 1 = 1 := (and1 x e0 (by omega)).trans (by omega)
  have g14 : bits .and .i64 x 14 = 0 := (and14 x e0 (by omega)).trans (by omega)
  have cent2 : Hid _ := fun w' => l03Entry_no s (x / 256) ((va : Int) / 256 % 32) w' ht (by omega) (by omega)
  clear hT
  go_enter Try.func82, Try.ntmps82
  go_wp2_with (first | (go_at_call 81; refine (specMemFault_any _ _ (by omega)).mono ?_; rintro e u1 ⟨rfl, hu1⟩; subst hu1; rw [hc.out]) | (go_at_call 108; refine (l03Acc_yes _ _ (by omega) (by omega)).mono ?_; rintro e u2 ⟨rfl, hu2⟩; subst hu2) | (go_at_call 109; refine Calls.mono (cent.out _) ?_; rintro e u3 ⟨rfl, q3, hu3⟩; subst hu3; simp only [drewN_alloc]; obtain ⟨w0, hw0⟩ : ∃ w0, w0 = w.drewN q3 := ⟨_, rfl⟩; rw [← hw0]; have hz : Hid (w.heap.size = w0.heap.size) := (by rw [hw0]; rfl); rw [hz.out]; have HW0 : Hid _ := hw0; clear hw0 cent) | (go_at_call 109; refine Calls.mono (cent2.out _) ?_; rintro e u6 ⟨rfl, hu6⟩; subst hu6))
  refine bodyPost_ret (v := wkA ⟨2, 0, 0, false, [(root : Int)], s⟩ (.slice (some ⟨w0.heap.size + 1, 0, none⟩) 1 1)) (by simp [results, Try.results82, go_sem, wkA]) rfl ⟨_, rfl, ?_, ?_⟩
  · exact own3 _ _ _ _ _ _ _ (by rw [hz.out]; exact Nat.le_refl _)
  · have := HW0.out
    subst this
    exact bel3 _ _ _ _ _
set_option maxRecDepth 100000 in
set_option maxHeartbeats 4000000 in
theorem specWalk_B2 (s : ByteArray) (root va : Nat) (acc : Int) (user : Bool) (w : World) (hm : memOk s = true) (r1 : root ≤ 255) (v1 : va ≤ 262143) (a1 : 1 ≤ acc) (a2 : acc ≤ 3) (hr : (root + 1) * 256 ≤ s.size) (hT : wv s (root * 256 + 4 * (va / 8192)) % 16 = 1) (T : Nat) (hTT : wv s (root * 256 + 4 * (va / 8192)) / 256 = T) (ht : (T + 1) * 256 ≤ s.size) :
    Calls Try.prog 82 #[.string s, .int .i64 root, .int .i64 va, .int .i64 acc, .bool user] w fun e w' => ∃ v, e = .returned (wkA (finV s [(root : Int), (T : Int)] (T * 256 + 4 * (va / 256 % 32)) false va acc user) v) ∧ w'.ownsRow w.heap.size 2 1 v 2 [.int .i64 root, .int .i64 T] ∧ Below w.heap.size w w' := by
  have hc : Hid _ := memC_ok hm
  obtain ⟨_, hs, _⟩ := memOk_b hm
  have hv : (decide (262144 ≤ (va : Int))) = false := by
    simp
    omega
  have i1 : (va : Int) / 8192 ≤ 31 := by omega
  have V1 : Hid (va ≤ 262143) := v1
  clear hm v1
  obtain ⟨e0, e1⟩ := wv_b s (root * 256 + 4 * (va / 8192))
  obtain ⟨x, hx⟩ : ∃ x, wv s (root * 256 + 4 * (va / 8192)) = x := ⟨_, rfl⟩
  have HE : Hid _ := hx
  have cent0 := fun w' => l03Entry_at s root (va / 8192) root ((va : Int) / 8192) w' rfl (by omega) hr (by have := V1.out; omega) hs
  rw [hx] at e0 e1 hT cent0 hTT
  have cent : Hid _ := cent0
  clear cent0 hx
  have g1 : bits .and .i64 x 1 = 1 := (and1 x e0 (by omega)).trans (by omega)
  have g14 : bits .and .i64 x 14 = 0 := (and14 x e0 (by omega)).trans (by omega)
  obtain ⟨y0, y1⟩ := wv_b s (T * 256 + 4 * (va / 256 % 32))
  have HK : Hid ((T : Int) * 256 + 4 * ((va : Int) / 256 % 32) = ((T * 256 + 4 * (va / 256 % 32) : Nat) : Int)) := by
    show _ = _
    omega
  unfold finV
  obtain ⟨y, hy⟩ : ∃ y, wv s (T * 256 + 4 * (va / 256 % 32)) = y := ⟨_, rfl⟩
  have HY : Hid _ := hy
  have cent20 := fun w' => l03Entry_at s T (va / 256 % 32) (T : Int) ((va : Int) / 256 % 32) w' rfl (by omega) ht (by omega) hs
  rw [hy] at y0 y1 cent20 ⊢
  have cent2 : Hid _ := cent20
  have tT : T ≤ 255 := by omega
  clear cent20 hy hT
  have b1 : Hid _ := and1 y y0 (by omega)
  have b14 : Hid _ := and14 y y0 (by omega)
  have hny : ¬ 281474976710656 < Builtin.nextslicecap 2 1 * Try.t2.bytes := by decide +kernel
  by_cases f1 : y % 2 = 0
  · have k1 : bits .and .i64 y 1 = 0 := b1.out.trans f1
    have G : Hid (goodV y acc user false = false) := by
      show goodV y acc user false = false
      simp [goodV, f1]
    rw [if_neg (by rw [G.out]; decide)]
    clear f1
    go_enter Try.func82, Try.ntmps82
    go_wp2_with (first | (go_at_call 81; refine (specMemFault_any _ _ (by omega)).mono ?_; rintro e u1 ⟨rfl, hu1⟩; subst hu1; rw [hc.out]) | (go_at_call 108; refine (l03Acc_yes _ _ (by omega) (by omega)).mono ?_; rintro e u2 ⟨rfl, hu2⟩; subst hu2) | (go_at_call 109; refine Calls.mono (cent.out _) ?_; rintro e u3 ⟨rfl, q3, hu3⟩; subst hu3; simp only [drewN_alloc]; obtain ⟨w0, hw0⟩ : ∃ w0, w0 = w.drewN q3 := ⟨_, rfl⟩; rw [← hw0]; have hz : Hid (w.heap.size = w0.heap.size) := (by rw [hw0]; rfl); rw [hz.out]; have HW0 : Hid _ := hw0; clear hw0 cent) | (go_at_call 109; refine Calls.mono (cent2.out _) ?_; rintro e u6 ⟨rfl, q6, hu6⟩; subst hu6; simp only [drewN_alloc]; obtain ⟨w1, hw1⟩ : ∃ w1, w1 = w0.drewN q6 := ⟨_, rfl⟩; rw [← hw1]; have hz1 : Hid (w0.heap.size = w1.heap.size) := (by rw [hw1]; rfl); rw [hz1.out]; have HW1 : Hid _ := hw1; clear hw1) | fail)
    refine bodyPost_ret (v := wkA ⟨1, 0, 0, false, [(root : Int), (T : Int)], s⟩ (.slice (some ⟨w1.heap.size + 1 + 1 + 1 + 1, 0, none⟩) 2 (grownCap w1 2 1 2))) (by simp [results, Try.results82, go_sem, wkA, grownCap]) rfl ⟨_, rfl, ?_, ?_⟩
    · exact own5 w1 _ _ _ _ _ _ _ (by rw [hz.out, hz1.out]; exact Nat.le_refl _)
    · have h1 := HW1.out
      subst h1
      have h0 := HW0.out
      subst h0
      exact bel5 _ _ _ _ _ _ _ _
  have k1 : bits .and .i64 y 1 = 1 := b1.out.trans (by omega)
  by_cases f2 : y / 2 % 8 = 0
  · have k14 : bits .and .i64 y 14 = 0 := b14.out.trans (by omega)
    have G : Hid (goodV y acc user false = false) := by
      show goodV y acc user false = false
      have e2 : y / 2 % 2 = 0 := by omega
      have e4 : y / 4 % 2 = 0 := by omega
      have e8 : y / 8 % 2 = 0 := by omega
      unfold goodV mayV
      simp [e2, e4, e8]
    rw [if_neg (by rw [G.out]; decide)]
    clear f1 f2
    go_enter Try.func82, Try.ntmps82
    go_wp2_with (first | (go_at_call 81; refine (specMemFault_any _ _ (by omega)).mono ?_; rintro e u1 ⟨rfl, hu1⟩; subst hu1; rw [hc.out]) | (go_at_call 108; refine (l03Acc_yes _ _ (by omega) (by omega)).mono ?_; rintro e u2 ⟨rfl, hu2⟩; subst hu2) | (go_at_call 109; refine Calls.mono (cent.out _) ?_; rintro e u3 ⟨rfl, q3, hu3⟩; subst hu3; simp only [drewN_alloc]; obtain ⟨w0, hw0⟩ : ∃ w0, w0 = w.drewN q3 := ⟨_, rfl⟩; rw [← hw0]; have hz : Hid (w.heap.size = w0.heap.size) := (by rw [hw0]; rfl); rw [hz.out]; have HW0 : Hid _ := hw0; clear hw0 cent) | (go_at_call 109; refine Calls.mono (cent2.out _) ?_; rintro e u6 ⟨rfl, q6, hu6⟩; subst hu6; simp only [drewN_alloc]; obtain ⟨w1, hw1⟩ : ∃ w1, w1 = w0.drewN q6 := ⟨_, rfl⟩; rw [← hw1]; have hz1 : Hid (w0.heap.size = w1.heap.size) := (by rw [hw1]; rfl); rw [hz1.out]; have HW1 : Hid _ := hw1; clear hw1) | fail)
    refine bodyPost_ret (v := wkA ⟨1, 0, 0, false, [(root : Int), (T : Int)], s⟩ (.slice (some ⟨w1.heap.size + 1 + 1 + 1 + 1, 0, none⟩) 2 (grownCap w1 2 1 2))) (by simp [results, Try.results82, go_sem, wkA, grownCap]) rfl ⟨_, rfl, ?_, ?_⟩
    · exact own5 w1 _ _ _ _ _ _ _ (by rw [hz.out, hz1.out]; exact Nat.le_refl _)
    · have h1 := HW1.out
      subst h1
      have h0 := HW0.out
      subst h0
      exact bel5 _ _ _ _ _ _ _ _
  have k14 : (bits .and .i64 y 14 == 0) = false := by
    rw [b14.out]
    simp
    omega
  by_cases f3 : ¬ mayV y acc user = true
  · have g3 : mayV y acc user = false := by simpa using f3
    have G : Hid (goodV y acc user false = false) := by
      show goodV y acc user false = false
      simp [goodV, g3]
    rw [if_neg (by rw [G.out]; decide)]
    clear f1 f2 f3
    go_enter Try.func82, Try.ntmps82
    go_wp2_with (first | (go_at_call 81; refine (specMemFault_any _ _ (by omega)).mono ?_; rintro e u1 ⟨rfl, hu1⟩; subst hu1; rw [hc.out]) | (go_at_call 108; refine (l03Acc_yes _ _ (by omega) (by omega)).mono ?_; rintro e u2 ⟨rfl, hu2⟩; subst hu2) | (go_at_call 109; refine Calls.mono (cent.out _) ?_; rintro e u3 ⟨rfl, q3, hu3⟩; subst hu3; simp only [drewN_alloc]; obtain ⟨w0, hw0⟩ : ∃ w0, w0 = w.drewN q3 := ⟨_, rfl⟩; rw [← hw0]; have hz : Hid (w.heap.size = w0.heap.size) := (by rw [hw0]; rfl); rw [hz.out]; have HW0 : Hid _ := hw0; clear hw0 cent) | (go_at_call 109; refine Calls.mono (cent2.out _) ?_; rintro e u6 ⟨rfl, q6, hu6⟩; subst hu6; simp only [drewN_alloc]; obtain ⟨w1, hw1⟩ : ∃ w1, w1 = w0.drewN q6 := ⟨_, rfl⟩; rw [← hw1]; have hz1 : Hid (w0.heap.size = w1.heap.size) := (by rw [hw1]; rfl); rw [hz1.out]; have HW1 : Hid _ := hw1; clear hw1) | (go_at_call 110; refine (l03May_any _ _ _ _ y0 y1 (by omega) (by omega)).mono ?_; rintro e u4 ⟨rfl, hu4⟩; subst hu4))
    refine bodyPost_ret (v := wkA ⟨1, 0, 0, false, [(root : Int), (T : Int)], s⟩ (.slice (some ⟨w1.heap.size + 1 + 1 + 1 + 1, 0, none⟩) 2 (grownCap w1 2 1 2))) (by simp [results, Try.results82, go_sem, wkA, grownCap]) rfl ⟨_, rfl, ?_, ?_⟩
    · exact own5 w1 _ _ _ _ _ _ _ (by rw [hz.out, hz1.out]; exact Nat.le_refl _)
    · have h1 := HW1.out
      subst h1
      have h0 := HW0.out
      subst h0
      exact bel5 _ _ _ _ _ _ _ _
  replace f3 := Decidable.not_not.1 f3
  have G : Hid (goodV y acc user false = true) := by
    show goodV y acc user false = true
    have : y % 2 = 1 := by omega
    simp [goodV, f3, this]
  rw [if_pos G.out]
  have P : Hid (pgV y va false = y / 256) := rfl
  by_cases f4 : ¬ (pgV y va false + 1) * 256 ≤ (s.size : Int)
  · rw [if_neg f4]
    rw [P.out] at f4
    have f5 : (s.size : Int) < (y / 256 + 1) * 256 := by omega
    clear f1 f2 f4
    go_enter Try.func82, Try.ntmps82
    go_wp2_with (first | (go_at_call 81; refine (specMemFault_any _ _ (by omega)).mono ?_; rintro e u1 ⟨rfl, hu1⟩; subst hu1; rw [hc.out]) | (go_at_call 108; refine (l03Acc_yes _ _ (by omega) (by omega)).mono ?_; rintro e u2 ⟨rfl, hu2⟩; subst hu2) | (go_at_call 109; refine Calls.mono (cent.out _) ?_; rintro e u3 ⟨rfl, q3, hu3⟩; subst hu3; simp only [drewN_alloc]; obtain ⟨w0, hw0⟩ : ∃ w0, w0 = w.drewN q3 := ⟨_, rfl⟩; rw [← hw0]; have hz : Hid (w.heap.size = w0.heap.size) := (by rw [hw0]; rfl); rw [hz.out]; have HW0 : Hid _ := hw0; clear hw0 cent) | (go_at_call 109; refine Calls.mono (cent2.out _) ?_; rintro e u6 ⟨rfl, q6, hu6⟩; subst hu6; simp only [drewN_alloc]; obtain ⟨w1, hw1⟩ : ∃ w1, w1 = w0.drewN q6 := ⟨_, rfl⟩; rw [← hw1]; have hz1 : Hid (w0.heap.size = w1.heap.size) := (by rw [hw1]; rfl); rw [hz1.out]; have HW1 : Hid _ := hw1; clear hw1) | (go_at_call 110; refine (l03May_any _ _ _ _ y0 y1 (by omega) (by omega)).mono ?_; rintro e u4 ⟨rfl, hu4⟩; subst hu4))
    refine bodyPost_ret (v := wkA ⟨2, 0, 0, false, [(root : Int), (T : Int)], s⟩ (.slice (some ⟨w1.heap.size + 1 + 1 + 1 + 1, 0, none⟩) 2 (grownCap w1 2 1 2))) (by simp [results, Try.results82, go_sem, wkA, grownCap]) rfl ⟨_, rfl, ?_, ?_⟩
    · exact own5 w1 _ _ _ _ _ _ _ (by rw [hz.out, hz1.out]; exact Nat.le_refl _)
    · have h1 := HW1.out
      subst h1
      have h0 := HW0.out
      subst h0
      exact bel5 _ _ _ _ _ _ _ _
  replace f4 := Decidable.not_not.1 f4
  rw [if_pos f4, P.out]
  rw [P.out] at f4
  by_cases f5 : acc = 2
  · subst f5
    have PA : Hid (putA y 2 = bits .or .i64 (bits .or .i64 y 32) 64) := rfl
    clear f1 f2
    go_enter Try.func82, Try.ntmps82
    go_wp2_with (first | (go_at_call 81; refine (specMemFault_any _ _ (by omega)).mono ?_; rintro e u1 ⟨rfl, hu1⟩; subst hu1; rw [hc.out]) | (go_at_call 108; refine (l03Acc_yes _ _ (by omega) (by omega)).mono ?_; rintro e u2 ⟨rfl, hu2⟩; subst hu2) | (go_at_call 109; refine Calls.mono (cent.out _) ?_; rintro e u3 ⟨rfl, q3, hu3⟩; subst hu3; simp only [drewN_alloc]; obtain ⟨w0, hw0⟩ : ∃ w0, w0 = w.drewN q3 := ⟨_, rfl⟩; rw [← hw0]; have hz : Hid (w.heap.size = w0.heap.size) := (by rw [hw0]; rfl); rw [hz.out]; have HW0 : Hid _ := hw0; clear hw0 cent) | (go_at_call 109; refine Calls.mono (cent2.out _) ?_; rintro e u6 ⟨rfl, q6, hu6⟩; subst hu6; simp only [drewN_alloc]; obtain ⟨w1, hw1⟩ : ∃ w1, w1 = w0.drewN q6 := ⟨_, rfl⟩; rw [← hw1]; have hz1 : Hid (w0.heap.size = w1.heap.size) := (by rw [hw1]; rfl); rw [hz1.out]; have HW1 : Hid _ := hw1; clear hw1) | (go_at_call 110; refine (l03May_any _ _ _ _ y0 y1 (by omega) (by omega)).mono ?_; rintro e u4 ⟨rfl, hu4⟩; subst hu4) | fail)
    rw [HK.out]
    refine (specSetWord_yes _ _ _ _ (by omega) (by omega)).mono ?_
    rintro e u5 ⟨rfl, hu5⟩
    obtain ⟨bR, bB⟩ := bx5 hu5
    obtain ⟨c0, c1, c2, c3, c4, c5, cf⟩ := cel6 bB
    obtain ⟨d0, d1, d2, d3, d4, d5, df⟩ := cel6 bR
    have HO : Hid _ := own_below (own5 w1 w.heap.size _ _ _ _ _ _ (by rw [hz.out, hz1.out]; exact Nat.le_refl _)) hu5
    have HB : Hid (Below w.heap.size w u5) := by
      have h1 := HW1.out
      subst h1
      have h0 := HW0.out
      subst h0
      exact (bel5 _ _ _ _ _ _ _ _).trans (hu5.mono (by simp; omega))
    have hl : Hid (w.heap.size ≤ w1.heap.size) := by
      show _ ≤ _
      rw [hz.out, hz1.out]
      exact Nat.le_refl _
    clear bR bB hu5
    go_wp2
    refine bodyPost_ret (v := wkA ⟨0, y / 256 * 256 + (va : Int) % 256, bits .or .i64 (bits .or .i64 y 32) 64, false, [(root : Int), (T : Int)], setv s (T * 256 + 4 * (va / 256 % 32)) (bits .or .i64 (bits .or .i64 y 32) 64)⟩ (.slice (some ⟨w1.heap.size + 1 + 1 + 1 + 1, 0, none⟩) 2 (grownCap w1 2 1 2))) (by simp [results, Try.results82, go_sem, wkA, grownCap, d0, d1, d2, d3, d4, d5]) rfl ⟨_, by rw [PA.out], ?_, ?_⟩
    · refine own_set (own_set (own_set (own_set (own_set (own_set (own_set HO.out ?_) ?_) ?_) ?_) ?_) ?_) ?_
      all_goals
        simp [Value.ownBlock]
        try omega
    · have hl := hl.out
      exact ((((((HB.out.setCell (by simp; omega) _).setCell hl _).setCell hl _).setCell hl _).setCell hl _).setCell hl _).setCell hl _
  · have h5 : (acc == 2) = false := by simpa using f5
    have PA : Hid (putA y acc = bits .or .i64 y 32) := if_neg f5
    clear f1 f2
    go_enter Try.func82, Try.ntmps82
    go_wp2_with (first | (go_at_call 81; refine (specMemFault_any _ _ (by omega)).mono ?_; rintro e u1 ⟨rfl, hu1⟩; subst hu1; rw [hc.out]) | (go_at_call 108; refine (l03Acc_yes _ _ (by omega) (by omega)).mono ?_; rintro e u2 ⟨rfl, hu2⟩; subst hu2) | (go_at_call 109; refine Calls.mono (cent.out _) ?_; rintro e u3 ⟨rfl, q3, hu3⟩; subst hu3; simp only [drewN_alloc]; obtain ⟨w0, hw0⟩ : ∃ w0, w0 = w.drewN q3 := ⟨_, rfl⟩; rw [← hw0]; have hz : Hid (w.heap.size = w0.heap.size) := (by rw [hw0]; rfl); rw [hz.out]; have HW0 : Hid _ := hw0; clear hw0 cent) | (go_at_call 109; refine Calls.mono (cent2.out _) ?_; rintro e u6 ⟨rfl, q6, hu6⟩; subst hu6; simp only [drewN_alloc]; obtain ⟨w1, hw1⟩ : ∃ w1, w1 = w0.drewN q6 := ⟨_, rfl⟩; rw [← hw1]; have hz1 : Hid (w0.heap.size = w1.heap.size) := (by rw [hw1]; rfl); rw [hz1.out]; have HW1 : Hid _ := hw1; clear hw1) | (go_at_call 110; refine (l03May_any _ _ _ _ y0 y1 (by omega) (by omega)).mono ?_; rintro e u4 ⟨rfl, hu4⟩; subst hu4) | fail)
    rw [HK.out]
    refine (specSetWord_yes _ _ _ _ (by omega) (by omega)).mono ?_
    rintro e u5 ⟨rfl, hu5⟩
    obtain ⟨bR, bB⟩ := bx5 hu5
    obtain ⟨c0, c1, c2, c3, c4, c5, cf⟩ := cel6 bB
    obtain ⟨d0, d1, d2, d3, d4, d5, df⟩ := cel6 bR
    have HO : Hid _ := own_below (own5 w1 w.heap.size _ _ _ _ _ _ (by rw [hz.out, hz1.out]; exact Nat.le_refl _)) hu5
    have HB : Hid (Below w.heap.size w u5) := by
      have h1 := HW1.out
      subst h1
      have h0 := HW0.out
      subst h0
      exact (bel5 _ _ _ _ _ _ _ _).trans (hu5.mono (by simp; omega))
    have hl : Hid (w.heap.size ≤ w1.heap.size) := by
      show _ ≤ _
      rw [hz.out, hz1.out]
      exact Nat.le_refl _
    clear bR bB hu5
    go_wp2
    refine bodyPost_ret (v := wkA ⟨0, y / 256 * 256 + (va : Int) % 256, bits .or .i64 y 32, false, [(root : Int), (T : Int)], setv s (T * 256 + 4 * (va / 256 % 32)) (bits .or .i64 y 32)⟩ (.slice (some ⟨w1.heap.size + 1 + 1 + 1 + 1, 0, none⟩) 2 (grownCap w1 2 1 2))) (by simp [results, Try.results82, go_sem, wkA, grownCap, d0, d1, d2, d3, d4, d5]) rfl ⟨_, by rw [PA.out], ?_, ?_⟩
    · refine own_set (own_set (own_set (own_set (own_set (own_set (own_set HO.out ?_) ?_) ?_) ?_) ?_) ?_) ?_
      all_goals
        simp [Value.ownBlock]
        try omega
    · have hl := hl.out
      exact ((((((HB.out.setCell (by simp; omega) _).setCell hl _).setCell hl _).setCell hl _).setCell hl _).setCell hl _).setCell hl _
end Go.Proofs.Ytdlodflinibaoaa
