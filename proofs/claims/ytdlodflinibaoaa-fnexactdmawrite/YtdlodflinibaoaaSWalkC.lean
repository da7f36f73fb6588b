import Derived.Test.YtdlodflinibaoaaSWalk
namespace Go.Proofs.Ytdlodflinibaoaa
open Go.ChangeShapes Go.WideShapes Go.ChangeAt Go.RowKit

set_option maxRecDepth 100000 in
set_option maxHeartbeats 1000000 in
/-- The root's own entry counts. -/
theorem specWalk_C (s : ByteArray) (root va : Nat) (acc : Int) (user : Bool) (w : World) (hm : memOk s = true) (r1 : root ≤ 255) (v1 : va ≤ 262143) (a1 : 1 ≤ acc) (a2 : acc ≤ 3) (hr : (root + 1) * 256 ≤ s.size) (hC : ¬ wv s (root * 256 + 4 * (va / 8192)) % 16 = 1) :
    Calls Try.prog 82 #[.string s, .int .i64 root, .int .i64 va, .int .i64 acc, .bool user] w fun e w' => ∃ v, e = .returned (wkA (finV s [(root : Int)] (root * 256 + 4 * (va / 8192)) true va acc user) v) ∧ w'.ownsRow w.heap.size 2 1 v 1 [.int .i64 root] ∧ Below w.heap.size w w' := by
  have hc : Hid _ := memC_ok hm
  obtain ⟨_, hs, _⟩ := memOk_b hm
  have hv : (decide (262144 ≤ (va : Int))) = false := by
    simp
    omega
  have i1 : (va : Int) / 8192 ≤ 31 := by omega
  have V1 : Hid (va ≤ 262143) := v1
  clear hm v1
  obtain ⟨e0, e1⟩ := wv_b s (root * 256 + 4 * (va / 8192))
  have HK : Hid ((root : Int) * 256 + 4 * ((va : Int) / 8192) = ((root * 256 + 4 * (va / 8192) : Nat) : Int)) := by
    show _ = _
    omega
  unfold finV
  obtain ⟨x, hx⟩ : ∃ x, wv s (root * 256 + 4 * (va / 8192)) = x := ⟨_, rfl⟩
  have HE : Hid _ := hx
  have cent0 := fun w' => l03Entry_at s root (va / 8192) root ((va : Int) / 8192) w' rfl (by omega) hr (by have := V1.out; omega) hs
  rw [hx] at e0 e1 hC cent0 ⊢
  have cent : Hid _ := cent0
  clear cent0
  have b1 : Hid _ := and1 x e0 (by omega)
  have b14 : Hid _ := and14 x e0 (by omega)
  clear hx
  by_cases f1 : x % 2 = 0
  · have g1 : bits .and .i64 x 1 = 0 := b1.out.trans f1
    have G : Hid (goodV x acc user true = false) := by
      show goodV x acc user true = false
      simp [goodV, f1]
    rw [if_neg (by rw [G.out]; decide)]
    clear f1 hC
    go_enter Try.func82, Try.ntmps82
    go_wp2_with (first | (go_at_call 81; refine (specMemFault_any _ _ (by omega)).mono ?_; rintro e u1 ⟨rfl, hu1⟩; subst hu1; rw [hc.out]) | (go_at_call 108; refine (l03Acc_yes _ _ (by omega) (by omega)).mono ?_; rintro e u2 ⟨rfl, hu2⟩; subst hu2) | (go_at_call 109; refine Calls.mono (cent.out _) ?_; rintro e u3 ⟨rfl, q3, hu3⟩; subst hu3; simp only [drewN_alloc]; obtain ⟨w0, hw0⟩ : ∃ w0, w0 = w.drewN q3 := ⟨_, rfl⟩; rw [← hw0]; have hz : Hid (w.heap.size = w0.heap.size) := (by rw [hw0]; rfl); rw [hz.out]; have HW0 : Hid _ := hw0; clear hw0 cent))
    refine bodyPost_ret (v := wkA ⟨1, 0, 0, false, [(root : Int)], s⟩ (.slice (some ⟨w0.heap.size + 1, 0, none⟩) 1 1)) (by simp [results, Try.results82, go_sem, wkA]) rfl ⟨_, rfl, ?_, ?_⟩
    · exact own3 _ _ _ _ _ _ _ (by rw [hz.out]; exact Nat.le_refl _)
    · have := HW0.out
      subst this
      exact bel3 _ _ _ _ _
  have g1 : bits .and .i64 x 1 = 1 := b1.out.trans (by omega)
  have g14 : (bits .and .i64 x 14 == 0) = false := by
    rw [b14.out]
    simp
    omega
  by_cases f2 : ¬ x / 256 % 32 = 0
  · have g2 : (x / 256 % 32 == 0) = false := by simpa using f2
    have g2' : (x / 256 % 32 != 0) = true := by simpa using f2
    have G : Hid (goodV x acc user true = false) := by
      show goodV x acc user true = false
      simp [goodV, f2]
    rw [if_neg (by rw [G.out]; decide)]
    clear f1 hC f2
    go_enter Try.func82, Try.ntmps82
    go_wp2_with (first | (go_at_call 81; refine (specMemFault_any _ _ (by omega)).mono ?_; rintro e u1 ⟨rfl, hu1⟩; subst hu1; rw [hc.out]) | (go_at_call 108; refine (l03Acc_yes _ _ (by omega) (by omega)).mono ?_; rintro e u2 ⟨rfl, hu2⟩; subst hu2) | (go_at_call 109; refine Calls.mono (cent.out _) ?_; rintro e u3 ⟨rfl, q3, hu3⟩; subst hu3; simp only [drewN_alloc]; obtain ⟨w0, hw0⟩ : ∃ w0, w0 = w.drewN q3 := ⟨_, rfl⟩; rw [← hw0]; have hz : Hid (w.heap.size = w0.heap.size) := (by rw [hw0]; rfl); rw [hz.out]; have HW0 : Hid _ := hw0; clear hw0 cent))
    refine bodyPost_ret (v := wkA ⟨1, 0, 0, false, [(root : Int)], s⟩ (.slice (some ⟨w0.heap.size + 1, 0, none⟩) 1 1)) (by simp [results, Try.results82, go_sem, wkA]) rfl ⟨_, rfl, ?_, ?_⟩
    · exact own3 _ _ _ _ _ _ _ (by rw [hz.out]; exact Nat.le_refl _)
    · have := HW0.out
      subst this
      exact bel3 _ _ _ _ _
  replace f2 := Decidable.not_not.1 f2
  by_cases f3 : ¬ mayV x acc user = true
  · have g3 : mayV x acc user = false := by simpa using f3
    have G : Hid (goodV x acc user true = false) := by
      show goodV x acc user true = false
      simp [goodV, g3]
    rw [if_neg (by rw [G.out]; decide)]
    clear f1 hC f3
    go_enter Try.func82, Try.ntmps82
    go_wp2_with (first | (go_at_call 81; refine (specMemFault_any _ _ (by omega)).mono ?_; rintro e u1 ⟨rfl, hu1⟩; subst hu1; rw [hc.out]) | (go_at_call 108; refine (l03Acc_yes _ _ (by omega) (by omega)).mono ?_; rintro e u2 ⟨rfl, hu2⟩; subst hu2) | (go_at_call 109; refine Calls.mono (cent.out _) ?_; rintro e u3 ⟨rfl, q3, hu3⟩; subst hu3; simp only [drewN_alloc]; obtain ⟨w0, hw0⟩ : ∃ w0, w0 = w.drewN q3 := ⟨_, rfl⟩; rw [← hw0]; have hz : Hid (w.heap.size = w0.heap.size) := (by rw [hw0]; rfl); rw [hz.out]; have HW0 : Hid _ := hw0; clear hw0 cent) | (go_at_call 110; refine (l03May_any _ _ _ _ e0 e1 (by omega) (by omega)).mono ?_; rintro e u4 ⟨rfl, hu4⟩; subst hu4))
    refine bodyPost_ret (v := wkA ⟨1, 0, 0, false, [(root : Int)], s⟩ (.slice (some ⟨w0.heap.size + 1, 0, none⟩) 1 1)) (by simp [results, Try.results82, go_sem, wkA]) rfl ⟨_, rfl, ?_, ?_⟩
    · exact own3 _ _ _ _ _ _ _ (by rw [hz.out]; exact Nat.le_refl _)
    · have := HW0.out
      subst this
      exact bel3 _ _ _ _ _
  replace f3 := Decidable.not_not.1 f3
  have G : Hid (goodV x acc user true = true) := by
    show goodV x acc user true = true
    have : x % 2 = 1 := by omega
    simp [goodV, f2, f3, this]
  rw [if_pos G.out]
  have P : Hid (pgV x va true = x / 256 + (va : Int) / 256 % 32) := rfl
  by_cases f4 : ¬ (pgV x va true + 1) * 256 ≤ (s.size : Int)
  · rw [if_neg f4]
    rw [P.out] at f4
    have f5 : (s.size : Int) < (x / 256 + (va : Int) / 256 % 32 + 1) * 256 := by omega
    clear f1 hC f4
    go_enter Try.func82, Try.ntmps82
    go_wp2_with (first | (go_at_call 81; refine (specMemFault_any _ _ (by omega)).mono ?_; rintro e u1 ⟨rfl, hu1⟩; subst hu1; rw [hc.out]) | (go_at_call 108; refine (l03Acc_yes _ _ (by omega) (by omega)).mono ?_; rintro e u2 ⟨rfl, hu2⟩; subst hu2) | (go_at_call 109; refine Calls.mono (cent.out _) ?_; rintro e u3 ⟨rfl, q3, hu3⟩; subst hu3; simp only [drewN_alloc]; obtain ⟨w0, hw0⟩ : ∃ w0, w0 = w.drewN q3 := ⟨_, rfl⟩; rw [← hw0]; have hz : Hid (w.heap.size = w0.heap.size) := (by rw [hw0]; rfl); rw [hz.out]; have HW0 : Hid _ := hw0; clear hw0 cent) | (go_at_call 110; refine (l03May_any _ _ _ _ e0 e1 (by omega) (by omega)).mono ?_; rintro e u4 ⟨rfl, hu4⟩; subst hu4))
    refine bodyPost_ret (v := wkA ⟨2, 0, 0, false, [(root : Int)], s⟩ (.slice (some ⟨w0.heap.size + 1, 0, none⟩) 1 1)) (by simp [results, Try.results82, go_sem, wkA]) rfl ⟨_, rfl, ?_, ?_⟩
    · exact own3 _ _ _ _ _ _ _ (by rw [hz.out]; exact Nat.le_refl _)
    · have := HW0.out
      subst this
      exact bel3 _ _ _ _ _
  replace f4 := Decidable.not_not.1 f4
  rw [if_pos f4, P.out]
  rw [P.out] at f4
  by_cases f5 : acc = 2
  · subst f5
    clear f1 hC
    go_enter Try.func82, Try.ntmps82
    go_wp2_with (first | (go_at_call 81; refine (specMemFault_any _ _ (by omega)).mono ?_; rintro e u1 ⟨rfl, hu1⟩; subst hu1; rw [hc.out]) | (go_at_call 108; refine (l03Acc_yes _ _ (by omega) (by omega)).mono ?_; rintro e u2 ⟨rfl, hu2⟩; subst hu2) | (go_at_call 109; refine Calls.mono (cent.out _) ?_; rintro e u3 ⟨rfl, q3, hu3⟩; subst hu3; simp only [drewN_alloc]; obtain ⟨w0, hw0⟩ : ∃ w0, w0 = w.drewN q3 := ⟨_, rfl⟩; rw [← hw0]; have hz : Hid (w.heap.size = w0.heap.size) := (by rw [hw0]; rfl); rw [hz.out]; have HW0 : Hid _ := hw0; clear hw0 cent) | (go_at_call 110; refine (l03May_any _ _ _ _ e0 e1 (by omega) (by omega)).mono ?_; rintro e u4 ⟨rfl, hu4⟩; subst hu4) | fail)
    rw [HK.out]
    refine (specSetWord_yes _ _ _ _ (by have := V1.out; omega) (by omega)).mono ?_
    rintro e u5 ⟨rfl, hu5⟩
    obtain ⟨bR, bB⟩ := bx3 hu5
    obtain ⟨c0, c1, c2, c3, c4, c5, cf⟩ := cel6 bB
    obtain ⟨d0, d1, d2, d3, d4, d5, df⟩ := cel6 bR
    have HO : Hid _ := own_below (own3 _ w.heap.size _ _ _ _ _ (by rw [hz.out]; exact Nat.le_refl _)) hu5
    have HB : Hid (Below w.heap.size w u5) := by
      have h0 := HW0.out
      subst h0
      exact (bel3 _ _ _ _ _).trans (hu5.mono (by simp; omega))
    clear bR bB hu5
    go_wp2
    refine bodyPost_ret (v := wkA ⟨0, (x / 256 + (va : Int) / 256 % 32) * 256 + (va : Int) % 256, bits .or .i64 (bits .or .i64 x 32) 64, true, [(root : Int)], setv s (root * 256 + 4 * (va / 8192)) (bits .or .i64 (bits .or .i64 x 32) 64)⟩ (.slice (some ⟨w0.heap.size + 1, 0, none⟩) 1 1)) (by simp [results, Try.results82, go_sem, wkA, d0, d1, d2, d3, d4, d5]) rfl ⟨_, rfl, ?_, ?_⟩
    · refine own_set (own_set (own_set (own_set (own_set (own_set (own_set HO.out ?_) ?_) ?_) ?_) ?_) ?_) ?_
      all_goals simp [Value.ownBlock]
    · have hl : w.heap.size ≤ w0.heap.size := by rw [hz.out]; exact Nat.le_refl _
      exact ((((((HB.out.setCell (by simp; omega) _).setCell hl _).setCell hl _).setCell hl _).setCell hl _).setCell hl _).setCell hl _
  · have h5 : (acc == 2) = false := by simpa using f5
    clear f1 hC
    go_enter Try.func82, Try.ntmps82
    go_wp2_with (first | (go_at_call 81; refine (specMemFault_any _ _ (by omega)).mono ?_; rintro e u1 ⟨rfl, hu1⟩; subst hu1; rw [hc.out]) | (go_at_call 108; refine (l03Acc_yes _ _ (by omega) (by omega)).mono ?_; rintro e u2 ⟨rfl, hu2⟩; subst hu2) | (go_at_call 109; refine Calls.mono (cent.out _) ?_; rintro e u3 ⟨rfl, q3, hu3⟩; subst hu3; simp only [drewN_alloc]; obtain ⟨w0, hw0⟩ : ∃ w0, w0 = w.drewN q3 := ⟨_, rfl⟩; rw [← hw0]; have hz : Hid (w.heap.size = w0.heap.size) := (by rw [hw0]; rfl); rw [hz.out]; have HW0 : Hid _ := hw0; clear hw0 cent) | (go_at_call 110; refine (l03May_any _ _ _ _ e0 e1 (by omega) (by omega)).mono ?_; rintro e u4 ⟨rfl, hu4⟩; subst hu4) | fail)
    rw [HK.out]
    refine (specSetWord_yes _ _ _ _ (by have := V1.out; omega) (by omega)).mono ?_
    rintro e u5 ⟨rfl, hu5⟩
    have PA : Hid (putA x acc = bits .or .i64 x 32) := if_neg f5
    obtain ⟨bR, bB⟩ := bx3 hu5
    obtain ⟨c0, c1, c2, c3, c4, c5, cf⟩ := cel6 bB
    obtain ⟨d0, d1, d2, d3, d4, d5, df⟩ := cel6 bR
    have HO : Hid _ := own_below (own3 _ w.heap.size _ _ _ _ _ (by rw [hz.out]; exact Nat.le_refl _)) hu5
    have HB : Hid (Below w.heap.size w u5) := by
      have h0 := HW0.out
      subst h0
      exact (bel3 _ _ _ _ _).trans (hu5.mono (by simp; omega))
    clear bR bB hu5
    go_wp2
    refine bodyPost_ret (v := wkA ⟨0, (x / 256 + (va : Int) / 256 % 32) * 256 + (va : Int) % 256, bits .or .i64 x 32, true, [(root : Int)], setv s (root * 256 + 4 * (va / 8192)) (bits .or .i64 x 32)⟩ (.slice (some ⟨w0.heap.size + 1, 0, none⟩) 1 1)) (by simp [results, Try.results82, go_sem, wkA, d0, d1, d2, d3, d4, d5]) rfl ⟨_, by rw [PA.out], ?_, ?_⟩
    · refine own_set (own_set (own_set (own_set (own_set (own_set (own_set HO.out ?_) ?_) ?_) ?_) ?_) ?_) ?_
      all_goals simp [Value.ownBlock]
    · have hl : w.heap.size ≤ w0.heap.size := by rw [hz.out]; exact Nat.le_refl _
      exact ((((((HB.out.setCell (by simp; omega) _).setCell hl _).setCell hl _).setCell hl _).setCell hl _).setCell hl _).setCell hl _
end Go.Proofs.Ytdlodflinibaoaa
