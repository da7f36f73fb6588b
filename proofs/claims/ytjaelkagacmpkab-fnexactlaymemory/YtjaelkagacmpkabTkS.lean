import Derived.Test.YtjaelkagacmpkabTkM
namespace Go.Proofs.Ytjaelkagacmpkab
open Go.ChangeShapes Go.WideShapes Go.ChangeAt Go.RowKit

theorem tkV_no {zs : List Int} {s : ByteArray} (h : tkB zs s = false) : tkV zs s = ⟨#[]⟩ := by simp [tkV, h]
theorem tkV_yes {zs : List Int} {s : ByteArray} (h : tkB zs s = true) : tkV zs s = takN zs s zs.length := by simp [tkV, h]
theorem takN_zero (zs : List Int) (s : ByteArray) : takN zs s 0 = ⟨#[]⟩ := rfl
theorem ret_str {a b : ByteArray} (h : a = b) : Ending.returned (.string a) = .returned (.string b) := by rw [h]
set_option maxRecDepth 100000 in
set_option maxHeartbeats 4000000 in
theorem specTake_any {w : World} {v : Value} {zs : List Int} (s : ByteArray) (h : Irow w v zs) (hl : zs.length ≤ 1048576) (hs : s.size ≤ 1048576) :
    Calls Try.prog 12 #[v, .string s] w fun e w' => e = .returned (.string (tkV zs s)) ∧ Below w.heap.size w w' := by
  obtain ⟨a1, c1, rfl⟩ := h.sl
  have HR : Hid (Irow w (.slice a1 zs.length c1) zs) := h
  have HS : Hid _ := fun w => specMemFault_any s w (by omega)
  clear h
  cases h1 : memOk s
  · rw [memC1 h1] at HS
    go_enter Try.func12, Try.ntmps12
    go_wp2_with (go_at_call 14; refine Calls.mono (HS.out _) ?_; rintro e u1 ⟨rfl, hu1⟩; subst u1)
    go_ret
    exact ⟨ret_str (tkV_no (by simp [tkB, h1])).symm, Below.refl _ _⟩
  rw [memC0 h1] at HS
  have b2 : Hid _ := memOk_b2 h1
  by_cases h2 : zs.length = 0
  · have h3 : (zs.length : Int) < 1 := by omega
    have H2 : Hid _ := h2
    clear h2
    go_enter Try.func12, Try.ntmps12
    go_wp2_with (go_at_call 14; refine Calls.mono (HS.out _) ?_; rintro e u1 ⟨rfl, hu1⟩; subst u1)
    go_ret
    exact ⟨ret_str (tkV_no (by simp [tkB, H2.out])).symm, Below.refl _ _⟩
  have h3 : ¬ (zs.length : Int) < 1 := by omega
  by_cases h4 : 256 < zs.length
  · have E : Hid (tkB zs s = false) := by
      show tkB zs s = false
      unfold tkB
      rw [frB_false (fun hf => by have := hf.len; have := b2.out.2.1; omega)]
      simp
    go_enter Try.func12, Try.ntmps12
    go_wp2_with (go_at_call 14; refine Calls.mono (HS.out _) ?_; rintro e u1 ⟨rfl, hu1⟩; subst u1)
    go_ret
    exact ⟨ret_str (tkV_no E.out).symm, Below.refl _ _⟩
  have HF : Hid _ := specFrames_any s HR.out hl (by omega)
  cases h5 : frB (s.size / 256) zs
  · rw [h5] at HF
    have E : Hid (tkB zs s = false) := (show tkB zs s = false by simp [tkB, h5])
    clear h5
    go_enter Try.func12, Try.ntmps12
    go_wp2_with (first | (go_at_call 14; refine Calls.mono (HS.out _) ?_; rintro e u1 ⟨rfl, hu1⟩; subst u1) | (go_at_call 15; refine Calls.mono HF.out ?_; rintro e u2 ⟨rfl, _, hu2⟩; have HB : Hid _ := hu2; clear hu2 HF))
    go_ret
    exact ⟨ret_str (tkV_no E.out).symm, HB.out⟩
  · rw [h5] at HF
    have E : Hid (tkV zs s = takN zs s zs.length) := tkV_yes (by simp [tkB, h1, h2, h5])
    have HO : Hid (FrOk (s.size / 256) zs) := frB_iff.1 h5
    clear h5 h1
    go_enter Try.func12, Try.ntmps12
    go_wp2_with (first | (go_at_call 14; refine Calls.mono (HS.out _) ?_; rintro e u1 ⟨rfl, hu1⟩; subst u1) | (go_at_call 15; refine Calls.mono HF.out ?_; rintro e u2 ⟨rfl, _, hu2⟩; have HB : Hid (Below w.heap.size w u2) := hu2; clear hu2 HF))
    go_loopw [5, 6] (fun o i wr => ∃ k : Nat, k ≤ zs.length ∧ i = .int .i64 k ∧ o = .string (takN zs s k) ∧ wr = u2) (fun _ i _ => zs.length - (intOf i).toNat)
    case atStart => exact ⟨0, Nat.zero_le _, rfl, rfl, rfl⟩
    case round =>
      obtain ⟨k, hk, rfl, rfl, rfl⟩ := hrel
      by_cases hlt : k < zs.length
      · obtain ⟨g, o, cap2, hv, hcp, hg, hc⟩ := HR.out.resolve_left (fun h => by rw [h.1] at hlt; simp at hlt)
        injection hv with hv1 hv2 hv3
        subst hv1 hv3
        have d1 := hc.below HB.out hg k hlt
        have hz := HO.out.at hlt
        have HT : Hid (takN zs s (k + 1) = takN zs s k ++ fr s zs[k].toNat) := (show takN zs s (k + 1) = _ by rw [← hz.2.2]; rfl)
        have hts := takN_size HO.out k hk
        obtain ⟨z, hze⟩ : ∃ z, zs[k] = z := ⟨_, rfl⟩
        rw [hze] at d1 hz HT
        obtain ⟨j, rfl⟩ : ∃ j : Nat, z = (j : Int) := ⟨z.toNat, by omega⟩
        rw [Int.toNat_natCast] at HT
        have hj : j * 256 + 256 ≤ s.size := by omega
        have HFR : Hid _ := fun w => l06Frame_any s j w hj hs
        have c1 := fun w => run_string_add_sum (P := Try.prog) w (takN zs s k) (fr s j) (by rw [hts, fr_size s j hj]; omega)
        have hk0 : (0 : Int) ≤ (k : Int) := by omega
        have hk1 : (k : Int) < (zs.length : Int) := by omega
        clear hc hz hts hze hj
        go_wp2_with (go_at_call 19; refine Calls.mono (HFR.out _) ?_; rintro e u3 ⟨rfl, hu3⟩; subst u3)
        refine ⟨⟨k + 1, hlt, by go_num, by rw [HT.out], by first | rfl | trivial⟩, by simp [intOf]; omega⟩
      · obtain rfl : k = zs.length := by omega
        go_wp2
        go_ret
        exact ⟨ret_str E.out.symm, HB.out⟩
end Go.Proofs.Ytjaelkagacmpkab
