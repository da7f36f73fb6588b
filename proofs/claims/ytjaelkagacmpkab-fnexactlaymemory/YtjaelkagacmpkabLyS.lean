import Derived.Test.YtjaelkagacmpkabTkI
namespace Go.Proofs.Ytjaelkagacmpkab
open Go.ChangeShapes Go.WideShapes Go.ChangeAt Go.RowKit

noncomputable def lyV (zs : List Int) (m s : ByteArray) : ByteArray := if plC m zs s = 0 then layN zs m s zs.length else ⟨#[]⟩
theorem plC_yes {zs : List Int} {m s : ByteArray} (h : plC m zs s = 0) : memOk m = true ∧ memOk s = true ∧ zs.length = m.size / 256 ∧ FrOk (s.size / 256) zs := by
  unfold plC at h
  split at h
  · rename_i h2
    exact ⟨h2.1, h2.2.1, h2.2.2.1, frB_iff.1 h2.2.2.2⟩
  · cases h
theorem plC_or (zs : List Int) (m s : ByteArray) : plC m zs s = 0 ∨ plC m zs s = 1 := by
  unfold plC
  split
  · exact Or.inl rfl
  · exact Or.inr rfl
theorem lyV_no {zs : List Int} {m s : ByteArray} (h : plC m zs s = 1) : lyV zs m s = ⟨#[]⟩ := by simp [lyV, h]
theorem lyV_yes {zs : List Int} {m s : ByteArray} (h : plC m zs s = 0) : lyV zs m s = layN zs m s zs.length := by simp [lyV, h]
set_option maxRecDepth 100000 in
set_option maxHeartbeats 4000000 in
theorem specLay_any {w : World} {v : Value} {zs : List Int} (m s : ByteArray) (h : Irow w v zs) (hl : zs.length ≤ 1048576) (hm : m.size ≤ 1048576) (hs : s.size ≤ 1048576) :
    Calls Try.prog 10 #[.string m, v, .string s] w fun e w' => e = .returned (.string (lyV zs m s)) ∧ Below w.heap.size w w' := by
  obtain ⟨a1, c1, rfl⟩ := h.sl
  have HR : Hid (Irow w (.slice a1 zs.length c1) zs) := h
  have HP : Hid _ := specPlace_any m s h hl hm hs
  clear h
  rcases plC_or zs m s with hp | hp
  · rw [hp] at HP
    have E : Hid (lyV zs m s = layN zs m s zs.length) := lyV_yes hp
    obtain ⟨q1, q2, q3, q4⟩ := plC_yes hp
    have HO : Hid (FrOk (s.size / 256) zs) := q4
    have HMS : Hid (zs.length * 256 ≤ m.size) := (show zs.length * 256 ≤ m.size by omega)
    clear hp q1 q2 q3 q4
    go_enter Try.func10, Try.ntmps10
    go_wp2_with (go_at_call 6; refine Calls.mono HP.out ?_; rintro e u2 ⟨rfl, hu2⟩; have HB : Hid (Below w.heap.size w u2) := hu2; clear hu2 HP)
    go_loopw [2, 7] (fun o i wr => ∃ k : Nat, k ≤ zs.length ∧ i = .int .i64 k ∧ o = .string (layN zs m s k) ∧ Below w.heap.size w wr) (fun _ i _ => zs.length - (intOf i).toNat)
    case atStart => exact ⟨0, Nat.zero_le _, rfl, rfl, HB.out⟩
    case round =>
      obtain ⟨k, hk, rfl, rfl, hb⟩ := hrel
      by_cases hlt : k < zs.length
      · obtain ⟨g, o, cap2, hv, hcp, hg, hc⟩ := HR.out.resolve_left (fun h => by rw [h.1] at hlt; simp at hlt)
        injection hv with hv1 hv2 hv3
        subst hv1 hv3
        have d1 := hc.below hb hg k hlt
        have hz := HO.out.at hlt
        have HT : Hid (layN zs m s (k + 1) = sfr (layN zs m s k) zs[k].toNat (fr m k)) := (show layN zs m s (k + 1) = _ by rw [← hz.2.2]; rfl)
        have hts := layN_size HO.out HMS.out k hk
        obtain ⟨z, hze⟩ : ∃ z, zs[k] = z := ⟨_, rfl⟩
        rw [hze] at d1 hz HT
        obtain ⟨j, rfl⟩ : ∃ j : Nat, z = (j : Int) := ⟨z.toNat, by omega⟩
        rw [Int.toNat_natCast] at HT
        have hj : j * 256 + 256 ≤ s.size := by omega
        have hkm : k * 256 + 256 ≤ m.size := by have := HMS.out; omega
        have HFR : Hid _ := fun w => l06Frame_any m k w hkm hm
        have HST : Hid _ := fun w => l06Set_any (layN zs m s k) (fr m k) j w (by rw [hts]; exact hj) (by rw [hts]; exact hs) (fr_size m k hkm)
        have hk0 : (0 : Int) ≤ (k : Int) := by omega
        have hk1 : (k : Int) < (zs.length : Int) := by omega
        have HW : Hid (Below w.heap.size w wr) := hb
        clear hc hz hts hze hj hkm hb
        go_wp2
        go_region_with (first | (go_at_call 19; refine Calls.mono (HFR.out _) ?_; rintro e u3 ⟨rfl, hu3⟩; subst u3) | (go_at_call 18; refine Calls.mono (HST.out _) ?_; rintro e u4 ⟨rfl, q, hu4⟩; subst u4))
        all_goals go_wp2
        all_goals refine ⟨⟨k + 1, hlt, by go_num, by rw [HT.out], bdn HW.out _⟩, by simp [intOf]; omega⟩
      · obtain rfl : k = zs.length := by omega
        go_wp2
        go_ret
        exact ⟨ret_str E.out.symm, hb⟩
  · rw [hp] at HP
    have E : Hid (lyV zs m s = ⟨#[]⟩) := lyV_no hp
    clear hp
    go_enter Try.func10, Try.ntmps10
    go_wp2_with (go_at_call 6; refine Calls.mono HP.out ?_; rintro e u2 ⟨rfl, hu2⟩; have HB : Hid (Below w.heap.size w u2) := hu2; clear hu2 HP)
    go_ret
    exact ⟨ret_str E.out.symm, HB.out⟩
end Go.Proofs.Ytjaelkagacmpkab
