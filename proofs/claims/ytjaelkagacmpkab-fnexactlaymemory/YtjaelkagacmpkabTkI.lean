import Derived.Test.YtjaelkagacmpkabTkS
namespace Go.Proofs.Ytjaelkagacmpkab
open Go.ChangeShapes Go.WideShapes Go.ChangeAt Go.RowKit

theorem takN_fr {zs : List Int} {s : ByteArray} (h : FrOk (s.size / 256) zs) {k : Nat} (hk : k < zs.length) : ∀ m, k < m → m ≤ zs.length → ((takN zs s m).data.toList.drop (k * 256)).take 256 = (fr s zs[k].toNat).data.toList
  | 0, h0, _ => absurd h0 (Nat.not_lt_zero _)
  | m + 1, h1, h2 => by
    have hm := takN_size h m (by omega)
    have hz := h.at hk
    have hf := fr_size s zs[k].toNat (by omega)
    have e : (takN zs s (m + 1)).data.toList = (takN zs s m).data.toList ++ (fr s (zs.getD m 0).toNat).data.toList := by
      show (takN zs s m ++ fr s (zs.getD m 0).toNat).data.toList = _
      simp [ByteArray.data_append]
    have hl : (takN zs s m).data.toList.length = m * 256 := by rw [bsize, hm]
    rw [e]
    by_cases hkm : k < m
    · rw [List.drop_append_of_le_length (by omega), List.take_append_of_le_length (by rw [List.length_drop]; omega)]
      exact takN_fr h hk m hkm (by omega)
    · obtain rfl : k = m := by omega
      rw [hz.2.2, ← hl, List.drop_left]
      apply List.take_of_length_le
      rw [bsize, hf]
      exact Nat.le_refl _
theorem tk_cells {zs : List Int} {s : ByteArray} (h : FrOk (s.size / 256) zs) {k : Nat} (hk : k < zs.length) : (cells8 ((takN zs s zs.length).extract (k * 256) (takN zs s zs.length).size).data.toList).take 256 = cells8 (fr s zs[k].toNat).data.toList := by
  have e5 : ((takN zs s zs.length).extract (k * 256) (takN zs s zs.length).size).data.toList = (takN zs s zs.length).data.toList.drop (k * 256) := by
    simp only [ByteArray.data_extract, Array.toList_extract, List.extract_eq_take_drop]
    apply List.take_of_length_le
    rw [List.length_drop, bsize]
    exact Nat.le_refl _
  rw [e5, ← cells8_take, takN_fr h hk _ hk (Nat.le_refl _)]
set_option maxRecDepth 100000 in
set_option maxHeartbeats 4000000 in
theorem implTake_any {w : World} {v : Value} {zs : List Int} (s : ByteArray) (h : Irow w v zs) (hl : zs.length ≤ 1048576) (hs : s.size ≤ 1048576) :
    Calls Try.prog 13 #[v, .string s] w fun e w' => e = .returned (.string (tkV zs s)) ∧ Below w.heap.size w w' := by
  obtain ⟨a1, c1, rfl⟩ := h.sl
  have HR : Hid (Irow w (.slice a1 zs.length c1) zs) := h
  have HS : Hid _ := fun w => implMemFault_any s w (by omega)
  clear h
  cases h1 : memOk s
  · rw [memC1 h1] at HS
    go_enter Try.func13, Try.ntmps13
    go_wp2_with (go_at_call 16; refine Calls.mono (HS.out _) ?_; rintro e u1 ⟨rfl, hu1⟩; subst u1)
    go_ret
    exact ⟨ret_str (tkV_no (by simp [tkB, h1])).symm, Below.refl _ _⟩
  rw [memC0 h1] at HS
  have b2 : Hid _ := memOk_b2 h1
  by_cases h2 : (zs.length : Int) = 0
  · have H2 : Hid _ := h2
    go_enter Try.func13, Try.ntmps13
    go_wp2_with (go_at_call 16; refine Calls.mono (HS.out _) ?_; rintro e u1 ⟨rfl, hu1⟩; subst u1)
    go_ret
    exact ⟨ret_str (tkV_no (by have h3 : zs.length = 0 := by have := H2.out; omega
                               simp [tkB, h3])).symm, Below.refl _ _⟩
  have h2' : ¬ zs = [] := fun h => h2 (by rw [h]; rfl)
  have HF : Hid _ := areFrames_any s HR.out hl b2.out.2.1
  cases h5 : frB (s.size / 256) zs
  · rw [h5] at HF
    have E : Hid (tkB zs s = false) := (show tkB zs s = false by simp [tkB, h5])
    clear h5
    go_enter Try.func13, Try.ntmps13
    go_wp2_with (first | (go_at_call 16; refine Calls.mono (HS.out _) ?_; rintro e u1 ⟨rfl, hu1⟩; subst u1) | (go_at_call 17; refine Calls.mono HF.out ?_; rintro e u2 ⟨rfl, hu2⟩; have HB : Hid _ := hu2; clear hu2 HF))
    go_ret
    exact ⟨ret_str (tkV_no E.out).symm, HB.out⟩
  · rw [h5] at HF
    have E : Hid (tkV zs s = takN zs s zs.length) := tkV_yes (by simp [tkB, h1, h5]; intro h; rw [h] at h2; simp at h2)
    have HO : Hid (FrOk (s.size / 256) zs) := frB_iff.1 h5
    have HL : Hid (zs.length ≤ 256) := (show zs.length ≤ 256 by have := (frB_iff.1 h5).len; have := b2.out.2.1; omega)
    have HRM : Hid (∀ u : World, Calls Try.prog 20 #[.string s] u fun e w' => e = .returned (mv u.heap.size (s.size / 256)) ∧ MemAt w' u.heap.size s ∧ Below u.heap.size u w' ∧ w'.heap.size = u.heap.size + 1) := fun u => readMemory_any s (s.size / 256) u (by have := b2.out; omega) (by have := b2.out; omega)
    have hmk := fun u => mkMem u zs.length HL.out
    clear h5 h1
    go_enter Try.func13, Try.ntmps13
    go_wp2_with (first
      | (go_at_call 16; refine Calls.mono (HS.out _) ?_; rintro e u1 ⟨rfl, hu1⟩; subst u1)
      | (go_at_call 17; refine Calls.mono HF.out ?_; rintro e u2 ⟨rfl, hu2⟩; have HB : Hid (Below w.heap.size w u2) := hu2; clear hu2 HF)
      | (go_at_call 20; refine Calls.mono (HRM.out _) ?_; rintro e u3 ⟨rfl, hM, hb, hz⟩; have HM : Hid (MemAt u3 u2.heap.size s) := hM; have HB3 : Hid (Below w.heap.size w u3) := HB.out.trans (hb.mono HB.out.size); have HZ : Hid (u3.heap.size = u2.heap.size + 1) := hz; clear hM hb hz; unfold mv))
    obtain ⟨n, hn⟩ : ∃ n, s.size / 256 = n := ⟨_, rfl⟩
    rw [hn]
    go_loopw [30] (fun i wr => ∃ k : Nat, k ≤ zs.length ∧ i = .int .i64 k ∧ wr.heap[u3.heap.size]? = some (.cells (rdC (takN zs s zs.length) k zs.length) 37 (0, 0)) ∧ MemAt wr u2.heap.size s ∧ Below w.heap.size w wr) (fun i _ => zs.length - (intOf i).toNat)
    case atStart => exact ⟨0, Nat.zero_le _, rfl, by rw [rdC_zero]; exact (MapKept.heap_alloc u3 _).1, HM.out.below ((Below.refl _ _).alloc (Nat.le_refl _) _) (by have := HZ.out; omega), HB3.out.alloc HB3.out.size _⟩
    case round =>
      obtain ⟨k, hk, rfl, hh, hM, hb⟩ := hrel
      clear hmk
      have HW : Hid _ := hb
      have HH : Hid (wr.heap[u3.heap.size]? = some (.cells (rdC (takN zs s zs.length) k zs.length) 37 (0, 0))) := hh
      have HMW : Hid (MemAt wr u2.heap.size s) := hM
      have HTS : Hid ((takN zs s zs.length).size = zs.length * 256) := takN_size HO.out _ (Nat.le_refl _)
      by_cases hlt : k < zs.length
      · obtain ⟨g, o, cap2, hv, hcp, hg, hc⟩ := HR.out.resolve_left (fun h => by rw [h.1] at hlt; simp at hlt)
        injection hv with hv1 hv2 hv3
        subst hv1 hv3
        have d1 := hc.below hb hg k hlt
        have hz := HO.out.at hlt
        have hcl := tk_cells HO.out hlt
        have hrs := rdC_step (takN zs s zs.length) k zs.length HTS.out hlt
        have hrz := rdC_size (takN zs s zs.length) k zs.length HTS.out hk
        rw [hcl] at hrs
        obtain ⟨z, hze⟩ : ∃ z, zs[k] = z := ⟨_, rfl⟩
        rw [hze] at d1 hz hrs
        obtain ⟨j, rfl⟩ : ∃ j : Nat, z = (j : Int) := ⟨z.toNat, by omega⟩
        rw [Int.toNat_natCast] at hrs
        have hj : j * 256 + 256 ≤ s.size := by omega
        have hjn : (j : Int) < (n : Int) := by omega
        have HJ : Hid (j * 256 + 256 ≤ s.size) := hj
        have HFS : Hid ((fr s j).size = 256) := fr_size s j hj
        have HCU : Hid (k * 256 + 256 ≤ (rdC (takN zs s zs.length) k zs.length).size) := (show k * 256 + 256 ≤ _ by rw [hrz]; omega)
        have HRS : Hid _ := hrs
        have hk0 : (0 : Int) ≤ (k : Int) := by omega
        have hk1 : (k : Int) < (zs.length : Int) := by omega
        have HN : Hid _ := hn
        clear hc hz hze hj hrs hrz hcl hh hM hb hn
        go_wp2_with (first
          | (refine wl_load rfl _ rfl u2.heap.size j s rfl HMW.out HJ.out ?_)
          | (refine wl_store rfl _ _ rfl u3.heap.size (k * 256) _ (fr s j) rfl rfl HH.out HFS.out HCU.out ?_; rw [HRS.out]))
        refine ⟨⟨k + 1, hlt, by go_num, setRow_heap _ _ _ _ _ _ HH.out, ?_, below_setRow HW.out HB3.out.size _⟩, by simp [intOf]; omega⟩
        exact (setRow_other _ _ _ _ (by have := HZ.out; omega)).trans HMW.out
      · obtain rfl : k = zs.length := by omega
        have hT := memText_any u3.heap.size (takN zs s zs.length) zs.length wr (by rw [rdC_all _ _ HTS.out] at hh; exact hh) HTS.out HL.out
        have HT : Hid _ := hT
        clear hT hh hM hb
        unfold mv at HT
        go_wp2_with (go_at_call 21; refine Calls.mono HT.out ?_; rintro e u5 ⟨rfl, hb⟩; have HB5 : Hid (Below w.heap.size w u5) := HW.out.trans (hb.mono HW.out.size); clear hb HT)
        go_ret
        exact ⟨ret_str E.out.symm, HB5.out⟩
end Go.Proofs.Ytjaelkagacmpkab
