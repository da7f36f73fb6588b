import Derived.Test.YthhbfghbpapklaaPb3
import Derived.Laws.AppendOwn
namespace Go.Proofs.Ythhbfghbpapklaa
open Go.ChangeShapes Go.WideShapes Go.ChangeAt Go.RowKit

theorem ex_cat (s : ByteArray) (a b c : Nat) (h1 : a ≤ b) (h2 : b ≤ c) (_h3 : c ≤ s.size) : (s.extract a b).data.toList ++ (s.extract b c).data.toList = (s.extract a c).data.toList := by
  rw [ex_list, ex_list, ex_list, show c - a = (b - a) + (c - b) by omega, List.take_add, List.drop_drop, show a + (b - a) = b by omega]
theorem c8app (a b : List UInt8) : cells8 (a ++ b) = cells8 a ++ cells8 b := by simp [cells8]
theorem ow_sl {w : World} {B n e z : Nat} {v : Value} {xs : List Value} (h : w.ownsRow B e z v n xs) : ∃ ao cap, v = .slice ao n cap := by
  rcases h.2 with ⟨rfl, e⟩ | ⟨g, cap, cur, rfl, _⟩
  · exact ⟨none, 0, by rw [e]⟩
  · exact ⟨_, cap, rfl⟩
theorem da_mem {w : World} {mb : Nat} {s : ByteArray} (h : MemAt w mb s) : DA w mb 0 s := by
  refine ⟨fun j v hv => ?_, h.lt⟩
  have h2 : w.heap[mb]? = some (.cells (mcel s) 105 (0, 0)) := h
  simp only [World.cell?, h2, Nat.zero_add]
  unfold mcel
  simpa using hv
theorem da_piece {w : World} {mb : Nat} {s : ByteArray} (h : MemAt w mb s) (p c : Nat) (hp : p + c ≤ s.size) : DA w mb p (s.extract p (p + c)) := by
  have h2 := ((da_mem h).from p).to c
  rw [Nat.zero_add] at h2
  have e : (s.extract p s.size).extract 0 c = s.extract p (p + c) := ba_ext (by
    rw [ex_list, ex_list, ex_list, List.drop_zero, List.take_take]
    congr 1
    omega)
  rw [e] at h2
  exact h2
set_option maxRecDepth 100000 in
set_option maxHeartbeats 4000000 in
theorem appendBytes_any {w : World} {mb n B : Nat} {s : ByteArray} {v : Value} {bs : List UInt8} (p L : Nat) (h : MemAt w mb s) (ho : w.ownsRow B 5 1 v bs.length (cells8 bs)) (hmB : mb < B) (hBw : B ≤ w.heap.size) (hn : s.size = n * 256) (hs : s.size ≤ 65536) (hp : p + L ≤ s.size) (hl : bs.length ≤ 1048576) :
    Calls Try.prog 66 #[mv mb n, v, .int .i64 p, .int .i64 L] w fun e w' => ∃ v', e = .returned v' ∧ w'.ownsRow B 5 1 v' (bs.length + L) (cells8 (bs ++ (s.extract p (p + L)).data.toList)) ∧ Below B w w' := by
  obtain ⟨i0, hi, hz0, hz1, hz2⟩ := info_parts Try.info5
  have HRO : Hid (∀ (k : Nat) (u : World), k < n * 256 → Calls Try.prog 76 #[mv mb n, .int .i64 k] u fun e w' => e = .returned (.slice (some ⟨mb, k, none⟩) (256 - k % 256) (256 - k % 256)) ∧ w' = u) := fun k u hk => restOf_any mb n k u hk (by omega)
  have HM0 : Hid (MemAt w mb s) := h
  obtain ⟨ao0, cap0, rfl⟩ := ow_sl ho
  have HO0 : Hid _ := ho
  have HL : Hid (bs.length ≤ 1048576) := hl
  have HC0 : Hid (s.size = n * 256 ∧ s.size ≤ 65536 ∧ p + L ≤ s.size ∧ mb < B ∧ B ≤ w.heap.size) := ⟨hn, hs, hp, hmB, hBw⟩
  clear h ho hn hs hp hmB hBw hl
  unfold mv at HRO ⊢
  go_enter Try.func66, Try.ntmps66
  go_wp2_with fail
  go_loopg [1, 2, 3] L (fun gh s1 s2 s3 wr => ∃ (ao : Option Addr) (cap : Nat) (bs1 : List UInt8) (p1 L1 : Nat), s1 = .slice ao bs1.length cap ∧ s2 = .int .i64 p1 ∧ s3 = .int .i64 L1 ∧ gh = L1 ∧ Hid (wr.ownsRow B 5 1 (.slice ao bs1.length cap) bs1.length (cells8 bs1)) ∧ Hid (Below B w wr) ∧ Hid (p1 + L1 = p + L ∧ p ≤ p1) ∧ Hid (bs1 = bs ++ (s.extract p p1).data.toList))
  case atStart => exact ⟨ao0, cap0, bs, p, L, rfl, rfl, rfl, rfl, HO0, Below.refl _ _, ⟨rfl, Nat.le_refl _⟩, by show _ = _; rw [ex_list]; simp⟩
  case round =>
    obtain ⟨ao, cap, bs1, p1, L1, rfl, rfl, rfl, hgk, HO, HB, HC, HE⟩ := hrel
    clear HO0
    have HBL : Hid (bs1.length ≤ 1048576 + 65536) := by
      have h1 := congrArg List.length HE.out
      rw [List.length_append, ex_list, List.length_take] at h1
      have := HC0.out
      have := HC.out
      have := HL.out
      exact (show bs1.length ≤ 1048576 + 65536 by omega)
    clear HL
    have HL : Hid _ := HBL
    clear HBL
    by_cases h0 : L1 = 0
    · have hz0 : ¬ (0 : Int) < ((L1 : Nat) : Int) := by omega
      have hz : p1 = p + L := by have := HC.out; omega
      subst hz
      have HE2 : Hid (bs1.length = bs.length + L) := by
        have h1 := congrArg List.length HE.out
        rw [List.length_append, ex_list, List.length_take, List.length_drop] at h1
        have := HC0.out
        have h2 := bsize s
        exact (show bs1.length = bs.length + L by omega)
      go_wp2_with fail
      go_ret
      have h9 := HO.out
      have h8 := HE2.out
      rw [HE.out] at h9 h8
      rw [h8] at h9
      refine ⟨_, by rw [HE2.out], ?_, HB.out⟩
      first | exact h9 | (rw [ex_list, Nat.add_sub_cancel_left] at h9; exact h9)
    have hz : (0 : Int) < ((L1 : Nat) : Int) := by omega
    have hpb : (p1 : Int) ≤ 65536 := by have := HC.out; have := HC0.out; omega
    have hgb : (L1 : Int) ≤ 65536 := by have := HC.out; have := HC0.out; omega
    have HR1 : Hid _ := fun u => HRO.out p1 u (by have := HC.out; have := HC0.out; omega)
    have hRM : 0 < 256 - p1 % 256 := by omega
    generalize 256 - p1 % 256 = RM at *
    clear HRO
    by_cases hcm : RM < L1
    · obtain ⟨c, rfl⟩ : ∃ c, c = RM := ⟨_, rfl⟩
      have hcb : (c : Int) ≤ 65536 := by have := HC0.out; have := HC.out; omega
      have hnw : (s.extract p1 (p1 + c)).size = c := by rw [ex_size _ _ _ (by have := HC0.out; have := HC.out; omega)]; omega
      have HNW : Hid (DA wr mb p1 (s.extract p1 (p1 + c))) := da_piece (HM0.out.below HB.out HC0.out.2.2.2.1) p1 c (by have := HC0.out; have := HC.out; omega)
      have hslh := fun w => slBh w mb p1 c c c (by omega)
      obtain ⟨nw, hnwE⟩ : ∃ nw, nw = (s.extract p1 (p1 + c)).data.toList := ⟨_, rfl⟩
      have HNE : Hid _ := hnwE
      have HNC : Hid (∀ j v, (cells8 nw)[j]? = some v → wr.cell? ⟨mb, p1 + j, none⟩ = some v) := fun j v hv => HNW.out.cel j v (hnwE ▸ hv)
      have hnl : nw.length = c := by rw [hnwE, bsize, hnw]
      clear hnwE HNW hnw
      go_wp2_with (first | (go_at_call 76; refine Calls.mono (HR1.out _) ?_; rintro e u1 ⟨rfl, hu⟩; rw [hu]; clear hu) | (at_builtin; refine wpList_append_own _ rfl _ _ 65 rfl B 5 i0 (.int .u8 0) 1 1 Try.underlying65 hi hz0 hz1 hz2 rfl (by decide) (.slice ao bs1.length cap) bs1.length (cells8 bs1) rfl HO.out ⟨mb, p1, none⟩ c c (cells8 nw) rfl (by rw [show (cells8 nw).length = nw.length from List.length_map _, hnl, Nat.mul_one]) (fun j v hv => ?ca1) (cells8_one _) (by have := HC0.out; have := HC.out; have := HL.out; unfold maxLen; omega) (by have := HC0.out; have := HC.out; have := HL.out; omega) (by have := HC0.out; have := HB.out.size; omega) ?_))
      case ca1 =>
        have ha : (⟨mb, p1, none⟩ : Addr).add j = ⟨mb, p1 + j, none⟩ := by unfold Addr.add; split <;> simp_all
        rw [ha]
        exact HNC.out j v hv
      intro v2 w2 hown2 hgrow _
      rw [← c8app] at hown2
      obtain ⟨ao2, cap2, rfl⟩ := ow_sl hown2
      have HO2 : Hid _ := hown2
      have HB2 : Hid (Below B w w2) := HB.out.grown hgrow (by have := HC0.out; have := HB.out.size; omega) (fun k hk => (HO.out.lt k hk).1)
      have HHW : Hid _ := hnl
      clear hown2 hgrow hnl hslh HO HB HNC
      go_wp2_with fail
      go_roundg (L1 - c)
      case measure => omega
      case rel =>
        have hL : bs1.length + c = (bs1 ++ nw).length := by rw [List.length_append, HHW.out]
        refine ⟨ao2, cap2, bs1 ++ nw, p1 + c, L1 - c, by rw [hL], by simp, by first | (simp; done) | (simp; omega), by omega, ?_, ?_, ⟨by have := HC.out; omega, by have := HC.out; omega⟩, ?_⟩
        · have h9 := HO2.out
          rw [hL] at h9
          exact h9
        · exact HB2.out
        · show _ = _
          rw [HE.out, HNE.out, List.append_assoc, ex_cat s p p1 (p1 + c) HC.out.2 (by omega) (by have := HC0.out; have := HC.out; omega)]
    · obtain ⟨c, rfl⟩ : ∃ c, c = L1 := ⟨_, rfl⟩
      have hcb : (c : Int) ≤ 65536 := by have := HC0.out; have := HC.out; omega
      have hnw : (s.extract p1 (p1 + c)).size = c := by rw [ex_size _ _ _ (by have := HC0.out; have := HC.out; omega)]; omega
      have HNW : Hid (DA wr mb p1 (s.extract p1 (p1 + c))) := da_piece (HM0.out.below HB.out HC0.out.2.2.2.1) p1 c (by have := HC0.out; have := HC.out; omega)
      have hslh := fun w => slBh w mb p1 RM RM c (by omega)
      obtain ⟨nw, hnwE⟩ : ∃ nw, nw = (s.extract p1 (p1 + c)).data.toList := ⟨_, rfl⟩
      have HNE : Hid _ := hnwE
      have HNC : Hid (∀ j v, (cells8 nw)[j]? = some v → wr.cell? ⟨mb, p1 + j, none⟩ = some v) := fun j v hv => HNW.out.cel j v (hnwE ▸ hv)
      have hnl : nw.length = c := by rw [hnwE, bsize, hnw]
      clear hnwE HNW hnw
      go_wp2_with (first | (go_at_call 76; refine Calls.mono (HR1.out _) ?_; rintro e u1 ⟨rfl, hu⟩; rw [hu]; clear hu) | (at_builtin; refine wpList_append_own _ rfl _ _ 65 rfl B 5 i0 (.int .u8 0) 1 1 Try.underlying65 hi hz0 hz1 hz2 rfl (by decide) (.slice ao bs1.length cap) bs1.length (cells8 bs1) rfl HO.out ⟨mb, p1, none⟩ c RM (cells8 nw) rfl (by rw [show (cells8 nw).length = nw.length from List.length_map _, hnl, Nat.mul_one]) (fun j v hv => ?ca1) (cells8_one _) (by have := HC0.out; have := HC.out; have := HL.out; unfold maxLen; omega) (by have := HC0.out; have := HC.out; have := HL.out; omega) (by have := HC0.out; have := HB.out.size; omega) ?_))
      case ca1 =>
        have ha : (⟨mb, p1, none⟩ : Addr).add j = ⟨mb, p1 + j, none⟩ := by unfold Addr.add; split <;> simp_all
        rw [ha]
        exact HNC.out j v hv
      intro v2 w2 hown2 hgrow _
      rw [← c8app] at hown2
      obtain ⟨ao2, cap2, rfl⟩ := ow_sl hown2
      have HO2 : Hid _ := hown2
      have HB2 : Hid (Below B w w2) := HB.out.grown hgrow (by have := HC0.out; have := HB.out.size; omega) (fun k hk => (HO.out.lt k hk).1)
      have HHW : Hid _ := hnl
      clear hown2 hgrow hnl hslh HO HB HNC
      go_wp2_with fail
      go_roundg (c - c)
      case measure => omega
      case rel =>
        have hL : bs1.length + c = (bs1 ++ nw).length := by rw [List.length_append, HHW.out]
        refine ⟨ao2, cap2, bs1 ++ nw, p1 + c, c - c, by rw [hL], by simp, by first | (simp; done) | (simp; omega), by omega, ?_, ?_, ⟨by have := HC.out; omega, by have := HC.out; omega⟩, ?_⟩
        · have h9 := HO2.out
          rw [hL] at h9
          exact h9
        · exact HB2.out
        · show _ = _
          rw [HE.out, HNE.out, List.append_assoc, ex_cat s p p1 (p1 + c) HC.out.2 (by omega) (by have := HC0.out; have := HC.out; omega)]
end Go.Proofs.Ythhbfghbpapklaa
