import Derived.Test.YtomfbiiegcmmlabCt2
import Derived.Test.YtomfbiiegcmmlabMh7
namespace Go.Proofs.Ytomfbiiegcmmlab
open Go.ChangeShapes Go.WideShapes Go.ChangeAt Go.RowKit

set_option maxRecDepth 100000
set_option maxHeartbeats 4000000 in
theorem markIS_w {w : World} {lo hi n : Nat} {v : Value} (k0 : Nat) (h : WS 2 w lo hi v n 1) (hn : n ≤ 1048576) (hk2 : k0 ≤ 140737488355328) : Calls Try.prog 78 #[v, .int .i64 (k0 : Nat)] w fun e w' => e = .returned (.int .i64 ((k0 + n : Nat) : Int)) ∧ MK 2 lo hi w w' := by
  obtain ⟨ao, cap, rfl⟩ := h.sl
  have HW : Hid (WS 2 w lo hi (.slice ao n cap) n 1) := h
  clear h
  go_enter Try.func78, Try.ntmps78
  go_wp2
  go_loopw [1, 5] (fun x i wr => ∃ k : Nat, k ≤ n ∧ x = .int .i64 ((k0 + k : Nat) : Int) ∧ i = .int .i64 (k : Nat) ∧ MK 2 lo hi w wr) (fun _ i _ => n - (intOf i).toNat)
  case atStart => exact ⟨0, Nat.zero_le _, rfl, rfl, MK.refl _ _ _ _⟩
  case round =>
    obtain ⟨k, hk, rfl, rfl, hm⟩ := hrel
    have HM : Hid (MK 2 lo hi w wr) := hm
    by_cases hlt : k < n
    · have hws := HW.out.mk hm
      rcases HW.out with ⟨hn0, _⟩ | ⟨g, o, cap2, cur, hv, _⟩
      · omega
      injection hv with e1 e2 e3
      subst e1 e3
      obtain ⟨kk, hkk⟩ : ∃ kk : Nat, k0 + k = kk := ⟨_, rfl⟩
      have hkn : ((k0 + k : Nat) : Int) = (kk : Int) := by omega
      rw [hkn]
      obtain ⟨⟨y, hy⟩, hfz, hg1, hg2, cur3, hcur⟩ := hws.cell k (by omega)
      have HMS : Hid (MK 2 lo hi w (wr.setCell ⟨g, o + k, none⟩ (.int .i64 (kk : Nat)))) := HM.out.trans (MK.set hg1 hg2 hcur)
      have hgl : g < wr.heap.size := (Array.getElem?_eq_some_iff.1 hcur).1
      have hk0 : (0 : Int) ≤ (k : Int) := by omega
      have hk1' : (k : Int) < (n : Int) := by omega
      have hkb : kk ≤ 281474976710656 := by omega
      have HKK : Hid (k0 + k = kk) := hkk
      clear hws hm hkk hkn hcur
      go_wp2
      exact ⟨⟨k + 1, by omega, by have := HKK.out; simp; omega, by simp, HMS.out⟩, by simp [intOf]; omega⟩
    · obtain rfl : k = n := by omega
      go_wp2
      go_ret
      exact ⟨rfl, hm⟩
set_option maxHeartbeats 4000000 in
theorem markSL_w {w : World} {lo hi n : Nat} {v : Value} (k0 : Nat) (h : WS 70 w lo hi v n 3) (hn : n ≤ 1048576) (hk2 : k0 ≤ 140737488355328) : Calls Try.prog 77 #[v, .int .i64 (k0 : Nat)] w fun e w' => e = .returned (.int .i64 ((k0 + n * 3 : Nat) : Int)) ∧ MK 70 lo hi w w' := by
  obtain ⟨ao, cap, rfl⟩ := h.sl
  have HW : Hid (WS 70 w lo hi (.slice ao n cap) n 3) := h
  clear h
  go_enter Try.func77, Try.ntmps77
  go_wp2
  go_loopw [1, 5] (fun x i wr => ∃ k : Nat, k ≤ n ∧ x = .int .i64 ((k0 + k * 3 : Nat) : Int) ∧ i = .int .i64 (k : Nat) ∧ MK 70 lo hi w wr) (fun _ i _ => n - (intOf i).toNat)
  case atStart => exact ⟨0, Nat.zero_le _, rfl, rfl, MK.refl _ _ _ _⟩
  case round =>
    obtain ⟨k, hk, rfl, rfl, hm⟩ := hrel
    have HM : Hid (MK 70 lo hi w wr) := hm
    by_cases hlt : k < n
    · have hws := HW.out.mk hm
      rcases HW.out with ⟨hn0, _⟩ | ⟨g, o, cap2, cur, hv, _⟩
      · omega
      injection hv with e1 e2 e3
      subst e1 e3
      obtain ⟨kk, hkk⟩ : ∃ kk : Nat, k0 + k * 3 = kk := ⟨_, rfl⟩
      have hkn : ((k0 + k * 3 : Nat) : Int) = (kk : Int) := by omega
      rw [hkn]
      obtain ⟨⟨y0, hy0⟩, hf0, hg1, hg2, cur3, hcur⟩ := hws.cell (k * 3) (by omega)
      obtain ⟨⟨y1, hy1⟩, hf1, _⟩ := hws.cell (k * 3 + 1) (by omega)
      obtain ⟨⟨y2, hy2⟩, hf2, _⟩ := hws.cell (k * 3 + 2) (by omega)
      rw [← Nat.add_assoc] at hy1 hf1 hy2 hf2
      have hm1 : MK 70 lo hi wr (wr.setCell ⟨g, o + k * 3, none⟩ (.int .i64 (kk : Nat))) := MK.set hg1 hg2 hcur
      obtain ⟨c1, hc1, _⟩ := hm1.shp g _ hcur
      have hm2 : MK 70 lo hi (wr.setCell ⟨g, o + k * 3, none⟩ (.int .i64 (kk : Nat))) ((wr.setCell ⟨g, o + k * 3, none⟩ (.int .i64 (kk : Nat))).setCell ⟨g, o + k * 3 + 1, none⟩ (.int .i64 ((kk : Nat) + 1))) := MK.set hg1 hg2 hc1
      obtain ⟨c2, hc2, _⟩ := hm2.shp g _ hc1
      have hm3 : MK 70 lo hi ((wr.setCell ⟨g, o + k * 3, none⟩ (.int .i64 (kk : Nat))).setCell ⟨g, o + k * 3 + 1, none⟩ (.int .i64 ((kk : Nat) + 1))) (((wr.setCell ⟨g, o + k * 3, none⟩ (.int .i64 (kk : Nat))).setCell ⟨g, o + k * 3 + 1, none⟩ (.int .i64 ((kk : Nat) + 1))).setCell ⟨g, o + k * 3 + 2, none⟩ (.int .i64 ((kk : Nat) + 1 + 1))) := MK.set hg1 hg2 hc2
      have HMS : Hid (MK 70 lo hi w (((wr.setCell ⟨g, o + k * 3, none⟩ (.int .i64 (kk : Nat))).setCell ⟨g, o + k * 3 + 1, none⟩ (.int .i64 ((kk : Nat) + 1))).setCell ⟨g, o + k * 3 + 2, none⟩ (.int .i64 ((kk : Nat) + 1 + 1)))) := HM.out.trans (hm1.trans (hm2.trans hm3))
      have hgl : g < wr.heap.size := (Array.getElem?_eq_some_iff.1 hcur).1
      have hk0 : (0 : Int) ≤ (k : Int) := by omega
      have hk1' : (k : Int) < (n : Int) := by omega
      have hkb : kk ≤ 140737488355328 + 3145728 := by omega
      have HKK : Hid (k0 + k * 3 = kk) := hkk
      clear hws hm hkk hkn hcur hm1 hm2 hm3 hc1 hc2
      go_wp2
      refine ⟨⟨k + 1, by omega, by have := HKK.out; simp; omega, by simp, ?_⟩, by simp [intOf]; omega⟩
      exact HMS.out
    · obtain rfl : k = n := by omega
      go_wp2
      go_ret
      exact ⟨rfl, hm⟩
end Go.Proofs.Ytomfbiiegcmmlab
