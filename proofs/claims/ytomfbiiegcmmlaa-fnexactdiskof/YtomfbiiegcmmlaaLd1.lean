import Derived.Test.YtomfbiiegcmmlaaDkZ
import Derived.Test.YtomfbiiegcmmlaaIg3
namespace Go.Proofs.Ytomfbiiegcmmlaa
open Go.ChangeShapes Go.WideShapes Go.ChangeAt Go.RowKit

set_option maxRecDepth 100000 in
set_option maxHeartbeats 4000000 in
theorem walkDk {w : World} {v : Value} {gs : List IG} {ms : List IM} (h : IGrow w v gs) (hi : IGin w gs ms) (hm : ms.length ≤ maxLen) (hM : ∀ k (hk : k < ms.length), IMax ms[k]) (n : ByteArray) : Calls Try.prog 4 #[v, .string n] w fun e w' => e = .returned (.bool true) ∧ Below w.heap.size w w' := by
  have HR : Hid (IGrow w v gs) := h
  have HI : Hid (IGin w gs ms) := hi
  have HS : Hid _ := fun q hq => szImageS_any h hi 1048576 (by omega) (by omega) hm hM q hq
  obtain ⟨ao, cap, rfl⟩ := h.sl
  clear h hi hm hM
  have hnn := totL_nn ms
  by_cases hn : 1048576 < n.size
  · have hni : (1048576 : Int) < (n.size : Int) := by omega
    go_enter Try.func4, Try.ntmps4
    go_wp2
    go_ret
    exact ⟨rfl, Below.refl _ _⟩
  have hni : ¬ (1048576 : Int) < (n.size : Int) := by omega
  have HNN : Hid (n.size ≤ 1048576) := (show n.size ≤ 1048576 by omega)
  by_cases hsz : (1048576 : Int) < (ms.length : Int) + totL ms
  · have hS := HS.out (-1) (by rw [if_pos hsz])
    have HS2 : Hid _ := hS
    clear hS HS hsz hnn
    go_enter Try.func4, Try.ntmps4
    go_wp2_with (go_at_call 6; refine Calls.mono HS2.out ?_; rintro e u1 ⟨rfl, hu1⟩; have HB1 : Hid (Below w.heap.size w u1) := hu1; clear hu1 HS2)
    go_ret
    exact ⟨rfl, HB1.out⟩
  · have HLN : Hid (ms.length ≤ 1048576) := (show ms.length ≤ 1048576 by omega)
    have HLL : Hid (∀ k (hk : k < ms.length), ILen ms[k]) := fun k hk => totI_len (by have := totL_el ms k hk; omega)
    obtain ⟨q, hq⟩ : ∃ q : Int, q = 1048576 - ((ms.length : Int) + totL ms) := ⟨_, rfl⟩
    have hS := HS.out q (by rw [if_neg hsz, hq])
    have HS2 : Hid _ := hS
    have hr2 : ¬ q < 0 := by omega
    clear hS HS hsz hnn hq
    generalize hres : dkO ms n = res
    have HRES : Hid (dkO ms n = res) := hres
    clear hres
    go_enter Try.func4, Try.ntmps4
    go_wp2_with (first
      | (go_at_call 6; refine Calls.mono HS2.out ?_; rintro e u1 ⟨rfl, hu1⟩; have HB1 : Hid (Below w.heap.size w u1) := hu1; clear hu1 HS2)
      | (go_at_call 8; have hA := toImageS_any (HR.out.below HB1.out) (HI.out.below HB1.out) HLN.out HLL.out; refine Calls.mono hA ?_; clear hA; rintro e u2 ⟨v2, gs2, rfl, ho, hw, hb⟩; obtain ⟨a2, k2, rfl⟩ := ig_sl ho; have HR2 : Hid (IGrow u2 (.slice a2 gs2.length k2) gs2) := IGrow.of ho; have HI2 : Hid (IGin u2 gs2 ms) := hw.inn; have HB2 : Hid (Below w.heap.size w u2) := HB1.out.trans (hb.mono HB1.out.size);  clear ho hw hb HB1)
      | (go_at_call 12; have hA := specDisk_any HR2.out HI2.out HLN.out HLL.out n; rw [HRES.out] at hA; refine Calls.mono hA ?_; clear hA; rintro e u3 ⟨rfl, hb⟩; have HB3 : Hid (Below w.heap.size w u3) := HB2.out.trans (hb.mono HB2.out.size); clear hb HB2 HR2 HI2)
      | (go_at_call 8; have hA := toImageS_any (HR.out.below HB3.out) (HI.out.below HB3.out) HLN.out HLL.out; refine Calls.mono hA ?_; clear hA; rintro e u4 ⟨v4, gs4, rfl, ho, hw, hb⟩; obtain ⟨a4, k4, rfl⟩ := ig_sl ho; have HR4 : Hid (IGrow u4 (.slice a4 gs4.length k4) gs4) := IGrow.of ho; have HI4 : Hid (IGin u4 gs4 ms) := hw.inn; have HB4 : Hid (Below w.heap.size w u4) := HB3.out.trans (hb.mono HB3.out.size);  clear ho hw hb HB3)
      | (go_at_call 13; have hA := implDisk_any HR4.out HI4.out HLN.out HLL.out n HNN.out; rw [HRES.out] at hA; refine Calls.mono hA ?_; clear hA; rintro e u6 ⟨rfl, hb⟩; have HB6 : Hid (Below w.heap.size w u6) := HB4.out.trans (hb.mono HB4.out.size); have HR6 : Hid (IGrow u6 (.slice a4 gs4.length k4) gs4) := HR4.out.below hb; have HI6 : Hid (IGin u6 gs4 ms) := HI4.out.below hb; clear hb HB4 HR4 HI4)
      | (go_at_call 8; have hA := toImageS_any (HR.out.below HB6.out) (HI.out.below HB6.out) HLN.out HLL.out; refine Calls.mono hA ?_; clear hA; rintro e u7 ⟨v7, gs7, rfl, ho, hw, hb⟩; obtain ⟨a7, k7, rfl⟩ := ig_sl ho; have HR7 : Hid (IGrow u7 (.slice a7 gs7.length k7) gs7) := IGrow.of ho; have HI7 : Hid (IGin u7 gs7 ms) := hw.inn; have HB7 : Hid (Below w.heap.size w u7) := HB6.out.trans (hb.mono HB6.out.size); have HR6x : Hid (IGrow u7 (.slice a4 gs4.length k4) gs4) := HR6.out.below hb; have HI6x : Hid (IGin u7 gs4 ms) := HI6.out.below hb; clear ho hw hb HB6)
      | (go_at_call 11; refine Calls.mono (eqImageS_ok HR6x.out HI6x.out HR7.out HI7.out HLN.out HLL.out) ?_; rintro e u8 ⟨rfl, hb⟩; have HB8 : Hid (Below w.heap.size w u8) := HB7.out.trans (hb.mono HB7.out.size); clear hb HB7))
    go_ret
    exact ⟨rfl, HB8.out⟩
end Go.Proofs.Ytomfbiiegcmmlaa
