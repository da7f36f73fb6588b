import Derived.Test.YtappocopgckhkaaMb2
import Derived.Test.YtappocopgckhkaaMb3
import Derived.Test.YtappocopgckhkaaRowI
import Derived.Test.YtappocopgckhkaaTB
import Derived.WalkKit
import Derived.ProofKit
import Derived.OpenShut
namespace Go.Proofs.Ytappocopgckhkaa
open Go.ChangeShapes Go.WideShapes Go.ChangeAt Go.RowKit

set_option maxRecDepth 100000 in
theorem open_rowI {H : Type} {enc : TypeId × Value → H} {W : World} {base : Nat} {v : Value} {d : DataW H} {p : List MemPlace} (hv : Value.okWide Try.prog W .any base 22 v)
    (h : DataW.Trod enc Try.prog W 0 (fun _ => true) true 22 v d p) : ∃ zs : List Int, Irow W v zs ∧ zs.length ≤ maxLen := by
  obtain ⟨a, len, cap, rfl⟩ := okWide_slice Try.underlying22 hv
  obtain ⟨fuel, hf⟩ := h
  exact open_iS hf
set_option maxRecDepth 100000 in
set_option maxHeartbeats 4000000 in
theorem walkMB {w : World} {v : Value} {zs : List Int} (h : Irow w v zs) (_hm : zs.length ≤ maxLen) (p : Int) (en : Int) : Calls Try.prog 3 #[v, .int .i64 p, .int .i64 en] w fun e w' => e = .returned (.bool true) ∧ Below w.heap.size w w' := by
  have HR : Hid (Irow w v zs) := h
  obtain ⟨ao, cap, rfl⟩ := h.sl
  clear h
  by_cases hs : (1048576 : Int) < (zs.length : Int)
  · have hd : decide ((1048576 : Int) < (zs.length : Int)) = true := decide_eq_true hs
    go_enter Try.func3, Try.ntmps3
    go_wp2
    go_ret
    exact ⟨rfl, Below.refl _ _⟩
  have HLN : Hid (zs.length ≤ 1048576) := (show zs.length ≤ 1048576 by omega)
  have hd : decide ((1048576 : Int) < (zs.length : Int)) = false := decide_eq_false hs
  clear hs _hm
  have HTO : Hid (∀ u, Aft w u → Calls Try.prog 7 #[.slice ao zs.length cap] u fun e w' => ∃ a2 k2, e = .returned (.slice a2 zs.length k2) ∧ Irow w' (.slice a2 zs.length k2) zs ∧ Below u.heap.size u w') := fun u hu => Calls.mono (toIS_any (HR.out.below hu.out) HLN.out) (by rintro e w' ⟨v2, rfl, ho, hb⟩; have h9 := Irow.of ho; obtain ⟨a2, k2, rfl⟩ := h9.sl; exact ⟨a2, k2, rfl, h9, hb⟩)
  have HSP : Hid (∀ u a2 k2, Irow u (.slice a2 zs.length k2) zs → Calls Try.prog 6 #[.slice a2 zs.length k2, .int .i64 p, .int .i64 en] u fun e w' => e = .returned (.string (mbV zs p en)) ∧ Below u.heap.size u w') := fun u a2 k2 hx => specMB_any hx p en
  have HIM : Hid (∀ u a2 k2, Irow u (.slice a2 zs.length k2) zs → Calls Try.prog 8 #[.slice a2 zs.length k2, .int .i64 p, .int .i64 en] u fun e w' => e = .returned (.string (mbV zs p en)) ∧ Below u.heap.size u w') := fun u a2 k2 hx => implMB_any hx HLN.out p en
  have HEQ : Hid (∀ u a2 k2 a3 k3, Irow u (.slice a2 zs.length k2) zs → Irow u (.slice a3 zs.length k3) zs → Calls Try.prog 9 #[.slice a2 zs.length k2, .slice a3 zs.length k3] u fun e w' => e = .returned (.bool true) ∧ Below u.heap.size u w') := fun u a2 k2 a3 k3 hx hy => eqIS_ok hx hy HLN.out
  generalize mbV zs p en = V at HSP HIM
  go_enter Try.func3, Try.ntmps3
  have HA0 : Hid (Aft w w) := (show Aft w w from ⟨Below.refl _ _⟩)
  go_wp2_with fail
  refine Calls.mono (HTO.out _ HA0.out) ?_
  rintro e u2 ⟨a2, k2, rfl, hx, hb⟩
  have HA2 : Hid (Aft w u2) := (show Aft w u2 from ⟨hb⟩)
  have HX2 : Hid (Irow u2 (.slice a2 zs.length k2) zs) := hx
  clear hx hb
  go_wp2_with fail
  refine Calls.mono (HSP.out _ _ _ HX2.out) ?_
  rintro e u3 ⟨rfl, hb⟩
  have HA3 : Hid (Aft w u3) := (show Aft w u3 from ⟨HA2.out.out.trans (hb.mono HA2.out.out.size)⟩)
  clear hb HX2
  go_wp2_with fail
  refine Calls.mono (HTO.out _ HA3.out) ?_
  rintro e u4 ⟨a4, k4, rfl, hx, hb⟩
  have HA4 : Hid (Aft w u4) := (show Aft w u4 from ⟨HA3.out.out.trans (hb.mono HA3.out.out.size)⟩)
  have HX4 : Hid (Irow u4 (.slice a4 zs.length k4) zs) := hx
  clear hx hb
  go_wp2_with fail
  refine Calls.mono (HIM.out _ _ _ HX4.out) ?_
  rintro e u5 ⟨rfl, hb⟩
  have HA5 : Hid (Aft w u5) := (show Aft w u5 from ⟨HA4.out.out.trans (hb.mono HA4.out.out.size)⟩)
  have HX5 : Hid (Irow u5 (.slice a4 zs.length k4) zs) := HX4.out.below hb
  clear hb HX4
  go_wp2_with fail
  refine Calls.mono (HTO.out _ HA5.out) ?_
  rintro e u6 ⟨a6, k6, rfl, hx, hb⟩
  have HA6 : Hid (Aft w u6) := (show Aft w u6 from ⟨HA5.out.out.trans (hb.mono HA5.out.out.size)⟩)
  have HX6 : Hid (Irow u6 (.slice a6 zs.length k6) zs) := hx
  have HY6 : Hid (Irow u6 (.slice a4 zs.length k4) zs) := HX5.out.below hb
  clear hx hb HX5
  go_wp2_with fail
  refine Calls.mono (HEQ.out _ _ _ _ _ HY6.out HX6.out) ?_
  rintro e u7 ⟨rfl, hb⟩
  have HA7 : Hid (Aft w u7) := (show Aft w u7 from ⟨HA6.out.out.trans (hb.mono HA6.out.out.size)⟩)
  clear hb HX6 HY6
  go_wp2
  go_ret
  exact ⟨rfl, HA7.out.out⟩
end Go.Proofs.Ytappocopgckhkaa
