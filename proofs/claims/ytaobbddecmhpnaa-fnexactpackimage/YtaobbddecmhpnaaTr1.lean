import Derived.Test.YtaobbddecmhpnaaIt1
import Derived.Test.YtaobbddecmhpnaaIs2
import Derived.Test.YtaobbddecmhpnaaIdxI
import Derived.BigQuiet
namespace Go.Proofs.Ytaobbddecmhpnaa
open Go.ChangeShapes Go.WideShapes Go.ChangeAt Go.RowKit

set_option maxRecDepth 100000
set_option maxHeartbeats 2000000 in
theorem isEntry_any {w : World} {B : Nat} {m : IM} {a : IA} (h : PB w B m a) (hl : m.d.length ≤ 1048576) (x : Int) : Calls Try.prog 55 #[.pointer (some ⟨B, 0, none⟩), .int .i64 x] w fun r w' => r = .returned (.bool (enB m.d.length x)) ∧ w' = w := by
  have c3 := h.c3
  obtain ⟨ad, kd, hd⟩ := h.row.d.sl
  rw [hd] at c3
  have HW : Hid _ := fun u => isWithin_any m.d.length x 1 u hl ⟨by omega, by omega⟩
  have HE : Hid (enB m.d.length x = decide (-2 ≤ x ∧ x < (m.d.length : Int))) := (show enB m.d.length x = _ from rfl)
  have HE2 : Hid (inW m.d.length x 1 = decide (0 ≤ x ∧ x < (m.d.length : Int))) := (show inW m.d.length x 1 = _ by unfold inW; exact decide_eq_decide.2 (by omega))
  have hlt := h.lt
  clear h hd
  generalize enB m.d.length x = g at *
  generalize inW m.d.length x 1 = q at *
  by_cases q1 : x = -1
  · subst q1
    obtain rfl : g = true := HE.out.trans (decide_eq_true (by omega))
    go_enter Try.func55, Try.ntmps55
    go_wp2
    go_ret
    exact ⟨rfl, rfl⟩
  by_cases q2 : x = -2
  · subst q2
    obtain rfl : g = true := HE.out.trans (decide_eq_true (by omega))
    go_enter Try.func55, Try.ntmps55
    go_wp2
    go_ret
    exact ⟨rfl, rfl⟩
  have e1 : (x == -1) = false := by simpa using q1
  have e2 : (x == -2) = false := by simpa using q2
  have HG : Hid (g = q) := (show g = q by rw [HE.out, HE2.out]; exact decide_eq_decide.2 (by omega))
  clear HE HE2 q1 q2
  go_enter Try.func55, Try.ntmps55
  go_wp2_with (go_at_call 63; refine Calls.mono (HW.out _) ?_; rintro e u1 ⟨rfl, hu⟩; rw [hu]; clear hu)
  go_ret
  exact ⟨ret_bool HG.out.symm, rfl⟩
set_option maxHeartbeats 2000000 in
theorem notEntry_any {w : World} {B Bc : Nat} {m : IM} {a : IA} (h : PB w B m a) (hl : m.d.length ≤ 1048576) (hc : w.cell? ⟨Bc, 0, none⟩ = some (.pointer (some ⟨B, 0, none⟩))) (x : Int) : Calls Try.prog 54 #[.int .i64 x, .pointer (some ⟨Bc, 0, none⟩)] w fun r w' => r = .returned (.bool (!enB m.d.length x)) ∧ w' = w := by
  have HI : Hid _ := isEntry_any h hl x
  clear h
  go_enter Try.func54, Try.ntmps54
  go_wp2_with (go_at_call 55; refine Calls.mono HI.out ?_; rintro e u1 ⟨rfl, hu⟩; rw [hu]; clear hu)
  go_ret
  exact ⟨rfl, rfl⟩
end Go.Proofs.Ytaobbddecmhpnaa
