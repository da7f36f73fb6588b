import Derived.Test.YtmbdclbddbbdpaaMFb
import Derived.Test.YtmbdclbddbbdpaaNewM3
namespace Go.Proofs.Ytmbdclbddbbdpaa
open Go.ChangeShapes Go.WideShapes Go.ChangeAt Go.RowKit

/-- Whether the control words are right. -/
def ctlB (cs : List Int) : Bool := wordsB cs 12 && decide (cs.getD 0 0 ≤ 31) && decide (cs.getD 8 0 = 0) && decide (cs.getD 9 0 = 0) && decide (cs.getD 11 0 = 0)
theorem Irow.at {w : World} {ao : Option Addr} {cap n : Nat} {zs : List Int} (h : Irow w (.slice ao n cap) zs) (hn : zs.length = n) (hp : 0 < n) : ∃ g o, ao = some ⟨g, o, none⟩ ∧ g < w.heap.size ∧ n ≤ cap ∧ ∀ k, k < n → w.cell? ⟨g, o + k, none⟩ = some (.int .i64 (zs.getD k 0)) := by
  rcases h with ⟨h1, _⟩ | ⟨g, o, cap2, hv, hc, hg, ha⟩
  · rw [h1] at hn
    simp at hn
    omega
  · injection hv with e1 e2 e3
    subst e1 e3
    refine ⟨g, o, rfl, hg, by omega, fun k hk => ?_⟩
    rw [ha k (by omega)]
    simp [List.getD, List.getElem?_eq_getElem (show k < zs.length by omega)]
set_option maxRecDepth 100000 in
set_option maxHeartbeats 4000000 in
theorem isControl_any {w : World} {v : Value} {cs : List Int} (h : Irow w v cs) (hl : cs.length ≤ 1048576) : Calls Try.prog 48 #[v] w fun e w' => e = .returned (.bool (ctlB cs)) ∧ Below w.heap.size w w' := by
  obtain ⟨ao, cap, rfl⟩ := h.sl
  have hw0 := areWords_any h hl 12
  unfold ctlB
  cases hq : wordsB cs 12
  · rw [hq] at hw0
    have HW : Hid (Calls Try.prog 47 #[.slice ao cs.length cap, .int .i64 12] w fun e w' => e = .returned (.bool false) ∧ Below w.heap.size w w') := hw0
    clear hw0 h hq
    go_enter Try.func48, Try.ntmps48
    go_wp2_with (go_at_call 47; refine Calls.mono HW.out ?_; rintro e u1 ⟨rfl, hu1⟩)
    go_ret
    exact ⟨rfl, hu1⟩
  · rw [hq] at hw0
    have hn : cs.length = 12 := by
      unfold wordsB at hq
      rw [Bool.and_eq_true] at hq
      exact of_decide_eq_true hq.1
    have HW : Hid (Calls Try.prog 47 #[.slice ao cs.length cap, .int .i64 12] w fun e w' => e = .returned (.bool true) ∧ Below w.heap.size w w') := hw0
    rw [hn] at h HW ⊢
    obtain ⟨g, o, rfl, hg, hcap, hc⟩ := h.at hn (by omega)
    have e0 := hc 0 (by omega)
    have e8 := hc 8 (by omega)
    have e9 := hc 9 (by omega)
    have e11 := hc 11 (by omega)
    rw [Nat.add_zero] at e0
    generalize cs.getD 0 0 = x0 at *
    generalize cs.getD 8 0 = x8 at *
    generalize cs.getD 9 0 = x9 at *
    generalize cs.getD 11 0 = x11 at *
    clear hw0 h hq hc
    go_enter Try.func48, Try.ntmps48
    go_wp2_with (go_at_call 47; refine Calls.mono HW.out ?_; rintro e u1 ⟨rfl, hu1⟩; have f0 := (World.cell?_of_block (a := ⟨g, o, none⟩) (hu1.block g hg)).trans e0; have f8 := (World.cell?_of_block (a := ⟨g, o + 8, none⟩) (hu1.block g hg)).trans e8; have f9 := (World.cell?_of_block (a := ⟨g, o + 9, none⟩) (hu1.block g hg)).trans e9; have f11 := (World.cell?_of_block (a := ⟨g, o + 11, none⟩) (hu1.block g hg)).trans e11; have HB : Hid (Below w.heap.size w u1) := hu1; clear hu1 HW)
    all_goals go_ret
    all_goals refine ⟨ret_bool ?_, HB.out⟩
    all_goals first
      | (simp; omega)
      | (simp_all; done)
      | (simp_all; omega)
      | (simp [*] <;> rfl)
end Go.Proofs.Ytmbdclbddbbdpaa
