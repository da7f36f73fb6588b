import Derived.Test.YtaobbddecmhpnaaRowI
import Derived.Test.YtaobbddecmhpnaaQu1
namespace Go.Proofs.Ytaobbddecmhpnaa
open Go.ChangeShapes Go.WideShapes Go.ChangeAt Go.RowKit

set_option maxRecDepth 100000
/-- An entry of a table. -/
def enB (d : Nat) (e : Int) : Bool := decide (-2 ≤ e ∧ e < (d : Int))
/-- A table. -/
def tblB (d n : Nat) (t : List Int) : Bool := decide (t.length = n ∧ ∀ k (hk : k < t.length), enB d t[k] = true)
theorem tblB_no {d n : Nat} {t : List Int} {k : Nat} (hk : k < t.length) (h : enB d t[k] = false) : tblB d n t = false := by
  refine decide_eq_false (fun ⟨_, h3⟩ => ?_)
  rw [h3 k hk] at h
  cases h
set_option maxHeartbeats 2000000 in
theorem l13Table_any {w : World} {v : Value} {t : List Int} (h : Irow w v t) (hl : t.length ≤ 1048576) (n d : Nat) : Calls Try.prog 31 #[v, .int .i64 n, .int .i64 d] w fun e w' => e = .returned (.bool (tblB d n t)) ∧ w' = w := by
  obtain ⟨ao, cap, rfl⟩ := h.sl
  by_cases hn : t.length = n
  · subst hn
    have HR : Hid (Irow w (.slice ao t.length cap) t) := h
    have HN : Hid (∀ k (hk : k < t.length), enB d t[k] = false → tblB d t.length t = false) := fun k hk h => tblB_no hk h
    have HY : Hid ((∀ k (hk : k < t.length), enB d t[k] = true) → tblB d t.length t = true) := fun h => decide_eq_true ⟨rfl, h⟩
    generalize tblB d t.length t = g at *
    clear h
    go_enter Try.func31, Try.ntmps31
    go_wp2
    go_loopw [7] (fun i wr => ∃ k : Nat, k ≤ t.length ∧ i = .int .i64 k ∧ (∀ j (hj : j < t.length), j < k → enB d t[j] = true) ∧ wr = w) (fun i _ => t.length - (intOf i).toNat)
    case atStart => exact ⟨0, Nat.zero_le _, rfl, fun j _ hj => absurd hj (Nat.not_lt_zero _), rfl⟩
    case round =>
      obtain ⟨k, hk, rfl, hal, rfl⟩ := hrel
      have HA : Hid (∀ j (hj : j < t.length), j < k → enB d t[j] = true) := hal
      clear hal
      by_cases hlt : k < t.length
      · obtain ⟨g', o, cap2, hv, _, hg, hc⟩ := HR.out.resolve_left (fun h => by rw [h.1] at hlt; simp at hlt)
        injection hv with hv1 hv2 hv3
        subst hv1 hv3
        have d0 := hc k hlt
        have HX : Hid (enB d t[k] = false → g = false) := fun h => HN.out k hlt h
        have HX2 : Hid (enB d t[k] = true → ∀ j (hj : j < t.length), j < k + 1 → enB d t[j] = true) := fun h j hl hj => by
          rcases Nat.lt_succ_iff_lt_or_eq.1 hj with h2 | h2
          · exact HA.out j hl h2
          · subst h2; exact h
        generalize t[k] = x at *
        have hk0 : (0 : Int) ≤ (k : Int) := by omega
        have hk1 : (k : Int) < (t.length : Int) := by omega
        clear hc hv2
        by_cases a1 : x < -2
        · have hg2 := HX.out (decide_eq_false (by omega))
          subst hg2
          go_wp2
          go_ret
          exact ⟨rfl, rfl⟩
        · by_cases a2 : (d : Int) ≤ x
          · have hg2 := HX.out (decide_eq_false (by omega))
            subst hg2
            go_wp2
            go_ret
            exact ⟨rfl, rfl⟩
          · have HG2 : Hid _ := HX2.out (decide_eq_true (by omega))
            go_wp2
            exact ⟨⟨k + 1, hlt, by simp, HG2.out, trivial⟩, by simp [intOf]; omega⟩
      · obtain rfl : k = t.length := by omega
        have hg := HY.out (fun j hj => HA.out j hj hj)
        subst hg
        go_wp2
        go_ret
        exact ⟨rfl, rfl⟩
  · have hg : tblB d n t = false := decide_eq_false (fun h => hn h.1)
    rw [hg]
    have hb : ((t.length : Int) == (n : Int)) = false := by simp; omega
    clear hg h
    go_enter Try.func31, Try.ntmps31
    go_wp2
    go_ret
    exact ⟨rfl, rfl⟩
end Go.Proofs.Ytaobbddecmhpnaa
