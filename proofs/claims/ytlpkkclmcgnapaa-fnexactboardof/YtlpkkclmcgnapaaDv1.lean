import Derived.Test.YtlpkkclmcgnapaaBd1
import Derived.Test.YtlpkkclmcgnapaaLG
import Derived.BigQuiet
import Derived.Deep.DeepCutAuto
namespace Go.Proofs.Ytlpkkclmcgnapaa
open Go.ChangeShapes Go.WideShapes Go.ChangeAt Go.RowKit

/-- A device is right. -/
def dvB (z : DV) : Bool := (decide (1 ≤ z.kind) && decide (z.kind ≤ 255) && decide (0 ≤ z.port) && decide (z.port ≤ 2047) && decide (0 ≤ z.line) && decide (z.line < 7))
def allD (p : Nat → Bool) (k : Nat) : Bool := (List.range k).all p
theorem allD_succ (p : Nat → Bool) (k : Nat) : allD p (k + 1) = (allD p k && p k) := by simp [allD, List.range_succ]
theorem allD_bad {p : Nat → Bool} {k m : Nat} (hk : k < m) (h : p k = false) : allD p m = false := by
  unfold allD
  rw [List.all_eq_false]
  exact ⟨k, List.mem_range.2 hk, by rw [h]; decide⟩
theorem allD_iff {p : Nat → Bool} {m : Nat} : allD p m = true ↔ ∀ k, k < m → p k = true := by
  unfold allD
  rw [List.all_eq_true]
  exact ⟨fun h k hk => h k (List.mem_range.2 hk), fun h k hk => h k (List.mem_range.1 hk)⟩
def dDV : DV := ⟨0, 0, 0⟩
def dvk (zs : List DV) (j : Nat) : Bool := dvB (zs.getD j dDV) && (decide (j = 0) || decide ((zs.getD (j - 1) dDV).port < (zs.getD j dDV).port))
def dsB (zs : List DV) : Bool := decide ((zs.length : Int) ≤ 16) && allD (dvk zs) zs.length
def bfB (f c : Int) (zs : List DV) : Bool := decide (2 ≤ f) && decide (f ≤ 256) && decide (1 ≤ c) && decide (c ≤ 8) && dsB zs
def bfV (f c : Int) (zs : List DV) : Int := if bfB f c zs = true then 0 else 1
theorem dvk_0 {zs : List DV} (h : 0 < zs.length) : dvk zs 0 = dvB zs[0] := by simp [dvk, List.getD, List.getElem?_eq_getElem h]
theorem dvk_s {zs : List DV} {k : Nat} (h : k + 1 < zs.length) : dvk zs (k + 1) = (dvB zs[k + 1] && decide (zs[k].port < zs[k + 1].port)) := by
  simp [dvk, List.getD, List.getElem?_eq_getElem h, List.getElem?_eq_getElem (show k < zs.length by omega)]
theorem dsB_long {zs : List DV} (h : 16 < (zs.length : Int)) : dsB zs = false := by
  have e : decide ((zs.length : Int) ≤ 16) = false := decide_eq_false (by omega)
  unfold dsB
  rw [e]
  rfl
theorem dsB_short {zs : List DV} (h : ¬ 16 < (zs.length : Int)) : dsB zs = allD (dvk zs) zs.length := by
  have e : decide ((zs.length : Int) ≤ 16) = true := decide_eq_true (by omega)
  unfold dsB
  rw [e]
  rfl
set_option maxRecDepth 100000 in
set_option maxHeartbeats 4000000 in
theorem dvRight_any (z : DV) (w : World) : Calls Try.prog 42 #[.agg #[.int .i64 z.kind, .int .i64 z.port, .int .i64 z.line]] w fun e w' => e = .returned (.bool (dvB z)) ∧ Below w.heap.size w w' := by
  have HL0 : Hid (LG w (w.alloc (.cells #[.int .i64 z.kind, .int .i64 z.port, .int .i64 z.line] 49)) w.heap.size #[.int .i64 z.kind, .int .i64 z.port, .int .i64 z.line] 49) := LG.new w _ _
  have E : Hid (dvB z = (decide (1 ≤ z.kind) && decide (z.kind ≤ 255) && decide (0 ≤ z.port) && decide (z.port ≤ 2047) && decide (0 ≤ z.line) && decide (z.line < 7))) := rfl
  generalize dvB z = V at *
  cases q0 : decide (z.kind < 1)
  · skip
    cases q1 : decide (255 < z.kind)
    · skip
      cases q2 : decide (z.port < 0)
      · skip
        cases q3 : decide (2047 < z.port)
        · skip
          cases q4 : decide (0 ≤ z.line)
          · skip
            have E2 : Hid (V = false) := (show V = false by rw [E.out]; (try simp only [decide_eq_true_eq] at *); (try simp only [decide_eq_false_iff_not] at *); simp [*]; try omega)
            clear E
            go_enter Try.func42, Try.ntmps42
            go_upto_region 1 with fail
            generalize (w.alloc (.cells #[.int .i64 z.kind, .int .i64 z.port, .int .i64 z.line] 49)) = u0 at *
            generalize w.heap.size = b0 at *
            have k0 := HL0.out.cel 0 _ rfl
            have k1 := HL0.out.cel 1 _ rfl
            have k2 := HL0.out.cel 2 _ rfl
            have kl := HL0.out.lt
            go_wp2
            go_ret
            exact ⟨ret_bool E2.out.symm, HL0.out.bel⟩
          · skip
            have E2 : Hid (V = decide (z.line < 7)) := (show V = decide (z.line < 7) by rw [E.out]; (try simp only [decide_eq_true_eq] at *); (try simp only [decide_eq_false_iff_not] at *); simp [*]; try omega)
            clear E
            go_enter Try.func42, Try.ntmps42
            go_upto_region 1 with fail
            generalize (w.alloc (.cells #[.int .i64 z.kind, .int .i64 z.port, .int .i64 z.line] 49)) = u0 at *
            generalize w.heap.size = b0 at *
            have k0 := HL0.out.cel 0 _ rfl
            have k1 := HL0.out.cel 1 _ rfl
            have k2 := HL0.out.cel 2 _ rfl
            have kl := HL0.out.lt
            go_wp2
            go_ret
            exact ⟨ret_bool E2.out.symm, HL0.out.bel⟩
        · skip
          have E2 : Hid (V = false) := (show V = false by rw [E.out]; (try simp only [decide_eq_true_eq] at *); (try simp only [decide_eq_false_iff_not] at *); simp [*]; try omega)
          clear E
          go_enter Try.func42, Try.ntmps42
          go_upto_region 1 with fail
          generalize (w.alloc (.cells #[.int .i64 z.kind, .int .i64 z.port, .int .i64 z.line] 49)) = u0 at *
          generalize w.heap.size = b0 at *
          have k0 := HL0.out.cel 0 _ rfl
          have k1 := HL0.out.cel 1 _ rfl
          have k2 := HL0.out.cel 2 _ rfl
          have kl := HL0.out.lt
          go_wp2
          go_ret
          exact ⟨ret_bool E2.out.symm, HL0.out.bel⟩
      · skip
        have E2 : Hid (V = false) := (show V = false by rw [E.out]; (try simp only [decide_eq_true_eq] at *); (try simp only [decide_eq_false_iff_not] at *); simp [*]; try omega)
        clear E
        go_enter Try.func42, Try.ntmps42
        go_upto_region 1 with fail
        generalize (w.alloc (.cells #[.int .i64 z.kind, .int .i64 z.port, .int .i64 z.line] 49)) = u0 at *
        generalize w.heap.size = b0 at *
        have k0 := HL0.out.cel 0 _ rfl
        have k1 := HL0.out.cel 1 _ rfl
        have k2 := HL0.out.cel 2 _ rfl
        have kl := HL0.out.lt
        go_wp2
        go_ret
        exact ⟨ret_bool E2.out.symm, HL0.out.bel⟩
    · skip
      have E2 : Hid (V = false) := (show V = false by rw [E.out]; (try simp only [decide_eq_true_eq] at *); (try simp only [decide_eq_false_iff_not] at *); simp [*]; try omega)
      clear E
      go_enter Try.func42, Try.ntmps42
      go_upto_region 1 with fail
      generalize (w.alloc (.cells #[.int .i64 z.kind, .int .i64 z.port, .int .i64 z.line] 49)) = u0 at *
      generalize w.heap.size = b0 at *
      have k0 := HL0.out.cel 0 _ rfl
      have k1 := HL0.out.cel 1 _ rfl
      have k2 := HL0.out.cel 2 _ rfl
      have kl := HL0.out.lt
      go_wp2
      go_ret
      exact ⟨ret_bool E2.out.symm, HL0.out.bel⟩
  · skip
    have E2 : Hid (V = false) := (show V = false by rw [E.out]; (try simp only [decide_eq_true_eq] at *); (try simp only [decide_eq_false_iff_not] at *); simp [*]; try omega)
    clear E
    go_enter Try.func42, Try.ntmps42
    go_upto_region 1 with fail
    generalize (w.alloc (.cells #[.int .i64 z.kind, .int .i64 z.port, .int .i64 z.line] 49)) = u0 at *
    generalize w.heap.size = b0 at *
    have k0 := HL0.out.cel 0 _ rfl
    have k1 := HL0.out.cel 1 _ rfl
    have k2 := HL0.out.cel 2 _ rfl
    have kl := HL0.out.lt
    go_wp2
    go_ret
    exact ⟨ret_bool E2.out.symm, HL0.out.bel⟩
end Go.Proofs.Ytlpkkclmcgnapaa
