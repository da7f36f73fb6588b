import Derived.Test.YtappocopgckhkaaIdxI
import Derived.Test.YtappocopgckhkaaWords
namespace Go.Proofs.Ytappocopgckhkaa
open Go.ChangeShapes Go.WideShapes Go.ChangeAt Go.RowKit

def isW (n : Int) : Bool := decide (0 ≤ n) && decide (n < 4294967296)
theorem specIsWord_any (n : Int) (w : World) : Calls Try.prog 21 #[.int .i64 n] w fun e w' => e = .returned (.bool (isW n)) ∧ w' = w := by
  unfold isW
  go_enter Try.func21, Try.ntmps21
  go_wp2
  all_goals go_ret
  all_goals refine ⟨ret_bool ?_, rfl⟩
  all_goals simp
  all_goals omega
theorem implIsWord_any (n : Int) (w : World) : Calls Try.prog 25 #[.int .i64 n] w fun e w' => e = .returned (.bool (isW n)) ∧ w' = w := by
  have h : (n % 4294967296 == n) = isW n := by
    unfold isW
    by_cases h : 0 ≤ n ∧ n < 4294967296
    · rw [decide_eq_true h.1, decide_eq_true h.2]
      simp
      omega
    · have h2 : (decide (0 ≤ n) && decide (n < 4294967296)) = false := by
        simp
        omega
      rw [h2]
      simp
      omega
  go_enter Try.func25, Try.ntmps25
  go_wp2_with (go_at_call 54; refine (implWord_any _ _).mono ?_; rintro e u1 ⟨rfl, hu1⟩; rw [hu1]; clear hu1)
  go_ret
  exact ⟨rfl, rfl⟩
/-- A row of so many words. -/
def wordsB (zs : List Int) (n : Nat) : Bool := decide (zs.length = n) && zs.all isW
theorem cfW : ∀ (xs : Array Value) (w' : World), (callFunc 55 xs).run Try.prog w' = .ok (.enter 55 xs) w' := by
  intro xs w'
  kernel_rfl
theorem wordFn_any (x : Int) (w : World) : Calls Try.prog 55 #[.int .i64 x] w fun e w' => e = .returned (.bool (!isW x)) ∧ w' = w := by
  go_enter Try.func55, Try.ntmps55
  go_wp2_with (go_at_call 25; refine (implIsWord_any _ _).mono ?_; rintro e u1 ⟨rfl, hu1⟩; rw [hu1]; clear hu1)
  go_ret
  exact ⟨rfl, rfl⟩
theorem any_not {α : Type} (zs : List α) (p : α → Bool) : (!zs.any fun x => !p x) = zs.all p := by simp [List.all_eq_not_any_not]
set_option maxRecDepth 100000 in
set_option maxHeartbeats 4000000 in
theorem areWords_any {w : World} {v : Value} {zs : List Int} (h : Irow w v zs) (hl : zs.length ≤ 1048576) (n : Nat) : Calls Try.prog 26 #[v, .int .i64 n] w fun e w' => e = .returned (.bool (wordsB zs n)) ∧ Below w.heap.size w w' := by
  have HC := containsI_any h hl 55 #[] (fun x => !isW x) cfW (fun x w' _ => Calls.mono (wordFn_any x w') (fun e w2 h => ⟨h.1, by rw [h.2]; exact Below.refl _ _⟩))
  have ha := any_not zs isW
  unfold wordsB
  rw [← ha]
  obtain ⟨ao, cap, rfl⟩ := h.sl
  generalize (zs.any fun x => !isW x) = q at *
  have HCH : Hid (Calls Try.prog 56 #[.slice ao zs.length cap, .func (.func 55) #[] #[]] w fun r w' => r = .returned (.bool q) ∧ Below w.heap.size w w') := HC
  clear h HC ha
  by_cases hn : zs.length = n
  · subst hn
    go_enter Try.func26, Try.ntmps26
    go_wp2_with (go_at_call 56; refine Calls.mono HCH.out ?_; rintro e u1 ⟨rfl, hu1⟩)
    go_ret
    exact ⟨ret_bool (by simp), hu1⟩
  · have hb : ((zs.length : Int) == (n : Int)) = false := by simp; omega
    go_enter Try.func26, Try.ntmps26
    go_wp2
    go_ret
    exact ⟨ret_bool (by simp [hn]), Below.refl _ _⟩
theorem all_take {α : Type} {zs : List α} {p : α → Bool} {j : Nat} (hj : j < zs.length) : (zs.take (j + 1)).all p = ((zs.take j).all p && p zs[j]) := by
  rw [List.take_succ_eq_append_getElem hj, List.all_append]
  simp only [List.all_cons, List.all_nil, Bool.and_true]
theorem all_bad {α : Type} {zs : List α} {p : α → Bool} {j : Nat} (hj : j < zs.length) (h : p zs[j] = false) : zs.all p = false := by
  rw [List.all_eq_false]
  exact ⟨zs[j], List.getElem_mem hj, by rw [h]; decide⟩
set_option maxRecDepth 100000 in
set_option maxHeartbeats 4000000 in
theorem l04Words_any {w : World} {v : Value} {zs : List Int} (h : Irow w v zs) (n : Nat) (hl : n ≤ 100) : Calls Try.prog 20 #[v, .int .i64 n] w fun e w' => e = .returned (.bool (wordsB zs n)) ∧ Below w.heap.size w w' := by
  obtain ⟨ao, cap, rfl⟩ := h.sl
  have HR : Hid (Irow w (.slice ao zs.length cap) zs) := h
  clear h
  unfold wordsB
  by_cases hn : zs.length = n
  · subst hn
    obtain ⟨R, hR⟩ : ∃ R, (decide (zs.length = zs.length) && zs.all isW) = R := ⟨_, rfl⟩
    rw [hR]
    have HRR : Hid (zs.all isW = R) := (show zs.all isW = R by rw [← hR]; simp)
    clear hR
    go_enter Try.func20, Try.ntmps20
    go_wp2
    go_loopw [5] (fun i wr => ∃ k : Nat, k ≤ zs.length ∧ i = .int .i64 k ∧ (zs.take k).all isW = true ∧ Below w.heap.size w wr) (fun i _ => zs.length - (intOf i).toNat)
    case atStart => exact ⟨0, Nat.zero_le _, rfl, rfl, Below.refl _ _⟩
    case round =>
      obtain ⟨k, hk, rfl, hno, hb⟩ := hrel
      have HN : Hid ((zs.take k).all isW = true) := hno
      have HB : Hid (Below w.heap.size w wr) := hb
      by_cases hlt : k < zs.length
      · obtain ⟨g, o, cap2, hv, _, hg, hc⟩ := HR.out.resolve_left (fun h => by rw [h.1] at hlt; simp at hlt)
        injection hv with hv1 hv2 hv3
        subst hv1 hv3
        have d0 := hc.below hb hg k hlt
        have hat := all_take (p := isW) hlt
        obtain ⟨z, hz⟩ : ∃ z, zs[k] = z := ⟨_, rfl⟩
        rw [hz] at d0 hat
        have HZ : Hid (zs[k] = z) := hz
        have HAT : Hid ((zs.take (k + 1)).all isW = ((zs.take k).all isW && isW z)) := hat
        have hw := fun w' => specIsWord_any z w'
        have hk0 : (0 : Int) ≤ (k : Int) := by omega
        have hk1 : (k : Int) < (zs.length : Int) := by omega
        clear hc hno hb hz hat
        cases hp : isW z
        · rw [hp] at hw
          have HW : Hid _ := hw
          clear hw
          go_wp2_with (go_at_call 21; refine Calls.mono (HW.out _) ?_; rintro e u1 ⟨rfl, hu1⟩; rw [hu1]; clear hu1)
          go_ret
          exact ⟨ret_bool (by rw [← HRR.out]; exact (all_bad hlt (by rw [HZ.out]; exact hp)).symm), HB.out⟩
        · rw [hp] at hw
          have HW : Hid _ := hw
          clear hw
          go_wp2_with (go_at_call 21; refine Calls.mono (HW.out _) ?_; rintro e u1 ⟨rfl, hu1⟩; rw [hu1]; clear hu1)
          refine ⟨⟨k + 1, hlt, by simp, by rw [HAT.out, HN.out, hp]; rfl, HB.out⟩, ?_⟩
          simp [intOf]
          omega
      · obtain rfl : k = zs.length := by omega
        rw [List.take_length] at hno
        have HN2 : Hid (zs.all isW = true) := hno
        clear hno hb
        go_wp2
        go_ret
        exact ⟨ret_bool (by rw [← HRR.out, HN2.out]), HB.out⟩
  · have hb : ((zs.length : Int) == (n : Int)) = false := by simp; omega
    have hb2 : ((zs.length : Int) != (n : Int)) = true := by simp; omega
    go_enter Try.func20, Try.ntmps20
    go_wp2
    go_ret
    exact ⟨ret_bool (by simp [hn]), Below.refl _ _⟩
end Go.Proofs.Ytappocopgckhkaa
