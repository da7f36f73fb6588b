import Derived.Test.YtalpcjclahkgnaaGreatMpY
namespace Go.Proofs.YtalpcjclahkgnaaGreat
open Go.ChangeShapes Go.WideShapes Go.ChangeAt Go.RowKit

/-- As the specification asks: no answer ahead has this id. -/
def idk (zs : List ANS) (k j : Nat) : Bool := !((anA zs j).id == (anA zs k).id)
def skk (zs : List ANS) (k : Nat) : Bool := asB (anA zs k) && allD (idk zs k) k
theorem anA_at {zs : List ANS} {k : Nat} (hk : k < zs.length) : anA zs k = zs[k] := by unfold anA; rw [List.getD_eq_getElem?_getD, List.getElem?_eq_getElem hk]; rfl
theorem ix_lt (zs : List ANS) (k : Nat) (hk : k < zs.length) : (!decide (ixANS (fun y => y.id == (anA zs k).id) zs < (k : Int))) = allD (idk zs k) k := by
  cases h : allD (idk zs k) k
  · rw [Bool.not_eq_false', decide_eq_true_iff]
    have h2 : ∃ j, j < k ∧ idk zs k j = false := by
      apply Classical.byContradiction
      intro hn
      have : allD (idk zs k) k = true := allD_iff.2 fun j hj => by
        cases hq : idk zs k j
        · exact absurd ⟨j, hj, hq⟩ hn
        · rfl
      rw [h] at this
      cases this
    obtain ⟨j, hj, hq⟩ := h2
    unfold idk at hq
    rw [Bool.not_eq_false', anA_at (show j < zs.length by omega)] at hq
    unfold ixANS
    cases hf : zs.findIdx? (fun y => y.id == (anA zs k).id) with
    | none =>
      have := List.findIdx?_eq_none_iff.1 hf zs[j] (List.getElem_mem (by omega))
      rw [hq] at this
      cases this
    | some i =>
      obtain ⟨hi, _, hall⟩ := List.findIdx?_eq_some_iff_getElem.1 hf
      simp only
      by_cases hij : i ≤ j
      · omega
      · have := hall j (by omega)
        rw [hq] at this
        exact absurd rfl this
  · have h2 := allD_iff.1 h
    have e : ixANS (fun y => y.id == (anA zs k).id) zs = k := ixANS_at hk (by rw [anA_at hk]; simp) (fun j hj => by
      have h3 := h2 j hj
      unfold idk at h3
      rw [Bool.not_eq_true', anA_at (show j < zs.length by omega)] at h3
      exact h3)
    rw [e]
    simp
theorem kp_eq (zs : List ANS) : kpB zs = allD (skk zs) zs.length := by
  unfold kpB allD
  have : ∀ k ∈ List.range zs.length, kpk zs k = skk zs k := fun k hk => by
    unfold kpk skk
    rw [ix_lt zs k (List.mem_range.1 hk)]
  rw [Bool.eq_iff_iff, List.all_eq_true, List.all_eq_true]
  exact ⟨fun h k hk => by rw [← this k hk]; exact h k hk, fun h k hk => by rw [this k hk]; exact h k hk⟩
/-- A job at its place, as the specification asks. -/
def sjk (s : MG) (k : Nat) : Bool := jbB (jA s.jobs k) && nxB s.next (jA s.jobs k).number && (decide (k = 0) || decide ((jA s.jobs (k - 1)).number < (jA s.jobs k).number))
theorem jA_at {js : List JB} {k : Nat} (hk : k < js.length) : jA js k = js[k] := by unfold jA; rw [List.getD_eq_getElem?_getD, List.getElem?_eq_getElem hk]; rfl
theorem num_at {js : List JB} {k : Nat} (hk : k < js.length) : (js.map (·.number)).getD k 0 = (jA js k).number := by
  rw [jA_at hk, List.getD_eq_getElem?_getD, List.getElem?_map, List.getElem?_eq_getElem hk]
  rfl
theorem js_eq (s : MG) : jsB s = allD (sjk s) s.jobs.length := by
  unfold jsB riI
  rw [List.length_map, Bool.eq_iff_iff, Bool.and_eq_true, allD_iff, allD_iff, allD_iff]
  have e : ∀ k, k < s.jobs.length → rik (nxB s.next) (s.jobs.map (·.number)) k = (nxB s.next (jA s.jobs k).number && (decide (k = 0) || decide ((jA s.jobs (k - 1)).number < (jA s.jobs k).number))) := fun k hk => by
    unfold rik
    rw [num_at hk, num_at (show k - 1 < s.jobs.length by omega)]
  constructor
  · rintro ⟨h1, h2⟩ k hk
    have a := h1 k hk
    have b := h2 k hk
    rw [e k hk] at b
    unfold jbK at a
    unfold sjk
    rw [a, Bool.true_and]
    exact b
  · intro h
    refine ⟨fun k hk => ?_, fun k hk => ?_⟩
    · have a := h k hk
      unfold sjk at a
      simp only [Bool.and_eq_true] at a
      exact a.1.1
    · rw [e k hk]
      have a := h k hk
      unfold sjk at a
      rw [Bool.and_assoc, Bool.and_eq_true] at a
      exact a.2
end Go.Proofs.YtalpcjclahkgnaaGreat
