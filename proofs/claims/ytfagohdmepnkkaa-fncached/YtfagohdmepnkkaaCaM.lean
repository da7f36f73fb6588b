import Derived.Test.YtfagohdmepnkkaaTFn3
namespace Go.Proofs.Ytfagohdmepnkkaa
open Go.ChangeShapes Go.WideShapes Go.ChangeAt Go.RowKit

theorem allOk_iff (zs : List TE) : allOk zs zs.length = true ↔ (∀ x ∈ zs, teOk x = true) ∧ zs.Pairwise (fun x y => same x y = false) := by
  have h1 : allOk zs zs.length = true ↔ ∀ (k : Nat) (hk : k < zs.length), teOk zs[k] = true ∧ ((zs.take k).any fun x => same x zs[k]) = false := by
    unfold allOk
    rw [List.all_eq_true]
    constructor
    · intro h k hk
      have := h k (List.mem_range.2 hk)
      rw [tok_eq hk, Bool.and_eq_true] at this
      exact ⟨this.1, by simpa using this.2⟩
    · intro h k hk
      have hk2 := List.mem_range.1 hk
      rw [tok_eq hk2, Bool.and_eq_true]
      exact ⟨(h k hk2).1, by rw [(h k hk2).2]; rfl⟩
  rw [h1]
  constructor
  · intro h
    refine ⟨fun x hx => ?_, ?_⟩
    · obtain ⟨k, hk, rfl⟩ := List.getElem_of_mem hx
      exact (h k hk).1
    · rw [List.pairwise_iff_getElem]
      intro i j hi hj hij
      have h2 := List.any_eq_false.1 (h j hj).2 zs[i] (by
        rw [List.mem_take_iff_getElem]
        exact ⟨i, by omega, rfl⟩)
      simpa using h2
  · rintro ⟨ha, hp⟩ k hk
    refine ⟨ha _ (List.getElem_mem hk), ?_⟩
    rw [List.any_eq_false]
    intro x hx
    rw [List.mem_take_iff_getElem] at hx
    obtain ⟨i, hi, rfl⟩ := hx
    have h2 := List.pairwise_iff_getElem.1 hp i k (by omega) hk (by omega)
    simp [h2]
theorem tlbC_iff (zs : List TE) (nx : Int) : tlbC zs nx = 0 ↔ zs.length ≤ 16 ∧ (0 ≤ nx ∧ nx ≤ 15) ∧ (∀ x ∈ zs, teOk x = true) ∧ zs.Pairwise (fun x y => same x y = false) := by
  unfold tlbC
  constructor
  · intro h
    split at h
    · rename_i q
      exact ⟨q.1, ⟨q.2.1, q.2.2.1⟩, (allOk_iff zs).1 q.2.2.2⟩
    · cases h
  · rintro ⟨h1, h2, h3⟩
    rw [if_pos ⟨h1, h2.1, h2.2, (allOk_iff zs).2 h3⟩]
theorem tlbC_filter {zs : List TE} {nx : Int} (h : tlbC zs nx = 0) (p : TE → Bool) : tlbC (zs.filter p) 0 = 0 := by
  obtain ⟨h1, _, h3, h4⟩ := (tlbC_iff zs nx).1 h
  refine (tlbC_iff _ _).2 ⟨Nat.le_trans (List.length_filter_le _ _) h1, ⟨by decide, by decide⟩, fun x hx => h3 x ((List.mem_filter.1 hx).1), h4.filter _⟩
theorem flP_all (va : Int) (hv : 0 ≤ va) (x : TE) : flP (-1) va x = holdsB x va := by
  unfold flP
  have h1 : decide ((-1 : Int) < 0) = true := by decide
  have h2 : decide (va < 0) = false := by simpa using hv
  rw [h1, h2]
  simp
theorem clear_no {zs : List TE} {va : Int} (hv : 0 ≤ va) {x : TE} (hx : x ∈ zs.filter fun x => !flP (-1) va x) : holdsB x va = false := by
  have := (List.mem_filter.1 hx).2
  rw [flP_all va hv] at this
  simpa using this
theorem same_holds {x y : TE} (va : Int) (h : same x y = true) : holdsB x va = holdsB y va := by
  unfold same at h
  simp only [Bool.and_eq_true, decide_eq_true_eq, beq_iff_eq] at h
  unfold holdsB
  rw [h.1.2, h.2]
/-- An entry put into a cache that holds none for the address. -/
theorem put_new {c : List TE} {e : TE} {va : Int} (hc : tlbC c 0 = 0) (hn : ∀ x ∈ c, holdsB x va = false) (he : teOk e = true) (hh : holdsB e va = true) :
    tlbC (putL c 0 e) (putN c 0 e) = 0 ∧ ∃ (k : Nat) (hk : k < (putL c 0 e).length), (putL c 0 e)[k] = e ∧ ∀ (j : Nat) (hj : j < (putL c 0 e).length), j ≠ k → holdsB ((putL c 0 e)[j]) va = false := by
  obtain ⟨h1, _, h3, h4⟩ := (tlbC_iff c 0).1 hc
  have hs : ∀ x ∈ c, same x e = false := fun x hx => by
    cases hq : same x e
    · rfl
    · have := same_holds va hq
      rw [hn x hx, hh] at this
      cases this
  have hs2 : ∀ x ∈ c, same e x = false := fun x hx => by
    cases hq : same e x
    · rfl
    · have := same_holds va hq
      rw [hn x hx, hh] at this
      cases this
  have hi : idxI (fun x => same x e) c = -1 := idxI_none fun j hj => hs _ (List.getElem_mem hj)
  have hi0 : ¬ 0 ≤ idxI (fun x => same x e) c := by rw [hi]; decide
  by_cases hl : c.length < 16
  · have E : putL c 0 e = c ++ [e] := by
      unfold putL
      rw [if_neg (by rw [he]; decide), if_neg hi0, if_pos hl]
    have EN : putN c 0 e = 0 := by
      unfold putN
      rw [if_neg (fun q => q.2.2 hl)]
    rw [E, EN]
    refine ⟨(tlbC_iff _ _).2 ⟨by simp; omega, ⟨by decide, by decide⟩, fun x hx => ?_, ?_⟩, c.length, by simp, by simp, fun j hj hjk => ?_⟩
    · rcases List.mem_append.1 hx with hx | hx
      · exact h3 x hx
      · rw [List.mem_singleton.1 hx]
        exact he
    · rw [List.pairwise_append]
      exact ⟨h4, List.pairwise_singleton _ _, fun x hx y hy => by rw [List.mem_singleton.1 hy]; exact hs x hx⟩
    · have hj2 : j < c.length := by simp at hj; omega
      rw [List.getElem_append_left hj2]
      exact hn _ (List.getElem_mem hj2)
  · obtain ⟨z, rest, rfl⟩ : ∃ z rest, c = z :: rest := by
      cases c with
      | nil => exact absurd (by decide) hl
      | cons z rest => exact ⟨z, rest, rfl⟩
    have E : putL (z :: rest) 0 e = e :: rest := by
      unfold putL
      rw [if_neg (by rw [he]; decide), if_neg hi0, if_neg hl]
      rfl
    have EN : putN (z :: rest) 0 e = 1 := by
      unfold putN
      rw [if_pos ⟨he, hi0, hl⟩]
      rfl
    rw [E, EN]
    refine ⟨(tlbC_iff _ _).2 ⟨by simpa using h1, ⟨by decide, by decide⟩, fun x hx => ?_, ?_⟩, 0, by simp, rfl, fun j hj hjk => ?_⟩
    · rcases List.mem_cons.1 hx with rfl | hx
      · exact he
      · exact h3 x (List.mem_cons_of_mem _ hx)
    · exact List.Pairwise.cons (fun x hx => hs2 x (List.mem_cons_of_mem _ hx)) (List.pairwise_cons.1 h4).2
    · cases j with
      | zero => exact absurd rfl hjk
      | succ j => exact hn _ (List.mem_cons_of_mem _ (List.getElem_mem _))
theorem find_new {zs : List TE} {e : TE} {va : Int} {k : Nat} (hk : k < zs.length) (hz : zs[k] = e) (ho : ∀ (j : Nat) (hj : j < zs.length), j ≠ k → holdsB zs[j] va = false) (hh : holdsB e va = true) (ha : e.asid = 7) : idxI (fP 7 va) zs = k := by
  refine idxI_at hk ?_ fun j hj => ?_
  · rw [hz]
    unfold fP
    rw [hh, ha]
    simp
  · unfold fP
    rw [ho j (Nat.lt_trans hj hk) (by omega)]
    rfl
theorem find_gone {zs : List TE} {va : Int} (hv : 0 ≤ va) : idxI (fP 7 va) (zs.filter fun x => !flP (-1) va x) = -1 := by
  refine idxI_none fun j hj => ?_
  unfold fP
  rw [clear_no hv (List.getElem_mem hj)]
  rfl
end Go.Proofs.Ytfagohdmepnkkaa
