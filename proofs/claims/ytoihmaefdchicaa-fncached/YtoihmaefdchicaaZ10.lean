import Derived.Test.YtoihmaefdchicaaTFn3
import Derived.Test.YtoihmaefdchicaaWkM
namespace Go.Proofs.Ytoihmaefdchicaa
open Go.ChangeShapes Go.WideShapes Go.ChangeAt Go.RowKit

theorem allOk_iff (zs : List TE) : allOk zs zs.length = true ↔ (∀ x ∈ zs, teOk x = true) ∧ zs.Pairwise (fun x y => same x y = false) := by
  have h1 : allOk zs zs.length = true ↔ ∀ (k : Nat) (hk : k < zs.length), teOk zs[k] = true ∧ ((zs.take k).any fun x => same x zs[k]) = false := by
    unfold allOk
    rw [List.all_eq_true]
    constructor
    · intro h k hk
      have := h k (List.mem_range.2 hk)
      rw [tok_eq hk, Bool.and_eq_true] at this
      exact ⟨this.1, by simpa using this.2⟩
    · intro h k hk
      have hk2 := List.mem_range.1 hk
      rw [tok_eq hk2, Bool.and_eq_true]
      exact ⟨(h k hk2).1, by rw [(h k hk2).2]; rfl⟩
  rw [h1]
  constructor
  · intro h
    refine ⟨fun x hx => ?_, ?_⟩
    · obtain ⟨k, hk, rfl⟩ := List.getElem_of_mem hx
      exact (h k hk).1
    · rw [List.pairwise_iff_getElem]
      intro i j hi hj hij
      have h2 := List.any_eq_false.1 (h j hj).2 zs[i] (by
        rw [List.mem_take_iff_getElem]
        exact ⟨i, by omega, rfl⟩)
      simpa using h2
  · rintro ⟨ha, hp⟩ k hk
    refine ⟨ha _ (List.getElem_mem hk), ?_⟩
    rw [List.any_eq_false]
    intro x hx
    rw [List.mem_take_iff_getElem] at hx
    obtain ⟨i, hi, rfl⟩ := hx
    have h2 := List.pairwise_iff_getElem.1 hp i k (by omega) hk (by omega)
    simp [h2]
theorem tlbC_iff (zs : List TE) (nx : Int) : tlbC zs nx = 0 ↔ zs.length ≤ 16 ∧ (0 ≤ nx ∧ nx ≤ 15) ∧ (∀ x ∈ zs, teOk x = true) ∧ zs.Pairwise (fun x y => same x y = false) := by
  unfold tlbC
  constructor
  · intro h
    split at h
    · rename_i q
      exact ⟨q.1, ⟨q.2.1, q.2.2.1⟩, (allOk_iff zs).1 q.2.2.2⟩
    · cases h
  · rintro ⟨h1, h2, h3⟩
    rw [if_pos ⟨h1, h2.1, h2.2, (allOk_iff zs).2 h3⟩]
theorem tlbC_filter {zs : List TE} {nx : Int} (h : tlbC zs nx = 0) (p : TE → Bool) : tlbC (zs.filter p) 0 = 0 := by
  obtain ⟨h1, _, h3, h4⟩ := (tlbC_iff zs nx).1 h
  refine (tlbC_iff _ _).2 ⟨Nat.le_trans (List.length_filter_le _ _) h1, ⟨by decide, by decide⟩, fun x hx => h3 x ((List.mem_filter.1 hx).1), h4.filter _⟩
theorem flP_all (va : Int) (hv : 0 ≤ va) (x : TE) : flP (-1) va x = holdsB x va := by
  unfold flP
  have h1 : decide ((-1 : Int) < 0) = true := by decide
  have h2 : decide (va < 0) = false := by simpa using hv
  rw [h1, h2]
  simp
theorem clear_no {zs : List TE} {va : Int} (hv : 0 ≤ va) {x : TE} (hx : x ∈ zs.filter fun x => !flP (-1) va x) : holdsB x va = false := by
  have := (List.mem_filter.1 hx).2
  rw [flP_all va hv] at this
  simpa using this
theorem same_holds {x y : TE} (va : Int) (h : same x y = true) : holdsB x va = holdsB y va := by
  unfold same at h
  simp only [Bool.and_eq_true, decide_eq_true_eq, beq_iff_eq] at h
  unfold holdsB
  rw [h.1.2, h.2]
/-- An entry put into a cache that holds none for the address. -/
theorem put_new {c : List TE} {e : TE} {va : Int} (hc : tlbC c 0 = 0) (hn : ∀ x ∈ c, holdsB x va = false) (he : teOk e = true) (hh : holdsB e va = true) :
    tlbC (putL c 0 e) (putN c 0 e) = 0 ∧ ∃ (k : Nat) (hk : k < (putL c 0 e).length), (putL c 0 e)[k] = e ∧ ∀ (j : Nat) (hj : j < (putL c 0 e).length), j ≠ k → holdsB ((putL c 0 e)[j]) va = false := by
  obtain ⟨h1, _, h3, h4⟩ := (tlbC_iff c 0).1 hc
  have hs : ∀ x ∈ c, same x e = false := fun x hx => by
    cases hq : same x e
    · rfl
    · have := same_holds va hq
      rw [hn x hx, hh] at this
      cases this
  have hs2 : ∀ x ∈ c, same e x = false := fun x hx => by
    cases hq : same e x
    · rfl
    · have := same_holds va hq
      rw [hn x hx, hh] at this
      cases this
  have hi : idxI (fun x => same x e) c = -1 := idxI_none fun j hj => hs _ (List.getElem_mem hj)
  have hi0 : ¬ 0 ≤ idxI (fun x => same x e) c := by rw [hi]; decide
  by_cases hl : c.length < 16
  · have E : putL c 0 e = c ++ [e] := by
      unfold putL
      rw [if_neg (by rw [he]; decide), if_neg hi0, if_pos hl]
    have EN : putN c 0 e = 0 := by
      unfold putN
      rw [if_neg (fun q => q.2.2 hl)]
    rw [E, EN]
    refine ⟨(tlbC_iff _ _).2 ⟨by simp; omega, ⟨by decide, by decide⟩, fun x hx => ?_, ?_⟩, c.length, by simp, by simp, fun j hj hjk => ?_⟩
    · rcases List.mem_append.1 hx with hx | hx
      · exact h3 x hx
      · rw [List.mem_singleton.1 hx]
        exact he
    · rw [List.pairwise_append]
      exact ⟨h4, List.pairwise_singleton _ _, fun x hx y hy => by rw [List.mem_singleton.1 hy]; exact hs x hx⟩
    · have hj2 : j < c.length := by simp at hj; omega
      rw [List.getElem_append_left hj2]
      exact hn _ (List.getElem_mem hj2)
  · obtain ⟨z, rest, rfl⟩ : ∃ z rest, c = z :: rest := by
      cases c with
      | nil => exact absurd (by decide) hl
      | cons z rest => exact ⟨z, rest, rfl⟩
    have E : putL (z :: rest) 0 e = e :: rest := by
      unfold putL
      rw [if_neg (by rw [he]; decide), if_neg hi0, if_neg hl]
      rfl
    have EN : putN (z :: rest) 0 e = 1 := by
      unfold putN
      rw [if_pos ⟨he, hi0, hl⟩]
      rfl
    rw [E, EN]
    refine ⟨(tlbC_iff _ _).2 ⟨by simpa using h1, ⟨by decide, by decide⟩, fun x hx => ?_, ?_⟩, 0, by simp, rfl, fun j hj hjk => ?_⟩
    · rcases List.mem_cons.1 hx with rfl | hx
      · exact he
      · exact h3 x (List.mem_cons_of_mem _ hx)
    · exact List.Pairwise.cons (fun x hx => hs2 x (List.mem_cons_of_mem _ hx)) (List.pairwise_cons.1 h4).2
    · cases j with
      | zero => exact absurd rfl hjk
      | succ j => exact hn _ (List.mem_cons_of_mem _ (List.getElem_mem _))
theorem find_new {zs : List TE} {e : TE} {va : Int} {k : Nat} (hk : k < zs.length) (hz : zs[k] = e) (ho : ∀ (j : Nat) (hj : j < zs.length), j ≠ k → holdsB zs[j] va = false) (hh : holdsB e va = true) (ha : e.asid = 7) : idxI (fP 7 va) zs = k := by
  refine idxI_at hk ?_ fun j hj => ?_
  · rw [hz]
    unfold fP
    rw [hh, ha]
    simp
  · unfold fP
    rw [ho j (Nat.lt_trans hj hk) (by omega)]
    rfl
theorem find_gone {zs : List TE} {va : Int} (hv : 0 ≤ va) : idxI (fP 7 va) (zs.filter fun x => !flP (-1) va x) = -1 := by
  refine idxI_none fun j hj => ?_
  unfold fP
  rw [clear_no hv (List.getElem_mem hj)]
  rfl

/-- The entry that a cache keeps of a walk. -/
def entW (va : Int) (r : WV) : TE := if r.large = true then ⟨7, va / 256 / 32 * 32, r.pa / 256 / 32 * 32, r.entry % 256, true⟩ else ⟨7, va / 256, r.pa / 256, r.entry % 256, false⟩
/-- What a walk without fault tells. -/
structure GoodW (s : ByteArray) (va acc : Int) (user : Bool) (r : WV) : Prop where
  e0 : 0 ≤ r.entry ∧ r.entry ≤ 4294967295
  may : mayV r.entry acc user = true
  pg : r.pa = pgV r.entry va r.large * 256 + va % 256
  inn : (pgV r.entry va r.large + 1) * 256 ≤ (s.size : Int)
  lg : r.large = true → r.entry / 256 % 32 = 0
  dt : acc = 2 → r.entry / 64 % 2 = 1
theorem fin_good {s : ByteArray} {reads : List Int} {k : Nat} {large : Bool} {va acc : Int} {user : Bool} (hf : (finV s reads k large va acc user).fault = 0) : GoodW s va acc user (finV s reads k large va acc user) := by
  obtain ⟨x0, x1⟩ := wv_b s k
  by_cases hg : goodV (wv s k) acc user large = true
  · by_cases hp : (pgV (wv s k) va large + 1) * 256 ≤ (s.size : Int)
    · have E2 : finV s reads k large va acc user = ⟨0, pgV (wv s k) va large * 256 + va % 256, putA (wv s k) acc, large, reads, setv s k (putA (wv s k) acc)⟩ := by
        unfold finV
        rw [if_pos hg, if_pos hp]
      rw [E2]
      have hg2 := putA_good (wv s k) acc user large x0 x1
      rw [hg] at hg2
      unfold goodV at hg2
      simp only [Bool.and_eq_true, decide_eq_true_eq, Bool.or_eq_true, Bool.not_eq_true'] at hg2
      refine ⟨putA_b _ _ x0 x1, hg2.2, ?_, ?_, ?_, (putA_f _ _ x0 x1).2.2.2.2⟩
      · simp only
        rw [putA_pg _ _ _ _ x0 x1]
      · simp only
        rw [putA_pg _ _ _ _ x0 x1]
        exact hp
      · intro q
        simp only at q ⊢
        rcases hg2.1.2 with q2 | q2
        · rw [q] at q2
          cases q2
        · exact q2
    · unfold finV at hf
      rw [if_pos hg, if_neg hp] at hf
      cases hf
  · unfold finV at hf
    rw [if_neg hg] at hf
    cases hf
theorem walk_good {s : ByteArray} {root va acc : Int} {user : Bool} (hf : (walkV s root va acc user).fault = 0) : GoodW s va acc user (walkV s root va acc user) := by
  by_cases h1 : (root + 1) * 256 ≤ (s.size : Int)
  · by_cases h2 : wv s (at1 root va) % 16 = 1
    · by_cases h3 : (wv s (at1 root va) / 256 + 1) * 256 ≤ (s.size : Int)
      · have E : walkV s root va acc user = finV s [root, wv s (at1 root va) / 256] (at2 (wv s (at1 root va)) va) false va acc user := by
          unfold walkV
          rw [if_pos h1, if_pos h2, if_pos h3]
        rw [E] at hf ⊢
        exact fin_good hf
      · unfold walkV at hf
        rw [if_pos h1, if_pos h2, if_neg h3] at hf
        cases hf
    · have E : walkV s root va acc user = finV s [root] (at1 root va) true va acc user := by
        unfold walkV
        rw [if_pos h1, if_neg h2]
      rw [E] at hf ⊢
      exact fin_good hf
  · unfold walkV at hf
    rw [if_neg h1] at hf
    cases hf
theorem entW_ok {s : ByteArray} {va acc : Int} {user : Bool} {r : WV} (h : GoodW s va acc user r) (hs : s.size ≤ 65536) (v0 : 0 ≤ va) (v1 : va ≤ 262143) : teOk (entW va r) = true ∧ holdsB (entW va r) va = true ∧ (entW va r).asid = 7 := by
  have he := h.e0
  have hp := h.pg
  have hi := h.inn
  cases hl : r.large
  · rw [hl] at hp hi
    have e1 : pgV r.entry va false = r.entry / 256 := rfl
    rw [e1] at hp hi
    have E : entW va r = ⟨7, va / 256, r.pa / 256, r.entry % 256, false⟩ := by unfold entW; rw [if_neg (by rw [hl]; decide)]
    rw [E]
    refine ⟨?_, ?_, rfl⟩
    · unfold teOk
      simp
      omega
    · unfold holdsB
      simp
  · rw [hl] at hp hi
    have e1 : pgV r.entry va true = r.entry / 256 + va / 256 % 32 := rfl
    rw [e1] at hp hi
    have E : entW va r = ⟨7, va / 256 / 32 * 32, r.pa / 256 / 32 * 32, r.entry % 256, true⟩ := by unfold entW; rw [if_pos hl]
    rw [E]
    refine ⟨?_, ?_, rfl⟩
    · unfold teOk
      simp
      omega
    · unfold holdsB
      simp
      omega
theorem may_low (e acc : Int) (user : Bool) (_h0 : 0 ≤ e) : mayV (e % 256) acc user = mayV e acc user := by
  unfold mayV
  rw [show e % 256 / 4 % 2 = e / 4 % 2 by omega, show e % 256 / 8 % 2 = e / 8 % 2 by omega, show e % 256 / 2 % 2 = e / 2 % 2 by omega, show e % 256 / 16 % 2 = e / 16 % 2 by omega]
theorem hit_new {s : ByteArray} {va acc : Int} {user : Bool} {r : WV} (h : GoodW s va acc user r) (_v0 : 0 ≤ va) (k : Nat) : tfR (entW va r) va acc user k = hitA true r.pa k := by
  have he := h.e0
  have hp := h.pg
  have hm := may_low r.entry acc user he.1
  rw [h.may] at hm
  have hd : (decide (acc = 2) && decide (r.entry % 256 / 64 % 2 = 0)) = false := by
    by_cases ha : acc = 2
    · have := h.dt ha
      have h2 : ¬ r.entry % 256 / 64 % 2 = 0 := by omega
      simp [h2]
    · simp [ha]
  cases hl : r.large
  · rw [hl] at hp
    have e1 : pgV r.entry va false = r.entry / 256 := rfl
    rw [e1] at hp
    have E : entW va r = ⟨7, va / 256, r.pa / 256, r.entry % 256, false⟩ := by unfold entW; rw [if_neg (by rw [hl]; decide)]
    rw [E]
    unfold tfR
    simp only
    rw [hm, hd]
    simp only [Bool.not_false, Bool.and_self, if_true]
    rw [show va + (r.pa / 256 - va / 256) * 256 = r.pa by omega]
  · have hg := h.lg hl
    rw [hl] at hp
    have e1 : pgV r.entry va true = r.entry / 256 + va / 256 % 32 := rfl
    rw [e1] at hp
    have E : entW va r = ⟨7, va / 256 / 32 * 32, r.pa / 256 / 32 * 32, r.entry % 256, true⟩ := by unfold entW; rw [if_pos hl]
    rw [E]
    unfold tfR
    simp only
    rw [hm, hd]
    simp only [Bool.not_false, Bool.and_self, if_true]
    rw [show va + (r.pa / 256 / 32 * 32 - va / 256 / 32 * 32) * 256 = r.pa by omega]
end Go.Proofs.Ytoihmaefdchicaa
