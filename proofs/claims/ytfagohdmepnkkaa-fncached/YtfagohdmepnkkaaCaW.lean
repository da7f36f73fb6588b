import Derived.Test.YtfagohdmepnkkaaCaM
import Derived.Test.YtfagohdmepnkkaaWkM
namespace Go.Proofs.Ytfagohdmepnkkaa
open Go.ChangeShapes Go.WideShapes Go.ChangeAt Go.RowKit

/-- The entry that a cache keeps of a walk. -/
def entW (va : Int) (r : WV) : TE := if r.large = true then ⟨7, va / 256 / 32 * 32, r.pa / 256 / 32 * 32, r.entry % 256, true⟩ else ⟨7, va / 256, r.pa / 256, r.entry % 256, false⟩
/-- What a walk without fault tells. -/
structure GoodW (s : ByteArray) (va acc : Int) (user : Bool) (r : WV) : Prop where
  e0 : 0 ≤ r.entry ∧ r.entry ≤ 4294967295
  may : mayV r.entry acc user = true
  pg : r.pa = pgV r.entry va r.large * 256 + va % 256
  inn : (pgV r.entry va r.large + 1) * 256 ≤ (s.size : Int)
  lg : r.large = true → r.entry / 256 % 32 = 0
  dt : acc = 2 → r.entry / 64 % 2 = 1
theorem fin_good {s : ByteArray} {reads : List Int} {k : Nat} {large : Bool} {va acc : Int} {user : Bool} (hf : (finV s reads k large va acc user).fault = 0) : GoodW s va acc user (finV s reads k large va acc user) := by
  obtain ⟨x0, x1⟩ := wv_b s k
  by_cases hg : goodV (wv s k) acc user large = true
  · by_cases hp : (pgV (wv s k) va large + 1) * 256 ≤ (s.size : Int)
    · have E2 : finV s reads k large va acc user = ⟨0, pgV (wv s k) va large * 256 + va % 256, putA (wv s k) acc, large, reads, setv s k (putA (wv s k) acc)⟩ := by
        unfold finV
        rw [if_pos hg, if_pos hp]
      rw [E2]
      have hg2 := putA_good (wv s k) acc user large x0 x1
      rw [hg] at hg2
      unfold goodV at hg2
      simp only [Bool.and_eq_true, decide_eq_true_eq, Bool.or_eq_true, Bool.not_eq_true'] at hg2
      refine ⟨putA_b _ _ x0 x1, hg2.2, ?_, ?_, ?_, (putA_f _ _ x0 x1).2.2.2.2⟩
      · simp only
        rw [putA_pg _ _ _ _ x0 x1]
      · simp only
        rw [putA_pg _ _ _ _ x0 x1]
        exact hp
      · intro q
        simp only at q ⊢
        rcases hg2.1.2 with q2 | q2
        · rw [q] at q2
          cases q2
        · exact q2
    · unfold finV at hf
      rw [if_pos hg, if_neg hp] at hf
      cases hf
  · unfold finV at hf
    rw [if_neg hg] at hf
    cases hf
theorem walk_good {s : ByteArray} {root va acc : Int} {user : Bool} (hf : (walkV s root va acc user).fault = 0) : GoodW s va acc user (walkV s root va acc user) := by
  by_cases h1 : (root + 1) * 256 ≤ (s.size : Int)
  · by_cases h2 : wv s (at1 root va) % 16 = 1
    · by_cases h3 : (wv s (at1 root va) / 256 + 1) * 256 ≤ (s.size : Int)
      · have E : walkV s root va acc user = finV s [root, wv s (at1 root va) / 256] (at2 (wv s (at1 root va)) va) false va acc user := by
          unfold walkV
          rw [if_pos h1, if_pos h2, if_pos h3]
        rw [E] at hf ⊢
        exact fin_good hf
      · unfold walkV at hf
        rw [if_pos h1, if_pos h2, if_neg h3] at hf
        cases hf
    · have E : walkV s root va acc user = finV s [root] (at1 root va) true va acc user := by
        unfold walkV
        rw [if_pos h1, if_neg h2]
      rw [E] at hf ⊢
      exact fin_good hf
  · unfold walkV at hf
    rw [if_neg h1] at hf
    cases hf
theorem entW_ok {s : ByteArray} {va acc : Int} {user : Bool} {r : WV} (h : GoodW s va acc user r) (hs : s.size ≤ 65536) (v0 : 0 ≤ va) (v1 : va ≤ 262143) : teOk (entW va r) = true ∧ holdsB (entW va r) va = true ∧ (entW va r).asid = 7 := by
  have he := h.e0
  have hp := h.pg
  have hi := h.inn
  cases hl : r.large
  · rw [hl] at hp hi
    have e1 : pgV r.entry va false = r.entry / 256 := rfl
    rw [e1] at hp hi
    have E : entW va r = ⟨7, va / 256, r.pa / 256, r.entry % 256, false⟩ := by unfold entW; rw [if_neg (by rw [hl]; decide)]
    rw [E]
    refine ⟨?_, ?_, rfl⟩
    · unfold teOk
      simp
      omega
    · unfold holdsB
      simp
  · rw [hl] at hp hi
    have e1 : pgV r.entry va true = r.entry / 256 + va / 256 % 32 := rfl
    rw [e1] at hp hi
    have E : entW va r = ⟨7, va / 256 / 32 * 32, r.pa / 256 / 32 * 32, r.entry % 256, true⟩ := by unfold entW; rw [if_pos hl]
    rw [E]
    refine ⟨?_, ?_, rfl⟩
    · unfold teOk
      simp
      omega
    · unfold holdsB
      simp
      omega
theorem may_low (e acc : Int) (user : Bool) (_h0 : 0 ≤ e) : mayV (e % 256) acc user = mayV e acc user := by
  unfold mayV
  rw [show e % 256 / 4 % 2 = e / 4 % 2 by omega, show e % 256 / 8 % 2 = e / 8 % 2 by omega, show e % 256 / 2 % 2 = e / 2 % 2 by omega, show e % 256 / 16 % 2 = e / 16 % 2 by omega]
theorem hit_new {s : ByteArray} {va acc : Int} {user : Bool} {r : WV} (h : GoodW s va acc user r) (_v0 : 0 ≤ va) (k : Nat) : tfR (entW va r) va acc user k = hitA true r.pa k := by
  have he := h.e0
  have hp := h.pg
  have hm := may_low r.entry acc user he.1
  rw [h.may] at hm
  have hd : (decide (acc = 2) && decide (r.entry % 256 / 64 % 2 = 0)) = false := by
    by_cases ha : acc = 2
    · have := h.dt ha
      have h2 : ¬ r.entry % 256 / 64 % 2 = 0 := by omega
      simp [h2]
    · simp [ha]
  cases hl : r.large
  · rw [hl] at hp
    have e1 : pgV r.entry va false = r.entry / 256 := rfl
    rw [e1] at hp
    have E : entW va r = ⟨7, va / 256, r.pa / 256, r.entry % 256, false⟩ := by unfold entW; rw [if_neg (by rw [hl]; decide)]
    rw [E]
    unfold tfR
    simp only
    rw [hm, hd]
    simp only [Bool.not_false, Bool.and_self, if_true]
    rw [show va + (r.pa / 256 - va / 256) * 256 = r.pa by omega]
  · have hg := h.lg hl
    rw [hl] at hp
    have e1 : pgV r.entry va true = r.entry / 256 + va / 256 % 32 := rfl
    rw [e1] at hp
    have E : entW va r = ⟨7, va / 256 / 32 * 32, r.pa / 256 / 32 * 32, r.entry % 256, true⟩ := by unfold entW; rw [if_pos hl]
    rw [E]
    unfold tfR
    simp only
    rw [hm, hd]
    simp only [Bool.not_false, Bool.and_self, if_true]
    rw [show va + (r.pa / 256 / 32 * 32 - va / 256 / 32 * 32) * 256 = r.pa by omega]
end Go.Proofs.Ytfagohdmepnkkaa
