import Derived.Test.YtcglpigmellfcabRowTK3
import Derived.Test.YtcglpigmellfcabEd1
namespace Go.Proofs.Ytcglpigmellfcab
open Go.ChangeShapes Go.WideShapes Go.ChangeAt Go.RowKit

theorem tkR_cons (z : TK) (zs : List TK) : tkR (z :: zs) = tkC z ++ tkR zs := rfl
theorem tkR_put {j : Nat} (hj : j < 6) {v : Value} (zs : List TK) (k : Nat) (hk : k < zs.length) (m : TK) (hm : tkC m = (tkC zs[k]).set j v) : (tkR zs).set (k * 6 + j) v = tkR (zs.set k m) := by
  induction zs generalizing k with
  | nil => simp at hk
  | cons z zs ih =>
    have hl : (tkC z).length = 6 := rfl
    cases k with
    | zero =>
      rw [tkR_cons, List.set_cons_zero, tkR_cons, List.set_append_left _ _ (by omega)]
      simp only [Nat.zero_mul, Nat.zero_add]
      rw [hm]
      rfl
    | succ k =>
      rw [tkR_cons, List.set_cons_succ, tkR_cons, List.set_append_right _ _ (by omega), hl, show (k + 1) * 6 + j - 6 = k * 6 + j by omega, ih k (by simpa using hk) (by simpa using hm)]
/-- A task as it begins a quantum. -/
def beg (q : Int) (z : TK) : Bool := decide (z.start ≤ q) && ((q - z.start) % z.period == 0)
def bgn (q : Int) (z : TK) : TK := if beg q z = true then ⟨z.start, z.period, z.budget, z.budget, q + z.period, if 0 < z.left then z.missed + 1 else z.missed⟩ else z
/-- The number of the first of those with something left whose Period ends first, of so many; or -1. -/
def nx (zs : List TK) : Nat → Int
  | 0 => -1
  | k + 1 => if 0 < (zs.getD k tk0).left ∧ (nx zs k < 0 ∨ (zs.getD k tk0).fin < (zs.getD (nx zs k).toNat tk0).fin) then (k : Int) else nx zs k
theorem nx_b (zs : List TK) : ∀ k, -1 ≤ nx zs k ∧ nx zs k < k
  | 0 => by simp [nx]
  | k + 1 => by
    have := nx_b zs k
    rw [nx]
    split <;> omega
/-- What a quantum leaves of them. -/
def aft (ys : List TK) (n : Int) : List TK := if 0 ≤ n then ys.set n.toNat { ys.getD n.toNat tk0 with left := (ys.getD n.toNat tk0).left - 1 } else ys
def stp (q : Int) (zs : List TK) : List TK × Int := (aft (zs.map (bgn q)) (nx (zs.map (bgn q)) zs.length), nx (zs.map (bgn q)) zs.length)
def runK (zs : List TK) : Nat → List TK × List Int
  | 0 => (zs, [])
  | k + 1 => ((stp k (runK zs k).1).1, (runK zs k).2 ++ [(stp k (runK zs k).1).2])
/-- A task with what is left, at that quantum. -/
def tkOk (q : Int) (z : TK) : Prop := 0 ≤ z.start ∧ z.start ≤ 100 ∧ 1 ≤ z.period ∧ z.period ≤ 40 ∧ 1 ≤ z.budget ∧ z.budget ≤ z.period ∧ 0 ≤ z.left ∧ z.left ≤ z.budget ∧ 0 ≤ z.fin ∧ z.fin ≤ q + 40 ∧ 0 ≤ z.missed ∧ z.missed ≤ q
def tksOk (q : Int) (zs : List TK) : Prop := ∀ k, k < zs.length → tkOk q (zs.getD k tk0)
theorem bgn_len (q : Int) (zs : List TK) : (zs.map (bgn q)).length = zs.length := by simp
theorem bgn_getD (q : Int) (zs : List TK) (k : Nat) (hk : k < zs.length) : (zs.map (bgn q)).getD k tk0 = bgn q (zs.getD k tk0) := by
  simp [List.getD, List.getElem?_eq_getElem hk]
theorem bgn_ok {q : Int} {z : TK} (h : tkOk q z) (hq : 0 ≤ q) : tkOk (q + 1) (bgn q z) := by
  unfold bgn
  obtain ⟨a1, a2, a3, a4, a5, a6, a7, a8, a9, b1, b2, b3⟩ := h
  split
  · refine ⟨a1, a2, a3, a4, a5, a6, ?_, ?_, ?_, ?_, ?_, ?_⟩
    all_goals simp only
    all_goals first | omega | (split <;> omega)
  · exact ⟨a1, a2, a3, a4, a5, a6, a7, a8, a9, by omega, b2, by omega⟩
theorem nx_left (zs : List TK) : ∀ k, 0 ≤ nx zs k → 0 < (zs.getD (nx zs k).toNat tk0).left
  | 0, h => by simp [nx] at h
  | k + 1, h => by
    rw [nx] at h ⊢
    split
    · rename_i hc
      simpa using hc.1
    · rename_i hc
      rw [if_neg hc] at h
      exact nx_left zs k h
theorem stp_len (q : Int) (zs : List TK) : (stp q zs).1.length = zs.length := by
  simp only [stp, aft]
  split <;> simp
theorem getD_set' (ys : List TK) (n k : Nat) (z : TK) (hk : k < ys.length) : (ys.set n z).getD k tk0 = if n = k then z else ys.getD k tk0 := by
  simp only [List.getD, List.getElem?_set]
  split
  · rename_i h
    subst h
    simp [hk]
  · rfl
theorem stp_ok {q : Int} {zs : List TK} (h : tksOk q zs) (hq : 0 ≤ q) : tksOk (q + 1) (stp q zs).1 := by
  intro k hk
  rw [stp_len] at hk
  have hb : ∀ k, k < zs.length → tkOk (q + 1) ((zs.map (bgn q)).getD k tk0) := fun k hk => by rw [bgn_getD q zs k hk]; exact bgn_ok (h k hk) hq
  have h1 := nx_b (zs.map (bgn q)) zs.length
  have h2 := nx_left (zs.map (bgn q)) zs.length
  simp only [stp, aft]
  split
  · rename_i h0
    have h3 := h2 h0
    rw [getD_set' _ _ _ _ (by simpa using hk)]
    split
    · rename_i he
      obtain ⟨a1, a2, a3, a4, a5, a6, a7, a8, a9, b1, b2, b3⟩ := hb (nx (zs.map (bgn q)) zs.length).toNat (by omega)
      exact ⟨a1, a2, a3, a4, a5, a6, by simp only; omega, by simp only; omega, a9, b1, b2, b3⟩
    · exact hb k hk
  · exact hb k hk
theorem runK_len (zs : List TK) : ∀ k, (runK zs k).1.length = zs.length ∧ (runK zs k).2.length = k
  | 0 => ⟨rfl, rfl⟩
  | k + 1 => by
    have := runK_len zs k
    simp only [runK, stp_len, List.length_append, List.length_cons, List.length_nil]
    omega
theorem runK_ok {zs : List TK} (h : tksOk 0 zs) : ∀ k : Nat, tksOk (k : Int) (runK zs k).1
  | 0 => h
  | k + 1 => by
    have := stp_ok (runK_ok h k) (by omega)
    simpa [runK] using this
def tkOf (z : RK) : TK := ⟨z.start, z.period, z.budget, 0, 0, 0⟩
theorem tkOf_ok {zs : List RK} (h : ∀ z ∈ zs, rkB z = true) : tksOk 0 (zs.map tkOf) := by
  intro k hk
  have hk2 : k < zs.length := by simpa using hk
  have e : (zs.map tkOf).getD k tk0 = tkOf zs[k] := by simp [List.getD, List.getElem?_eq_getElem hk2]
  rw [e]
  have := rkB_yes (h zs[k] (List.getElem_mem hk2))
  unfold tkOk tkOf
  simp only
  omega
/-- The numbers, of so many, of those with something left. -/
def rdL (zs : List TK) : Nat → List Int
  | 0 => []
  | k + 1 => if 0 < (zs.getD k tk0).left then rdL zs k ++ [(k : Int)] else rdL zs k
theorem rdL_b (zs : List TK) : ∀ k, ∀ x ∈ rdL zs k, 0 ≤ x ∧ x < k
  | 0, x, hx => by simp [rdL] at hx
  | k + 1, x, hx => by
    rw [rdL] at hx
    split at hx
    · rcases List.mem_append.1 hx with hx | hx
      · have := rdL_b zs k x hx
        omega
      · have : x = k := by simpa using hx
        omega
    · have := rdL_b zs k x hx
      omega
theorem rdL_len (zs : List TK) : ∀ k, (rdL zs k).length ≤ k
  | 0 => Nat.le_refl _
  | k + 1 => by
    have := rdL_len zs k
    rw [rdL]
    split
    · simp; omega
    · omega
end Go.Proofs.Ytcglpigmellfcab
