import Derived.Test.YtomfbiiegcmmlaaGreatDk0
import Derived.Test.YtomfbiiegcmmlaaGreatNextBit
import Derived.Test.YtomfbiiegcmmlaaGreatCountBits
import Derived.Laws.StructEq
namespace Go.Proofs.YtomfbiiegcmmlaaGreat
open Go.ChangeShapes Go.WideShapes Go.ChangeAt Go.RowKit

set_option maxRecDepth 100000
/-- A job. -/
structure JB where
  k : Int
  x : Int
  d : ByteArray
  g : ByteArray
/-- A state of jobs. -/
structure JS where
  ms : List IM
  a : ByteArray
  j : JB
def jbA (j : JB) : Value := .agg #[.int .i64 j.k, .int .i64 j.x, .string j.d, .string j.g]
def jsA (v : Value) (a : ByteArray) (j : JB) : Value := .agg #[v, .string a, .int .i64 j.k, .int .i64 j.x, .string j.d, .string j.g]
def bq (a b : ByteArray) : Bool := a.toList == b.toList
theorem bq_eq {a b : ByteArray} (h : bq a b = true) : a = b := by
  have := eq_of_beq h
  rw [ByteArray.toList_eq, ByteArray.toList_eq] at this
  cases a; cases b
  simp at this
  rw [this]
theorem bq_self (a : ByteArray) : bq a a = true := beq_self_eq_true _
theorem bq_nil {a : ByteArray} : (a.toList == (⟨#[]⟩ : ByteArray).toList) = decide (a.size = 0) := by
  rw [ByteArray.toList_eq, ByteArray.toList_eq]
  obtain ⟨⟨l⟩⟩ := a
  cases l <;> simp [ByteArray.size]
/-- There is a job. -/
def hjB (j : JB) : Bool := !(j.k == 0 && (j.x == 0 && (decide (j.d.size = 0) && decide (j.g.size = 0))))
/-- How many images have that one behind them. -/
def frL : List IM → ByteArray → Nat
  | [], _ => 0
  | m :: ms, n => (if bq m.b n then 1 else 0) + frL ms n
theorem frL_le (ms : List IM) (n : ByteArray) : frL ms n ≤ ms.length := by
  induction ms with
  | nil => exact Nat.le_refl _
  | cons m ms ih => unfold frL; split <;> simp <;> omega
theorem frL_app (ms ms2 : List IM) (n : ByteArray) : frL (ms ++ ms2) n = frL ms n + frL ms2 n := by
  induction ms with
  | nil => simp [frL]
  | cons m ms ih =>
    show (if bq m.b n then 1 else 0) + frL (ms ++ ms2) n = (if bq m.b n then 1 else 0) + frL ms n + frL ms2 n
    rw [ih]
    omega
theorem frL_succ (ms : List IM) (n : ByteArray) (k : Nat) (hk : k < ms.length) : frL (ms.take (k + 1)) n = frL (ms.take k) n + (if bq ms[k].b n then 1 else 0) := by
  rw [List.take_add_one, List.getElem?_eq_getElem hk, frL_app]
  rfl
/-- What a job asks for: its code. -/
def mrC (ms : List IM) (c : Nat) (act tg : ByteArray) : Int := match fdN ms tg with
  | none => 5
  | some k => if bq tg act then 5 else if 0 < frL ms tg ∨ 0 < (gI ms k).b.size ∨ 0 < (gI ms k).s.length then 7 else if (gI ms k).t.length = (gI ms c).t.length then 0 else 2
def cmC (ms : List IM) (c : Nat) : Int := if 1 < frL ms (gI ms c).b ∨ 0 < (gI ms c).s.length then 7 else match fdN ms (gI ms c).b with
  | none => 0
  | some k => if (gI ms k).t.length < (gI ms c).t.length then 2 else 0
def mayC (ms : List IM) (c : Nat) (act : ByteArray) (kd : Int) (tg : ByteArray) : Int :=
  if kd = 3 then (if tg.size = 0 then 1 else mrC ms c act tg)
  else if kd = 1 then (if tg.size = 0 then (if (gI ms c).b.size = 0 then 5 else 0) else 1)
  else if kd = 2 then (if tg.size = 0 then (if (gI ms c).b.size = 0 then 5 else cmC ms c) else 1)
  else 1
/-- Dirty is right. -/
def drJ (j : JB) : Bool := decide (j.d.size ≤ 8) && decide (nxt j.d (if j.k = 1 then 0 else j.x) true < 0)
def jrB (ms : List IM) (c : Nat) (act : ByteArray) (j : JB) : Bool := decide (mayC ms c act j.k j.g = 0) && (decide (0 ≤ j.x) && (decide (j.x ≤ (gI ms c).t.length) && drJ j))
/-- The state is right. -/
def jsB (s : JS) : Bool := chB s.ms && match fdN s.ms s.a with
  | none => false
  | some c => decide (frL s.ms s.a = 0) && (!(hjB s.j) || jrB s.ms c s.a s.j)
theorem scan_none {s : ByteArray} : ∀ {n a : Nat}, scan s true a n = none ↔ ∀ i, a ≤ i → i < a + n → hb s i = false := by
  intro n
  induction n with
  | zero => intro a; exact ⟨fun _ i h1 h2 => by omega, fun _ => rfl⟩
  | succ n ih =>
    intro a
    unfold scan
    cases hq : hb s a with
    | true =>
      simp only [beq_self_eq_true, if_true]
      exact ⟨fun h => (by cases h), fun h => (by rw [h a (Nat.le_refl _) (by omega)] at hq; cases hq)⟩
    | false =>
      rw [if_neg (by decide), ih]
      constructor
      · intro h i h1 h2
        by_cases e : i = a
        · subst e; exact hq
        · exact h i (by omega) (by omega)
      · intro h i h1 h2
        exact h i (by omega) (by omega)
theorem nxt_neg {s : ByteArray} (hs : s.size ≤ 65536) (f : Int) : nxt s f true < 0 ↔ ∀ i, (imax 0 f).toNat ≤ i → i < 8 * s.size → hb s i = false := by
  unfold nxt nxtF
  rw [if_neg (by omega)]
  constructor
  · intro h i h1 h2
    cases hq : scan s true (imax 0 f).toNat (8 * s.size - (imax 0 f).toNat) with
    | none => exact scan_none.1 hq i h1 (by omega)
    | some k => rw [hq] at h; simp only at h; omega
  · intro h
    rw [scan_none.2 (fun i h1 h2 => h i h1 (by omega))]
    simp
theorem cnt_zero {s : ByteArray} : ∀ k, cnt s k = 0 ↔ ∀ i, i < k → hb s i = false := by
  intro k
  induction k with
  | zero => exact ⟨fun _ i h => by omega, fun _ => rfl⟩
  | succ k ih =>
    have hb0 := (cnt_b s k).1
    have e : cnt s (k + 1) = cnt s k + if hb s k then 1 else 0 := rfl
    rw [e]
    cases hq : hb s k with
    | true =>
      rw [if_pos rfl]
      exact ⟨fun h => by omega, fun h => by rw [h k (by omega)] at hq; cases hq⟩
    | false =>
      rw [if_neg (by decide)]
      constructor
      · intro h i h1
        by_cases e : i = k
        · subst e; exact hq
        · exact ih.1 (by omega) i (by omega)
      · intro h
        have := ih.2 (fun i h1 => h i (by omega))
        omega
/-- The specification's two tests of Dirty are the one. -/
theorem drJ_of (j : JB) (hd : j.d.size ≤ 8) : drJ j = (decide (nxt j.d j.x true < 0) && !(j.k == 1 && decide (0 < cnt j.d (8 * j.d.size)))) := by
  unfold drJ
  rw [decide_eq_true hd, Bool.true_and]
  by_cases hk : j.k = 1
  · rw [if_pos hk, hk]
    have hc := (cnt_b j.d (8 * j.d.size)).1
    have e0 : (imax 0 0).toNat = 0 := rfl
    cases hq : decide (nxt j.d 0 true < 0) with
    | true =>
      have h0 := (nxt_neg (by omega) 0).1 (of_decide_eq_true hq)
      rw [e0] at h0
      have h1 : nxt j.d j.x true < 0 := (nxt_neg (by omega) j.x).2 (fun i _ h2 => h0 i (Nat.zero_le _) h2)
      have h2 : cnt j.d (8 * j.d.size) = 0 := (cnt_zero _).2 (fun i hi => h0 i (Nat.zero_le _) hi)
      rw [decide_eq_true h1, h2]
      rfl
    | false =>
      have h0 := of_decide_eq_false hq
      have h2 : ¬ cnt j.d (8 * j.d.size) = 0 := fun h => h0 ((nxt_neg (by omega) 0).2 (fun i _ hi => (cnt_zero _).1 h i hi))
      rw [show decide (0 < cnt j.d (8 * j.d.size)) = true from decide_eq_true (by omega)]
      simp
  · rw [if_neg hk, show (j.k == 1) = false from by simpa using hk]
    simp
end Go.Proofs.YtomfbiiegcmmlaaGreat
