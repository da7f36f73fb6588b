import Derived.Test.YtlpkkclmcgnapaaDoorMeth
namespace Go.Proofs.YtlpkkclmcgnapaaDoor
open Go.ChangeShapes Go.WideShapes Go.ChangeAt Go.RowKit

/-- An instruction that lies in a block: its op and its four numbers. -/
def InsAt (w : World) (n : Nat) (x : Int) (f : Int × Int × Int × Int) : Prop :=
  w.heap[n]? = some (.cells #[.int .i64 x, .int .i64 f.1, .int .i64 f.2.1, .int .i64 f.2.2.1, .int .i64 f.2.2.2] 27 (0, 0))
/-- The number at a place, 1 to 4. -/
def fld (p : Nat) (f : Int × Int × Int × Int) : Int := if p = 1 then f.1 else if p = 2 then f.2.1 else if p = 3 then f.2.2.1 else f.2.2.2
def putF (p : Nat) (y : Int) (f : Int × Int × Int × Int) : Int × Int × Int × Int :=
  if p = 1 then (y, f.2.1, f.2.2.1, f.2.2.2) else if p = 2 then (f.1, y, f.2.2.1, f.2.2.2) else if p = 3 then (f.1, f.2.1, y, f.2.2.2) else (f.1, f.2.1, f.2.2.1, y)
theorem InsAt.below {B n : Nat} {x : Int} {f : Int × Int × Int × Int} {w w' : World} (h : InsAt w n x f) (hb : Below B w w') (hn : n < B) : InsAt w' n x f := (hb.block n hn).trans h
theorem InsAt.op {n : Nat} {x : Int} {f : Int × Int × Int × Int} {w : World} (h : InsAt w n x f) : w.cell? ⟨n, 0, none⟩ = some (.int .i64 x) := by
  unfold InsAt at h
  simp [World.cell?, h]
theorem InsAt.cell {n : Nat} {x : Int} {f : Int × Int × Int × Int} {w : World} (h : InsAt w n x f) (p : Nat) (h1 : 1 ≤ p) (h2 : p ≤ 4) : w.cell? ⟨n, p, none⟩ = some (.int .i64 (fld p f)) := by
  unfold InsAt at h
  obtain rfl | rfl | rfl | rfl : p = 1 ∨ p = 2 ∨ p = 3 ∨ p = 4 := by omega
  all_goals simp [World.cell?, h, fld]
theorem InsAt.fz {n : Nat} {x : Int} {f : Int × Int × Int × Int} {w : World} (h : InsAt w n x f) (p : Nat) : w.frozen? ⟨n, p, none⟩ = false := by
  unfold InsAt at h
  simp [World.frozen?, h]
theorem InsAt.put {n : Nat} {x : Int} {f : Int × Int × Int × Int} {w : World} (h : InsAt w n x f) (p : Nat) (h1 : 1 ≤ p) (h2 : p ≤ 4) (y : Int) : InsAt (w.setCell ⟨n, p, none⟩ (.int .i64 y)) n x (putF p y f) := by
  unfold InsAt at h ⊢
  obtain rfl | rfl | rfl | rfl : p = 1 ∨ p = 2 ∨ p = 3 ∨ p = 4 := by omega
  all_goals simp [World.setCell, Array.getElem?_modify, h, putF]
theorem InsAt.other {n m : Nat} {x : Int} {f : Int × Int × Int × Int} {w : World} (h : InsAt w n x f) (hm : n ≠ m) (p : Nat) (y : Value) : InsAt (w.setCell ⟨m, p, none⟩ y) n x f := by
  unfold InsAt at h ⊢
  rw [Below.heap_setCell _ _ _ _ hm]
  exact h
theorem plc_b (o : Opd) : 1 ≤ o.plc ∧ o.plc ≤ 4 := by
  cases o with
  | reg s l n => simp only [Opd.plc]; split <;> (try split) <;> omega
  | imm a b => simp [Opd.plc]
/-- In its bounds. -/
def Opd.inB (o : Opd) (f : Int × Int × Int × Int) : Bool := decide (o.lo ≤ fld o.plc f) && decide (fld o.plc f ≤ o.hi)
/-- What is left behind the first j operands. -/
def rst (l : List Opd) (f : Int × Int × Int × Int) : Int × Int × Int × Int := l.foldl (fun f o => putF o.plc 0 f) f
def gOk (l : List Opd) (f : Int × Int × Int × Int) : Bool := l.all (fun o => o.inB f) && decide (rst l f = (0, 0, 0, 0))
theorem opsOf_fit (op : Int) : ∀ o ∈ opsOf op, o.fit := by
  intro o ho
  unfold opsOf at ho
  split at ho
  all_goals (try split at ho)
  all_goals simp [rP, vP] at ho
  all_goals (first | (rcases ho with rfl | rfl | rfl) | (rcases ho with rfl | rfl) | subst ho)
  all_goals simp [Opd.fit]
theorem opsOf_len (op : Int) : (opsOf op).length ≤ 3 := by
  unfold opsOf
  split
  all_goals (try split)
  all_goals simp
theorem kd2_4 (op : Int) (h : kd2 op = 4) : op = 20 ∨ op = 36 := by
  by_cases h2 : op = 20
  · exact .inl h2
  by_cases h3 : op = 36
  · exact .inr h3
  exfalso
  revert h
  unfold kd2
  repeat' split
  all_goals omega
theorem kd2_20 : kd2 20 = 4 := by decide
theorem kd2_36 : kd2 36 = 4 := by decide
theorem gOk_isOk (op a b c imm : Int) (h : ¬ nm op = ⟨#[]⟩) : gOk (opsOf op) (a, b, c, imm) = isOk op a b c imm := by
  have hk := kd_lt op
  have hkd : kd op = kd2 op := if_neg h
  have h0 : kd op ≠ 0 := by
    have := kd2_b op
    omega
  have n20 : kd op ≠ 4 → ¬ op = 20 := by
    rintro h2 rfl
    exact h2 (hkd.trans kd2_20)
  have n36 : kd op ≠ 4 → ¬ op = 36 := by
    rintro h2 rfl
    exact h2 (hkd.trans kd2_36)
  have h4 : kd op = 4 → op = 20 ∨ op = 36 := fun h5 => kd2_4 op (hkd.symm.trans h5)
  unfold isOk opsOf
  clear hkd h
  generalize kd op = k at *
  obtain rfl | rfl | rfl | rfl | rfl | rfl | rfl | rfl : k = 1 ∨ k = 2 ∨ k = 3 ∨ k = 4 ∨ k = 5 ∨ k = 6 ∨ k = 7 ∨ k = 8 := by omega
  case inr.inr.inr.inl =>
    rcases h4 rfl with rfl | rfl
    all_goals
      clear h4 n20 n36
      rw [Bool.eq_iff_iff]
      simp [gOk, rst, putF, Opd.inB, fld, Opd.plc, Opd.lo, Opd.hi, rP, kOk, reg, immOk]
      omega
  all_goals
    have e1 := n20 (by decide)
    have e2 := n36 (by decide)
    clear h4 n20 n36 h0
    rw [Bool.eq_iff_iff]
    simp [gOk, rst, putF, Opd.inB, fld, Opd.plc, Opd.lo, Opd.hi, rP, vP, kOk, reg, immOk, e1, e2]
    try omega
end Go.Proofs.YtlpkkclmcgnapaaDoor
