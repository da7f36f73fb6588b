import Derived.Test.YtohmejfpebjlaaaGreatDoorFaultZ
import Derived.Test.YtohmejfpebjlaaaGreatDoorFieldsS
import Derived.Sort.Walk7a
namespace Go.Proofs.YtohmejfpebjlaaaGreatDoor
open Go.ChangeShapes Go.WideShapes Go.ChangeAt Go.RowKit

def isW (n : Int) : Bool := decide (0 ≤ n) && decide (n < 4294967296)
def sg (n : Int) (bits : Nat) : Int := if 2 ^ (bits - 1) ≤ n then n - 2 ^ bits else n

theorem setSet (w : World) (b o : Nat) (v v' : Value) : (w.setCell ⟨b, o, none⟩ v).setCell ⟨b, o, none⟩ v' = w.setCell ⟨b, o, none⟩ v' := Go.Proofs.setCell_setCell w b o v v'

theorem set_at {w : World} {a : Addr} (v : Value) (h : ∃ u, w.cell? a = some u) : (w.setCell a v).cell? a = some v := by
  obtain ⟨u, hu⟩ := h
  exact World.cell?_setCell_same _ _ _ hu
theorem set_ex {w : World} {a b : Addr} (v : Value) (h : ∃ u, w.cell? b = some u) : ∃ u, (w.setCell a v).cell? b = some u := by
  by_cases hab : a = b
  · subst hab; exact ⟨v, set_at v h⟩
  · exact h.imp fun u hu => (World.cell?_setCell_other _ _ _ _ hab).trans hu
theorem set_to {w : World} {a b : Addr} {u v : Value} (h : w.cell? b = some u) (hab : a ≠ b) : (w.setCell a v).cell? b = some u := (World.cell?_setCell_other _ _ _ _ hab).trans h
/-- Six cells of a block, stored one behind another. -/
theorem six {u : World} {b : Nat} (v0 v1 v2 v3 v4 v5 : Value) (h : ∀ k, k < 6 → ∃ x, u.cell? ⟨b, k, none⟩ = some x) {U : World}
    (hU : (((((u.setCell ⟨b, 0, none⟩ v0).setCell ⟨b, 1, none⟩ v1).setCell ⟨b, 2, none⟩ v2).setCell ⟨b, 3, none⟩ v3).setCell ⟨b, 4, none⟩ v4).setCell ⟨b, 5, none⟩ v5 = U) :
    U.cell? ⟨b, 0, none⟩ = some v0 ∧ U.cell? ⟨b, 1, none⟩ = some v1 ∧ U.cell? ⟨b, 2, none⟩ = some v2 ∧ U.cell? ⟨b, 3, none⟩ = some v3 ∧ U.cell? ⟨b, 4, none⟩ = some v4 ∧ U.cell? ⟨b, 5, none⟩ = some v5 := by
  subst hU
  refine ⟨?_, ?_, ?_, ?_, ?_, ?_⟩
  · exact set_to (set_to (set_to (set_to (set_to (set_at _ (h 0 (by omega))) (by simp)) (by simp)) (by simp)) (by simp)) (by simp)
  · exact set_to (set_to (set_to (set_to (set_at _ (set_ex _ (h 1 (by omega)))) (by simp)) (by simp)) (by simp)) (by simp)
  · exact set_to (set_to (set_to (set_at _ (set_ex _ (set_ex _ (h 2 (by omega))))) (by simp)) (by simp)) (by simp)
  · exact set_to (set_to (set_at _ (set_ex _ (set_ex _ (set_ex _ (h 3 (by omega)))))) (by simp)) (by simp)
  · exact set_to (set_at _ (set_ex _ (set_ex _ (set_ex _ (set_ex _ (h 4 (by omega))))))) (by simp)
  · exact set_at _ (set_ex _ (set_ex _ (set_ex _ (set_ex _ (set_ex _ (h 5 (by omega)))))))

def dOp (n : Int) : Int := fz n 24 8
def dA (n : Int) : Int := fz n 20 4
def dB (n : Int) : Int := if kd (dOp n) = 4 then 0 else fz n 16 4
def dC (n : Int) : Int := if kd (dOp n) = 4 then 0 else fz n 12 4
def dI (n : Int) : Int := if kd (dOp n) = 4 then (if dOp n = 36 then sg (fz n 0 20) 20 else fz n 0 20) else sg (fz n 0 12) 12
def rdV (g : Bool) (op a b c imm : Int) : Value := .agg #[.bool g, .int .i64 op, .int .i64 a, .int .i64 b, .int .i64 c, .int .i64 imm]
def decG (n : Int) : Bool := isW n && isOk (dOp n) (dA n) (dB n) (dC n) (dI n)
def decV (n : Int) : Value := if decG n = true then rdV true (dOp n) (dA n) (dB n) (dC n) (dI n) else rdV false 0 0 0 0 0
theorem decV_at (n b c i : Int) (hw : isW n = true) (hb : dB n = b) (hc : dC n = c) (hi : dI n = i) : decV n = if isOk (fz n 24 8) (fz n 20 4) b c i = true then rdV true (fz n 24 8) (fz n 20 4) b c i else rdV false 0 0 0 0 0 := by
  unfold decV decG
  rw [hw, hb, hc, hi]
  rfl

end Go.Proofs.YtohmejfpebjlaaaGreatDoor
