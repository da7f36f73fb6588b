import Derived.Test.YtfagohdmepnkkaaTwoM
import Derived.Deep.RegionHeld
namespace Go.Proofs.Ytfagohdmepnkkaa
open Go.ChangeShapes Go.WideShapes Go.ChangeAt Go.RowKit

structure FDok (s : ByteArray) (steps : Int) (d : FD) : Prop where
  code : d.code = 0 ∨ d.code = 1 ∨ d.code = 2 ∨ d.code = 3
  zl : d.zs.length ≤ 2
  size : d.mem.size = s.size
  s0 : steps ≤ d.steps
  s1 : d.steps ≤ steps + 6
  pa : d.code = 0 → ∃ p : Nat, d.pa = p ∧ p ≤ 262143
theorem walkV_in (s : ByteArray) (root va : Nat) (acc : Int) (user : Bool) (h : (walkV s root va acc user).fault = 0) (h4 : va % 4 = 0) : (walkV s root va acc user).pa.toNat + 4 ≤ s.size := by
  have := walkV_pa s root va acc user h h4
  omega
theorem finG_ok (s : ByteArray) (steps : Int) (f : FG) (host va : Nat) (acc : Int) (user : Bool) (h : FGok s steps f) : FDok s steps (finG f host va acc user) := by
  have hc := h.code
  have hz := h.zl
  have hm := h.size
  have h0 := h.s0
  have h1 := h.s1
  have hb := pgV_b f.e va f.lg h.e0 h.e1
  have hl := walkV_len f.mem host f.k 2 false
  have hw := walkV_size f.mem host f.k 2 false h.k1
  unfold finG
  split
  · split
    · split
      · have hp : ∃ p : Nat, pgV f.e va f.lg * 256 + (va : Int) % 256 = p ∧ p ≤ 262143 := ⟨(pgV f.e va f.lg * 256 + (va : Int) % 256).toNat, by omega, by omega⟩
        split
        · exact ⟨.inl rfl, hz, hm, h0, by simp only; omega, fun _ => hp⟩
        · split
          · rename_i hf
            refine ⟨.inl rfl, hz, ?_, by simp only; omega, by simp only; omega, fun _ => hp⟩
            have hi := walkV_in f.mem host f.k 2 false hf h.k4
            show (setv _ _ _).size = s.size
            rw [setv_size _ _ _ (by omega)]
            omega
          · exact ⟨.inr (.inr (.inr rfl)), hz, by simp only; omega, by simp only; omega, by simp only; omega, fun h => by cases h⟩
      · exact ⟨.inr (.inr (.inl rfl)), hz, hm, h0, by simp only; omega, fun h => by cases h⟩
    · exact ⟨.inr (.inl rfl), hz, hm, h0, by simp only; omega, fun h => by cases h⟩
  · rename_i hn
    exact ⟨by simp only; omega, hz, hm, h0, by simp only; omega, fun h => absurd h hn⟩
set_option maxRecDepth 100000 in
set_option maxHeartbeats 4000000 in
theorem hostAccess_any (acc : Int) (w : World) : Calls Try.prog 50 #[.int .i64 acc] w fun e w' => e = .returned (.int .i64 (lacc acc)) ∧ w' = w := by
  unfold lacc
  by_cases h : acc = 3
  · rw [if_pos h]
    have h2 : (acc == 3) = true := by simpa using h
    go_enter Try.func50, Try.ntmps50
    go_wp2
    go_ret
    exact ⟨rfl, rfl⟩
  · rw [if_neg h]
    have h2 : (acc == 3) = false := by simpa using h
    go_enter Try.func50, Try.ntmps50
    go_wp2
    go_ret
    exact ⟨rfl, rfl⟩
end Go.Proofs.Ytfagohdmepnkkaa
