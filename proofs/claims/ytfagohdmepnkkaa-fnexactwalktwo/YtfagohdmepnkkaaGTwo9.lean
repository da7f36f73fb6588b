import Derived.Test.YtfagohdmepnkkaaGTwo8
import Derived.Test.YtfagohdmepnkkaaGTwo5
namespace Go.Proofs.Ytfagohdmepnkkaa
open Go.ChangeShapes Go.WideShapes Go.ChangeAt Go.RowKit

/-- The guest's findEntry. -/
theorem findEntryG {w0 wr : World} {b G B n : Nat} {s : ByteArray} {y : GS} {rv : Value} {x : WS} (h : GW w0 b G B n s y wr rv [] x) (hn : s.size = n * 256) (hs : s.size ≤ 65536) (root : Nat) (hr : root ≤ 255) (hv : x.va ≤ 262143) (hh : y.host ≤ 255) (hst0 : 0 ≤ y.steps) (hst : y.steps ≤ 100) :
    Calls Try.prog 91 #[.pointer (some ⟨B, 0, none⟩), .int .i64 root] wr fun e u => e = .returned (.int .i64 (feG s y.host root x.va y.steps).code) ∧ ∃ rv' x', GW w0 b G B n (feG s y.host root x.va y.steps).mem { y with steps := (feG s y.host root x.va y.steps).steps, place := (feG s y.host root x.va y.steps).place } u rv' (feG s y.host root x.va y.steps).zs x' ∧ x'.va = x.va ∧ x'.acc = x.acc ∧ x'.user = x.user ∧ ((feG s y.host root x.va y.steps).code = 0 → x'.at_ = ((feG s y.host root x.va y.steps).k : Int) ∧ x'.e = (feG s y.host root x.va y.steps).e ∧ x'.lg = (feG s y.host root x.va y.steps).lg) := by
  by_cases hf : (walkV s y.host (k1V root x.va) 1 false).fault = 0
  · by_cases h16 : wv (walkV s y.host (k1V root x.va) 1 false).mem (walkV s y.host (k1V root x.va) 1 false).pa.toNat % 16 = 1
    · by_cases hT : wv (walkV s y.host (k1V root x.va) 1 false).mem (walkV s y.host (k1V root x.va) 1 false).pa.toNat / 256 < 1024
      · exact findEntryG_B2 h hn hs root hr hv hh hst0 hst hf h16 hT
      · exact findEntryG_B1 h hn hs root hr hv hh hst0 hst hf h16 hT
    · exact findEntryG_C h hn hs root hr hv hh hst0 hst hf h16
  · have E : (feG s y.host root x.va y.steps) = ⟨3, 0, 0, false, [], (walkV s y.host (k1V root x.va) 1 false).mem, y.steps + (walkV s y.host (k1V root x.va) 1 false).reads.length, k1V root x.va⟩ := if_neg hf
    rw [E]
    refine Calls.mono (findEntryG_1 h hn hs root hr hv hh hst0 hst hf) ?_
    rintro e u ⟨he, x', hg, h1, h2, h3⟩
    exact ⟨he, rv, x', hg, h1, h2, h3, fun h => by cases h⟩
structure FGok (s : ByteArray) (steps : Int) (f : FG) : Prop where
  code : f.code = 0 ∨ f.code = 2 ∨ f.code = 3
  e0 : 0 ≤ f.e
  e1 : f.e ≤ 4294967295
  k1 : f.k ≤ 262143
  k4 : f.k % 4 = 0
  zl : f.zs.length ≤ 2
  size : f.mem.size = s.size
  s0 : steps ≤ f.steps
  s1 : f.steps ≤ steps + 4
theorem fe2_steps (s : ByteArray) (host root T va : Nat) (steps : Int) : steps ≤ (fe2 s host root T va steps).steps ∧ (fe2 s host root T va steps).steps ≤ steps + 2 := by
  have hl := walkV_len s host (k2V T va) 1 false
  unfold fe2
  split
  · exact ⟨by simp only; omega, by simp only; omega⟩
  · exact ⟨by simp only; omega, by simp only; omega⟩
theorem fe2_ok2 (s : ByteArray) (host root T va : Nat) (steps : Int) (hT : T < 1024) : FGok s (steps - 2) (fe2 s host root T va steps) := by
  have hk : k2V T va ≤ 262143 := by unfold k2V; omega
  have hk4 : k2V T va % 4 = 0 := by unfold k2V; omega
  have hz := walkV_size s host (k2V T va) 1 false hk
  have hl := walkV_len s host (k2V T va) 1 false
  have hb := wv_b (walkV s host (k2V T va) 1 false).mem (walkV s host (k2V T va) 1 false).pa.toNat
  unfold fe2
  split
  · exact ⟨.inl rfl, hb.1, hb.2, hk, hk4, Nat.le_refl _, hz, by simp only; omega, by simp only; omega⟩
  · exact ⟨.inr (.inr rfl), Int.le_refl 0, (by decide : (0 : Int) ≤ 4294967295), by simp, by simp, by simp, hz, by simp only; omega, by simp only; omega⟩
theorem feG_ok (s : ByteArray) (host root va : Nat) (steps : Int) (hr : root ≤ 255) (hv : va ≤ 262143) : FGok s steps (feG s host root va steps) := by
  have hk : k1V root va ≤ 262143 := by unfold k1V; omega
  have hk4 : k1V root va % 4 = 0 := by unfold k1V; omega
  have hz := walkV_size s host (k1V root va) 1 false hk
  have hl := walkV_len s host (k1V root va) 1 false
  have hb := wv_b (walkV s host (k1V root va) 1 false).mem (walkV s host (k1V root va) 1 false).pa.toNat
  unfold feG
  split
  · unfold fe1
    split
    · split
      · have h2 := fe2_ok2 (walkV s host (k1V root va) 1 false).mem host root (wv (walkV s host (k1V root va) 1 false).mem (walkV s host (k1V root va) 1 false).pa.toNat / 256).toNat va (steps + (walkV s host (k1V root va) 1 false).reads.length) (by omega)
        exact ⟨h2.code, h2.e0, h2.e1, h2.k1, h2.k4, h2.zl, h2.size.trans hz, by have := fe2_steps (walkV s host (k1V root va) 1 false).mem host root (wv (walkV s host (k1V root va) 1 false).mem (walkV s host (k1V root va) 1 false).pa.toNat / 256).toNat va (steps + (walkV s host (k1V root va) 1 false).reads.length); omega, by have := fe2_steps (walkV s host (k1V root va) 1 false).mem host root (wv (walkV s host (k1V root va) 1 false).mem (walkV s host (k1V root va) 1 false).pa.toNat / 256).toNat va (steps + (walkV s host (k1V root va) 1 false).reads.length); omega⟩
      · exact ⟨.inr (.inl rfl), Int.le_refl 0, (by decide : (0 : Int) ≤ 4294967295), by simp, by simp, by simp, hz, by simp only; omega, by simp only; omega⟩
    · exact ⟨.inl rfl, hb.1, hb.2, hk, hk4, by simp, hz, by simp only; omega, by simp only; omega⟩
  · exact ⟨.inr (.inr rfl), Int.le_refl 0, (by decide : (0 : Int) ≤ 4294967295), by simp, by simp, by simp, hz, by simp only; omega, by simp only; omega⟩
end Go.Proofs.Ytfagohdmepnkkaa
