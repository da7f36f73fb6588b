import Derived.Test.YtfagohdmepnkkaaGTwo6
namespace Go.Proofs.Ytfagohdmepnkkaa
open Go.ChangeShapes Go.WideShapes Go.ChangeAt Go.RowKit

theorem fe2_ok {w0 u : World} {b G B n : Nat} {s : ByteArray} {y : GS} {rv : Value} {x : WS} {host root T va : Nat} {st : Int} {e : Ending} (hy : y.host = host) (hs : y.steps = st)
    (h1 : (walkV s y.host ((T * 256 + 4 * (va / 256 % 32) : Nat) : Int) 1 false).fault = 0 → e = .returned (.int .i64 0) ∧ ∃ rv', GW w0 b G B n (walkV s y.host ((T * 256 + 4 * (va / 256 % 32) : Nat) : Int) 1 false).mem { y with steps := y.steps + (walkV s y.host ((T * 256 + 4 * (va / 256 % 32) : Nat) : Int) 1 false).reads.length, place := ((T * 256 + 4 * (va / 256 % 32) : Nat) : Int) } u rv' ([(root : Int)] ++ [(T : Int)])
        { x with at_ := ((T * 256 + 4 * (va / 256 % 32) : Nat) : Int), e := wv (walkV s y.host ((T * 256 + 4 * (va / 256 % 32) : Nat) : Int) 1 false).mem (walkV s y.host ((T * 256 + 4 * (va / 256 % 32) : Nat) : Int) 1 false).pa.toNat })
    (h2 : ¬ (walkV s y.host ((T * 256 + 4 * (va / 256 % 32) : Nat) : Int) 1 false).fault = 0 → e = .returned (.int .i64 3) ∧ GW w0 b G B n (walkV s y.host ((T * 256 + 4 * (va / 256 % 32) : Nat) : Int) 1 false).mem { y with steps := y.steps + (walkV s y.host ((T * 256 + 4 * (va / 256 % 32) : Nat) : Int) 1 false).reads.length, place := ((T * 256 + 4 * (va / 256 % 32) : Nat) : Int) } u rv [(root : Int)] { x with at_ := ((T * 256 + 4 * (va / 256 % 32) : Nat) : Int) }) (hl : x.lg = false) :
    ∃ rv2 x2, e = .returned (.int .i64 (fe2 s host root T va st).code) ∧ GW w0 b G B n (fe2 s host root T va st).mem { y with steps := (fe2 s host root T va st).steps, place := (fe2 s host root T va st).place } u rv2 (fe2 s host root T va st).zs x2 ∧ x2.va = x.va ∧ x2.acc = x.acc ∧ x2.user = x.user ∧
      ((fe2 s host root T va st).code = 0 → x2.at_ = ((fe2 s host root T va st).k : Int) ∧ x2.e = (fe2 s host root T va st).e ∧ x2.lg = (fe2 s host root T va st).lg) := by
  subst hy
  subst hs
  by_cases hf : (walkV s y.host ((T * 256 + 4 * (va / 256 % 32) : Nat) : Int) 1 false).fault = 0
  · obtain ⟨rfl, rv', hg⟩ := h1 hf
    have E : fe2 s y.host root T va y.steps = ⟨0, wv (walkV s y.host (k2V T va) 1 false).mem (walkV s y.host (k2V T va) 1 false).pa.toNat, k2V T va, false, [(root : Int), (T : Int)], (walkV s y.host (k2V T va) 1 false).mem, y.steps + (walkV s y.host (k2V T va) 1 false).reads.length, k2V T va⟩ := if_pos hf
    rw [E]
    exact ⟨rv', _, rfl, hg, rfl, rfl, rfl, fun _ => ⟨rfl, rfl, hl⟩⟩
  · obtain ⟨rfl, hg⟩ := h2 hf
    have E : fe2 s y.host root T va y.steps = ⟨3, 0, 0, false, [(root : Int)], (walkV s y.host (k2V T va) 1 false).mem, y.steps + (walkV s y.host (k2V T va) 1 false).reads.length, k2V T va⟩ := if_neg hf
    rw [E]
    exact ⟨rv, _, rfl, hg, rfl, rfl, rfl, fun h => by cases h⟩
end Go.Proofs.Ytfagohdmepnkkaa
