import Derived.Test.YtnbohdninedjdaaRows
import Derived.Test.YtnbohdninedjdaaLwZ
import Derived.WalkKit
import Derived.ProofKit
import Derived.OpenShut
import Derived.ShutString
import Derived.ChangeOld
import Derived.Carry
namespace Go.Proofs.Ytnbohdninedjdaa.fnExactPackMachine
open Go.ChangeShapes Go.WideShapes Go.ChangeAt Go.RowKit
set_option linter.unusedVariables false

theorem own : ownKnob Try.prog.godebug = none := by kernel_rfl
theorem laidOut : laidOutB Try.prog = true := by kernel_rfl
theorem cM : Try.prog.cellsOf 36 = 12 := by kernel_rfl
theorem cIS : Try.prog.cellsOf 33 = 1 := by kernel_rfl
theorem cPS : Try.prog.cellsOf 34 = 1 := by kernel_rfl
theorem cI : Try.prog.cellsOf 2 = 1 := by kernel_rfl
theorem cSt : Try.prog.cellsOf 9 = 1 := by kernel_rfl
theorem array12 {α : Type} {cs : Array α} (h : cs.size = 12) : ∃ c0 c1 c2 c3 c4 c5 c6 c7 c8 c9 c10 c11, cs = #[c0, c1, c2, c3, c4, c5, c6, c7, c8, c9, c10, c11] := by
  obtain ⟨l⟩ := cs
  match l, h with
  | [c0, c1, c2, c3, c4, c5, c6, c7, c8, c9, c10, c11], _ => exact ⟨c0, c1, c2, c3, c4, c5, c6, c7, c8, c9, c10, c11, rfl⟩
set_option maxRecDepth 100000 in
theorem open_mac {H : Type} {enc : TypeId × Value → H} {W : World} {base : Nat} {v : Value} {d : DataW H} {p : List MemPlace} (hv : Value.okWide Try.prog W .any base 36 v)
    (h : DataW.Trod enc Try.prog W 0 (fun _ => true) true 36 v d p) : ∃ (m : MV) (a : MA), v = .agg (mC m a) ∧ MRows W m a ∧ MMax m := by
  obtain ⟨cs, rfl, hsz⟩ := okWide_struct Try.underlying36 hv
  obtain ⟨x0, x1, x2, x3, x4, x5, x6, x7, x8, x9, x10, x11, rfl⟩ := array12 (hsz.trans cM)
  obtain ⟨fuel, hf⟩ := h
  obtain ⟨xs, n, _, hx, _, hlen, hel⟩ := DataW.trod_struct Try.underlying36 hf
  match xs, hlen, hel, hx with
  | [y0, y1, y2, y3, y4, y5, y6, y7, y8, y9, y10, y11], _, hel, hx =>
    have g0 := hel 0 _ rfl
    have g1 := hel 1 _ rfl
    have g2 := hel 2 _ rfl
    have g3 := hel 3 _ rfl
    have g4 := hel 4 _ rfl
    have g5 := hel 5 _ rfl
    have g6 := hel 6 _ rfl
    have g7 := hel 7 _ rfl
    have g8 := hel 8 _ rfl
    have g9 := hel 9 _ rfl
    have g10 := hel 10 _ rfl
    have g11 := hel 11 _ rfl
    simp only [Value.cells] at g0 g1 g2 g3 g4 g5 g6 g7 g8 g9 g10 g11
    obtain ⟨z0, e0, _, _⟩ := DataW.trod_int Try.underlying2 g0
    obtain ⟨z2, e2, _, _⟩ := DataW.trod_int Try.underlying2 g2
    obtain ⟨z6, e6, _, _⟩ := DataW.trod_int Try.underlying2 g6
    obtain ⟨z7, e7, _, _⟩ := DataW.trod_int Try.underlying2 g7
    obtain ⟨z8, e8, _, _⟩ := DataW.trod_int Try.underlying2 g8
    obtain ⟨z11, e11, _, _⟩ := DataW.trod_int Try.underlying2 g11
    obtain ⟨z5, e5, _, m5⟩ := DataW.trod_string Try.underlying9 g5
    simp [cI] at e0 e2 e6 e7 e8 e11
    simp [cSt] at e5
    subst e0 e2 e6 e7 e8 e11 e5
    have k1 : DataW.trod enc Try.prog W 0 (fun _ => true) true n 33 [x1] = some y1 := by simpa [cIS] using g1
    obtain ⟨l1, r1, w1⟩ := open_iS k1
    obtain ⟨a1, c1, rfl⟩ := r1.sl
    have k3 : DataW.trod enc Try.prog W 0 (fun _ => true) true n 33 [x3] = some y3 := by simpa [cIS] using g3
    obtain ⟨l3, r3, w3⟩ := open_iS k3
    obtain ⟨a3, c3, rfl⟩ := r3.sl
    have k4 : DataW.trod enc Try.prog W 0 (fun _ => true) true n 33 [x4] = some y4 := by simpa [cIS] using g4
    obtain ⟨l4, r4, w4⟩ := open_iS k4
    obtain ⟨a4, c4, rfl⟩ := r4.sl
    have k9 : DataW.trod enc Try.prog W 0 (fun _ => true) true n 34 [x9] = some y9 := by simpa [cPS] using g9
    obtain ⟨l9, r9, w9⟩ := open_pvS k9
    obtain ⟨a9, c9, rfl⟩ := r9.sl
    have k10 : DataW.trod enc Try.prog W 0 (fun _ => true) true n 34 [x10] = some y10 := by simpa [cPS] using g10
    obtain ⟨l10, r10, w10⟩ := open_pvS k10
    obtain ⟨a10, c10, rfl⟩ := r10.sl
    exact ⟨⟨z0, l1, z2, l3, l4, z5, z6, z7, z8, l9, l10, z11⟩, ⟨a1, c1, a3, c3, a4, c4, a9, c9, a10, c10⟩, rfl, ⟨r1, r3, r4, r9, r10⟩, ⟨w1, w3, w4, w9, w10, m5⟩⟩
set_option maxRecDepth 100000 in
theorem lifted (os : Os) (started : os.Started) (H : Type) (enc : TypeId × Value → H) :
    ReturnsInHanded {} Try.checked os 6 .any (Rows.fnExactPackMachineSpec.pre6 enc Try.prog Try.f6 Rows.fnExactPackMachineRow.domain false) (Rows.fnExactPackMachineSpec.post enc Try.prog Try.f6 false true false false) := by
  refine returnsInHanded_of_change (C := Try.checked) own started (by kernel_rfl) Try.func6
    (ChangeSpec.witness6 (enc := enc) (C := Try.checked) false ⟨#[], #[.agg #[.int .i64 0, .slice none 0 0, .int .i64 0, .slice none 0 0, .slice none 0 0, .string ByteArray.empty, .int .i64 0, .int .i64 0, .int .i64 0, .slice none 0 0, .slice none 0 0, .int .i64 0]], []⟩ 8 (by kernel_rfl) (by kernel_rfl) (by kernel_rfl) (by kernel_rfl)) ?_
  intro W base args ds gs before hval0 hW hcnd _
  have hval : ∀ (j : Nat) t v, Try.f6.params[j]? = some t → args[j]? = some v → Value.okWide Try.prog W .any base t v := hval0
  have hW' := hW
  obtain ⟨p, q, hA0, hV, rfl, hfz, hnd⟩ := hW
  have hA : DataW.TrodAll enc Try.prog W 0 (fun _ => true) true Try.f6.params.toList args.toList ds p := hA0
  rw [Try.params6] at hA hval
  obtain ⟨v0, vs0, d0, ds0, p0, q0, hargs, rfl, rfl, h0, r0⟩ := trodAll_cons hA
  obtain ⟨rfl, rfl, rfl⟩ := trodAll_nil r0
  obtain rfl : args = #[v0] := by cases args; simp_all
  obtain ⟨rfl, rfl⟩ := trodVars_none hV
  have k0 := h0
  have lt0 : ∀ x ∈ p0, x.block < W.heap.size := by obtain ⟨m, hm⟩ := k0; exact DataW.trod_lt m _ _ _ hm
  obtain ⟨m, a, rfl, hr, hl⟩ := open_mac (hval 0 36 v0 rfl rfl) h0
  clear hA0 hval0
  refine (walkPM hr hl).mono fun e W' ⟨he, bel⟩ => ?_
  subst he
  exact ⟨_, rfl, _, _, _, [], _, [], hW', trodAll_mk1 (shut_bool Try.underlying4 _), (trodAll_cons_mk (Below.trod laidOut (by kernel_rfl) (of_decide_eq_true (by kernel_rfl)) k0 bel lt0) trodAll_mk0), rfl, bel.frame _, fun h => by cases h⟩

theorem over : Rows.fnExactPackMachineRow.holds Try.pinned (OpenSpec.ofChange Rows.fnExactPackMachineSpec) :=
  OpenClaim.holds_of_wide 6 Try.f6 rfl rfl rfl rfl rfl rfl rfl ⟨rfl, rfl, rfl, rfl, rfl⟩ rfl rfl rfl rfl rfl (by kernel_rfl) Try.func6 (by kernel_rfl)
    (of_decide_eq_true (by kernel_rfl)) (by unfold Func.isWrapper; first | (rw [if_pos (by decide +kernel)]; kernel_rfl) | (rw [if_neg (by decide +kernel)]; exact ⟨rfl, rfl⟩))
    (fun os started H enc _ => lifted os started H enc)

end Go.Proofs.Ytnbohdninedjdaa.fnExactPackMachine
namespace Go.Proofs.Ytnbohdninedjdaa
theorem fnExactPackMachine_holds : Rows.FnExactPackMachineSaid :=
  fnExactPackMachine.over
#print axioms fnExactPackMachine_holds
end Go.Proofs.Ytnbohdninedjdaa
