import Derived.Test.YtnjilcmahooabalRows
import Derived.Test.YtnjilcmahooabalUnHex2
import Derived.WalkKit
import Derived.ProofKit
import Derived.OpenShut
import Derived.ShutString
namespace Go.Proofs.Ytnjilcmahooabal.fnExactUnHex
open Go.ChangeShapes Go.WideShapes Go.ChangeAt Go.RowKit
open Go.ChangeMaps (open_string shut_string)
set_option linter.unusedVariables false

theorem own : ownKnob Try.prog.godebug = none := by kernel_rfl

theorem walk (a0 : ByteArray) (w0 : a0.size ≤ maxLen) (w : World) :
    Calls Try.prog 8 #[.string a0] w fun e w' => e = .returned (.bool true) ∧ Below w.heap.size w w' := by
  by_cases hs : 1048576 < a0.size
  · go_enter Try.func8, Try.ntmps8
    go_wp2_with fail
    go_ret
    exact ⟨rfl, Below.refl _ _⟩
  by_cases hl : 65536 < a0.size
  · skip
    go_enter Try.func8, Try.ntmps8
    go_wp2_with (first | (go_at_call 19; refine ((unhex_long _ _ (by omega) hl).1).mono ?_; rintro e u1 ⟨rfl, hw1⟩) | (go_at_call 20; refine ((unhex_long _ _ (by omega) hl).2).mono ?_; rintro e u2 ⟨rfl, hw2⟩))
    go_ret
    exact ⟨rfl, hw1.trans (hw2.mono hw1.size)⟩
  by_cases ho : a0.size % 2 = 1
  · have HO : Hid (a0.size % 2 = 1) := ho
    clear ho
    go_enter Try.func8, Try.ntmps8
    go_wp2_with (first | (go_at_call 19; refine ((unhex_odd _ _ (by omega) HO.out).1).mono ?_; rintro e u1 ⟨rfl, hw1⟩) | (go_at_call 20; refine ((unhex_odd _ _ (by omega) HO.out).2).mono ?_; rintro e u2 ⟨rfl, hw2⟩))
    go_ret
    exact ⟨rfl, hw1.trans (hw2.mono hw1.size)⟩
  have HE : Hid (a0.size % 2 = 0) := (show a0.size % 2 = 0 by omega)
  clear ho
  go_enter Try.func8, Try.ntmps8
  go_wp2_with (go_at_call 19; refine (specUnHex_in _ _ (by omega) HE.out).mono ?_; rintro e u1 ⟨⟨r, rfl, hr⟩, hw1⟩)
  refine (implUnHex_in _ _ (by omega) HE.out).mono ?_
  rintro e u2 ⟨⟨t, rfl, ht⟩, hw2⟩
  obtain rfl := hr.one ht
  go_wp2
  go_ret
  exact ⟨rfl, hw1.trans (hw2.mono hw1.size)⟩

set_option maxRecDepth 100000 in
theorem lifted (os : Os) (started : os.Started) (H : Type) (enc : TypeId × Value → H) :
    ReturnsInHanded {} Try.checked os 8 .any (Rows.fnExactUnHexSpec.pre6 enc Try.prog Try.f8 Rows.fnExactUnHexRow.domain false) (Rows.fnExactUnHexSpec.post enc Try.prog Try.f8 false true false false) := by
  refine returnsInHanded_of_change (C := Try.checked) own started (by kernel_rfl) Try.func8
    (ChangeSpec.witness6 (enc := enc) (C := Try.checked) false ⟨#[], #[.string ByteArray.empty], []⟩ 8 (by kernel_rfl) (by kernel_rfl) (by kernel_rfl) (by kernel_rfl)) ?_
  intro W base args ds gs before hval0 hW hcnd _
  have hval : ∀ (j : Nat) t v, Try.f8.params[j]? = some t → args[j]? = some v → Value.okWide Try.prog W .any base t v := hval0
  have hW' := hW
  obtain ⟨p, q, hA0, hV, rfl, hfz, hnd⟩ := hW
  have hA : DataW.TrodAll enc Try.prog W 0 (fun _ => true) true Try.f8.params.toList args.toList ds p := hA0
  rw [Try.params8] at hA hval
  obtain ⟨v0, vs0, d0, ds0, p0, q0, hargs, rfl, rfl, h0, r0⟩ := trodAll_cons hA
  obtain ⟨rfl, rfl, rfl⟩ := trodAll_nil r0
  obtain rfl : args = #[v0] := by cases args; simp_all
  obtain ⟨rfl, rfl⟩ := trodVars_none hV
  obtain ⟨a0, rfl, rfl, rfl, w0⟩ := open_string Try.underlying9 (hval 0 9 v0 rfl rfl) h0
  clear hA0 hval0
  simp only [List.append_nil] at hW'
  refine (walk a0 w0 W).mono fun e W' ⟨he, hg⟩ => ?_
  subst he
  exact ⟨_, rfl, _, _, _, [], [], [], hW', (trodAll_cons_mk (shut_bool Try.underlying4 _) trodAll_mk0), (trodAll_cons_mk (shut_string Try.underlying9 w0) trodAll_mk0), rfl, hg.frame _, fun h => by cases h⟩

theorem over : Rows.fnExactUnHexRow.holds Try.pinned (OpenSpec.ofChange Rows.fnExactUnHexSpec) :=
  OpenClaim.holds_of_wide 8 Try.f8 rfl rfl rfl rfl rfl rfl rfl ⟨rfl, rfl, rfl, rfl, rfl⟩ rfl rfl rfl rfl rfl (by kernel_rfl) Try.func8 (by kernel_rfl)
    (of_decide_eq_true (by kernel_rfl)) (by unfold Func.isWrapper; first | (rw [if_pos (by decide +kernel)]; kernel_rfl) | (rw [if_neg (by decide +kernel)]; exact ⟨rfl, rfl⟩))
    (fun os started H enc _ => lifted os started H enc)

end Go.Proofs.Ytnjilcmahooabal.fnExactUnHex
namespace Go.Proofs.Ytnjilcmahooabal
theorem fnExactUnHex_holds : Rows.FnExactUnHexSaid :=
  fnExactUnHex.over
#print axioms fnExactUnHex_holds
end Go.Proofs.Ytnjilcmahooabal
