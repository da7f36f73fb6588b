import Derived.Test.YtakacapcphbjiaaRows
import Derived.Test.YtakacapcphbjiaaSt4
import Derived.WalkKit
import Derived.ProofKit
import Derived.OpenShut
import Derived.ShutString
namespace Go.Proofs.Ytakacapcphbjiaa.fnExactStampOf
open Go.ChangeShapes Go.WideShapes Go.ChangeAt Go.RowKit
open Go.ChangeMaps (open_string shut_string)
set_option linter.unusedVariables false

theorem own : ownKnob Try.prog.godebug = none := by kernel_rfl

set_option maxRecDepth 100000 in
set_option maxHeartbeats 4000000 in
theorem walk (a0 : Int) (w0 : (Lit.int .i64 a0).wf = true) (w : World) :
    Calls Try.prog 3 #[.int .i64 a0] w fun e w' => e = .returned (.bool true) ∧ Below w.heap.size w w' := by
  go_enter Try.func3, Try.ntmps3
  go_wp2_with fail
  refine (specStamp_any a0 w).mono ?_
  rintro e u1 ⟨y, m, d, s, rfl, hs, hb1⟩
  unfold sA
  go_wp2_with fail
  have HA : Hid ((u1.alloc (.cells #[.int .i64 y, .int .i64 m, .int .i64 d, .int .i64 s] 23)).heap[u1.heap.size]? = some (.cells #[.int .i64 y, .int .i64 m, .int .i64 d, .int .i64 s] 23 (0, 0))) := heap_new _ _
  have HB : Hid (Below w.heap.size w (u1.alloc (.cells #[.int .i64 y, .int .i64 m, .int .i64 d, .int .i64 s] 23))) := hb1.alloc hb1.size _
  generalize (u1.alloc (.cells #[.int .i64 y, .int .i64 m, .int .i64 d, .int .i64 s] 23)) = V1 at *
  refine (implStamp_as hs V1).mono ?_
  rintro e u2 ⟨rfl, hb2⟩
  unfold sA
  have hlt : u1.heap.size < V1.heap.size := (Array.getElem?_eq_some_iff.1 HA.out).1
  have hlt2 : u1.heap.size < u2.heap.size := Nat.lt_of_lt_of_le hlt hb2.size
  obtain ⟨c0, c1, c2, c3, cf⟩ := cel4 ((hb2.block _ hlt).trans HA.out)
  have HB2 : Hid (Below w.heap.size w u2) := HB.out.trans (hb2.mono HB.out.size)
  clear hb1 hs hb2
  go_wp2_with fail
  refine (eqStamp_same y m d s _).mono ?_
  rintro e u3 ⟨rfl, hb3⟩
  have HB3 : Hid (Below w.heap.size w u3) := (HB2.out.alloc HB2.out.size _).trans (hb3.mono (by have := HB2.out.size; simp; omega))
  clear hb3
  go_wp2_with fail
  go_ret
  exact ⟨rfl, HB3.out⟩

set_option maxRecDepth 100000 in
theorem lifted (os : Os) (started : os.Started) (H : Type) (enc : TypeId × Value → H) :
    ReturnsInHanded {} Try.checked os 3 .any (Rows.fnExactStampOfSpec.pre6 enc Try.prog Try.f3 Rows.fnExactStampOfRow.domain false) (Rows.fnExactStampOfSpec.post enc Try.prog Try.f3 false true false false) := by
  refine returnsInHanded_of_change (C := Try.checked) own started (by kernel_rfl) Try.func3
    (ChangeSpec.witness6 (enc := enc) (C := Try.checked) false ⟨#[], #[.int .i64 0], []⟩ 8 (by kernel_rfl) (by kernel_rfl) (by kernel_rfl) (by kernel_rfl)) ?_
  intro W base args ds gs before hval0 hW hcnd _
  have hval : ∀ (j : Nat) t v, Try.f3.params[j]? = some t → args[j]? = some v → Value.okWide Try.prog W .any base t v := hval0
  have hW' := hW
  obtain ⟨p, q, hA0, hV, rfl, hfz, hnd⟩ := hW
  have hA : DataW.TrodAll enc Try.prog W 0 (fun _ => true) true Try.f3.params.toList args.toList ds p := hA0
  rw [Try.params3] at hA hval
  obtain ⟨v0, vs0, d0, ds0, p0, q0, hargs, rfl, rfl, h0, r0⟩ := trodAll_cons hA
  obtain ⟨rfl, rfl, rfl⟩ := trodAll_nil r0
  obtain rfl : args = #[v0] := by cases args; simp_all
  obtain ⟨rfl, rfl⟩ := trodVars_none hV
  obtain ⟨a0, rfl, rfl, rfl, w0⟩ := open_int Try.underlying2 (hval 0 2 v0 rfl rfl) h0
  clear hA0 hval0
  simp only [List.append_nil] at hW'
  refine (walk a0 w0 W).mono fun e W' ⟨he, hg⟩ => ?_
  subst he
  exact ⟨_, rfl, _, _, _, [], [], [], hW', (trodAll_cons_mk (shut_bool Try.underlying4 _) trodAll_mk0), (trodAll_cons_mk (shut_int Try.underlying2 w0) trodAll_mk0), rfl, hg.frame _, fun h => by cases h⟩

theorem over : Rows.fnExactStampOfRow.holds Try.pinned (OpenSpec.ofChange Rows.fnExactStampOfSpec) :=
  OpenClaim.holds_of_wide 3 Try.f3 rfl rfl rfl rfl rfl rfl rfl ⟨rfl, rfl, rfl, rfl, rfl⟩ rfl rfl rfl rfl rfl (by kernel_rfl) Try.func3 (by kernel_rfl)
    (of_decide_eq_true (by kernel_rfl)) (by unfold Func.isWrapper; first | (rw [if_pos (by decide +kernel)]; kernel_rfl) | (rw [if_neg (by decide +kernel)]; exact ⟨rfl, rfl⟩))
    (fun os started H enc _ => lifted os started H enc)

end Go.Proofs.Ytakacapcphbjiaa.fnExactStampOf
namespace Go.Proofs.Ytakacapcphbjiaa
theorem fnExactStampOf_holds : Rows.FnExactStampOfSaid :=
  fnExactStampOf.over
#print axioms fnExactStampOf_holds
end Go.Proofs.Ytakacapcphbjiaa
