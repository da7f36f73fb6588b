import Derived.Test.YtakacapcphbjiaaRows
import Derived.Test.YtakacapcphbjiaaSt10
import Derived.Test.YtakacapcphbjiaaCode
import Derived.WalkKit
import Derived.ProofKit
import Derived.OpenShut
import Derived.ShutString
import Derived.ChangeOld
import Derived.Below
namespace Go.Proofs.Ytakacapcphbjiaa.fnStamps
open Go.ChangeShapes Go.WideShapes Go.ChangeAt Go.RowKit
open Go.ChangeMaps (open_string shut_string)
set_option linter.unusedVariables false

theorem own : ownKnob Try.prog.godebug = none := by kernel_rfl
theorem laidOut : laidOutB Try.prog = true := by kernel_rfl

def IsRow (k : IntKind) (w : World) (a : Option Addr) (len cap : Nat) (zs : List Int) : Prop :=
  (a = none ∧ len = 0 ∧ cap = 0 ∧ zs = []) ∨
  ∃ x, a = some x ∧ len ≤ cap ∧ cap ≤ maxLen ∧ zs.length = cap ∧ (∀ i, i < zs.length → w.cell? (x.add i) = some (.int k (zs.getD i 0))) ∧ ∀ n ∈ zs, (Lit.int k n).wf = true

set_option maxRecDepth 100000 in
set_option maxHeartbeats 4000000 in
theorem walk (a0 : Option Addr) (len0 cap0 : Nat) (z0 : List Int) (w : World) (w0 : IsRow .u8 w a0 len0 cap0 z0) :
    Calls Try.prog 5 #[.slice a0 len0 cap0] w fun e w' => e = .returned (.bool true) ∧ Below w.heap.size w w' := by
  by_cases hl : len0 ≤ 1048576
  · have hcode := code_of w a0 len0 cap0 z0 w0
    have HC : Hid (CodeAt w w.heap.size a0 len0) := hcode
    clear hcode w0
    go_enter Try.func5, Try.ntmps5
    go_wp2_with fail
    refine (drawStamp_any a0 len0 cap0 w HC.out hl).mono ?_
    rintro e u0 ⟨n, rfl, hb0⟩
    have HB0 : Hid (Below w.heap.size w u0) := hb0
    clear HC hb0
    go_wp2_with fail
    refine (implStamp_D n u0).mono ?_
    rintro e u1 ⟨y, m, d, s, rfl, hs, hb1⟩
    have HD : Hid (StD n y m d s) := hs
    unfold sA
    have HB1 : Hid (Below w.heap.size w u1) := HB0.out.trans (hb1.mono HB0.out.size)
    clear hs hb1 HB0
    have HB1a : Hid (Below w.heap.size w (u1.alloc (.cells #[.int .i64 y, .int .i64 m, .int .i64 d, .int .i64 s] 23))) := HB1.out.alloc HB1.out.size _
    have HX1 : Hid ((u1.alloc (.cells #[.int .i64 y, .int .i64 m, .int .i64 d, .int .i64 s] 23)).heap[u1.heap.size]? = some (.cells #[.int .i64 y, .int .i64 m, .int .i64 d, .int .i64 s] 23 (0, 0))) := heap_new _ _
    go_wp2_with fail
    generalize (u1.alloc (.cells #[.int .i64 y, .int .i64 m, .int .i64 d, .int .i64 s] 23)) = V1 at *
    refine (specStamp_D HD.out V1).mono ?_
    rintro e u2 ⟨rfl, hb2⟩
    unfold sA
    have hlt : u1.heap.size < V1.heap.size := (Array.getElem?_eq_some_iff.1 HX1.out).1
    have HX2 : Hid (u2.heap[u1.heap.size]? = some (.cells #[.int .i64 y, .int .i64 m, .int .i64 d, .int .i64 s] 23 (0, 0))) := (hb2.block _ hlt).trans HX1.out
    have hlt2 : u1.heap.size < u2.heap.size := (Array.getElem?_eq_some_iff.1 HX2.out).1
    have HB2 : Hid (Below w.heap.size w u2) := HB1a.out.trans (hb2.mono HB1a.out.size)
    clear hb2 HX1 HB1a HB1 hlt
    have HX3 : Hid ((u2.alloc (.cells #[.int .i64 y, .int .i64 m, .int .i64 d, .int .i64 s] 23)).heap[u1.heap.size]? = some (.cells #[.int .i64 y, .int .i64 m, .int .i64 d, .int .i64 s] 23 (0, 0))) := (Below.heap_alloc _ _ _ (by omega)).trans HX2.out
    have HY3 : Hid ((u2.alloc (.cells #[.int .i64 y, .int .i64 m, .int .i64 d, .int .i64 s] 23)).heap[u2.heap.size]? = some (.cells #[.int .i64 y, .int .i64 m, .int .i64 d, .int .i64 s] 23 (0, 0))) := heap_new _ _
    have HB3 : Hid (Below w.heap.size w (u2.alloc (.cells #[.int .i64 y, .int .i64 m, .int .i64 d, .int .i64 s] 23))) := HB2.out.alloc HB2.out.size _
    obtain ⟨c0, c1, c2, c3, cf⟩ := cel4 HX2.out
    rcases HD.out.back with h0 | ⟨h1, h2⟩
    · subst h0
      go_wp2_with fail
      go_ret
      exact ⟨rfl, HB3.out⟩
    · have h1n : ¬ y = 0 := by omega
      have HSV : Hid _ := fun u => implSeconds_any y m d s u
      have HAG : Hid (sA y m d s = .agg #[.int .i64 y, .int .i64 m, .int .i64 d, .int .i64 s]) := rfl
      rw [HAG.out, h2] at HSV
      clear HAG h2
      go_wp2_with fail
      refine (HSV.out _).mono ?_
      rintro e u4 ⟨rfl, hb4⟩
      have HB4 : Hid (Below w.heap.size w u4) := HB3.out.trans (hb4.mono HB3.out.size)
      clear hb4
      go_wp2_with fail
      go_ret
      exact ⟨ret_bool (by simp), HB4.out⟩
  · go_enter Try.func5, Try.ntmps5
    go_wp2_with fail
    go_ret
    exact ⟨rfl, Below.refl _ _⟩

set_option maxRecDepth 100000 in
theorem lifted (os : Os) (started : os.Started) (H : Type) (enc : TypeId × Value → H) :
    ReturnsInHanded {} Try.checked os 5 .any (Rows.fnStampsSpec.pre6 enc Try.prog Try.f5 Rows.fnStampsRow.domain false) (Rows.fnStampsSpec.post enc Try.prog Try.f5 false true false false) := by
  refine returnsInHanded_of_change (C := Try.checked) own started (by kernel_rfl) Try.func5
    (ChangeSpec.witness6 (enc := enc) (C := Try.checked) false ⟨#[], #[.slice none 0 0], []⟩ 8 (by kernel_rfl) (by kernel_rfl) (by kernel_rfl) (by kernel_rfl)) ?_
  intro W base args ds gs before hval0 hW hcnd _
  have hval : ∀ (j : Nat) t v, Try.f5.params[j]? = some t → args[j]? = some v → Value.okWide Try.prog W .any base t v := hval0
  have hW' := hW
  obtain ⟨p, q, hA0, hV, rfl, hfz, hnd⟩ := hW
  have hA : DataW.TrodAll enc Try.prog W 0 (fun _ => true) true Try.f5.params.toList args.toList ds p := hA0
  rw [Try.params5] at hA hval
  obtain ⟨v0, vs0, d0, ds0, p0, q0, hargs, rfl, rfl, h0, r0⟩ := trodAll_cons hA
  obtain ⟨rfl, rfl, rfl⟩ := trodAll_nil r0
  obtain rfl : args = #[v0] := by cases args; simp_all
  obtain ⟨rfl, rfl⟩ := trodVars_none hV
  obtain ⟨a0, len0, cap0, rfl⟩ := okWide_slice Try.underlying31 (hval 0 31 v0 rfl rfl)
  have k0 := h0
  have lt0 : ∀ x ∈ p0, x.block < W.heap.size := by obtain ⟨m, hm⟩ := k0; exact DataW.trod_lt m _ _ _ hm
  obtain ⟨z0, w0⟩ : ∃ zs, IsRow .u8 W a0 len0 cap0 zs := by
    obtain ⟨fuel, hf⟩ := h0
    rcases open_ints Try.underlying31 Try.underlying5 (by kernel_rfl) hf with ⟨hcs, _⟩ | ⟨x, l, c, zs, hcs, _, hl, hm, hz, _, hcell, hwz⟩
    · simp [Value.cells] at hcs
      obtain ⟨rfl, rfl, rfl⟩ := hcs
      exact ⟨[], .inl ⟨rfl, rfl, rfl, rfl⟩⟩
    · simp [Value.cells] at hcs
      obtain ⟨rfl, rfl, rfl⟩ := hcs
      exact ⟨zs, .inr ⟨_, rfl, hl, hm, by simpa using hz, hcell, hwz⟩⟩
  clear hA0 hval0
  refine (walk a0 len0 cap0 z0 W w0).mono fun e W' ⟨he, bel⟩ => ?_
  subst he
  exact ⟨_, rfl, _, _, _, [], _, [], hW', trodAll_mk1 (shut_bool Try.underlying4 _), (trodAll_cons_mk (Below.trod laidOut (by kernel_rfl) (of_decide_eq_true (by kernel_rfl)) k0 bel lt0) trodAll_mk0), rfl, bel.frame _, fun h => by cases h⟩

theorem over : Rows.fnStampsRow.holds Try.pinned (OpenSpec.ofChange Rows.fnStampsSpec) :=
  OpenClaim.holds_of_wide 5 Try.f5 rfl rfl rfl rfl rfl rfl rfl ⟨rfl, rfl, rfl, rfl, rfl⟩ rfl rfl rfl rfl rfl (by kernel_rfl) Try.func5 (by kernel_rfl)
    (of_decide_eq_true (by kernel_rfl)) (by unfold Func.isWrapper; first | (rw [if_pos (by decide +kernel)]; kernel_rfl) | (rw [if_neg (by decide +kernel)]; exact ⟨rfl, rfl⟩))
    (fun os started H enc _ => lifted os started H enc)

end Go.Proofs.Ytakacapcphbjiaa.fnStamps
namespace Go.Proofs.Ytakacapcphbjiaa
theorem fnStamps_holds : Rows.FnStampsSaid :=
  fnStamps.over
#print axioms fnStamps_holds
end Go.Proofs.Ytakacapcphbjiaa
