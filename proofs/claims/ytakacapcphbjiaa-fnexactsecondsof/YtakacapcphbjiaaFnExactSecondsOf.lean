import Derived.Test.YtakacapcphbjiaaRows
import Derived.Test.YtakacapcphbjiaaSt9
import Derived.Deep.Slices
import Derived.WalkKit
import Derived.ProofKit
import Derived.OpenShut
import Derived.ShutString
import Derived.ChangeOld
import Derived.Carry
namespace Go.Proofs.Ytakacapcphbjiaa.fnExactSecondsOf
open Go.ChangeShapes Go.WideShapes Go.ChangeAt Go.RowKit
set_option linter.unusedVariables false

theorem c4 : Try.prog.cellsOf 27 = 4 := by kernel_rfl
theorem c1 : Try.prog.cellsOf 2 = 1 := by kernel_rfl
theorem list4 {cs : Array Value} (h : cs.size = 4) : ∃ x0 x1 x2 x3, cs = #[x0, x1, x2, x3] := by
  obtain ⟨l⟩ := cs
  match l, h with
  | [x0, x1, x2, x3], _ => exact ⟨x0, x1, x2, x3, rfl⟩
theorem open_stamp {H : Type} {enc : TypeId × Value → H} {W : World} {base : Nat} {v : Value} {d : DataW H} {p : List MemPlace} (hv : Value.okWide Try.prog W .any base 27 v)
    (h : DataW.Trod enc Try.prog W 0 (fun _ => true) true 27 v d p) : ∃ y m d s : Int, v = sA y m d s := by
  obtain ⟨cs, rfl, hsz⟩ := okWide_struct Try.underlying27 hv
  obtain ⟨x0, x1, x2, x3, rfl⟩ := list4 (hsz.trans c4)
  obtain ⟨fuel, hf⟩ := h
  obtain ⟨xs, n, _, hx, _, hlen, hel⟩ := DataW.trod_struct Try.underlying27 hf
  match xs, hlen, hel with
  | [y0, y1, y2, y3], _, hel =>
    have g0 := hel 0 _ rfl
    have g1 := hel 1 _ rfl
    have g2 := hel 2 _ rfl
    have g3 := hel 3 _ rfl
    simp only [Value.cells] at g0 g1 g2 g3
    obtain ⟨a, e0, _⟩ := DataW.trod_int Try.underlying2 g0
    obtain ⟨b, e1, _⟩ := DataW.trod_int Try.underlying2 g1
    obtain ⟨c, e2, _⟩ := DataW.trod_int Try.underlying2 g2
    obtain ⟨e, e3, _⟩ := DataW.trod_int Try.underlying2 g3
    simp [c1] at e0 e1 e2 e3
    subst e0 e1 e2 e3
    exact ⟨a, b, c, e, rfl⟩
set_option maxRecDepth 100000 in
set_option maxHeartbeats 4000000 in
theorem walkSO (y m d s : Int) (w : World) : Calls Try.prog 4 #[sA y m d s] w fun e w' => e = .returned (.bool true) ∧ Below w.heap.size w w' := by
  have HTO : Hid _ := fun u => toStamp_any y m d s u
  have HSS : Hid _ := fun u => specSeconds_any y m d s u
  have HSI : Hid _ := fun u => implSeconds_any y m d s u
  have HB0 : Hid (Below w.heap.size w (w.alloc (.cells #[.int .i64 y, .int .i64 m, .int .i64 d, .int .i64 s] 27))) := bx1 _ _
  have HX0 : Hid ((w.alloc (.cells #[.int .i64 y, .int .i64 m, .int .i64 d, .int .i64 s] 27)).heap[w.heap.size]? = some (.cells #[.int .i64 y, .int .i64 m, .int .i64 d, .int .i64 s] 27 (0, 0))) := heap_new _ _
  generalize secV y m d s = V at *
  have HAG : Hid (sA y m d s = .agg #[.int .i64 y, .int .i64 m, .int .i64 d, .int .i64 s]) := rfl
  rw [HAG.out] at HTO HSS HSI ⊢
  clear HAG
  go_enter Try.func4, Try.ntmps4
  go_wp2_with fail
  generalize (w.alloc (.cells #[.int .i64 y, .int .i64 m, .int .i64 d, .int .i64 s] 27)) = u0 at *
  refine (HTO.out u0).mono ?_
  rintro e u1 ⟨rfl, hb1⟩
  have hlt0 : w.heap.size < u0.heap.size := (Array.getElem?_eq_some_iff.1 HX0.out).1
  have HB1 : Hid (Below w.heap.size w u1) := HB0.out.trans (hb1.mono HB0.out.size)
  have HX1 : Hid (u1.heap[w.heap.size]? = some (.cells #[.int .i64 y, .int .i64 m, .int .i64 d, .int .i64 s] 27 (0, 0))) := (hb1.block _ hlt0).trans HX0.out
  have hlt1 : w.heap.size < u1.heap.size := (Array.getElem?_eq_some_iff.1 HX1.out).1
  clear hb1 HB0 HX0 hlt0
  go_wp2_with fail
  refine (HSS.out u1).mono ?_
  rintro e u2 ⟨rfl, hb2⟩
  have HB2 : Hid (Below w.heap.size w u2) := HB1.out.trans (hb2.mono HB1.out.size)
  have HX2 : Hid (u2.heap[w.heap.size]? = some (.cells #[.int .i64 y, .int .i64 m, .int .i64 d, .int .i64 s] 27 (0, 0))) := (hb2.block _ hlt1).trans HX1.out
  have hlt2 : w.heap.size < u2.heap.size := (Array.getElem?_eq_some_iff.1 HX2.out).1
  clear hb2 HB1 HX1 hlt1
  obtain ⟨k0, k1, k2, k3, kf⟩ := cel4 HX2.out
  go_wp2_with fail
  refine (HTO.out u2).mono ?_
  rintro e u3 ⟨rfl, hb3⟩
  have HB3 : Hid (Below w.heap.size w u3) := HB2.out.trans (hb3.mono HB2.out.size)
  clear hb3 HB2 HX2 hlt2 k0 k1 k2 k3 kf
  go_wp2_with fail
  refine (HSI.out u3).mono ?_
  rintro e u4 ⟨rfl, hb4⟩
  have HB4 : Hid (Below w.heap.size w u4) := HB3.out.trans (hb4.mono HB3.out.size)
  clear hb4 HB3
  go_wp2_with fail
  go_ret
  exact ⟨rfl, HB4.out⟩
theorem own : ownKnob Try.prog.godebug = none := by kernel_rfl
theorem laidOut : laidOutB Try.prog = true := by kernel_rfl
set_option maxRecDepth 100000 in
theorem lifted (os : Os) (started : os.Started) (H : Type) (enc : TypeId × Value → H) :
    ReturnsInHanded {} Try.checked os 4 .any (Rows.fnExactSecondsOfSpec.pre6 enc Try.prog Try.f4 Rows.fnExactSecondsOfRow.domain false) (Rows.fnExactSecondsOfSpec.post enc Try.prog Try.f4 false true false false) := by
  refine returnsInHanded_of_change (C := Try.checked) own started (by kernel_rfl) Try.func4
    (ChangeSpec.witness6 (enc := enc) (C := Try.checked) false ⟨#[], #[.agg #[.int .i64 0, .int .i64 0, .int .i64 0, .int .i64 0]], []⟩ 8 (by kernel_rfl) (by kernel_rfl) (by kernel_rfl) (by kernel_rfl)) ?_
  intro W base args ds gs before hval0 hW hcnd _
  have hval : ∀ (j : Nat) t v, Try.f4.params[j]? = some t → args[j]? = some v → Value.okWide Try.prog W .any base t v := hval0
  have hW' := hW
  obtain ⟨p, q, hA0, hV, rfl, hfz, hnd⟩ := hW
  have hA : DataW.TrodAll enc Try.prog W 0 (fun _ => true) true Try.f4.params.toList args.toList ds p := hA0
  rw [Try.params4] at hA hval
  obtain ⟨v0, vs0, d0, ds0, p0, q0, hargs, rfl, rfl, h0, r0⟩ := trodAll_cons hA
  obtain ⟨rfl, rfl, rfl⟩ := trodAll_nil r0
  obtain rfl : args = #[v0] := by cases args; simp_all
  obtain ⟨rfl, rfl⟩ := trodVars_none hV
  have k0 := h0
  have lt0 : ∀ x ∈ p0, x.block < W.heap.size := by obtain ⟨m, hm⟩ := k0; exact DataW.trod_lt m _ _ _ hm
  obtain ⟨y, m, d, s, rfl⟩ := open_stamp (hval 0 27 v0 rfl rfl) h0
  clear hA0 hval0
  refine (walkSO y m d s W).mono fun e W' ⟨he, bel⟩ => ?_
  subst he
  exact ⟨_, rfl, _, _, _, [], _, [], hW', trodAll_mk1 (shut_bool Try.underlying4 _), (trodAll_cons_mk (Below.trod laidOut (by kernel_rfl) (of_decide_eq_true (by kernel_rfl)) k0 bel lt0) trodAll_mk0), rfl, bel.frame _, fun h => by cases h⟩

theorem over : Rows.fnExactSecondsOfRow.holds Try.pinned (OpenSpec.ofChange Rows.fnExactSecondsOfSpec) :=
  OpenClaim.holds_of_wide 4 Try.f4 rfl rfl rfl rfl rfl rfl rfl ⟨rfl, rfl, rfl, rfl, rfl⟩ rfl rfl rfl rfl rfl (by kernel_rfl) Try.func4 (by kernel_rfl)
    (of_decide_eq_true (by kernel_rfl)) (by unfold Func.isWrapper; first | (rw [if_pos (by decide +kernel)]; kernel_rfl) | (rw [if_neg (by decide +kernel)]; exact ⟨rfl, rfl⟩))
    (fun os started H enc _ => lifted os started H enc)

end Go.Proofs.Ytakacapcphbjiaa.fnExactSecondsOf
namespace Go.Proofs.Ytakacapcphbjiaa
theorem fnExactSecondsOf_holds : Rows.FnExactSecondsOfSaid :=
  fnExactSecondsOf.over
#print axioms fnExactSecondsOf_holds
end Go.Proofs.Ytakacapcphbjiaa
