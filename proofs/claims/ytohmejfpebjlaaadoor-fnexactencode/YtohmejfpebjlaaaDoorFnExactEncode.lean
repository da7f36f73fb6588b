import Derived.Test.YtohmejfpebjlaaaDoorFrameI
import Derived.Test.YtohmejfpebjlaaaDoorPEnc
namespace Go.Proofs.YtohmejfpebjlaaaDoor
open Go.ChangeShapes Go.WideShapes Go.ChangeAt Go.WideMaps Go.WideElems Go.RowKit

set_option maxRecDepth 100000 in
set_option maxHeartbeats 4000000 in
theorem walkEnc (op a b c imm : Int) (w : World) (hn : Names w) (hw : 0 < w.heap.size) (h0 : -9223372036854775808 ≤ op) (h1 : op ≤ 9223372036854775807) :
    Calls Tryd.prog 4 #[ins op a b c imm] w fun e w' => e = .returned (.bool true) ∧ Below w.heap.size w w' := by
  have HB : Hid _ := LB.new w op a b c imm
  have HN : Hid (Names w) := hn
  clear hn
  unfold ins
  go_enter Tryd.func4, Tryd.ntmps4
  go_wp2_with (first | (go_at_call 8; refine (toInstr_any _ _ _ _ _ _).mono ?_; rintro e u1 ⟨rfl, hu1⟩; replace HB : Hid _ := HB.out.step hu1) | (go_at_call 10; refine (specEncode_any _ _ _ _ _ _ (by omega) (by omega)).mono ?_; rintro e u2 ⟨rfl, hu2⟩; replace HB : Hid _ := HB.out.step hu2; obtain ⟨d0, d1, d2, d3, d4⟩ := HB.out.cells) | (go_at_call 11; refine (implEncode_any _ _ _ _ _ _ (HN.out.below HB.out.bel hw) (by have := HB.out.one; omega) (by omega) (by omega)).mono ?_; rintro e u3 ⟨rfl, hu3⟩; replace HB : Hid _ := HB.out.step hu3))
  all_goals
    go_ret
    exact ⟨rfl, HB.out.bel⟩

set_option maxRecDepth 100000 in
theorem liftedEncode (os : Os) (started : os.Started) (H : Type) (enc : TypeId × Value → H) :
    ReturnsInHanded {} Tryd.checked os 4 .any (fun w args => (Rows.fnExactEncodeSpec.pre enc Tryd.prog Tryd.f4 [] false w args ∧ laidMetH Tryd.prog Rows.fnExactEncodeRow.laid w) ∧ sizedMet enc Tryd.prog Tryd.f4 (OpenSpec.ofChange Rows.fnExactEncodeSpec) false w args)
      (Rows.fnExactEncodeSpec.post enc Tryd.prog Tryd.f4 false true false false) := by
  refine returnsInHanded_of_change_and (C := Tryd.checked) (X := fun w _ => laidMetH Tryd.prog Rows.fnExactEncodeRow.laid w) (fun _ _ _ hh h => h.of_heap hh) own started (by kernel_rfl) Tryd.func4
    (ChangeSpec.witness_shaped (enc := enc) (C := Tryd.checked) (os := os) (X := fun w _ => laidMetH Tryd.prog Rows.fnExactEncodeRow.laid w) false (World.doorLaid Tryd.prog 400 os) #[ins 0 0 0 0 0] 8 rfl (World.shaped_of_RefB (by kernel_rfl) (by kernel_rfl)) (by kernel_rfl) (by kernel_rfl) (by kernel_rfl) (door_met1 os _)) ?_
  intro W base args ds gs before hval0 hW _ _ hL _
  have hval : ∀ (j : Nat) t v, Tryd.f4.params[j]? = some t → args[j]? = some v → Value.okWide Tryd.prog W .any base t v := hval0
  have hW' := hW
  obtain ⟨p, q, hA0, hV, rfl, hfz, hnd⟩ := hW
  have hA : DataW.TrodAll enc Tryd.prog W 0 (fun _ => true) true Tryd.f4.params.toList args.toList ds p := hA0
  rw [Tryd.params4] at hA hval
  obtain ⟨v0, d0, rfl, rfl, h0⟩ := trodAll_one hA
  obtain ⟨op, a, b, c, imm, rfl, rfl, bo, _⟩ := open_ins (hval 0 23 v0 rfl rfl) h0
  obtain ⟨hN, hs⟩ := of_laid1 hL
  obtain ⟨g1, rfl⟩ : ∃ g1, gs = [g1] := by
    match gs, hV with
    | [g1], _ => exact ⟨g1, rfl⟩
    | [], h => exact h.elim
    | _ :: _ :: _, h => obtain ⟨_, _, _, _, _, _, _, _, _, _, h2, _⟩ := h; exact h2.elim
  clear hA0 hval0
  refine (walkEnc op a b c imm W hN hs bo.1 bo.2).mono fun e W' ⟨he, hg⟩ => ?_
  subst he
  exact ⟨_, rfl, _, _, _, [], [], q, hW', trodAll_mk1 (shut_bool Tryd.underlying4 _), trodAll_mk1 (Below.trod laidOut (by kernel_rfl) (of_decide_eq_true (by kernel_rfl)) h0 hg (fun _ h => by cases h)), hg.trodVars laidOut (by kernel_rfl) hV, hg.frame _, fun h => by cases h⟩
theorem fnExactEncode_row : Rows.FnExactEncodeSaid :=
  OpenClaim.holds_of_wide 4 Tryd.f4 rfl rfl rfl rfl rfl rfl rfl ⟨rfl, rfl, rfl, rfl, rfl⟩ rfl rfl rfl rfl rfl (by kernel_rfl) Tryd.func4 (by kernel_rfl)
    (of_decide_eq_true (by kernel_rfl)) (by unfold Func.isWrapper; first | (rw [if_pos (by decide +kernel)]; kernel_rfl) | (rw [if_neg (by decide +kernel)]; exact ⟨rfl, rfl⟩))
    (fun os started H enc _ => liftedEncode os started H enc)
theorem fnExactEncode_holds : Rows.FnExactEncodeCardSaid :=
  Claim7.holds_tied_plain_at .later [] [.data] true (true, "ed14d953f17a345b7c6da665bcbf851aa3c98132ac3e0c046a7ff2e6eaaa60f3") true
    fnExactEncode_row (fun _ h => by cases h) (by kernel_rfl) (fun _ h => by cases h) fnExactEncode_row_tie rfl ⟨rfl, rfl⟩ (by kernel_rfl) rfl
    (fun f fn hf hfn => by
      obtain rfl : f = 4 := Option.some.inj ((show Tryd.prog.funcNamed "loop.example/g00038/laws.FnExactEncode" = some 4 by kernel_rfl).symm.trans hf) |>.symm
      obtain rfl : fn = Tryd.f4 := (Option.some.inj (Tryd.func4.symm.trans hfn)).symm
      exact ⟨by kernel_rfl, fun j t ht => by
        rw [Tryd.params4] at ht
        have hm : t ∈ [23] := by simpa using Array.mem_of_getElem? ht
        have hall : ([23].all fun u => !Tryd.prog.wantsStandIn u) = true := by kernel_rfl
        exact (show Tryd.prog.wantsStandIn t = false by simpa using List.all_eq_true.1 hall t hm)⟩)
    (by kernel_rfl)
#print axioms fnExactEncode_holds
end Go.Proofs.YtohmejfpebjlaaaDoor
