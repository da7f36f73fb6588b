import Derived.Test.YtohmejfpebjlaaaDoorFrameI
import Derived.Test.YtohmejfpebjlaaaDoorPText2
import Derived.Lib.LaidTab
namespace Go.Proofs.YtohmejfpebjlaaaDoor
open Go.ChangeShapes Go.WideShapes Go.ChangeAt Go.WideMaps Go.WideElems Go.RowKit

set_option maxRecDepth 100000 in
set_option maxHeartbeats 4000000 in
theorem walkText (op a b c imm : Int) (w : World) (hn : Names w) (ht : Tab w) (hw : 0 < w.heap.size) (hw1 : 1 < w.heap.size) (h0 : -9223372036854775808 ≤ op) (h1 : op ≤ 9223372036854775807) :
    Calls Tryd.prog 6 #[ins op a b c imm] w fun e w' => e = .returned (.bool true) ∧ Below w.heap.size w w' := by
  have HB : Hid _ := LB.new w op a b c imm
  have HN : Hid (Names w) := hn
  have HT : Hid (Tab w) := ht
  clear hn ht
  unfold ins
  go_enter Tryd.func6, Tryd.ntmps6
  go_wp2_with (first | (go_at_call 8; refine (toInstr_any _ _ _ _ _ _).mono ?_; rintro e u1 ⟨rfl, hu1⟩; replace HB : Hid _ := HB.out.step hu1) | (go_at_call 15; refine (specText_any _ _ _ _ _ _ (by omega) (by omega)).mono ?_; rintro e u2 ⟨rfl, hu2⟩; replace HB : Hid _ := HB.out.step hu2; obtain ⟨d0, d1, d2, d3, d4⟩ := HB.out.cells) | (go_at_call 16; refine (implText_any _ _ _ _ _ _ (HN.out.below HB.out.bel hw) (HT.out.below HB.out.bel hw1) (by have := HB.out.one; omega) (by have := HB.out.one; omega) (by omega) (by omega)).mono ?_; rintro e u3 ⟨rfl, hu3⟩; replace HB : Hid _ := HB.out.step hu3))
  all_goals
    go_ret
    exact ⟨rfl, HB.out.bel⟩

theorem tPow : (Tryd.prog.globals[1]?).map (·.type) = some 94 := by kernel_rfl
theorem pow_is {H : Type} : (Rows.laid_internal_strconv_uint64pow10 : DataW H) = Lib.tabData .u64 Lib.pow10Tab := by kernel_rfl
theorem c94 : Tryd.prog.cellsOf 94 = 20 := by kernel_rfl
theorem of_laid4 {W : World} (h : laidMetH Tryd.prog Rows.fnExactInstrTextRow.laid W) : Names W ∧ Tab W ∧ 0 < W.heap.size ∧ 1 < W.heap.size := by
  change laidMetH Tryd.prog [("math/bits.deBruijn32tab", Rows.laid_math_bits_deBruijn32tab), ("math/bits.deBruijn64tab", Rows.laid_math_bits_deBruijn64tab), ("internal/strconv.uint64pow10", Rows.laid_internal_strconv_uint64pow10), ("loop.example/g00038/impl.opNames", Rows.laid_loop_example_g00038_impl_opNames)] W at h
  rw [MakeChecks.laidMetH_plain _ _ _ (by kernel_rfl)] at h
  obtain ⟨ps, ⟨_, _, _, _, _, _, _, _, _, _, ⟨_, _, _, _, _, _, _, _, _, _, ⟨g2, t2, cs2, f2, p2, q2, hg2, ht2, hv2, hd2, ⟨g0, t0, cs0, f0, p0, q0, hg0, ht0, hv0, hd0, _, _⟩, _⟩, _⟩, _⟩, _, _⟩ := h
  obtain rfl := Option.some.inj (gNames.symm.trans hg0)
  obtain rfl := Option.some.inj (tNames.symm.trans ht0)
  obtain rfl := Option.some.inj (gPow.symm.trans hg2)
  obtain rfl := Option.some.inj (tPow.symm.trans ht2)
  have ht : Tab W := by
    rw [pow_is] at hd2
    unfold Tab Lib.TabIs
    rw [hv2, ← Lib.cells_of_tab Tryd.underlying94 Tryd.underlying53 (by kernel_rfl) c94 hd2]
  have hn := names_of hv0 hd0
  refine ⟨hn, ht, ?_, ?_⟩
  · have := hn 0 (by omega)
    cases hh : W.heap[0]? with
    | none => simp [World.cell?, hh] at this
    | some o => exact (Array.getElem?_eq_some_iff.1 hh).1
  · have := Lib.TabIs.cell ht gPow 0 (by decide)
    cases hh : W.heap[1]? with
    | none => simp [World.cell?, hh] at this
    | some o => exact (Array.getElem?_eq_some_iff.1 hh).1
theorem door_met4 (os : Os) (args : Array Value) : laidMetH Tryd.prog Rows.fnExactInstrTextRow.laid ((World.doorLaid Tryd.prog 400 os).forCall (fun _ _ => 0) ⟨#[], args, []⟩).memory :=
  laidMetH_of_parts3 (fuel := 8) (laidMet_of_run' 8 (by kernel_rfl) (by kernel_rfl)) (by kernel_rfl) (by kernel_rfl)

set_option maxRecDepth 100000 in
theorem liftedText (os : Os) (started : os.Started) (H : Type) (enc : TypeId × Value → H) :
    ReturnsInHanded {} Tryd.checked os 6 .any (fun w args => (Rows.fnExactInstrTextSpec.pre enc Tryd.prog Tryd.f6 [] false w args ∧ laidMetH Tryd.prog Rows.fnExactInstrTextRow.laid w) ∧ sizedMet enc Tryd.prog Tryd.f6 (OpenSpec.ofChange Rows.fnExactInstrTextSpec) false w args)
      (Rows.fnExactInstrTextSpec.post enc Tryd.prog Tryd.f6 false true false false) := by
  refine returnsInHanded_of_change_and (C := Tryd.checked) (X := fun w _ => laidMetH Tryd.prog Rows.fnExactInstrTextRow.laid w) (fun _ _ _ hh h => h.of_heap hh) own started (by kernel_rfl) Tryd.func6
    (ChangeSpec.witness_shaped (enc := enc) (C := Tryd.checked) (os := os) (X := fun w _ => laidMetH Tryd.prog Rows.fnExactInstrTextRow.laid w) false (World.doorLaid Tryd.prog 400 os) #[ins 0 0 0 0 0] 8 rfl (World.shaped_of_RefB (by kernel_rfl) (by kernel_rfl)) (by kernel_rfl) (by kernel_rfl) (by kernel_rfl) (door_met4 os _)) ?_
  intro W base args ds gs before hval0 hW _ _ hL _
  have hval : ∀ (j : Nat) t v, Tryd.f6.params[j]? = some t → args[j]? = some v → Value.okWide Tryd.prog W .any base t v := hval0
  have hW' := hW
  obtain ⟨p, q, hA0, hV, rfl, hfz, hnd⟩ := hW
  have hA : DataW.TrodAll enc Tryd.prog W 0 (fun _ => true) true Tryd.f6.params.toList args.toList ds p := hA0
  rw [Tryd.params6] at hA hval
  obtain ⟨v0, d0, rfl, rfl, h0⟩ := trodAll_one hA
  obtain ⟨op, a, b, c, imm, rfl, rfl, bo, _⟩ := open_ins (hval 0 23 v0 rfl rfl) h0
  obtain ⟨hN, hT, hs, hs1⟩ := of_laid4 hL
  obtain ⟨g1, rfl⟩ : ∃ g1, gs = [g1] := by
    match gs, hV with
    | [g1], _ => exact ⟨g1, rfl⟩
    | [], h => exact h.elim
    | _ :: _ :: _, h => obtain ⟨_, _, _, _, _, _, _, _, _, _, h2, _⟩ := h; exact h2.elim
  clear hA0 hval0
  refine (walkText op a b c imm W hN hT hs hs1 bo.1 bo.2).mono fun e W' ⟨he, hg⟩ => ?_
  subst he
  exact ⟨_, rfl, _, _, _, [], [], q, hW', trodAll_mk1 (shut_bool Tryd.underlying4 _), trodAll_mk1 (Below.trod laidOut (by kernel_rfl) (of_decide_eq_true (by kernel_rfl)) h0 hg (fun _ h => by cases h)), hg.trodVars laidOut (by kernel_rfl) hV, hg.frame _, fun h => by cases h⟩
theorem fnExactInstrText_row : Rows.FnExactInstrTextSaid :=
  OpenClaim.holds_of_wide 6 Tryd.f6 rfl rfl rfl rfl rfl rfl rfl ⟨rfl, rfl, rfl, rfl, rfl⟩ rfl rfl rfl rfl rfl (by kernel_rfl) Tryd.func6 (by kernel_rfl)
    (of_decide_eq_true (by kernel_rfl)) (by unfold Func.isWrapper; first | (rw [if_pos (by decide +kernel)]; kernel_rfl) | (rw [if_neg (by decide +kernel)]; exact ⟨rfl, rfl⟩))
    (fun os started H enc _ => liftedText os started H enc)
theorem fnExactInstrText_holds : Rows.FnExactInstrTextCardSaid :=
  Claim7.holds_tied_plain_at .later [] [.data, .data, .data, .data] true (true, "ed14d953f17a345b7c6da665bcbf851aa3c98132ac3e0c046a7ff2e6eaaa60f3") true
    fnExactInstrText_row (fun _ h => by cases h) (by kernel_rfl) (fun _ h => by cases h) fnExactInstrText_row_tie rfl ⟨rfl, rfl⟩ (by kernel_rfl) rfl
    (fun f fn hf hfn => by
      obtain rfl : f = 6 := Option.some.inj ((show Tryd.prog.funcNamed "loop.example/g00038/laws.FnExactInstrText" = some 6 by kernel_rfl).symm.trans hf) |>.symm
      obtain rfl : fn = Tryd.f6 := (Option.some.inj (Tryd.func6.symm.trans hfn)).symm
      exact ⟨by kernel_rfl, fun j t ht => by
        rw [Tryd.params6] at ht
        have hm : t ∈ [23] := by simpa using Array.mem_of_getElem? ht
        have hall : ([23].all fun u => !Tryd.prog.wantsStandIn u) = true := by kernel_rfl
        exact (show Tryd.prog.wantsStandIn t = false by simpa using List.all_eq_true.1 hall t hm)⟩)
    (by kernel_rfl)
#print axioms fnExactInstrText_holds
end Go.Proofs.YtohmejfpebjlaaaDoor
