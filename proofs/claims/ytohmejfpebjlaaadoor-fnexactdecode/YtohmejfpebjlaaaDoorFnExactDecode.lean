import Derived.Test.YtohmejfpebjlaaaDoorFrameI
import Derived.Test.YtohmejfpebjlaaaDoorPDec2
import Derived.Test.YtohmejfpebjlaaaDoorDecode3
namespace Go.Proofs.YtohmejfpebjlaaaDoor
open Go.ChangeShapes Go.WideShapes Go.ChangeAt Go.WideMaps Go.WideElems Go.RowKit

theorem decV_form (n : Int) : ∃ g o a b c i, decV n = rdV g o a b c i := by
  unfold decV
  split
  · exact ⟨_, _, _, _, _, _, rfl⟩
  · exact ⟨_, _, _, _, _, _, rfl⟩
set_option maxRecDepth 100000 in
theorem eqInstr_same (o a b c i : Int) (w : World) : Calls Tryd.prog 31 #[ins o a b c i, ins o a b c i] w fun e w' => e = .returned (.bool true) ∧ Below w.heap.size w w' := by
  unfold ins
  go_enter Tryd.func31, Tryd.ntmps31
  go_wp2
  go_ret
  exact ⟨rfl, ((Below.refl _ _).alloc (Nat.le_refl _) _).alloc (by simp) _⟩
set_option maxRecDepth 100000 in
theorem eqRead_same (g : Bool) (o a b c i : Int) (w : World) : Calls Tryd.prog 14 #[rdV g o a b c i, rdV g o a b c i] w fun e w' => e = .returned (.bool true) ∧ Below w.heap.size w w' := by
  unfold rdV
  go_enter Tryd.func14, Tryd.ntmps14
  go_wp2_with (go_at_call 31; refine (eqInstr_same _ _ _ _ _ _).mono ?_; rintro e u1 ⟨rfl, hu1⟩)
  go_ret
  exact ⟨rfl, ((Below.refl _ _).alloc (Nat.le_refl _) _ |>.alloc (by simp) _).trans (hu1.mono (by simp; omega))⟩
theorem box6 {wr : World} {b t : Nat} {v0 v1 v2 v3 v4 v5 : Value} (h : wr.heap[b]? = some (.cells #[v0, v1, v2, v3, v4, v5] t (0, 0))) :
    wr.cell? ⟨b, 0, none⟩ = some v0 ∧ wr.cell? ⟨b, 1, none⟩ = some v1 ∧ wr.cell? ⟨b, 2, none⟩ = some v2 ∧ wr.cell? ⟨b, 3, none⟩ = some v3 ∧ wr.cell? ⟨b, 4, none⟩ = some v4 ∧ wr.cell? ⟨b, 5, none⟩ = some v5 := by
  simp [World.cell?, h]
set_option maxRecDepth 100000 in
set_option maxHeartbeats 4000000 in
theorem walkDec (n : Int) (w : World) (hn : Names w) (hw : 0 < w.heap.size) (h0 : -9223372036854775808 ≤ n) (h1 : n ≤ 9223372036854775807) :
    Calls Tryd.prog 5 #[.int .i64 n] w fun e w' => e = .returned (.bool true) ∧ Below w.heap.size w w' := by
  have HN : Hid (Names w) := hn
  clear hn
  have hs := specDecode_any n
  have hi := fun u hu hz => implDecode_any n u hu hz h0 h1
  obtain ⟨g, o, a, b, c, i, hd⟩ := decV_form n
  rw [hd] at hs hi
  clear hd
  unfold rdV at hs hi
  go_enter Tryd.func5, Tryd.ntmps5
  go_wp2_with (first | (go_at_call 12; refine Calls.mono (hs _) ?_; rintro e u1 ⟨rfl, hu1⟩) | (go_at_call 13; refine Calls.mono (hi _ (HN.out.below (hu1.alloc hu1.size _) hw) (by simp)) ?_; rintro e u2 ⟨rfl, hu2⟩; obtain ⟨x0, x1, x2, x3, x4, x5⟩ := box6 ((hu2.block u1.heap.size (by simp)).trans (heap_new _ _)); have hz : u1.heap.size < u2.heap.size := (by have := hu2.size; simp at this; omega); have hb2 : Below w.heap.size w u2 := bstep hu1 _ hu2; clear hu2 hu1) | (go_at_call 14; refine (eqRead_same g o a b c i _).mono ?_; rintro e u3 ⟨rfl, hu3⟩; replace hb2 := bstep hb2 _ hu3))
  go_ret
  exact ⟨rfl, hb2⟩

set_option maxRecDepth 100000 in
theorem liftedDecode (os : Os) (started : os.Started) (H : Type) (enc : TypeId × Value → H) :
    ReturnsInHanded {} Tryd.checked os 5 .any (fun w args => (Rows.fnExactDecodeSpec.pre enc Tryd.prog Tryd.f5 [] false w args ∧ laidMetH Tryd.prog Rows.fnExactDecodeRow.laid w) ∧ sizedMet enc Tryd.prog Tryd.f5 (OpenSpec.ofChange Rows.fnExactDecodeSpec) false w args)
      (Rows.fnExactDecodeSpec.post enc Tryd.prog Tryd.f5 false true false false) := by
  refine returnsInHanded_of_change_and (C := Tryd.checked) (X := fun w _ => laidMetH Tryd.prog Rows.fnExactDecodeRow.laid w) (fun _ _ _ hh h => h.of_heap hh) own started (by kernel_rfl) Tryd.func5
    (ChangeSpec.witness_shaped (enc := enc) (C := Tryd.checked) (os := os) (X := fun w _ => laidMetH Tryd.prog Rows.fnExactDecodeRow.laid w) false (World.doorLaid Tryd.prog 400 os) #[.int .i64 0] 8 rfl (World.shaped_of_RefB (by kernel_rfl) (by kernel_rfl)) (by kernel_rfl) (by kernel_rfl) (by kernel_rfl) (door_met1 os _)) ?_
  intro W base args ds gs before hval0 hW _ _ hL _
  have hval : ∀ (j : Nat) t v, Tryd.f5.params[j]? = some t → args[j]? = some v → Value.okWide Tryd.prog W .any base t v := hval0
  have hW' := hW
  obtain ⟨p, q, hA0, hV, rfl, hfz, hnd⟩ := hW
  have hA : DataW.TrodAll enc Tryd.prog W 0 (fun _ => true) true Tryd.f5.params.toList args.toList ds p := hA0
  rw [Tryd.params5] at hA hval
  obtain ⟨v0, d0, rfl, rfl, h0⟩ := trodAll_one hA
  obtain ⟨n, rfl, rfl, rfl, wn⟩ := open_int Tryd.underlying2 (hval 0 2 v0 rfl rfl) h0
  obtain ⟨hN, hs⟩ := of_laid1 hL
  obtain ⟨g1, rfl⟩ : ∃ g1, gs = [g1] := by
    match gs, hV with
    | [g1], _ => exact ⟨g1, rfl⟩
    | [], h => exact h.elim
    | _ :: _ :: _, h => obtain ⟨_, _, _, _, _, _, _, _, _, _, h2, _⟩ := h; exact h2.elim
  clear hA0 hval0
  refine (walkDec n W hN hs (wf_b wn).1 (wf_b wn).2).mono fun e W' ⟨he, hg⟩ => ?_
  subst he
  exact ⟨_, rfl, _, _, _, [], [], q, hW', trodAll_mk1 (shut_bool Tryd.underlying4 _), trodAll_mk1 (shut_int Tryd.underlying2 wn), hg.trodVars laidOut (by kernel_rfl) hV, hg.frame _, fun h => by cases h⟩
theorem fnExactDecode_row : Rows.FnExactDecodeSaid :=
  OpenClaim.holds_of_wide 5 Tryd.f5 rfl rfl rfl rfl rfl rfl rfl ⟨rfl, rfl, rfl, rfl, rfl⟩ rfl rfl rfl rfl rfl (by kernel_rfl) Tryd.func5 (by kernel_rfl)
    (of_decide_eq_true (by kernel_rfl)) (by unfold Func.isWrapper; first | (rw [if_pos (by decide +kernel)]; kernel_rfl) | (rw [if_neg (by decide +kernel)]; exact ⟨rfl, rfl⟩))
    (fun os started H enc _ => liftedDecode os started H enc)
theorem fnExactDecode_holds : Rows.FnExactDecodeCardSaid :=
  Claim7.holds_tied_plain_at .later [] [.data] true (true, "ed14d953f17a345b7c6da665bcbf851aa3c98132ac3e0c046a7ff2e6eaaa60f3") true
    fnExactDecode_row (fun _ h => by cases h) (by kernel_rfl) (fun _ h => by cases h) fnExactDecode_row_tie rfl ⟨rfl, rfl⟩ (by kernel_rfl) rfl
    (fun f fn hf hfn => by
      obtain rfl : f = 5 := Option.some.inj ((show Tryd.prog.funcNamed "loop.example/g00038/laws.FnExactDecode" = some 5 by kernel_rfl).symm.trans hf) |>.symm
      obtain rfl : fn = Tryd.f5 := (Option.some.inj (Tryd.func5.symm.trans hfn)).symm
      exact ⟨by kernel_rfl, fun j t ht => by
        rw [Tryd.params5] at ht
        have hm : t ∈ [2] := by simpa using Array.mem_of_getElem? ht
        have hall : ([2].all fun u => !Tryd.prog.wantsStandIn u) = true := by kernel_rfl
        exact (show Tryd.prog.wantsStandIn t = false by simpa using List.all_eq_true.1 hall t hm)⟩)
    (by kernel_rfl)
#print axioms fnExactDecode_holds
end Go.Proofs.YtohmejfpebjlaaaDoor
