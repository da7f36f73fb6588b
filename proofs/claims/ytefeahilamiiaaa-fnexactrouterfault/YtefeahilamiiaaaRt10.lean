import Derived.Test.YtefeahilamiiaaaRt9
namespace Go.Proofs.Ytefeahilamiiaaa
open Go.ChangeShapes Go.WideShapes Go.ChangeAt Go.RowKit

/-- What RouterFault answers. -/
def rtB (r : RT) : Bool := cpusB r && lanesB r && mapsB r
def rfC (r : RT) : Int := if rtB r = true then 0 else 1
theorem rfC_no {r : RT} (h : rtB r = false) : rfC r = 1 := by unfold rfC; rw [h]; rfl
theorem rfC_yes {r : RT} (h : rtB r = true) : rfC r = 0 := by unfold rfC; rw [h]; rfl
theorem RBx.new {w : World} {r : RT} {a : RA} (h : RRows w r a) : RBx (w.alloc (.cells #[a.vl, a.vc, a.vm] 33)) w.heap.size r a := ⟨heap_new _ _, h.below ((Below.refl _ _).alloc (Nat.le_refl _) _)⟩
set_option maxRecDepth 100000 in
set_option maxHeartbeats 4000000 in
theorem implRF_any {w : World} {r : RT} {a : RA} (h : RRows w r a) (hl : RLen r) : Calls Try.prog 8 #[rtA a] w fun e w' => e = .returned (.int .i64 (rfC r)) ∧ Below w.heap.size w w' := by
  have HL : Hid (RLen r) := hl
  have HX : Hid (RBx (w.alloc (.cells #[a.vl, a.vc, a.vm] 33)) w.heap.size r a) := RBx.new h
  have HB : Hid (Below w.heap.size w (w.alloc (.cells #[a.vl, a.vc, a.vm] 33))) := (Below.refl _ _).alloc (Nat.le_refl _) _
  have HC : Hid _ := areCpus_any HX.out hl
  clear h hl
  unfold rtA
  cases h1 : cpusB r
  · rw [h1] at HC
    have hn : Hid _ := rfC_no (show rtB r = false by simp [rtB, h1])
    clear h1
    go_enter Try.func8, Try.ntmps8
    go_wp2_with (go_at_call 23; refine Calls.mono HC.out ?_; rintro e u1 ⟨rfl, hu1⟩; have HB1 : Hid (Below w.heap.size w u1) := HB.out.trans (hu1.mono HB.out.size); clear hu1)
    go_ret
    exact ⟨ret_int hn.out.symm, HB1.out⟩
  · rw [h1] at HC
    have HLN : Hid _ := fun (u : World) (hu : Below (w.alloc (.cells #[a.vl, a.vc, a.vm] 33)).heap.size (w.alloc (.cells #[a.vl, a.vc, a.vm] 33)) u) => areLanes_any (HX.out.below hu) HL.out.l
    cases h2 : lanesB r
    · rw [h2] at HLN
      have hn : Hid _ := rfC_no (show rtB r = false by simp [rtB, h2])
      clear h1 h2
      go_enter Try.func8, Try.ntmps8
      go_wp2_with (first | (go_at_call 23; refine Calls.mono HC.out ?_; rintro e u1 ⟨rfl, hu1⟩; have HU1 : Hid _ := hu1; have HB1 : Hid (Below w.heap.size w u1) := HB.out.trans (hu1.mono HB.out.size); clear hu1) | (go_at_call 24; have hA := HLN.out u1 HU1.out; refine Calls.mono hA ?_; clear hA; rintro e u2 ⟨rfl, hu2⟩; have HB2 : Hid (Below w.heap.size w u2) := HB1.out.trans (hu2.mono HB1.out.size); clear hu2))
      go_ret
      exact ⟨ret_int hn.out.symm, HB2.out⟩
    · rw [h2] at HLN
      have HMP : Hid _ := fun (u : World) (hu : Below (w.alloc (.cells #[a.vl, a.vc, a.vm] 33)).heap.size (w.alloc (.cells #[a.vl, a.vc, a.vm] 33)) u) => areRemaps_any (HX.out.below hu) HL.out.m
      have hrt : rtB r = mapsB r := by simp [rtB, h1, h2]
      clear h1 h2
      cases h3 : mapsB r
      · rw [h3] at HMP hrt
        have hn : Hid _ := rfC_no hrt
        clear h3 hrt
        go_enter Try.func8, Try.ntmps8
        go_wp2_with (first | (go_at_call 23; refine Calls.mono HC.out ?_; rintro e u1 ⟨rfl, hu1⟩; have HU1 : Hid _ := hu1; have HB1 : Hid (Below w.heap.size w u1) := HB.out.trans (hu1.mono HB.out.size); clear hu1) | (go_at_call 24; have hA := HLN.out u1 HU1.out; refine Calls.mono hA ?_; clear hA; rintro e u2 ⟨rfl, hu2⟩; have HU2 : Hid _ := HU1.out.trans (hu2.mono HU1.out.size); have HB2 : Hid (Below w.heap.size w u2) := HB1.out.trans (hu2.mono HB1.out.size); clear hu2) | (go_at_call 25; have hA := HMP.out u2 HU2.out; refine Calls.mono hA ?_; clear hA; rintro e u3 ⟨rfl, hu3⟩; have HB3 : Hid (Below w.heap.size w u3) := HB2.out.trans (hu3.mono HB2.out.size); clear hu3))
        go_ret
        exact ⟨ret_int hn.out.symm, HB3.out⟩
      · rw [h3] at HMP hrt
        have hn : Hid _ := rfC_yes hrt
        clear h3 hrt
        go_enter Try.func8, Try.ntmps8
        go_wp2_with (first | (go_at_call 23; refine Calls.mono HC.out ?_; rintro e u1 ⟨rfl, hu1⟩; have HU1 : Hid _ := hu1; have HB1 : Hid (Below w.heap.size w u1) := HB.out.trans (hu1.mono HB.out.size); clear hu1) | (go_at_call 24; have hA := HLN.out u1 HU1.out; refine Calls.mono hA ?_; clear hA; rintro e u2 ⟨rfl, hu2⟩; have HU2 : Hid _ := HU1.out.trans (hu2.mono HU1.out.size); have HB2 : Hid (Below w.heap.size w u2) := HB1.out.trans (hu2.mono HB1.out.size); clear hu2) | (go_at_call 25; have hA := HMP.out u2 HU2.out; refine Calls.mono hA ?_; clear hA; rintro e u3 ⟨rfl, hu3⟩; have HB3 : Hid (Below w.heap.size w u3) := HB2.out.trans (hu3.mono HB2.out.size); clear hu3))
        go_ret
        exact ⟨ret_int hn.out.symm, HB3.out⟩
end Go.Proofs.Ytefeahilamiiaaa
