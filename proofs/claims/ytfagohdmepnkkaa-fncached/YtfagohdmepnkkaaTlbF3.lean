import Derived.Test.YtfagohdmepnkkaaTlbF2
namespace Go.Proofs.Ytfagohdmepnkkaa
open Go.ChangeShapes Go.WideShapes Go.ChangeAt Go.RowKit

theorem idxI_no {p : TE → Bool} {zs : List TE} (h : zs.any p = false) : idxI p zs = -1 :=
  idxI_none fun j hj => by
    have := List.any_eq_false.1 h zs[j] (List.getElem_mem hj)
    simpa using this
theorem idxI_yes {p : TE → Bool} {zs : List TE} (h : zs.any p = true) : 0 ≤ idxI p zs ∧ idxI p zs < zs.length := by
  unfold idxI
  cases hq : zs.findIdx? p with
  | none =>
    obtain ⟨x, hx, hp⟩ := List.any_eq_true.1 h
    have := List.findIdx?_eq_none_iff.1 hq x hx
    rw [hp] at this
    cases this
  | some k =>
    have := (List.findIdx?_eq_some_iff_getElem.1 hq).1
    simp only
    omega
/-- Whether entry k is right, and unlike all ahead of it. -/
def tok (zs : List TE) (k : Nat) : Bool := teOk (zs.getD k te0) && !((zs.take k).any fun x => same x (zs.getD k te0))
def allOk (zs : List TE) (k : Nat) : Bool := (List.range k).all (tok zs)
theorem allOk_succ (zs : List TE) (k : Nat) : allOk zs (k + 1) = (allOk zs k && tok zs k) := by simp [allOk, List.range_succ]
theorem allOk_bad {zs : List TE} {k m : Nat} (hk : k < m) (h : tok zs k = false) : allOk zs m = false := by
  unfold allOk
  rw [List.all_eq_false]
  exact ⟨k, List.mem_range.2 hk, by rw [h]; decide⟩
theorem tok_eq {zs : List TE} {k : Nat} (hk : k < zs.length) : tok zs k = (teOk zs[k] && !((zs.take k).any fun x => same x zs[k])) := by
  simp [tok, List.getD, List.getElem?_eq_getElem hk]
/-- What TlbFault answers. -/
def tlbC (zs : List TE) (nx : Int) : Int := if zs.length ≤ 16 ∧ 0 ≤ nx ∧ nx ≤ 15 ∧ allOk zs zs.length = true then 0 else 1
theorem tlbC_no {zs : List TE} {nx : Int} {k : Nat} (hk : k < zs.length) (h : tok zs k = false) : tlbC zs nx = 1 := by
  unfold tlbC
  rw [if_neg]
  intro h2
  rw [allOk_bad hk h] at h2
  exact absurd h2.2.2.2 (by decide)
def tlA (v : Value) (nx : Int) : Value := .agg #[v, .int .i64 nx]
def BoxT (w : World) (b : Nat) (v : Value) (nx : Int) : Prop := w.heap[b]? = some (.cells #[v, .int .i64 nx] 61 (0, 0))
theorem BoxT.cel {w : World} {b : Nat} {v : Value} {nx : Int} (h : BoxT w b v nx) : w.cell? ⟨b, 0, none⟩ = some v ∧ w.cell? ⟨b, 1, none⟩ = some (.int .i64 nx) := by
  unfold BoxT at h
  simp [World.cell?, h]
theorem BoxT.lt {w : World} {b : Nat} {v : Value} {nx : Int} (h : BoxT w b v nx) : b < w.heap.size := (Array.getElem?_eq_some_iff.1 h).1
theorem BoxT.below {w w' : World} {b B : Nat} {v : Value} {nx : Int} (h : BoxT w b v nx) (hb : Below B w w') (hB : b < B) : BoxT w' b v nx := (hb.block b hB).trans h
theorem BoxE.below {w w' : World} {b B : Nat} {e : TE} (h : BoxE w b e) (hb : Below B w w') (hB : b < B) : BoxE w' b e := (hb.block b hB).trans h
set_option maxRecDepth 100000 in
set_option maxHeartbeats 4000000 in
theorem implFaultT_any {w : World} {v : Value} {zs : List TE} (h : TErow w v zs) (nx : Int) (hl : zs.length ≤ 1048576) : Calls Try.prog 31 #[tlA v nx] w fun r w' => r = .returned (.int .i64 (tlbC zs nx)) ∧ Below w.heap.size w w' := by
  obtain ⟨ao, cap, rfl⟩ := h.sl
  unfold tlA
  by_cases hz : zs.length ≤ 16 ∧ 0 ≤ nx ∧ nx ≤ 15
  · obtain ⟨z1, z2, z3⟩ := hz
    have HR : Hid (TErow w (.slice ao zs.length cap) zs) := h
    clear h
    go_enter Try.func31, Try.ntmps31
    go_wp2
    go_loopw [22] (fun i wr => ∃ k : Nat, k ≤ zs.length ∧ i = .int .i64 k ∧ allOk zs k = true ∧ BoxT wr w.heap.size (.slice ao zs.length cap) nx ∧ Below w.heap.size w wr) (fun i _ => zs.length - (intOf i).toNat)
    case atStart => exact ⟨0, Nat.zero_le _, rfl, rfl, heap_new _ _, (Below.refl _ _).alloc (Nat.le_refl _) _⟩
    case round =>
      obtain ⟨k, hk, rfl, hok, hbx, hb⟩ := hrel
      have HOK : Hid (allOk zs k = true) := hok
      have HB : Hid (Below w.heap.size w wr) := hb
      have HX : Hid (BoxT wr w.heap.size (.slice ao zs.length cap) nx) := hbx
      have hxl := hbx.lt
      clear hok hbx
      by_cases hlt : k < zs.length
      · obtain ⟨g, o, cap2, hv, hcp, hg, hc⟩ := HR.out.resolve_left (fun h => by rw [h.1] at hlt; simp at hlt)
        injection hv with hv1 hv2 hv3
        subst hv1 hv3
        obtain ⟨d0, d1, d2, d3, d4⟩ := hc.below hb hg k hlt
        obtain ⟨c0, c1⟩ := HX.out.cel
        have htk := tok_eq hlt
        obtain ⟨z, hz⟩ : ∃ z, zs[k] = z := ⟨_, rfl⟩
        rw [hz] at d0 d1 d2 d3 d4 htk
        have HTK : Hid (tok zs k = (teOk z && !((zs.take k).any fun x => same x z))) := htk
        have hk0 : (0 : Int) ≤ (k : Int) := by omega
        have hk1 : (k : Int) < (zs.length : Int) := by omega
        have hk2 : (k : Int) ≤ (cap : Int) := by omega
        have HC : Hid (TEat wr g o zs) := hc.below hb hg
        have HE : Hid _ := fun w' => implEntry_any z w'
        unfold teA at HE
        clear hc hb htk hz
        have HT : Hid (TErow (wr.alloc (.cells #[.int .i64 z.asid, .int .i64 z.page, .int .i64 z.frame, .int .i64 z.flags, .bool z.large] 66)) (.slice (some ⟨g, o, none⟩) k cap) (zs.take k)) := by
          have h1 : TErow wr (.slice (some ⟨g, o, none⟩) k cap) (zs.take k) := by
            have hl2 : (zs.take k).length = k := by rw [List.length_take]; omega
            refine .inr ⟨g, o, cap, by rw [hl2], by omega, Nat.lt_of_lt_of_le hg HB.out.size, fun j hj => ?_⟩
            have h2 := HC.out j (by omega)
            rw [List.getElem_take]
            exact h2
          exact h1.below ((Below.refl _ _).alloc (Nat.le_refl _) _)
        have HBE : Hid (BoxE (wr.alloc (.cells #[.int .i64 z.asid, .int .i64 z.page, .int .i64 z.frame, .int .i64 z.flags, .bool z.large] 66)) wr.heap.size z) := heap_new _ _
        have HBT : Hid (BoxT (wr.alloc (.cells #[.int .i64 z.asid, .int .i64 z.page, .int .i64 z.frame, .int .i64 z.flags, .bool z.large] 66)) w.heap.size (.slice (some ⟨g, o, none⟩) zs.length cap) nx) := HX.out.below ((Below.refl _ _).alloc (Nat.le_refl _) _) hxl
        have HBW : Hid (Below w.heap.size w (wr.alloc (.cells #[.int .i64 z.asid, .int .i64 z.page, .int .i64 z.frame, .int .i64 z.flags, .bool z.large] 66))) := HB.out.alloc HB.out.size _
        clear HC
        go_wp2_with fail
        generalize wr.alloc (.cells #[.int .i64 z.asid, .int .i64 z.page, .int .i64 z.frame, .int .i64 z.flags, .bool z.large] 66) = W at *
        clear d0 d1 d2 d3 d4 c0 c1
        obtain ⟨c0, c1⟩ := HBT.out.cel
        obtain ⟨e0, e1, e2, e3, e4⟩ := cel5 HBE.out
        have hbl := HBE.out.lt
        have hbt := HBT.out.lt
        cases ht : teOk z
        · rw [ht] at HE
          refine wp_region_any (by kernel_rfl) ?_
          change wpAny _ _ _ _ _ _ _ (World.drew _)
          refine wpAny_ready (rs := [0]) (by kernel_rfl) (by simp) ?_
          refine AllReady.cons rfl (fun K hK => ?_) AllReady.nil
          go_simp
          refine hK _ _ ?_
          clear hK K
          refine wpAny_ready (rs := [1]) (by kernel_rfl) (by simp) ?_
          refine AllReady.cons rfl (fun K hK => ?_) AllReady.nil
          go_simp
          go_wp2_with (go_at_call 79; refine Calls.mono (HE.out W.drew) ?_; rintro e u5 ⟨rfl, hu5⟩; have hb5 : Below W.heap.size W u5 := ⟨hu5.os, hu5.tape, hu5.output, hu5.size, hu5.block⟩; have HB5 : Hid (Below W.heap.size W u5) := hb5; clear hu5 hb5)
          refine wpAny_take (i := 2) (v := .bool true) rfl (by kernel_rfl) (by kernel_rfl) (by kernel_rfl) (fun _ _ _ h => h) (Or.inl ⟨by rfl, fun w9 => ?_⟩) ?_
          · go_simp
          refine wpAny_take (i := 3) (v := .bool true) rfl (by kernel_rfl) (by kernel_rfl) (by kernel_rfl) (fun _ _ _ h => h) (Or.inl ⟨by rfl, fun w9 => ?_⟩) ?_
          · go_simp
          refine wpAny_take (i := 4) (v := undef) rfl (by kernel_rfl) (by kernel_rfl) (by kernel_rfl) (fun _ _ _ h => h) (Or.inr ⟨by kernel_rfl, rfl⟩) ?_
          refine wpAny_take (i := 5) (v := undef) rfl (by kernel_rfl) (by kernel_rfl) (by kernel_rfl) (fun _ _ _ h => h) (Or.inr ⟨by kernel_rfl, rfl⟩) ?_
          refine wpAny_take (i := 6) (v := undef) rfl (by kernel_rfl) (by kernel_rfl) (by kernel_rfl) (fun _ _ _ h => h) (Or.inr ⟨by kernel_rfl, rfl⟩) ?_
          refine wpAny_take (i := 7) (v := undef) rfl (by kernel_rfl) (by kernel_rfl) (by kernel_rfl) (fun _ _ _ h => h) (Or.inr ⟨by kernel_rfl, rfl⟩) ?_
          refine wpAny_take (i := 8) (v := undef) rfl (by kernel_rfl) (by kernel_rfl) (by kernel_rfl) (fun _ _ _ h => h) (Or.inr ⟨by kernel_rfl, rfl⟩) ?_
          refine wpAny_take (i := 9) (v := undef) rfl (by kernel_rfl) (by kernel_rfl) (by kernel_rfl) (fun _ _ _ h => h) (Or.inr ⟨by kernel_rfl, rfl⟩) ?_
          refine wpAny_take (i := 10) (v := undef) rfl (by kernel_rfl) (by kernel_rfl) (by kernel_rfl) (fun _ _ _ h => h) (Or.inr ⟨by kernel_rfl, rfl⟩) ?_
          refine wpAny_take (i := 11) (v := .bool true) rfl (by kernel_rfl) (by kernel_rfl) (by kernel_rfl) (fun _ _ _ h => h) (Or.inl ⟨by rfl, fun w9 => ?_⟩) ?_
          · go_simp
          refine wpAny_done (by kernel_rfl) ?_ _
          go_simp
          all_goals go_wp2
          all_goals go_ret
          refine ⟨ret_int (tlbC_no hlt (by rw [HTK.out, ht]; rfl)).symm, HBW.out.trans (HB5.out.mono HBW.out.size)⟩
        · rw [ht] at HE
          have hsl : (k : Int) ≤ (zs.length : Int) := by omega
          have hsp := fun (u : World) (hu : Below W.heap.size W u) => tlbSpot_any (HT.out.below hu) z (by rw [List.length_take]; omega)
          cases hd : (zs.take k).any fun x => same x z
          · rw [idxI_no hd] at hsp
            have HSP : Hid _ := hsp
            unfold teA at HSP
            clear hsp
            go_region_held3 (fun w' => w'.cell? ⟨wr.heap.size, 0, none⟩ = some (.int .i64 z.asid) ∧ w'.cell? ⟨wr.heap.size, 1, none⟩ = some (.int .i64 z.page) ∧ w'.cell? ⟨wr.heap.size, 2, none⟩ = some (.int .i64 z.frame) ∧ w'.cell? ⟨wr.heap.size, 3, none⟩ = some (.int .i64 z.flags) ∧ w'.cell? ⟨wr.heap.size, 4, none⟩ = some (.bool z.large) ∧ w'.cell? ⟨w.heap.size, 0, none⟩ = some (.slice (some ⟨g, o, none⟩) zs.length cap)) (go_keep) ((first | (go_at_call 79; refine Calls.mono (HE.out W.drew) ?_; rintro e u5 ⟨rfl, hu5⟩; have hb5 : Below W.heap.size W u5 := ⟨hu5.os, hu5.tape, hu5.output, hu5.size, hu5.block⟩; have HB5 : Hid (Below W.heap.size W u5) := hb5; have f0 := (World.cell?_of_block (a := ⟨wr.heap.size, 0, none⟩) (hb5.block _ hbl)).trans e0; have f1 := (World.cell?_of_block (a := ⟨wr.heap.size, 1, none⟩) (hb5.block _ hbl)).trans e1; have f2 := (World.cell?_of_block (a := ⟨wr.heap.size, 2, none⟩) (hb5.block _ hbl)).trans e2; have f3 := (World.cell?_of_block (a := ⟨wr.heap.size, 3, none⟩) (hb5.block _ hbl)).trans e3; have f4 := (World.cell?_of_block (a := ⟨wr.heap.size, 4, none⟩) (hb5.block _ hbl)).trans e4; have f5 := (World.cell?_of_block (a := ⟨w.heap.size, 0, none⟩) (hb5.block _ hbt)).trans c0; clear hu5 hb5) | (go_at_call 80; have hA := HSP.out u5 HB5.out; refine Calls.mono hA ?_; clear hA; rintro r u6 ⟨rfl, hu6⟩; have HB6 : Hid (Below W.heap.size W u6) := HB5.out.trans (hu6.mono HB5.out.size); have f10 := (World.cell?_of_block (a := ⟨wr.heap.size, 0, none⟩) (HB6.out.block _ hbl)).trans e0; have f11 := (World.cell?_of_block (a := ⟨wr.heap.size, 1, none⟩) (HB6.out.block _ hbl)).trans e1; have f12 := (World.cell?_of_block (a := ⟨wr.heap.size, 2, none⟩) (HB6.out.block _ hbl)).trans e2; have f13 := (World.cell?_of_block (a := ⟨wr.heap.size, 3, none⟩) (HB6.out.block _ hbl)).trans e3; have f14 := (World.cell?_of_block (a := ⟨wr.heap.size, 4, none⟩) (HB6.out.block _ hbl)).trans e4; have f15 := (World.cell?_of_block (a := ⟨w.heap.size, 0, none⟩) (HB6.out.block _ hbt)).trans c0; clear hu6)))
            all_goals go_wp2
            all_goals go_roundw
            case rel => exact ⟨k + 1, hlt, by go_num, by rw [allOk_succ, HOK.out, HTK.out, ht, hd]; rfl, HBT.out.below HB6.out hbt, HBW.out.trans (HB6.out.mono HBW.out.size)⟩
            case measure => simp [intOf]; omega
          · obtain ⟨x0, x1⟩ := idxI_yes hd
            generalize idxI (fun x => same x z) (zs.take k) = x at *
            have HSP : Hid _ := hsp
            unfold teA at HSP
            clear hsp x1
            go_region_held3 (fun w' => w'.cell? ⟨wr.heap.size, 0, none⟩ = some (.int .i64 z.asid) ∧ w'.cell? ⟨wr.heap.size, 1, none⟩ = some (.int .i64 z.page) ∧ w'.cell? ⟨wr.heap.size, 2, none⟩ = some (.int .i64 z.frame) ∧ w'.cell? ⟨wr.heap.size, 3, none⟩ = some (.int .i64 z.flags) ∧ w'.cell? ⟨wr.heap.size, 4, none⟩ = some (.bool z.large) ∧ w'.cell? ⟨w.heap.size, 0, none⟩ = some (.slice (some ⟨g, o, none⟩) zs.length cap)) (go_keep) ((first | (go_at_call 79; refine Calls.mono (HE.out W.drew) ?_; rintro e u5 ⟨rfl, hu5⟩; have hb5 : Below W.heap.size W u5 := ⟨hu5.os, hu5.tape, hu5.output, hu5.size, hu5.block⟩; have HB5 : Hid (Below W.heap.size W u5) := hb5; have f0 := (World.cell?_of_block (a := ⟨wr.heap.size, 0, none⟩) (hb5.block _ hbl)).trans e0; have f1 := (World.cell?_of_block (a := ⟨wr.heap.size, 1, none⟩) (hb5.block _ hbl)).trans e1; have f2 := (World.cell?_of_block (a := ⟨wr.heap.size, 2, none⟩) (hb5.block _ hbl)).trans e2; have f3 := (World.cell?_of_block (a := ⟨wr.heap.size, 3, none⟩) (hb5.block _ hbl)).trans e3; have f4 := (World.cell?_of_block (a := ⟨wr.heap.size, 4, none⟩) (hb5.block _ hbl)).trans e4; have f5 := (World.cell?_of_block (a := ⟨w.heap.size, 0, none⟩) (hb5.block _ hbt)).trans c0; clear hu5 hb5) | (go_at_call 80; have hA := HSP.out u5 HB5.out; refine Calls.mono hA ?_; clear hA; rintro r u6 ⟨rfl, hu6⟩; have HB6 : Hid (Below W.heap.size W u6) := HB5.out.trans (hu6.mono HB5.out.size); have f10 := (World.cell?_of_block (a := ⟨wr.heap.size, 0, none⟩) (HB6.out.block _ hbl)).trans e0; have f11 := (World.cell?_of_block (a := ⟨wr.heap.size, 1, none⟩) (HB6.out.block _ hbl)).trans e1; have f12 := (World.cell?_of_block (a := ⟨wr.heap.size, 2, none⟩) (HB6.out.block _ hbl)).trans e2; have f13 := (World.cell?_of_block (a := ⟨wr.heap.size, 3, none⟩) (HB6.out.block _ hbl)).trans e3; have f14 := (World.cell?_of_block (a := ⟨wr.heap.size, 4, none⟩) (HB6.out.block _ hbl)).trans e4; have f15 := (World.cell?_of_block (a := ⟨w.heap.size, 0, none⟩) (HB6.out.block _ hbt)).trans c0; clear hu6)))
            all_goals go_wp2
            all_goals go_ret
            refine ⟨ret_int (tlbC_no hlt (by rw [HTK.out, ht, hd]; rfl)).symm, HBW.out.trans (HB6.out.mono HBW.out.size)⟩
      · obtain rfl : k = zs.length := by omega
        go_wp2
        go_ret
        refine ⟨ret_int ?_, HB.out⟩
        unfold tlbC
        rw [if_pos ⟨z1, z2, z3, HOK.out⟩]
  · have hC : tlbC zs nx = 1 := if_neg (fun h2 => hz ⟨h2.1, h2.2.1, h2.2.2.1⟩)
    rw [hC]
    clear hC
    go_enter Try.func31, Try.ntmps31
    go_wp2
    all_goals first | omega | skip
    all_goals go_ret
    all_goals exact ⟨rfl, (Below.refl _ _).alloc (Nat.le_refl _) _⟩
end Go.Proofs.Ytfagohdmepnkkaa
