import Derived.Test.YtefeahilamiiaaaRt8
namespace Go.Proofs.Ytefeahilamiiaaa
open Go.ChangeShapes Go.WideShapes Go.ChangeAt Go.RowKit

/-- Remaps. -/
def mOk (n : Nat) (z : RM) : Bool := okD z.dev && okD z.idx && (okC n z.cpu && okV z.vec)
def mLt (a b : RM) : Bool := decide (a.dev * 256 + a.idx < b.dev * 256 + b.idx)
def mk (n : Nat) (zs : List RM) (j : Nat) : Bool := mOk n (zs.getD j rm0) && (decide (j = 0) || mLt (zs.getD (j - 1) rm0) (zs.getD j rm0))
theorem gdm {zs : List RM} {k : Nat} (h : k < zs.length) : zs.getD k rm0 = zs[k] := by simp [List.getD, List.getElem?_eq_getElem h]
def mapsB (r : RT) : Bool := decide (r.ms.length ≤ 1000) && allB (mk r.cs.length r.ms) r.ms.length
theorem okD_b {v : Int} (h : okD v = true) : 0 ≤ v ∧ v < 256 := by
  unfold okD at h
  simpa using h
theorem mOk_b {n : Nat} {z : RM} (h : mOk n z = true) : 0 ≤ z.dev ∧ z.dev < 256 ∧ 0 ≤ z.idx ∧ z.idx < 256 := by
  unfold mOk at h
  simp only [Bool.and_eq_true] at h
  obtain ⟨h1, h2⟩ := okD_b h.1.1
  obtain ⟨h3, h4⟩ := okD_b h.1.2
  exact ⟨h1, h2, h3, h4⟩
theorem cmp_lt {n : Nat} {y z : RM} (hy : mOk n y = true) (hz : mOk n z = true) : mLt y z = !decide (cmpR z y ≤ 0) := by
  obtain ⟨a1, a2, a3, a4⟩ := mOk_b hy
  obtain ⟨b1, b2, b3, b4⟩ := mOk_b hz
  unfold mLt cmpR orI cmpI
  by_cases h : y.dev * 256 + y.idx < z.dev * 256 + z.idx
  · rw [decide_eq_true h, decide_eq_false]
    · rfl
    · repeat' split
      all_goals omega
  · rw [decide_eq_false h, decide_eq_true]
    · rfl
    · repeat' split
      all_goals omega
set_option maxRecDepth 100000 in
set_option maxHeartbeats 4000000 in
theorem areRemaps_any {w : World} {b : Nat} {r : RT} {a : RA} (h : RBx w b r a) (hl : r.ms.length ≤ 1048576) : Calls Try.prog 25 #[.pointer (some ⟨b, 0, none⟩)] w fun e w' => e = .returned (.bool (mapsB r)) ∧ Below w.heap.size w w' := by
  have HX : Hid (RBx w b r a) := h
  have HR : Hid (RMrow w a.vm r.ms) := h.row.rm
  obtain ⟨ao, cap, ev⟩ := h.row.rm.sl
  obtain ⟨c0, c1, c2⟩ := h.cel
  rw [ev] at c2 HR
  have HC2 : Hid (∀ u, Below w.heap.size w u → u.cell? ⟨b, 2, none⟩ = some (.slice ao r.ms.length cap)) := fun u hu => (World.cell?_of_block (a := ⟨b, 2, none⟩) (hu.block b HX.out.lt)).trans c2
  clear h c0 c1
  go_enter Try.func25, Try.ntmps25
  go_wp2
  clear c2
  go_loopw [10] (fun i wr => ∃ k : Nat, k ≤ r.ms.length ∧ i = .int .i64 k ∧ allB (mk r.cs.length r.ms) k = true ∧ Below w.heap.size w wr) (fun i _ => r.ms.length - (intOf i).toNat)
  case atStart => exact ⟨0, Nat.zero_le _, rfl, rfl, Below.refl _ _⟩
  case round =>
    obtain ⟨k, hk, rfl, hok, hb⟩ := hrel
    have HOK : Hid (allB (mk r.cs.length r.ms) k = true) := hok
    have HB : Hid (Below w.heap.size w wr) := hb
    clear hok
    by_cases hlt : k < r.ms.length
    · obtain ⟨g, o, cap2, hv, _, hg, hc⟩ := HR.out.resolve_left (fun h => by rw [h.1] at hlt; simp at hlt)
      injection hv with hv1 hv2 hv3
      subst hv1 hv3
      clear hv2
      have hgw : g < wr.heap.size := Nat.lt_of_lt_of_le hg hb.size
      obtain ⟨d0, d1, d2, d3⟩ := hc.below hb hg k hlt
      have hpk : mk r.cs.length r.ms k = (mOk r.cs.length r.ms[k] && (decide (k = 0) || mLt (r.ms.getD (k - 1) rm0) r.ms[k])) := by unfold mk; rw [gdm hlt]
      have hk0 : (0 : Int) ≤ (k : Int) := by omega
      have hk1 : (k : Int) < (r.ms.length : Int) := by omega
      have HC : Hid (RMat wr g o r.ms) := hc.below hb hg
      generalize r.ms[k] = z at *
      have hbn : Below wr.heap.size wr (wr.alloc (.cells #[.int .i64 z.dev, .int .i64 z.idx, .int .i64 z.cpu, .int .i64 z.vec] 61)) := (Below.refl _ _).alloc (Nat.le_refl _) _
      have HB2 : Hid (Below w.heap.size w (wr.alloc (.cells #[.int .i64 z.dev, .int .i64 z.idx, .int .i64 z.cpu, .int .i64 z.vec] 61))) := HB.out.alloc HB.out.size _
      have HX2 : Hid (RBx (wr.alloc (.cells #[.int .i64 z.dev, .int .i64 z.idx, .int .i64 z.cpu, .int .i64 z.vec] 61)) b r a) := (HX.out.below HB.out).below hbn
      have HNB : Hid ((wr.alloc (.cells #[.int .i64 z.dev, .int .i64 z.idx, .int .i64 z.cpu, .int .i64 z.vec] 61)).heap[wr.heap.size]? = some (.cells #[.int .i64 z.dev, .int .i64 z.idx, .int .i64 z.cpu, .int .i64 z.vec] 61 (0, 0))) := heap_new _ _
      have HC3 : Hid (RMat (wr.alloc (.cells #[.int .i64 z.dev, .int .i64 z.idx, .int .i64 z.cpu, .int .i64 z.vec] 61)) g o r.ms) := HC.out.below hbn hgw
      have HPK : Hid _ := hpk
      clear hpk hc hb HC hbn
      go_wp2_with fail
      clear d0 d1 d2 d3
      generalize wr.alloc (.cells #[.int .i64 z.dev, .int .i64 z.idx, .int .i64 z.cpu, .int .i64 z.vec] 61) = W at *
      have hbl : wr.heap.size < W.heap.size := (Array.getElem?_eq_some_iff.1 HNB.out).1
      have f0 : W.cell? ⟨wr.heap.size, 0, none⟩ = some (.int .i64 z.dev) := by simp [World.cell?, HNB.out]
      have f1 : W.cell? ⟨wr.heap.size, 1, none⟩ = some (.int .i64 z.idx) := by simp [World.cell?, HNB.out]
      have f2 : W.cell? ⟨wr.heap.size, 2, none⟩ = some (.int .i64 z.cpu) := by simp [World.cell?, HNB.out]
      have f3 : W.cell? ⟨wr.heap.size, 3, none⟩ = some (.int .i64 z.vec) := by simp [World.cell?, HNB.out]
      have HD1 : Hid _ := fun u => isDev_any z.dev u
      have HD2 : Hid _ := fun u => isDev_any z.idx u
      have HL : Hid _ := leads_any HX2.out z.cpu z.vec
      cases h1 : okD z.dev
      · rw [h1] at HD1
        have hbad : Hid _ := allB_bad (m := r.ms.length) hlt (HPK.out.trans (by simp [mOk, h1]))
        clear h1
        go_wp2_with (go_at_call 47; refine (HD1.out _).mono ?_; rintro e u1 ⟨rfl, hu1⟩; rw [hu1]; clear hu1)
        go_ret
        exact ⟨ret_bool (by unfold mapsB; rw [hbad.out]; simp), HB2.out⟩
      · rw [h1] at HD1
        cases h2 : okD z.idx
        · rw [h2] at HD2
          have hbad : Hid _ := allB_bad (m := r.ms.length) hlt (HPK.out.trans (by simp [mOk, h2]))
          clear h1 h2
          go_wp2_with (first | (go_at_call 47; refine (HD1.out _).mono ?_; rintro e u1 ⟨rfl, hu1⟩; rw [hu1]; clear hu1 HD1) | (go_at_call 47; refine (HD2.out _).mono ?_; rintro e u2 ⟨rfl, hu2⟩; rw [hu2]; clear hu2))
          go_ret
          exact ⟨ret_bool (by unfold mapsB; rw [hbad.out]; simp), HB2.out⟩
        · rw [h2] at HD2
          cases h3 : (okC r.cs.length z.cpu && okV z.vec)
          · rw [h3] at HL
            have hbad : Hid _ := allB_bad (m := r.ms.length) hlt (HPK.out.trans (by simp only [mOk, h3, Bool.and_false, Bool.false_and]))
            clear h1 h2 h3
            go_wp2_with (first | (go_at_call 47; refine (HD1.out _).mono ?_; rintro e u1 ⟨rfl, hu1⟩; rw [hu1]; clear hu1 HD1) | (go_at_call 47; refine (HD2.out _).mono ?_; rintro e u2 ⟨rfl, hu2⟩; rw [hu2]; clear hu2) | (go_at_call 46; refine Calls.mono HL.out ?_; rintro e u3 ⟨rfl, hu3⟩; rw [hu3]; clear hu3))
            go_ret
            exact ⟨ret_bool (by unfold mapsB; rw [hbad.out]; simp), HB2.out⟩
          · rw [h3] at HL
            have hmo : mOk r.cs.length z = true := by simp only [mOk, h1, h2, h3, Bool.and_true]
            have HMO : Hid _ := hmo
            rw [hmo, Bool.true_and] at HPK
            clear h1 h2 h3 hmo
            go_upto_region 6 with (first | (go_at_call 47; refine (HD1.out _).mono ?_; rintro e u1 ⟨rfl, hu1⟩; rw [hu1]; clear hu1 HD1) | (go_at_call 47; refine (HD2.out _).mono ?_; rintro e u2 ⟨rfl, hu2⟩; rw [hu2]; clear hu2) | (go_at_call 46; refine Calls.mono HL.out ?_; rintro e u3 ⟨rfl, hu3⟩; rw [hu3]; clear hu3))
            by_cases h0 : k = 0
            · subst h0
              go_quiet (fail)
              go_wp2
              go_roundw
              case rel => exact ⟨1, hlt, by go_num, by rw [allB_succ, HPK.out]; rfl, bdn HB2.out _⟩
              case measure => simp [intOf]; omega
            · obtain ⟨j, rfl⟩ : ∃ j, k = j + 1 := ⟨k - 1, by omega⟩
              obtain ⟨p0, p1, p2, p3⟩ := HC3.out j (by omega)
              have HMY : Hid (mOk r.cs.length r.ms[j] = true) := (show mOk r.cs.length r.ms[j] = true by
                have := allB_iff.1 HOK.out j (by omega)
                unfold mk at this
                rw [gdm (show j < r.ms.length by omega), Bool.and_eq_true] at this
                exact this.1)
              rw [Nat.add_sub_cancel, gdm (show j < r.ms.length by omega)] at HPK
              generalize r.ms[j] = y at *
              have hcl := cmp_lt HMY.out HMO.out
              have hj0 : (0 : Int) < ((j + 1 : Nat) : Int) := by omega
              have hj1 : ((j + 1 : Nat) : Int) - 1 = (j : Int) := by omega
              have hj2 : (j : Int) < (r.ms.length : Int) := by omega
              have hj3 : (0 : Int) ≤ (j : Int) := by omega
              have hjw : IntKind.i64.wrap (j : Int) = (j : Int) := by rw [IntKind.wrap_i64]; omega
              have hjw2 : IntKind.i64.wrap ((j : Int) + 1 - 1) = (j : Int) := by rw [IntKind.wrap_i64]; omega
              have hjn : j < r.ms.length := by omega
              have c2 := HC2.out W HB2.out
              have HCR : Hid _ := fun u => compareRemaps_any z y u
              generalize cmpR z y = q at *
              have HPQ : Hid _ := HPK.out.trans (by rw [hcl])
              unfold rmA at HCR
              have hxl := HX2.out.lt
              have hgW : g < W.heap.size := Nat.lt_trans hgw hbl
              clear hcl HPK
              have HBW : Hid (∀ u, Below W.heap.size W u → Below w.heap.size w u) := fun u hu => HB2.out.trans (hu.mono HB2.out.size)
              by_cases hq : q ≤ 0
              · have hbad : Hid _ := allB_bad (m := r.ms.length) hlt (HPQ.out.trans (by simp [hq]))
                go_region_held3 (fun w' => w'.cell? ⟨wr.heap.size, 0, none⟩ = some (.int .i64 z.dev) ∧ w'.cell? ⟨wr.heap.size, 1, none⟩ = some (.int .i64 z.idx) ∧ w'.cell? ⟨wr.heap.size, 2, none⟩ = some (.int .i64 z.cpu) ∧ w'.cell? ⟨wr.heap.size, 3, none⟩ = some (.int .i64 z.vec) ∧ w'.cell? ⟨b, 2, none⟩ = some (.slice (some ⟨g, o, none⟩) r.ms.length cap) ∧ w'.cell? ⟨g, o + j * 4, none⟩ = some (.int .i64 y.dev) ∧ w'.cell? ⟨g, o + j * 4 + 1, none⟩ = some (.int .i64 y.idx) ∧ w'.cell? ⟨g, o + j * 4 + 2, none⟩ = some (.int .i64 y.cpu) ∧ w'.cell? ⟨g, o + j * 4 + 3, none⟩ = some (.int .i64 y.vec)) (go_keep) ((go_at_call 48; refine Calls.mono (HCR.out W.drew) ?_; rintro e u5 ⟨rfl, hu5⟩; have hb5 : Below W.heap.size W u5 := ⟨hu5.os, hu5.tape, hu5.output, hu5.size, hu5.block⟩; have HB5 : Hid (Below W.heap.size W u5) := hb5; have g0 := (World.cell?_of_block (a := ⟨wr.heap.size, 0, none⟩) (hb5.block _ hbl)).trans f0; have g1 := (World.cell?_of_block (a := ⟨wr.heap.size, 1, none⟩) (hb5.block _ hbl)).trans f1; have g2 := (World.cell?_of_block (a := ⟨wr.heap.size, 2, none⟩) (hb5.block _ hbl)).trans f2; have g3 := (World.cell?_of_block (a := ⟨wr.heap.size, 3, none⟩) (hb5.block _ hbl)).trans f3; have g4 := (World.cell?_of_block (a := ⟨b, 2, none⟩) (hb5.block _ hxl)).trans c2; have r0 := (World.cell?_of_block (hb5.block g hgW)).trans p0; have r1 := (World.cell?_of_block (hb5.block g hgW)).trans p1; have r2 := (World.cell?_of_block (hb5.block g hgW)).trans p2; have r3 := (World.cell?_of_block (hb5.block g hgW)).trans p3; clear hu5 hb5))
                all_goals go_wp2
                go_ret
                exact ⟨ret_bool (by unfold mapsB; rw [hbad.out]; simp), HBW.out _ HB5.out⟩
              · have hgd : Hid _ := HPQ.out.trans (b := _) (c := true) (by simp; omega)
                go_region_held3 (fun w' => w'.cell? ⟨wr.heap.size, 0, none⟩ = some (.int .i64 z.dev) ∧ w'.cell? ⟨wr.heap.size, 1, none⟩ = some (.int .i64 z.idx) ∧ w'.cell? ⟨wr.heap.size, 2, none⟩ = some (.int .i64 z.cpu) ∧ w'.cell? ⟨wr.heap.size, 3, none⟩ = some (.int .i64 z.vec) ∧ w'.cell? ⟨b, 2, none⟩ = some (.slice (some ⟨g, o, none⟩) r.ms.length cap) ∧ w'.cell? ⟨g, o + j * 4, none⟩ = some (.int .i64 y.dev) ∧ w'.cell? ⟨g, o + j * 4 + 1, none⟩ = some (.int .i64 y.idx) ∧ w'.cell? ⟨g, o + j * 4 + 2, none⟩ = some (.int .i64 y.cpu) ∧ w'.cell? ⟨g, o + j * 4 + 3, none⟩ = some (.int .i64 y.vec)) (go_keep) ((go_at_call 48; refine Calls.mono (HCR.out W.drew) ?_; rintro e u5 ⟨rfl, hu5⟩; have hb5 : Below W.heap.size W u5 := ⟨hu5.os, hu5.tape, hu5.output, hu5.size, hu5.block⟩; have HB5 : Hid (Below W.heap.size W u5) := hb5; have g0 := (World.cell?_of_block (a := ⟨wr.heap.size, 0, none⟩) (hb5.block _ hbl)).trans f0; have g1 := (World.cell?_of_block (a := ⟨wr.heap.size, 1, none⟩) (hb5.block _ hbl)).trans f1; have g2 := (World.cell?_of_block (a := ⟨wr.heap.size, 2, none⟩) (hb5.block _ hbl)).trans f2; have g3 := (World.cell?_of_block (a := ⟨wr.heap.size, 3, none⟩) (hb5.block _ hbl)).trans f3; have g4 := (World.cell?_of_block (a := ⟨b, 2, none⟩) (hb5.block _ hxl)).trans c2; have r0 := (World.cell?_of_block (hb5.block g hgW)).trans p0; have r1 := (World.cell?_of_block (hb5.block g hgW)).trans p1; have r2 := (World.cell?_of_block (hb5.block g hgW)).trans p2; have r3 := (World.cell?_of_block (hb5.block g hgW)).trans p3; clear hu5 hb5))
                all_goals go_wp2
                go_roundw
                case rel => exact ⟨j + 1 + 1, hlt, by go_num, by rw [allB_succ, HOK.out, hgd.out]; rfl, HBW.out _ HB5.out⟩
                case measure => simp [intOf]; omega
    · obtain rfl : k = r.ms.length := by omega
      have c2 := HC2.out _ hb
      go_wp2
      go_ret
      exact ⟨ret_bool (by unfold mapsB; rw [HOK.out, Bool.and_true]; exact decide_eq_decide.2 (by omega)), HB.out⟩
end Go.Proofs.Ytefeahilamiiaaa
