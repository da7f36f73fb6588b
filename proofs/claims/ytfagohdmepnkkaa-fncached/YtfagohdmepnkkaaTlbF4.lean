import Derived.Test.YtfagohdmepnkkaaTlbF3
namespace Go.Proofs.Ytfagohdmepnkkaa
open Go.ChangeShapes Go.WideShapes Go.ChangeAt Go.RowKit

theorem any_take {zs : List TE} {p : TE → Bool} {j : Nat} (hj : j < zs.length) : (zs.take (j + 1)).any p = ((zs.take j).any p || p zs[j]) := by
  rw [List.take_succ_eq_append_getElem hj, List.any_append]
  simp only [List.any_cons, List.any_nil, Bool.or_false]
theorem any_more {zs : List TE} {p : TE → Bool} {j k : Nat} (hj : j < k) (hk : k ≤ zs.length) (h : p (zs[j]'(Nat.lt_of_lt_of_le hj hk)) = true) : (zs.take k).any p = true := by
  rw [List.any_eq_true]
  refine ⟨zs[j], ?_, h⟩
  rw [List.mem_take_iff_getElem]
  exact ⟨j, by omega, rfl⟩
set_option maxRecDepth 100000 in
set_option maxHeartbeats 4000000 in
theorem specFaultT_any {w : World} {v : Value} {zs : List TE} (h : TErow w v zs) (nx : Int) (hl : zs.length ≤ 1048576) : Calls Try.prog 32 #[tlA v nx] w fun r w' => r = .returned (.int .i64 (tlbC zs nx)) ∧ Below w.heap.size w w' := by
  obtain ⟨ao, cap, rfl⟩ := h.sl
  unfold tlA
  by_cases hz : zs.length ≤ 16 ∧ 0 ≤ nx ∧ nx ≤ 15
  · obtain ⟨z1, z2, z3⟩ := hz
    have HR : Hid (TErow w (.slice ao zs.length cap) zs) := h
    clear h
    go_enter Try.func32, Try.ntmps32
    go_wp2
    go_loopw [3] (fun i wr => ∃ k : Nat, k ≤ zs.length ∧ i = .int .i64 k ∧ allOk zs k = true ∧ BoxT wr w.heap.size (.slice ao zs.length cap) nx ∧ Below w.heap.size w wr) (fun i _ => zs.length - (intOf i).toNat)
    case atStart => exact ⟨0, Nat.zero_le _, rfl, rfl, heap_new _ _, (Below.refl _ _).alloc (Nat.le_refl _) _⟩
    case round =>
      obtain ⟨k, hk, rfl, hok, hbx, hb⟩ := hrel
      have HOK : Hid (allOk zs k = true) := hok
      have HB : Hid (Below w.heap.size w wr) := hb
      have HX : Hid (BoxT wr w.heap.size (.slice ao zs.length cap) nx) := hbx
      have hxl := hbx.lt
      clear hok hbx
      obtain ⟨c0, c1⟩ := HX.out.cel
      by_cases hlt : k < zs.length
      · obtain ⟨g, o, cap2, hv, hcp, hg, hc⟩ := HR.out.resolve_left (fun h => by rw [h.1] at hlt; simp at hlt)
        injection hv with hv1 hv2 hv3
        subst hv1 hv3
        obtain ⟨d0, d1, d2, d3, d4⟩ := hc.below hb hg k hlt
        have htk := tok_eq hlt
        obtain ⟨z, hz⟩ : ∃ z, zs[k] = z := ⟨_, rfl⟩
        rw [hz] at d0 d1 d2 d3 d4 htk
        have HTK : Hid (tok zs k = (teOk z && !((zs.take k).any fun x => same x z))) := htk
        have hk0 : (0 : Int) ≤ (k : Int) := by omega
        have hk1 : (k : Int) < (zs.length : Int) := by omega
        have HC : Hid (TEat (wr.alloc (.cells #[.int .i64 z.asid, .int .i64 z.page, .int .i64 z.frame, .int .i64 z.flags, .bool z.large] 66)) g o zs) := (hc.below hb hg).below ((Below.refl _ _).alloc (Nat.le_refl _) _) (Nat.lt_of_lt_of_le hg hb.size)
        have HE : Hid _ := fun w' => specEntry_any z w'
        unfold teA at HE
        clear hc hb htk hz
        have HBE : Hid (BoxE (wr.alloc (.cells #[.int .i64 z.asid, .int .i64 z.page, .int .i64 z.frame, .int .i64 z.flags, .bool z.large] 66)) wr.heap.size z) := heap_new _ _
        have HBT : Hid (BoxT (wr.alloc (.cells #[.int .i64 z.asid, .int .i64 z.page, .int .i64 z.frame, .int .i64 z.flags, .bool z.large] 66)) w.heap.size (.slice (some ⟨g, o, none⟩) zs.length cap) nx) := HX.out.below ((Below.refl _ _).alloc (Nat.le_refl _) _) hxl
        have HBW : Hid (Below w.heap.size w (wr.alloc (.cells #[.int .i64 z.asid, .int .i64 z.page, .int .i64 z.frame, .int .i64 z.flags, .bool z.large] 66))) := HB.out.alloc HB.out.size _
        have hgW : g < wr.heap.size + 1 := by have := HB.out.size; omega
        cases ht : teOk z
        · rw [ht] at HE
          go_wp2_with (go_at_call 81; refine Calls.mono (HE.out _) ?_; rintro e u5 ⟨rfl, hu5⟩; have HB5 : Hid (Below (wr.alloc (.cells #[.int .i64 z.asid, .int .i64 z.page, .int .i64 z.frame, .int .i64 z.flags, .bool z.large] 66)).heap.size (wr.alloc (.cells #[.int .i64 z.asid, .int .i64 z.page, .int .i64 z.frame, .int .i64 z.flags, .bool z.large] 66)) u5) := hu5; clear hu5)
          go_ret
          exact ⟨ret_int (tlbC_no hlt (by rw [HTK.out, ht]; rfl)).symm, HBW.out.trans (HB5.out.mono HBW.out.size)⟩
        · rw [ht] at HE
          go_wp2_with (go_at_call 81; refine Calls.mono (HE.out _) ?_; rintro e u5 ⟨rfl, hu5⟩; have HB5 : Hid (Below (wr.alloc (.cells #[.int .i64 z.asid, .int .i64 z.page, .int .i64 z.frame, .int .i64 z.flags, .bool z.large] 66)).heap.size (wr.alloc (.cells #[.int .i64 z.asid, .int .i64 z.page, .int .i64 z.frame, .int .i64 z.flags, .bool z.large] 66)) u5) := hu5; clear hu5)
          have hgs : g < (wr.alloc (.cells #[.int .i64 z.asid, .int .i64 z.page, .int .i64 z.frame, .int .i64 z.flags, .bool z.large] 66)).heap.size := by simp; exact hgW
          generalize wr.alloc (.cells #[.int .i64 z.asid, .int .i64 z.page, .int .i64 z.frame, .int .i64 z.flags, .bool z.large] 66) = W at *
          have HC5 : Hid (TEat u5 g o zs) := HC.out.below HB5.out hgs
          have HT5 : Hid (BoxT u5 w.heap.size (.slice (some ⟨g, o, none⟩) zs.length cap) nx) := HBT.out.below HB5.out HBT.out.lt
          have HE5 : Hid (BoxE u5 wr.heap.size z) := HBE.out.below HB5.out HBE.out.lt
          have HW5 : Hid (Below w.heap.size w u5) := HBW.out.trans (HB5.out.mono HBW.out.size)
          clear HC HBT HBE HBW HB5 d0 d1 d2 d3 d4 c0 c1 HE hgs hgW
          obtain ⟨c0, c1⟩ := HT5.out.cel
          obtain ⟨e0, e1, e2, e3, e4⟩ := cel5 HE5.out
          generalize wr.heap.size = eb at *
          clear e2 e3 c1
          go_loopw [5] (fun i w5 => ∃ j : Nat, j ≤ k ∧ i = .int .i64 j ∧ ((zs.take j).any fun x => same x z) = false ∧ w5.heap = u5.heap ∧ Below u5.heap.size u5 w5) (fun i _ => k - (intOf i).toNat)
          case atStart => exact ⟨0, Nat.zero_le _, rfl, rfl, rfl, Below.refl _ _⟩
          case round =>
            obtain ⟨j, hj, rfl, hna, hh, hb6⟩ := hrel
            have hce : ∀ b x, wr.cell? ⟨b, x, none⟩ = u5.cell? ⟨b, x, none⟩ := fun b x => World.cell?_of_block (by rw [hh])
            rw [← hce] at c0 e0 e1 e4
            have HNA : Hid (((zs.take j).any fun x => same x z) = false) := hna
            have HB6 : Hid (Below u5.heap.size u5 wr) := hb6
            have HH : Hid (wr.heap = u5.heap) := hh
            by_cases hjk : j < k
            · have hjz : j < zs.length := by omega
              obtain ⟨d0, d1, d2, d3, d4⟩ := HC5.out j hjz
              rw [← hce] at d0 d1 d2 d3 d4
              have hat := any_take (p := fun x => same x z) hjz
              obtain ⟨y, hy⟩ : ∃ y, zs[j] = y := ⟨_, rfl⟩
              rw [hy] at d0 d1 d2 d3 d4 hat
              have HAT : Hid (((zs.take (j + 1)).any fun x => same x z) = (((zs.take j).any fun x => same x z) || same y z)) := hat
              have HY : Hid (zs[j] = y) := hy
              have hj0 : (0 : Int) ≤ (j : Int) := by omega
              have hj1 : (j : Int) < (zs.length : Int) := by omega
              have hj2 : (j : Int) < (k : Int) := by omega
              clear hat hy hna hb6 hh hce d2 d3
              by_cases q1 : y.asid = z.asid
              · by_cases q2 : y.page = z.page
                · by_cases q3 : y.large = z.large
                  · have QY : Hid (same y z = true) := (show same y z = true by simp [same, q1, q2, q3])
                    have q3b : (y.large == z.large) = true := by simpa using q3
                    clear q3
                    go_wp2
                    go_quiet (fail)
                    go_wp2
                    go_ret
                    exact ⟨ret_int (tlbC_no hlt (by rw [HTK.out, ht, any_more hjk (by omega) (by rw [HY.out]; exact QY.out)]; rfl)).symm, HW5.out.trans ((bdn HB6.out nq).mono HW5.out.size)⟩
                  · have QN : Hid (same y z = false) := (show same y z = false by simp [same, q3])
                    have q3b : (y.large == z.large) = false := by simpa using q3
                    clear q3
                    go_wp2
                    go_quiet (fail)
                    go_wp2
                    refine ⟨⟨j + 1, by omega, by simp, by rw [HAT.out, HNA.out, QN.out]; rfl, HH.out, bdn HB6.out nq⟩, ?_⟩
                    simp [intOf]
                    omega
                · have QN : Hid (same y z = false) := (show same y z = false by simp [same, q2])
                  have q2b : (y.page == z.page) = false := by simpa using q2
                  clear q2
                  go_wp2
                  go_quiet (fail)
                  go_wp2
                  refine ⟨⟨j + 1, by omega, by simp, by rw [HAT.out, HNA.out, QN.out]; rfl, HH.out, bdn HB6.out nq⟩, ?_⟩
                  simp [intOf]
                  omega
              · have QN : Hid (same y z = false) := (show same y z = false by simp [same, q1])
                have q1b : (y.asid == z.asid) = false := by simpa using q1
                clear q1
                go_wp2
                go_quiet (fail)
                go_wp2
                refine ⟨⟨j + 1, by omega, by simp, by rw [HAT.out, HNA.out, QN.out]; rfl, HH.out, bdn HB6.out nq⟩, ?_⟩
                simp [intOf]
                omega
            · obtain rfl : j = k := by omega
              clear hce
              go_wp2
              refine ⟨⟨j + 1, hlt, by simp, by rw [allOk_succ, HOK.out, HTK.out, ht, HNA.out]; rfl, by unfold BoxT; rw [HH.out]; exact HT5.out, HW5.out.trans (HB6.out.mono HW5.out.size)⟩, ?_⟩
              simp [intOf]
              omega
      · obtain rfl : k = zs.length := by omega
        go_wp2
        go_ret
        refine ⟨ret_int ?_, HB.out⟩
        unfold tlbC
        rw [if_pos ⟨z1, z2, z3, HOK.out⟩]
  · have hC : tlbC zs nx = 1 := if_neg (fun h2 => hz ⟨h2.1, h2.2.1, h2.2.2.1⟩)
    rw [hC]
    clear hC
    go_enter Try.func32, Try.ntmps32
    go_wp2
    all_goals first | omega | skip
    all_goals go_ret
    all_goals exact ⟨rfl, (Below.refl _ _).alloc (Nat.le_refl _) _⟩
end Go.Proofs.Ytfagohdmepnkkaa
