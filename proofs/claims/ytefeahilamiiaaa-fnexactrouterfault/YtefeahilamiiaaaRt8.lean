import Derived.Test.YtefeahilamiiaaaRt7
namespace Go.Proofs.Ytefeahilamiiaaa
open Go.ChangeShapes Go.WideShapes Go.ChangeAt Go.RowKit

def cp0 : CP := ⟨0, [], []⟩
def ck (cs : List CP) (j : Nat) : Bool := cpB (cs.getD j cp0)
theorem gdc {zs : List CP} {k : Nat} (h : k < zs.length) : zs.getD k cp0 = zs[k] := by simp [List.getD, List.getElem?_eq_getElem h]
def cpusB (r : RT) : Bool := decide (1 ≤ r.cs.length) && decide (r.cs.length ≤ 8) && allB (ck r.cs) r.cs.length
set_option maxRecDepth 100000 in
set_option maxHeartbeats 4000000 in
theorem areCpus_any {w : World} {b : Nat} {r : RT} {a : RA} (h : RBx w b r a) (hl : RLen r) : Calls Try.prog 23 #[.pointer (some ⟨b, 0, none⟩)] w fun e w' => e = .returned (.bool (cpusB r)) ∧ Below w.heap.size w w' := by
  have HX : Hid (RBx w b r a) := h
  have HL : Hid (RLen r) := hl
  have hlc := hl.c
  have HR : Hid (CQrow w a.vc a.qs) := h.row.cq
  obtain ⟨ao, cap, ev⟩ := h.slc
  obtain ⟨c0, c1, c2⟩ := h.cel
  have HLQ : Hid (a.qs.length = r.cs.length) := h.row.cp.len
  rw [ev] at c1 HR
  have HC1 : Hid (∀ u, Below w.heap.size w u → u.cell? ⟨b, 1, none⟩ = some (.slice ao r.cs.length cap)) := fun u hu => (World.cell?_of_block (a := ⟨b, 1, none⟩) (hu.block b HX.out.lt)).trans c1
  clear h c0 c2 hl
  go_enter Try.func23, Try.ntmps23
  go_wp2
  clear c1
  go_loopw [10] (fun i wr => ∃ k : Nat, k ≤ r.cs.length ∧ i = .int .i64 k ∧ allB (ck r.cs) k = true ∧ Below w.heap.size w wr) (fun i _ => r.cs.length - (intOf i).toNat)
  case atStart => exact ⟨0, Nat.zero_le _, rfl, rfl, Below.refl _ _⟩
  case round =>
    obtain ⟨k, hk, rfl, hok, hb⟩ := hrel
    have HOK : Hid (allB (ck r.cs) k = true) := hok
    have HB : Hid (Below w.heap.size w wr) := hb
    clear hok
    by_cases hlt : k < r.cs.length
    · have hltq : k < a.qs.length := by rw [HLQ.out]; exact hlt
      obtain ⟨g, o, cap2, hv, _, hg, hc⟩ := HR.out.resolve_left (fun h => by rw [h.1] at hltq; simp at hltq)
      injection hv with hv1 hv2 hv3
      subst hv1 hv3
      clear hv2
      obtain ⟨d0, d1, d2⟩ := hc.below hb hg k hltq
      obtain ⟨e0, e1, e2⟩ := HX.out.row.cp.el k hltq hlt
      have hpk : ck r.cs k = cpB r.cs[k] := by unfold ck; rw [gdc hlt]
      have hp := HL.out.p k hlt
      have hs := HL.out.s k hlt
      have hk0 : (0 : Int) ≤ (k : Int) := by omega
      have hk1 : (k : Int) < (r.cs.length : Int) := by omega
      rw [e0] at d0
      clear e0
      generalize r.cs[k] = z at *
      generalize a.qs[k] = y at *
      obtain ⟨yl, yp, ys⟩ := y
      simp only at d1 d2 e1 e2
      obtain ⟨ap, kp, rfl⟩ := e1.sl
      obtain ⟨aq, kq, rfl⟩ := e2.sl
      have hbn : Below wr.heap.size wr (wr.alloc (.cells #[.int .i64 z.lim, .slice ap z.ps.length kp, .slice aq z.ss.length kq] 59)) := (Below.refl _ _).alloc (Nat.le_refl _) _
      have HBX : Hid (BoxC (wr.alloc (.cells #[.int .i64 z.lim, .slice ap z.ps.length kp, .slice aq z.ss.length kq] 59)) wr.heap.size z.lim (.slice ap z.ps.length kp) (.slice aq z.ss.length kq)) := heap_new _ _
      have HB2 : Hid (Below w.heap.size w (wr.alloc (.cells #[.int .i64 z.lim, .slice ap z.ps.length kp, .slice aq z.ss.length kq] 59))) := HB.out.alloc HB.out.size _
      have HP : Hid (Irow (wr.alloc (.cells #[.int .i64 z.lim, .slice ap z.ps.length kp, .slice aq z.ss.length kq] 59)) (.slice ap z.ps.length kp) z.ps) := e1.below HB2.out
      have HS : Hid (Irow (wr.alloc (.cells #[.int .i64 z.lim, .slice ap z.ps.length kp, .slice aq z.ss.length kq] 59)) (.slice aq z.ss.length kq) z.ss) := e2.below HB2.out
      have HV : Hid _ := fun u => isLimit_any z.lim u
      have HCK : Hid _ := hpk
      clear hpk hbn e1 e2 hc hb
      go_wp2_with fail
      clear d0 d1 d2
      generalize wr.alloc (.cells #[.int .i64 z.lim, .slice ap z.ps.length kp, .slice aq z.ss.length kq] 59) = W at *
      obtain ⟨f0, f1, f2⟩ := HBX.out.cel
      cases h1 : okL z.lim
      · rw [h1] at HV
        have hbad : Hid _ := allB_bad (m := r.cs.length) hlt (HCK.out.trans (cpB_no1 h1))
        clear h1
        go_wp2_with (go_at_call 43; refine (HV.out _).mono ?_; rintro e u1 ⟨rfl, hu1⟩; rw [hu1]; clear hu1)
        go_ret
        exact ⟨ret_bool (by unfold cpusB; rw [hbad.out]; simp), HB2.out⟩
      · rw [h1] at HV
        have HPC : Hid _ := isPending_any HP.out hp
        cases h2 : pendB z.ps
        · rw [h2] at HPC
          have hbad : Hid _ := allB_bad (m := r.cs.length) hlt (HCK.out.trans (show cpB z = false by simp [cpB, h2]))
          clear h1 h2
          go_wp2_with (first | (go_at_call 43; refine (HV.out _).mono ?_; rintro e u1 ⟨rfl, hu1⟩; rw [hu1]; clear hu1) | (go_at_call 44; refine Calls.mono HPC.out ?_; rintro e u2 ⟨rfl, hu2⟩; have HB3 : Hid (Below w.heap.size w u2) := HB2.out.trans (hu2.mono HB2.out.size); clear hu2))
          go_ret
          exact ⟨ret_bool (by unfold cpusB; rw [hbad.out]; simp), HB3.out⟩
        · rw [h2] at HPC
          have HSC : Hid _ := fun u (hu : Below W.heap.size W u) => isService_any (HS.out.below hu) hs
          have hcp : cpB z = servB z.ss := by simp [cpB, h1, h2]
          cases h3 : servB z.ss
          · rw [h3] at HSC hcp
            have hbad : Hid _ := allB_bad (m := r.cs.length) hlt (HCK.out.trans hcp)
            clear h1 h2 h3 hcp
            go_wp2_with (first | (go_at_call 43; refine (HV.out _).mono ?_; rintro e u1 ⟨rfl, hu1⟩; rw [hu1]; clear hu1) | (go_at_call 44; refine Calls.mono HPC.out ?_; rintro e u2 ⟨rfl, hu2⟩; have HU2 : Hid (Below W.heap.size W u2) := hu2; have HB3 : Hid (Below w.heap.size w u2) := HB2.out.trans (hu2.mono HB2.out.size); obtain ⟨k0, k1, k2⟩ := (HBX.out.below hu2 HBX.out.lt).cel; clear hu2) | (go_at_call 45; have hA := HSC.out u2 HU2.out; refine Calls.mono hA ?_; clear hA; rintro e u3 ⟨rfl, hu3⟩; have HB4 : Hid (Below w.heap.size w u3) := HB3.out.trans (hu3.mono HB3.out.size); clear hu3))
            go_ret
            exact ⟨ret_bool (by unfold cpusB; rw [hbad.out]; simp), HB4.out⟩
          · rw [h3] at HSC hcp
            have hgd : Hid _ := HCK.out.trans hcp
            clear h1 h2 h3 hcp
            go_wp2_with (first | (go_at_call 43; refine (HV.out _).mono ?_; rintro e u1 ⟨rfl, hu1⟩; rw [hu1]; clear hu1) | (go_at_call 44; refine Calls.mono HPC.out ?_; rintro e u2 ⟨rfl, hu2⟩; have HU2 : Hid (Below W.heap.size W u2) := hu2; have HB3 : Hid (Below w.heap.size w u2) := HB2.out.trans (hu2.mono HB2.out.size); obtain ⟨k0, k1, k2⟩ := (HBX.out.below hu2 HBX.out.lt).cel; clear hu2) | (go_at_call 45; have hA := HSC.out u2 HU2.out; refine Calls.mono hA ?_; clear hA; rintro e u3 ⟨rfl, hu3⟩; have HB4 : Hid (Below w.heap.size w u3) := HB3.out.trans (hu3.mono HB3.out.size); clear hu3))
            go_roundw
            case rel => exact ⟨k + 1, hlt, by go_num, by rw [allB_succ, HOK.out, hgd.out]; rfl, HB4.out⟩
            case measure => simp [intOf]; omega
    · obtain rfl : k = r.cs.length := by omega
      have c1 := HC1.out _ hb
      by_cases q1 : (1 : Int) ≤ (r.cs.length : Int)
      · go_wp2
        go_ret
        refine ⟨ret_bool ?_, HB.out⟩
        unfold cpusB
        rw [HOK.out, Bool.and_true, decide_eq_true (show 1 ≤ r.cs.length by omega), Bool.true_and]
        exact decide_eq_decide.2 (by omega)
      · go_wp2
        go_ret
        refine ⟨ret_bool ?_, HB.out⟩
        unfold cpusB
        rw [decide_eq_false (show ¬ 1 ≤ r.cs.length by omega)]
        simp
end Go.Proofs.Ytefeahilamiiaaa
