import Derived.Test.YtmogemcbbcmeoabSFn
namespace Go.Proofs.Ytmogemcbbcmeoab
open Go.ChangeShapes Go.WideShapes Go.ChangeAt Go.RowKit

/-- What TlbFind answers of a right cache. -/
def tfV (zs : List TE) (asid va acc : Int) (user : Bool) : Value := match zs.findIdx? (fP asid va) with | some k => tfR (zs.getD k te0) va acc user k | none => hitA false 0 0
theorem tfV_at {zs : List TE} {asid va acc : Int} {user : Bool} {k : Nat} (hk : k < zs.length) (h : fP asid va zs[k] = true) (hn : ∀ j (hj : j < k), fP asid va (zs[j]'(Nat.lt_trans hj hk)) = false) : tfV zs asid va acc user = tfR zs[k] va acc user k := by
  have : zs.findIdx? (fP asid va) = some k := List.findIdx?_eq_some_iff_getElem.2 ⟨hk, h, fun j hj => by rw [hn j hj]; decide⟩
  simp [tfV, this, List.getD, List.getElem?_eq_getElem hk]
theorem tfV_none {zs : List TE} {asid va acc : Int} {user : Bool} (hn : ∀ j (hj : j < zs.length), fP asid va zs[j] = false) : tfV zs asid va acc user = hitA false 0 0 := by
  have : zs.findIdx? (fP asid va) = none := List.findIdx?_eq_none_iff.2 fun x hx => by
    obtain ⟨j, hj, rfl⟩ := List.getElem_of_mem hx
    exact hn j hj
  simp [tfV, this]
set_option maxRecDepth 100000 in
set_option maxHeartbeats 4000000 in
theorem specFind_go {w : World} {ao : Option Addr} {cap : Nat} {zs : List TE} (h : TErow w (.slice ao zs.length cap) zs) (nx asid va acc : Int) (user : Bool) (hl : zs.length ≤ 1048576) (hc : tlbC zs nx = 0) (s0 : 0 ≤ asid) (s1 : asid ≤ 255) (v0 : 0 ≤ va) (v1 : va < 262144) (a0 : 1 ≤ acc) (a1 : acc ≤ 3) :
    Calls Try.prog 10 #[tlA (.slice ao zs.length cap) nx, .int .i64 asid, .int .i64 va, .int .i64 acc, .bool user] w fun e w' => e = .returned (tfV zs asid va acc user) ∧ Below w.heap.size w w' := by
  have HX0 : Hid (GX w ((w.alloc (.cells #[.slice ao zs.length cap, .int .i64 nx] 31)).alloc (.cells #[.bool false, .int .i64 0, .int .i64 0] 27)) (.slice ao zs.length cap) nx) := GX.new w ao zs.length cap nx
  have HF := specFaultT_any (h.below (HX0.out.bel)) nx hl
  rw [hc] at HF
  have HFH : Hid (Calls Try.prog 34 #[tlA (.slice ao zs.length cap) nx] ((w.alloc (.cells #[.slice ao zs.length cap, .int .i64 nx] 31)).alloc (.cells #[.bool false, .int .i64 0, .int .i64 0] 27)) fun r w' => r = .returned (.int .i64 0) ∧ Below ((w.alloc (.cells #[.slice ao zs.length cap, .int .i64 nx] 31)).alloc (.cells #[.bool false, .int .i64 0, .int .i64 0] 27)).heap.size ((w.alloc (.cells #[.slice ao zs.length cap, .int .i64 nx] 31)).alloc (.cells #[.bool false, .int .i64 0, .int .i64 0] 27)) w') := HF
  have HA := fun w' => l03Acc_any acc w'
  rw [show decide (1 ≤ acc ∧ acc ≤ 3) = true from decide_eq_true ⟨a0, a1⟩] at HA
  have HAH : Hid _ := HA
  have HR : Hid (TErow ((w.alloc (.cells #[.slice ao zs.length cap, .int .i64 nx] 31)).alloc (.cells #[.bool false, .int .i64 0, .int .i64 0] 27)) (.slice ao zs.length cap) zs) := h.below HX0.out.bel
  have HM : Hid (∀ x ∈ zs, teOk x = true) := all_ok hc
  have hv : decide (262144 ≤ va) = false := decide_eq_false (by omega)
  have V1 : Hid (va < 262144) := v1
  obtain ⟨R, hR⟩ : ∃ R, tfV zs asid va acc user = R := ⟨_, rfl⟩
  rw [hR]
  have HRV : Hid (tfV zs asid va acc user = R) := hR
  clear h HF HA hc v1 hR
  unfold tlA at HFH ⊢
  go_enter Try.func10, Try.ntmps10
  go_wp2_with (first | (go_at_call 34; refine Calls.mono HFH.out ?_; rintro e u1 ⟨rfl, hu1⟩; have HX : Hid (GX w u1 (.slice ao zs.length cap) nx) := HX0.out.step hu1; have HR1 : Hid (TErow u1 (.slice ao zs.length cap) zs) := HR.out.below hu1; obtain ⟨z0, z1⟩ := cel2 HX.out.b0; clear hu1 HFH HX0 HR) | (go_at_call 35; refine Calls.mono (HAH.out _) ?_; rintro e u3 ⟨rfl, hu3⟩; rw [hu3]; clear hu3))
  clear hv
  go_loopw [11] (fun i wr => ∃ k : Nat, k ≤ zs.length ∧ i = .int .i64 k ∧ (∀ j (hj : j < k) (hz : j < zs.length), fP asid va zs[j] = false) ∧ GX w wr (.slice ao zs.length cap) nx ∧ TErow wr (.slice ao zs.length cap) zs) (fun i _ => zs.length - (intOf i).toNat)
  case atStart => exact ⟨0, Nat.zero_le _, rfl, fun j hj => absurd hj (Nat.not_lt_zero _), HX.out, HR1.out⟩
  case round =>
    obtain ⟨k, hk, rfl, hno, hx, hr⟩ := hrel
    clear z0 z1
    have HN : Hid (∀ j (hj : j < k) (hz : j < zs.length), fP asid va zs[j] = false) := hno
    have HXr : Hid (GX w wr (.slice ao zs.length cap) nx) := hx
    have HRr : Hid (TErow wr (.slice ao zs.length cap) zs) := hr
    obtain ⟨z0, z1⟩ := cel2 hx.b0
    have yl := hx.lt
    clear hno hx HX HR1
    by_cases hlt : k < zs.length
    · obtain ⟨g, o, cap2, hv, hcp, hg2, hcc⟩ := hr.resolve_left (fun h => by rw [h.1] at hlt; simp at hlt)
      injection hv with hv1 hv2 hv3
      subst hv1 hv3
      obtain ⟨d0, d1, d2, d3, d4⟩ := hcc k hlt
      obtain ⟨q1, q2, q3, q4, q5⟩ := teOk_b (HM.out zs[k] (List.getElem_mem hlt))
      have hFA := fun (h : fP asid va zs[k] = true) => tfV_at (acc := acc) (user := user) hlt h (fun j hj => HN.out j hj (by omega))
      have hho := fun w' => specHolds_any zs[k] va w' q2
      have hma := fun w' => l03May_any zs[k].flags acc user w' q4.1 (by omega) a0 a1
      obtain ⟨z, hz⟩ : ∃ z, zs[k] = z := ⟨_, rfl⟩
      rw [hz] at d0 d1 d2 d3 d4 q1 q2 q3 q4 q5 hFA hho hma
      have HZ : Hid (zs[k] = z) := hz
      have g64 : bits .and .i64 z.flags 64 = z.flags / 64 % 2 * 64 := and64 _ q4.1 (by omega)
      have g128 : bits .and .i64 z.flags 128 = z.flags / 128 % 2 * 128 := and128 _ q4.1 (by omega)
      have hk0 : (0 : Int) ≤ (k : Int) := by omega
      have hk1 : (k : Int) < (zs.length : Int) := by omega
      have HX5 : Hid (GX w (wr.alloc (.cells #[.int .i64 z.asid, .int .i64 z.page, .int .i64 z.frame, .int .i64 z.flags, .bool z.large] 39)) (.slice (some ⟨g, o, none⟩) zs.length cap) nx) := HXr.out.step ((Below.refl _ _).alloc (Nat.le_refl _) _)
      have HE5 : Hid (BoxE (wr.alloc (.cells #[.int .i64 z.asid, .int .i64 z.page, .int .i64 z.frame, .int .i64 z.flags, .bool z.large] 39)) wr.heap.size z) := heap_new _ _
      have HR5 : Hid (TErow (wr.alloc (.cells #[.int .i64 z.asid, .int .i64 z.page, .int .i64 z.frame, .int .i64 z.flags, .bool z.large] 39)) (.slice (some ⟨g, o, none⟩) zs.length cap) zs) := hr.below ((Below.refl _ _).alloc (Nat.le_refl _) _)
      clear hcc hz hr
      cases hh : holdsB z va
      · rw [hh] at hho
        have HHO : Hid _ := hho
        unfold teA at HHO
        have QN : Hid (fP asid va z = false) := (show fP asid va z = false by simp [fP, hh])
        clear hho hh hFA hma g64 g128
        go_wp2_with (go_at_call 36; refine Calls.mono (HHO.out _) ?_; rintro e u5 ⟨rfl, hu5⟩; have HX6 : Hid (GX w u5 (.slice (some ⟨g, o, none⟩) zs.length cap) nx) := HX5.out.step hu5; have HR6 : Hid (TErow u5 (.slice (some ⟨g, o, none⟩) zs.length cap) zs) := HR5.out.below hu5; clear hu5)
        refine ⟨⟨k + 1, hlt, by simp, fun j hj hz => ?_, HX6.out, HR6.out⟩, ?_⟩
        · by_cases hjk : j = k
          · subst hjk
            rw [HZ.out]
            exact QN.out
          · exact HN.out j (by omega) hz
        simp [intOf]
        omega
      · rw [hh] at hho
        have HHO : Hid _ := hho
        unfold teA at HHO
        clear hho
        by_cases qa : z.asid = asid ∨ z.flags / 128 % 2 = 1
        · have hfp : fP asid va z = true := by simp [fP, hh]; exact qa
          have hRR := hFA hfp
          rw [HRV.out] at hRR
          unfold tfR at hRR
          generalize mayV z.flags acc user = mb at *
          have R1 : Hid (mb = false → R = hitA false 0 0) := (show mb = false → R = hitA false 0 0 from fun h => by rw [hRR, h]; rfl)
          have R2 : Hid (acc = 2 → z.flags / 64 % 2 = 0 → R = hitA false 0 0) := (show acc = 2 → z.flags / 64 % 2 = 0 → R = hitA false 0 0 from fun h h2 => by rw [hRR, h, h2]; simp)
          have R3 : Hid (mb = true → ¬ (acc = 2 ∧ z.flags / 64 % 2 = 0) → R = hitA true (va + (z.frame - z.page) * 256) k) := (show mb = true → ¬ (acc = 2 ∧ z.flags / 64 % 2 = 0) → R = hitA true (va + (z.frame - z.page) * 256) k from fun h h2 => by rw [hRR, h, if_pos]; simp only [Bool.true_and, Bool.not_eq_true', Bool.and_eq_false_iff, decide_eq_false_iff_not]; omega)
          have P1 : Hid (¬ z.large = true → va + (z.frame - z.page) * 256 = z.frame * 256 + va % 256) := (show ¬ z.large = true → va + (z.frame - z.page) * 256 = z.frame * 256 + va % 256 from fun h => by
            unfold holdsB at hh
            rw [if_neg h] at hh
            have := of_decide_eq_true hh
            omega)
          have P2 : Hid (z.large = true → va + (z.frame - z.page) * 256 = (z.frame + va / 256 % 32) * 256 + va % 256) := (show z.large = true → va + (z.frame - z.page) * 256 = (z.frame + va / 256 % 32) * 256 + va % 256 from fun h => by
            unfold holdsB at hh
            rw [if_pos h] at hh
            have := of_decide_eq_true hh
            have := (q5 h).1
            omega)
          clear hRR hFA hfp hh q5
          obtain ⟨q30, q31⟩ := q3
          obtain ⟨q40, q41⟩ := q4
          have QA : Hid (z.asid = asid ∨ z.flags / 128 % 2 = 1) := qa
          clear qa
          have HMA : Hid (∀ w' : World, Calls Try.prog 37 #[.int .i64 z.flags, .int .i64 acc, .bool user] w' fun x w2 => x = .returned (.bool mb) ∧ w2 = w') := hma
          clear hma
          go_wp2_with fail
          refine Calls.mono (HHO.out _) ?_
          rintro e u5 ⟨rfl, hu5⟩
          have HX6 : Hid (GX w u5 (.slice (some ⟨g, o, none⟩) zs.length cap) nx) := HX5.out.step hu5
          have HR6 : Hid (TErow u5 (.slice (some ⟨g, o, none⟩) zs.length cap) zs) := HR5.out.below hu5
          have HE6 : Hid (BoxE u5 wr.heap.size z) := HE5.out.below hu5 HE5.out.lt
          obtain ⟨e0, e1, e2, e3, e4⟩ := cel5 HE6.out
          obtain ⟨y0, y1, y2, yf⟩ := cel3 HX6.out.b1
          have ym := HX6.out.lt
          have yn := HE6.out.lt
          clear hu5
          go_wp2_with (go_at_call 37; refine Calls.mono (HMA.out _) ?_; rintro e u6 ⟨rfl, hu6⟩; rw [hu6]; clear hu6)
          all_goals first
            | (refine bodyPost_ret (v := R) ?_ rfl ⟨rfl, ((HX6.out.bel.setCell (by simp) _).setCell (by simp) _).setCell (by simp) _⟩)
            | (exfalso; have hq := QA.out; simp at *; omega)
          all_goals first
            | (rw [R1.out (by simpa using ‹¬ mb = true›)]; simp [results, Try.results10, go_sem, hitA, y0, y1, y2])
            | (rw [R2.out ‹acc = 2› (by have hq := ‹(z.flags / 64 % 2 * 64 == 0) = true›; simp at hq; omega)]; simp [results, Try.results10, go_sem, hitA, y0, y1, y2])
            | (rw [R3.out ‹mb = true› (fun h => by first | exact ‹¬ acc = 2› h.1 | (have hq := ‹(z.flags / 64 % 2 * 64 == 0) = false›; rw [h.2] at hq; simp at hq)), P2.out ‹z.large = true›]; simp [results, Try.results10, go_sem, hitA, y0, y1, y2])
            | (rw [R3.out ‹mb = true› (fun h => by first | exact ‹¬ acc = 2› h.1 | (have hq := ‹(z.flags / 64 % 2 * 64 == 0) = false›; rw [h.2] at hq; simp at hq)), P1.out (by have hq := ‹z.large = false›; simp [hq])]; simp [results, Try.results10, go_sem, hitA, y0, y1, y2])
        · have QN : Hid (fP asid va z = false) := (show fP asid va z = false by simp [fP]; omega)
          have qb : ¬ z.asid = asid := fun h => qa (.inl h)
          have qd : (z.asid == asid) = false := by simpa using qb
          have qc : z.flags / 128 % 2 = 0 := by omega
          rw [qc] at g128
          clear hh hFA hma g64 qa qb qc
          go_wp2_with fail
          refine Calls.mono (HHO.out _) ?_
          rintro e u5 ⟨rfl, hu5⟩
          have HX6 : Hid (GX w u5 (.slice (some ⟨g, o, none⟩) zs.length cap) nx) := HX5.out.step hu5
          have HR6 : Hid (TErow u5 (.slice (some ⟨g, o, none⟩) zs.length cap) zs) := HR5.out.below hu5
          have HE6 : Hid (BoxE u5 wr.heap.size z) := HE5.out.below hu5 HE5.out.lt
          obtain ⟨e0, e1, e2, e3, e4⟩ := cel5 HE6.out
          obtain ⟨y0, y1, y2, yf⟩ := cel3 HX6.out.b1
          have ym := HX6.out.lt
          have yn := HE6.out.lt
          clear hu5
          go_wp2
          refine ⟨⟨k + 1, hlt, by simp, fun j hj hz => ?_, HX6.out, HR6.out⟩, ?_⟩
          · by_cases hjk : j = k
            · subst hjk
              rw [HZ.out]
              exact QN.out
            · exact HN.out j (by omega) hz
          simp [intOf]
          omega
    · obtain rfl : k = zs.length := by omega
      obtain ⟨y0, y1, y2, yf⟩ := cel3 HXr.out.b1
      clear hr
      go_wp2
      refine bodyPost_ret (v := hitA false 0 0) ?_ rfl ⟨by rw [← HRV.out, tfV_none (fun j hj => HN.out j hj hj)], ((HXr.out.bel.setCell (by simp) _).setCell (by simp) _).setCell (by simp) _⟩
      simp [results, Try.results10, go_sem, hitA, y0, y1, y2]
end Go.Proofs.Ytmogemcbbcmeoab
