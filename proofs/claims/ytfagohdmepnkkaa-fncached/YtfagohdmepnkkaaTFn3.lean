import Derived.Test.YtfagohdmepnkkaaTFl4
import Derived.Test.YtfagohdmepnkkaaTFn2
namespace Go.Proofs.Ytfagohdmepnkkaa
open Go.ChangeShapes Go.WideShapes Go.ChangeAt Go.RowKit

theorem cfFind : ∀ (xs : Array Value) (w' : World), (callFunc 87 xs).run Try.prog w' = .ok (.enter 87 xs) w' := by
  intro xs w'
  kernel_rfl
set_option maxRecDepth 100000 in
set_option maxHeartbeats 4000000 in
theorem implFind_none {w : World} {ao : Option Addr} {cap : Nat} {zs : List TE} (h : TErow w (.slice ao zs.length cap) zs) (nx asid va acc : Int) (user : Bool) (hl : zs.length ≤ 1048576) (hc : tlbC zs nx = 0) (s0 : 0 ≤ asid) (s1 : asid ≤ 255) (v0 : 0 ≤ va) (v1 : va < 262144) (a0 : 1 ≤ acc) (a1 : acc ≤ 3) (hi : idxI (fP asid va) zs = -1) :
    Calls Try.prog 35 #[tlA (.slice ao zs.length cap) nx, .int .i64 asid, .int .i64 va, .int .i64 acc, .bool user] w fun e w' => e = .returned (hitA false 0 0) ∧ Below w.heap.size w w' := by
  have HX0 : Hid (FX w ((((w.alloc (.cells #[.slice ao zs.length cap, .int .i64 nx] 61)).alloc (.cells #[.int .i64 asid] 2)).alloc (.cells #[.int .i64 va] 2)).alloc (.cells #[.bool false, .int .i64 0, .int .i64 0] 70)) (.slice ao zs.length cap) nx asid va) := FX.new w ao zs.length cap nx asid va
  have HF := implFaultT_any (h.below (HX0.out.bel)) nx hl
  rw [hc] at HF
  have HFH : Hid (Calls Try.prog 31 #[tlA (.slice ao zs.length cap) nx] ((((w.alloc (.cells #[.slice ao zs.length cap, .int .i64 nx] 61)).alloc (.cells #[.int .i64 asid] 2)).alloc (.cells #[.int .i64 va] 2)).alloc (.cells #[.bool false, .int .i64 0, .int .i64 0] 70)) fun r w' => r = .returned (.int .i64 0) ∧ Below ((((w.alloc (.cells #[.slice ao zs.length cap, .int .i64 nx] 61)).alloc (.cells #[.int .i64 asid] 2)).alloc (.cells #[.int .i64 va] 2)).alloc (.cells #[.bool false, .int .i64 0, .int .i64 0] 70)).heap.size ((((w.alloc (.cells #[.slice ao zs.length cap, .int .i64 nx] 61)).alloc (.cells #[.int .i64 asid] 2)).alloc (.cells #[.int .i64 va] 2)).alloc (.cells #[.bool false, .int .i64 0, .int .i64 0] 70)) w') := HF
  have HV := fun w' => isVirtual_any va w'
  rw [show (decide (0 ≤ va) && decide (va < 262144)) = true by simp; omega] at HV
  have HA := fun w' => isAccess_any acc w'
  rw [show decide (1 ≤ acc ∧ acc ≤ 3) = true from decide_eq_true ⟨a0, a1⟩] at HA
  have HVH : Hid _ := HV
  have HAH : Hid _ := HA
  have HR : Hid (TErow ((((w.alloc (.cells #[.slice ao zs.length cap, .int .i64 nx] 61)).alloc (.cells #[.int .i64 asid] 2)).alloc (.cells #[.int .i64 va] 2)).alloc (.cells #[.bool false, .int .i64 0, .int .i64 0] 70)) (.slice ao zs.length cap) zs) := h.below HX0.out.bel
  have HM : Hid (∀ x ∈ zs, teOk x = true) := all_ok hc
  have HIX : Hid (∀ u, FX w u (.slice ao zs.length cap) nx asid va → TErow u (.slice ao zs.length cap) zs → Calls Try.prog 86 #[.slice ao zs.length cap, .func (.func 87) #[] #[.pointer (some ⟨w.heap.size + 2, 0, none⟩), .pointer (some ⟨w.heap.size + 1, 0, none⟩)]] u fun r w' => r = .returned (.int .i64 (idxI (fP asid va) zs)) ∧ Below u.heap.size u w') := by
    intro u hu hru
    refine indexFunc_mem hru hl 87 _ (fP asid va) cfFind (fun x hx w' hw' => ?_)
    have h2 := hu.step hw'
    have h3 := h2.lt
    exact findFn_any x (HM.out x hx) asid va (w.heap.size + 2) (w.heap.size + 1) w' (cel1 h2.b2) (cel1 h2.b1) (by omega) (by omega)
  clear h HF HV HA hc v1
  unfold tlA at HFH ⊢
  go_enter Try.func35, Try.ntmps35
  go_wp2_with (first | (go_at_call 31; refine Calls.mono HFH.out ?_; rintro e u1 ⟨rfl, hu1⟩; have HX : Hid (FX w u1 (.slice ao zs.length cap) nx asid va) := HX0.out.step hu1; have HR1 : Hid (TErow u1 (.slice ao zs.length cap) zs) := HR.out.below hu1; obtain ⟨z0, z1⟩ := cel2 HX.out.b0; have x1 := cel1 HX.out.b1; have x2 := cel1 HX.out.b2; clear hu1 HFH HX0 HR) | (go_at_call 45; refine Calls.mono (HVH.out _) ?_; rintro e u2 ⟨rfl, hu2⟩; rw [hu2]; clear hu2) | (go_at_call 46; refine Calls.mono (HAH.out _) ?_; rintro e u3 ⟨rfl, hu3⟩; rw [hu3]; clear hu3) | (go_at_call 86; have hA := HIX.out u1 HX.out HR1.out; rw [hi] at hA; refine Calls.mono hA ?_; clear hA; rintro e u4 ⟨rfl, hu4⟩; have HX4 : Hid (FX w u4 (.slice ao zs.length cap) nx asid va) := HX.out.step hu4; have HR4 : Hid (TErow u4 (.slice ao zs.length cap) zs) := HR1.out.below hu4; obtain ⟨z2, z3⟩ := cel2 HX4.out.b0; have x3 := cel1 HX4.out.b1; have x4 := cel1 HX4.out.b2; obtain ⟨y0, y1, y2, yf⟩ := cel3 HX4.out.b3; have yl := HX4.out.lt; clear hu4 HX HR1))
  refine bodyPost_ret (v := hitA false 0 0) ?_ rfl ⟨rfl, ((HX4.out.bel.setCell (by simp; omega) _).setCell (by simp; omega) _).setCell (by simp; omega) _⟩
  simp [results, Try.results35, go_sem, hitA, y0, y1, y2]
/-- What is answered of the entry that is found. -/
def tfR (z : TE) (va acc : Int) (user : Bool) (k : Nat) : Value := if (mayV z.flags acc user && !(decide (acc = 2) && decide (z.flags / 64 % 2 = 0))) = true then hitA true (va + (z.frame - z.page) * 256) k else hitA false 0 0
set_option maxRecDepth 100000 in
set_option maxHeartbeats 4000000 in
theorem implFind_at {w : World} {ao : Option Addr} {cap : Nat} {zs : List TE} (h : TErow w (.slice ao zs.length cap) zs) (nx asid va acc : Int) (user : Bool) (hl : zs.length ≤ 1048576) (hc : tlbC zs nx = 0) (s0 : 0 ≤ asid) (s1 : asid ≤ 255) (v0 : 0 ≤ va) (v1 : va < 262144) (a0 : 1 ≤ acc) (a1 : acc ≤ 3) (k : Nat) (hk : k < zs.length) (hi : idxI (fP asid va) zs = k) :
    Calls Try.prog 35 #[tlA (.slice ao zs.length cap) nx, .int .i64 asid, .int .i64 va, .int .i64 acc, .bool user] w fun e w' => e = .returned (tfR zs[k] va acc user k) ∧ Below w.heap.size w w' := by
  have HX0 : Hid (FX w ((((w.alloc (.cells #[.slice ao zs.length cap, .int .i64 nx] 61)).alloc (.cells #[.int .i64 asid] 2)).alloc (.cells #[.int .i64 va] 2)).alloc (.cells #[.bool false, .int .i64 0, .int .i64 0] 70)) (.slice ao zs.length cap) nx asid va) := FX.new w ao zs.length cap nx asid va
  have HF := implFaultT_any (h.below (HX0.out.bel)) nx hl
  rw [hc] at HF
  have HFH : Hid (Calls Try.prog 31 #[tlA (.slice ao zs.length cap) nx] ((((w.alloc (.cells #[.slice ao zs.length cap, .int .i64 nx] 61)).alloc (.cells #[.int .i64 asid] 2)).alloc (.cells #[.int .i64 va] 2)).alloc (.cells #[.bool false, .int .i64 0, .int .i64 0] 70)) fun r w' => r = .returned (.int .i64 0) ∧ Below ((((w.alloc (.cells #[.slice ao zs.length cap, .int .i64 nx] 61)).alloc (.cells #[.int .i64 asid] 2)).alloc (.cells #[.int .i64 va] 2)).alloc (.cells #[.bool false, .int .i64 0, .int .i64 0] 70)).heap.size ((((w.alloc (.cells #[.slice ao zs.length cap, .int .i64 nx] 61)).alloc (.cells #[.int .i64 asid] 2)).alloc (.cells #[.int .i64 va] 2)).alloc (.cells #[.bool false, .int .i64 0, .int .i64 0] 70)) w') := HF
  have HV := fun w' => isVirtual_any va w'
  rw [show (decide (0 ≤ va) && decide (va < 262144)) = true by simp; omega] at HV
  have HA := fun w' => isAccess_any acc w'
  rw [show decide (1 ≤ acc ∧ acc ≤ 3) = true from decide_eq_true ⟨a0, a1⟩] at HA
  have HVH : Hid _ := HV
  have HAH : Hid _ := HA
  have HR : Hid (TErow ((((w.alloc (.cells #[.slice ao zs.length cap, .int .i64 nx] 61)).alloc (.cells #[.int .i64 asid] 2)).alloc (.cells #[.int .i64 va] 2)).alloc (.cells #[.bool false, .int .i64 0, .int .i64 0] 70)) (.slice ao zs.length cap) zs) := h.below HX0.out.bel
  have HM : Hid (∀ x ∈ zs, teOk x = true) := all_ok hc
  have HIX : Hid (∀ u, FX w u (.slice ao zs.length cap) nx asid va → TErow u (.slice ao zs.length cap) zs → Calls Try.prog 86 #[.slice ao zs.length cap, .func (.func 87) #[] #[.pointer (some ⟨w.heap.size + 2, 0, none⟩), .pointer (some ⟨w.heap.size + 1, 0, none⟩)]] u fun r w' => r = .returned (.int .i64 (idxI (fP asid va) zs)) ∧ Below u.heap.size u w') := by
    intro u hu hru
    refine indexFunc_mem hru hl 87 _ (fP asid va) cfFind (fun x hx w' hw' => ?_)
    have h2 := hu.step hw'
    have h3 := h2.lt
    exact findFn_any x (HM.out x hx) asid va (w.heap.size + 2) (w.heap.size + 1) w' (cel1 h2.b2) (cel1 h2.b1) (by omega) (by omega)
  obtain ⟨q1, q2, q3, q4, q5⟩ := teOk_b (HM.out zs[k] (List.getElem_mem hk))
  have hg : bits .and .i64 zs[k].flags 64 = zs[k].flags / 64 % 2 * 64 := and64 _ q4.1 (by omega)
  have hlt2 := fun w' => lets_any zs[k].flags acc user w' q4.1 (by omega) a0 a1
  obtain ⟨z, hz⟩ : ∃ z, zs[k] = z := ⟨_, rfl⟩
  rw [hz] at q1 q2 q3 q4 hg hlt2 ⊢
  have HZ : Hid (zs[k] = z) := hz
  obtain ⟨R, hR⟩ : ∃ R, tfR z va acc user k = R := ⟨_, rfl⟩
  rw [hR]
  unfold tfR at hR
  generalize mayV z.flags acc user = mb at *
  have R1 : Hid (mb = false → R = hitA false 0 0) := (show mb = false → R = hitA false 0 0 from fun h => by rw [← hR, h]; rfl)
  have R2 : Hid (acc = 2 → z.flags / 64 % 2 = 0 → R = hitA false 0 0) := (show acc = 2 → z.flags / 64 % 2 = 0 → R = hitA false 0 0 from fun h h2 => by rw [← hR, h, h2]; simp)
  have R3 : Hid (mb = true → ¬ (acc = 2 ∧ z.flags / 64 % 2 = 0) → R = hitA true (va + (z.frame - z.page) * 256) k) := (show mb = true → ¬ (acc = 2 ∧ z.flags / 64 % 2 = 0) → R = hitA true (va + (z.frame - z.page) * 256) k from fun h h2 => by rw [← hR, h, if_pos]; simp only [Bool.true_and, Bool.not_eq_true', Bool.and_eq_false_iff, decide_eq_false_iff_not]; omega)
  clear hR
  have HLT : Hid (∀ w' : World, Calls Try.prog 88 #[.int .i64 z.flags, .int .i64 acc, .bool user] w' fun x w2 => x = .returned (.bool mb) ∧ Below w'.heap.size w' w2) := hlt2
  clear hlt2
  have hk0 : (0 : Int) ≤ (k : Int) := by omega
  have hk1 : (k : Int) < (zs.length : Int) := by omega
  obtain ⟨q20, q21⟩ := q2
  obtain ⟨q30, q31⟩ := q3
  obtain ⟨q40, q41⟩ := q4
  have V1 : Hid (va < 262144) := v1
  have vw : IntKind.i64.wrap (va + (z.frame - z.page) * 256) = va + (z.frame - z.page) * 256 := by rw [IntKind.wrap_i64]; omega
  clear h HF HV HA hc v1 q1 q5 hz
  unfold tlA at HFH ⊢
  go_enter Try.func35, Try.ntmps35
  go_wp2_with (first | (go_at_call 31; refine Calls.mono HFH.out ?_; rintro e u1 ⟨rfl, hu1⟩; have HX : Hid (FX w u1 (.slice ao zs.length cap) nx asid va) := HX0.out.step hu1; have HR1 : Hid (TErow u1 (.slice ao zs.length cap) zs) := HR.out.below hu1; obtain ⟨z0, z1⟩ := cel2 HX.out.b0; have x1 := cel1 HX.out.b1; have x2 := cel1 HX.out.b2; clear hu1 HFH HX0 HR) | (go_at_call 45; refine Calls.mono (HVH.out _) ?_; rintro e u2 ⟨rfl, hu2⟩; rw [hu2]; clear hu2) | (go_at_call 46; refine Calls.mono (HAH.out _) ?_; rintro e u3 ⟨rfl, hu3⟩; rw [hu3]; clear hu3) | (go_at_call 86; have hA := HIX.out u1 HX.out HR1.out; rw [hi] at hA; refine Calls.mono hA ?_; clear hA; rintro e u4 ⟨rfl, hu4⟩; have HX4 : Hid (FX w u4 (.slice ao zs.length cap) nx asid va) := HX.out.step hu4; have HR4 : Hid (TErow u4 (.slice ao zs.length cap) zs) := HR1.out.below hu4; obtain ⟨z2, z3⟩ := cel2 HX4.out.b0; have x3 := cel1 HX4.out.b1; have x4 := cel1 HX4.out.b2; obtain ⟨y0, y1, y2, yf⟩ := cel3 HX4.out.b3; have yl := HX4.out.lt; clear hu4 HX HR1) | fail)
  obtain ⟨g, o, cap2, hv, hcp, hg2, hcc⟩ := HR4.out.resolve_left (fun h => by rw [h.1] at hk; simp at hk)
  injection hv with hv1 hv2 hv3
  subst hv1 hv3
  obtain ⟨d0, d1, d2, d3, d4⟩ := hcc k hk
  rw [HZ.out] at d0 d1 d2 d3 d4
  clear hcc
  have HX5 : Hid (FX w (u4.alloc (.cells #[.int .i64 z.asid, .int .i64 z.page, .int .i64 z.frame, .int .i64 z.flags, .bool z.large] 66)) (.slice (some ⟨g, o, none⟩) zs.length cap) nx asid va) := HX4.out.step ((Below.refl _ _).alloc (Nat.le_refl _) _)
  have HE5 : Hid (BoxE (u4.alloc (.cells #[.int .i64 z.asid, .int .i64 z.page, .int .i64 z.frame, .int .i64 z.flags, .bool z.large] 66)) u4.heap.size z) := heap_new _ _
  go_wp2_with (go_at_call 88; refine Calls.mono (HLT.out _) ?_; rintro e u5 ⟨rfl, hu5⟩; have HX6 : Hid (FX w u5 (.slice (some ⟨g, o, none⟩) zs.length cap) nx asid va) := HX5.out.step hu5; have HE6 : Hid (BoxE u5 u4.heap.size z) := HE5.out.below hu5 HE5.out.lt; have x5 := cel1 HX6.out.b1; have x6 := cel1 HX6.out.b2; obtain ⟨y3, y4, y5, yg⟩ := cel3 HX6.out.b3; have ym := HX6.out.lt; have yn := HE6.out.lt; obtain ⟨e0, e1, e2, e3, e4⟩ := cel5 HE6.out; clear hu5)
  all_goals
    refine bodyPost_ret (v := R) ?_ rfl ⟨rfl, ((HX6.out.bel.setCell (by simp; omega) _).setCell (by simp; omega) _).setCell (by simp; omega) _⟩
  · rename_i m1 m2 m3
    rw [R2.out m2 (by simp at m3; omega)]
    simp [results, Try.results35, go_sem, hitA, y3, y4, y5]
  · rename_i m1 m2 m3
    rw [R3.out m1 (fun h => by rw [h.2] at m3; simp at m3)]
    simp [results, Try.results35, go_sem, hitA, y3, y4, y5]
  · rename_i m1 m2
    rw [R3.out m1 (fun h => m2 h.1)]
    simp [results, Try.results35, go_sem, hitA, y3, y4, y5]
  · rename_i m1
    rw [R1.out (by simpa using m1)]
    simp [results, Try.results35, go_sem, hitA, y3, y4, y5]
end Go.Proofs.Ytfagohdmepnkkaa
