import Derived.Test.YtomfbiiegcmmlabCt1
namespace Go.Proofs.Ytomfbiiegcmmlab
open Go.ChangeShapes Go.WideShapes Go.ChangeAt Go.RowKit

set_option maxRecDepth 100000
theorem cell_setne {w : World} {g o p : Nat} {x : Value} (h : p ≠ o) : (w.setCell ⟨g, o, none⟩ x).cell? ⟨g, p, none⟩ = w.cell? ⟨g, p, none⟩ := by
  cases hb : w.heap[g]? with
  | none => simp [World.cell?, World.setCell, Array.getElem?_modify, hb]
  | some ob => cases ob <;> simp [World.cell?, World.setCell, Array.getElem?_modify, hb, h.symm]
theorem cell_seteq {w : World} {g o : Nat} {x y : Value} (h : w.cell? ⟨g, o, none⟩ = some y) : (w.setCell ⟨g, o, none⟩ x).cell? ⟨g, o, none⟩ = some x := World.cell?_setCell_same' _ _ _ (by rw [h]; rfl)
set_option maxHeartbeats 4000000 in
theorem markSS_w {w : World} {lo hi n : Nat} {v : Value} (k0 : Nat) (h : WS 9 w lo hi v n 1) (hn : n ≤ 1048576) (hk1 : 1 ≤ k0) (hk2 : k0 ≤ 140737488355328) : Calls Try.prog 14 #[v, .int .i64 (k0 : Nat)] w fun e w' => e = .returned (.int .i64 ((k0 + n : Nat) : Int)) ∧ MK 9 lo hi w w' ∧ ∀ g o cap, v = .slice (some ⟨g, o, none⟩) n cap → ∀ i, i < n → w'.cell? ⟨g, o + i, none⟩ = some (.string (mtx ((k0 + i : Nat) : Int))) := by
  obtain ⟨ao, cap, rfl⟩ := h.sl
  have HW : Hid (WS 9 w lo hi (.slice ao n cap) n 1) := h
  clear h
  go_enter Try.func14, Try.ntmps14
  go_wp2
  go_loopw [1, 5] (fun x i wr => ∃ k : Nat, k ≤ n ∧ x = .int .i64 ((k0 + k : Nat) : Int) ∧ i = .int .i64 (k : Nat) ∧ MK 9 lo hi w wr ∧ ∀ g o, ao = some ⟨g, o, none⟩ → ∀ j, j < k → wr.cell? ⟨g, o + j, none⟩ = some (.string (mtx ((k0 + j : Nat) : Int)))) (fun _ i _ => n - (intOf i).toNat)
  case atStart => exact ⟨0, Nat.zero_le _, rfl, rfl, MK.refl _ _ _ _, fun g o _ j hj => absurd hj (Nat.not_lt_zero _)⟩
  case round =>
    obtain ⟨k, hk, rfl, rfl, hm, hvv⟩ := hrel
    have HM : Hid (MK 9 lo hi w wr) := hm
    have HV : Hid (∀ g o, ao = some ⟨g, o, none⟩ → ∀ j, j < k → wr.cell? ⟨g, o + j, none⟩ = some (.string (mtx ((k0 + j : Nat) : Int)))) := hvv
    clear hvv
    by_cases hlt : k < n
    · have hws := HW.out.mk hm
      rcases HW.out with ⟨hn0, _⟩ | ⟨g, o, cap2, cur, hv, _⟩
      · omega
      injection hv with e1 e2 e3
      subst e1 e3
      obtain ⟨kk, hkk⟩ : ∃ kk : Nat, k0 + k = kk := ⟨_, rfl⟩
      have hkn : ((k0 + k : Nat) : Int) = (kk : Int) := by omega
      rw [hkn]
      have HMT : Hid _ := markText_any kk (by omega) (by omega) wr
      obtain ⟨X, hX⟩ : ∃ X, mtx (kk : Int) = X := ⟨_, rfl⟩
      rw [hX] at HMT
      have hk0 : (0 : Int) ≤ (k : Int) := by omega
      have hk1' : (k : Int) < (n : Int) := by omega
      have hkb : kk ≤ 281474976710656 := by omega
      have HWS : Hid (WS 9 wr lo hi (.slice (some ⟨g, o, none⟩) n cap) n 1) := hws
      have HKK : Hid (k0 + k = kk) := hkk
      have HX : Hid (mtx (kk : Int) = X) := hX
      clear hws hm hkk hkn hX
      go_wp2_with fail
      refine Calls.mono HMT.out ?_
      rintro e u1 ⟨rfl, hu⟩
      have hm1 : MK 9 lo hi wr u1 := MK.of_below hu
      obtain ⟨⟨y, hy⟩, hfz, hg1, hg2, cur3, hcur⟩ := (HWS.out.mk hm1).cell k (by omega)
      have HV1 : Hid (∀ j, j < k → u1.cell? ⟨g, o + j, none⟩ = some (.string (mtx ((k0 + j : Nat) : Int)))) := fun j hj => by
        obtain ⟨_, _, _, _, cur4, hcur4⟩ := HWS.out.cell j (by omega)
        exact ((bcell hu).1 g (o + j) (Array.getElem?_eq_some_iff.1 hcur4).1).trans (HV.out g o rfl j hj)
      have HMS : Hid (MK 9 lo hi w (u1.setCell ⟨g, o + k, none⟩ (.string X))) := HM.out.trans (hm1.trans (MK.set hg1 hg2 hcur))
      have HVS : Hid (∀ j, j < k + 1 → (u1.setCell ⟨g, o + k, none⟩ (.string X)).cell? ⟨g, o + j, none⟩ = some (.string (mtx ((k0 + j : Nat) : Int)))) := fun j hj => by
        by_cases e : j = k
        · subst e
          rw [cell_seteq hy, HKK.out, HX.out]
        · rw [cell_setne (by omega)]
          exact HV1.out j (by omega)
      have hgl : g < u1.heap.size := (Array.getElem?_eq_some_iff.1 hcur).1
      clear hu hm1 hcur
      go_wp2
      exact ⟨⟨k + 1, by omega, by have := HKK.out; simp; omega, by simp, HMS.out, fun g' o' he => by injection he with he; injection he with he1 he2; subst he1 he2; exact HVS.out⟩, by simp [intOf]; omega⟩
    · obtain rfl : k = n := by omega
      go_wp2
      go_ret
      exact ⟨rfl, hm, fun g o c he => by injection he with he1 _ _; exact HV.out g o he1⟩
/-- The texts that a mark puts. -/
def mkS (k : Nat) (n : Nat) : List ByteArray := (List.range n).map fun i => mtx ((k + i : Nat) : Int)
theorem mkS_len (k n : Nat) : (mkS k n).length = n := by simp [mkS]
theorem mkS_at (k n i : Nat) (hi : i < (mkS k n).length) : (mkS k n)[i] = mtx ((k + i : Nat) : Int) := by simp [mkS]
set_option maxHeartbeats 4000000 in
theorem heldSS_ok {w : World} {v : Value} (n : Nat) (h : Srow w v (mkS 1 n)) (hn : n ≤ 1048576) : Calls Try.prog 15 #[v, .int .i64 1] w fun e w' => e = .returned (.int .i64 ((1 + n : Nat) : Int)) ∧ Below w.heap.size w w' := by
  obtain ⟨ao, cap, rfl⟩ := h.sl
  rw [mkS_len] at h ⊢
  have HR : Hid (Srow w (.slice ao n cap) (mkS 1 n)) := h
  clear h
  go_enter Try.func15, Try.ntmps15
  go_wp2
  go_loopw [1, 5] (fun x i wr => ∃ k : Nat, k ≤ n ∧ x = .int .i64 ((1 + k : Nat) : Int) ∧ i = .int .i64 (k : Nat) ∧ Below w.heap.size w wr) (fun _ i _ => n - (intOf i).toNat)
  case atStart => exact ⟨0, Nat.zero_le _, rfl, rfl, Below.refl _ _⟩
  case round =>
    obtain ⟨k, hk, rfl, rfl, hb⟩ := hrel
    have HB : Hid (Below w.heap.size w wr) := hb
    by_cases hlt : k < n
    · have hkl : k < (mkS 1 n).length := by rw [mkS_len]; exact hlt
      obtain ⟨g, o, cap2, hv, _, hg, hc⟩ := HR.out.resolve_left (fun h => by rw [h.1] at hkl; simp at hkl)
      rw [mkS_len] at hv
      injection hv with e1 e2 e3
      subst e1 e3
      obtain ⟨kk, hkk⟩ : ∃ kk : Nat, 1 + k = kk := ⟨_, rfl⟩
      have d0 := hc k hkl
      rw [mkS_at, hkk] at d0
      have hkn : ((1 + k : Nat) : Int) = (kk : Int) := by omega
      rw [hkn]
      obtain ⟨X, hX⟩ : ∃ X, mtx (kk : Int) = X := ⟨_, rfl⟩
      have HMT : Hid (∀ u, Calls Try.prog 44 #[.int .i64 (kk : Nat)] u fun e w' => e = .returned (.string X) ∧ Below u.heap.size u w') := fun u => by
        rw [← hX]
        exact markText_any kk (by omega) (by omega) u
      rw [hX] at d0
      have HD : Hid (∀ u, Below w.heap.size w u → u.cell? ⟨g, o + k, none⟩ = some (.string X) ∧ g < u.heap.size) := fun u hu => ⟨((bcell hu).1 g (o + k) hg).trans d0, Nat.lt_of_lt_of_le hg hu.size⟩
      have hk0 : (0 : Int) ≤ (k : Int) := by omega
      have hk1' : (k : Int) < (n : Int) := by omega
      have hkb : kk ≤ 281474976710656 := by omega
      have HKK : Hid (1 + k = kk) := hkk
      have HBD : Hid (Below w.heap.size w wr.drew) := hb.trans ((Below.refl _ _).drew.mono hb.size)
      clear hc hX hkk hkn hb d0 e2
      go_wp2_with fail
      refine wp_region_held (S := fun w9 => w9.cell? ⟨g, o + k, none⟩ = some (.string X) ∧ g < w9.heap.size) (by kernel_rfl) ?_
      change wpAnyH _ _ _ _ _ _ _ _ (World.drew _)
      refine wpAnyH_take (i := 0) (v := .slice (some ⟨g, o, none⟩) n cap) rfl (by kernel_rfl) (by kernel_rfl) (by kernel_rfl) (fun _ _ _ h => h) (Or.inl ⟨by kernel_rfl, fun w9 h9 => ?_⟩) (HD.out _ HBD.out) ?_
      · go_simp
      refine wpAnyH_take (i := 1) (v := .int .i64 (k : Nat)) rfl (by kernel_rfl) (by kernel_rfl) (by kernel_rfl) (fun _ _ _ h => h) (Or.inl ⟨by kernel_rfl, fun w9 h9 => ?_⟩) (HD.out _ HBD.out) ?_
      · go_simp
      refine wpAnyH_take (i := 2) (v := .pointer (some ⟨g, o + k, none⟩)) rfl (by kernel_rfl) (by kernel_rfl) (by kernel_rfl) (fun _ _ _ h => h) (Or.inl ⟨by kernel_rfl, fun w9 h9 => ?_⟩) (HD.out _ HBD.out) ?_
      · go_simp
      refine wpAnyH_take (i := 3) (v := .string X) rfl (by kernel_rfl) (by kernel_rfl) (by kernel_rfl) (fun _ _ _ h => h) (Or.inl ⟨by kernel_rfl, fun w9 h9 => ?_⟩) (HD.out _ HBD.out) ?_
      · obtain ⟨x0, x1⟩ := h9; go_simp
      refine wpAnyH_take (i := 4) (v := .int .i64 (kk : Nat)) rfl (by kernel_rfl) (by kernel_rfl) (by kernel_rfl) (fun _ _ _ h => h) (Or.inl ⟨by kernel_rfl, fun w9 h9 => ?_⟩) (HD.out _ HBD.out) ?_
      · go_simp
      refine held_one 5 (by kernel_rfl) rfl (by kernel_rfl) fun K hK => ?_
      go_simp
      go_wp2_with (go_at_call 44; refine Calls.mono (HMT.out _) ?_; rintro e u1 ⟨rfl, hu⟩; have HU1 : Hid (Below w.heap.size w u1) := HBD.out.trans (hu.mono HBD.out.size); clear hu)
      refine hK _ _ (HD.out _ HU1.out) ?_
      clear hK K
      refine wpAnyH_take (i := 6) (v := .bool false) rfl (by kernel_rfl) (by kernel_rfl) (by kernel_rfl) (fun _ _ _ h => h) (Or.inl ⟨by kernel_rfl, fun w9 h9 => ?_⟩) (HD.out _ HU1.out) ?_
      · go_simp
      refine wpAnyH_done (by kernel_rfl) ?_ _
      go_simp
      have hxx : (X.toList == X.toList) = true := beq_self_eq_true _
      go_wp2
      exact ⟨⟨k + 1, by omega, by have := HKK.out; simp; omega, by simp, HU1.out⟩, by simp [intOf]; omega⟩
    · obtain rfl : k = n := by omega
      go_wp2
      go_ret
      exact ⟨rfl, hb⟩
end Go.Proofs.Ytomfbiiegcmmlab
