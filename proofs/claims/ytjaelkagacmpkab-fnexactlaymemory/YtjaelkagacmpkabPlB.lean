import Derived.Test.YtjaelkagacmpkabPlA
namespace Go.Proofs.Ytjaelkagacmpkab
open Go.ChangeShapes Go.WideShapes Go.ChangeAt Go.RowKit

theorem sl_pre (v : Option Addr) (n cap k : Nat) (hk : k ≤ cap) (w : World) : Sem.run Try.prog (Instr.slice 22 (.slice v n cap) none (some (.int .i64 (k : Int))) none) w = .ok (.slice v k cap) w := by
  go_simp
set_option maxRecDepth 100000 in
set_option maxHeartbeats 4000000 in
theorem specFrames_any {w : World} {v : Value} {zs : List Int} (s : ByteArray) (h : Irow w v zs) (hl : zs.length ≤ 1048576) (hs : s.size ≤ 1099511627776) :
    Calls Try.prog 15 #[v, .string s] w fun e w' => e = .returned (.bool (frB (s.size / 256) zs)) ∧ w'.heap = w.heap ∧ Below w.heap.size w w' := by
  obtain ⟨a1, c1, rfl⟩ := h.sl
  have HR : Hid (Irow w (.slice a1 zs.length c1) zs) := h
  clear h
  obtain ⟨n, hn⟩ : ∃ n, s.size / 256 = n := ⟨_, rfl⟩
  rw [hn]
  have HIN : Hid (∀ (x : Int) (w : World), Calls Try.prog 22 #[.string s, .int .i64 x] w fun e w' => e = .returned (.bool (inN n x)) ∧ w' = w) := fun x w => by rw [← hn]; exact l03In_any s x w hs
  clear hn hs
  go_enter Try.func15, Try.ntmps15
  go_wp2
  go_loopw [5] (fun i w5 => ∃ k : Nat, k ≤ zs.length ∧ i = .int .i64 k ∧ w5.heap = w.heap ∧ Below w.heap.size w w5 ∧ Hid (FrTo n zs k)) (fun i _ => zs.length - (intOf i).toNat)
  case atStart => exact ⟨0, Nat.zero_le _, rfl, rfl, Below.refl _ _, show FrTo n zs 0 from fun k hk h => absurd h (Nat.not_lt_zero _)⟩
  case round =>
    obtain ⟨k, hk, rfl, hh, hb, hx⟩ := hrel
    by_cases hlt : k < zs.length
    · have HP := HR.out.pre hk
      obtain ⟨g, o, cap2, hv, hcp, hg, hc⟩ := HR.out.resolve_left (fun h => by rw [h.1] at hlt; simp at hlt)
      injection hv with hv1 hv2 hv3
      subst hv1 hv3
      have d1 := hc.below hb hg k hlt
      have HIX : Hid (∀ u, Below w.heap.size w u → ∀ x, Calls Try.prog 23 #[.slice (some ⟨g, o, none⟩) k c1, .int .i64 x] u fun e w' => e = .returned (.bool (decide (x ∈ zs.take k))) ∧ w' = u) := fun u hu x => inInts_any x (HP.below hu) (by rw [List.length_take]; omega)
      obtain ⟨z, hz⟩ : ∃ z, zs[k] = z := ⟨_, rfl⟩
      have HZ : Hid (zs[k] = z) := hz
      rw [hz] at d1
      have HB : Hid _ := hb
      have HH : Hid _ := hh
      clear hc hz hb hh HP
      have hk0 : (0 : Int) ≤ (k : Int) := by omega
      have hk1 : (k : Int) < (zs.length : Int) := by omega
      have hk2 : (k : Int) ≤ (c1 : Int) := by omega
      cases hi : inN n z
      · have HI : Hid _ := HIN.out z
        rw [hi] at HI
        go_wp2
        refine wp_region_any (by kernel_rfl) ?_
        change wpAny _ _ _ _ _ _ _ (World.drew _)
        refine wpAny_take (i := 0) (v := .string s) rfl (by kernel_rfl) (by kernel_rfl) (by kernel_rfl) (fun _ _ _ h => h) (Or.inl ⟨by rfl, fun w9 => ?_⟩) ?_
        · go_simp
        refine wpAny_take (i := 1) (v := .slice (some ⟨g, o, none⟩) zs.length c1) rfl (by kernel_rfl) (by kernel_rfl) (by kernel_rfl) (fun _ _ _ h => h) (Or.inl ⟨by rfl, fun w9 => ?_⟩) ?_
        · go_simp
        refine wpAny_take (i := 2) (v := .int .i64 k) rfl (by kernel_rfl) (by kernel_rfl) (by kernel_rfl) (fun _ _ _ h => h) (Or.inl ⟨by rfl, fun w9 => ?_⟩) ?_
        · go_simp
        refine wpAny_ready (rs := [3]) (by kernel_rfl) (by simp) ?_
        refine AllReady.cons rfl (fun K hK => ?_) AllReady.nil
        go_simp
        refine hK _ _ ?_
        clear hK K
        refine wpAny_ready (rs := [4]) (by kernel_rfl) (by simp) ?_
        refine AllReady.cons rfl (fun K hK => ?_) AllReady.nil
        go_simp
        refine hK _ _ ?_
        clear hK K
        refine wpAny_ready (rs := [5]) (by kernel_rfl) (by simp) ?_
        refine AllReady.cons rfl (fun K hK => ?_) AllReady.nil
        go_simp
        go_wp2_with (go_at_call 22; refine Calls.mono (HI.out _) ?_; rintro e u1 ⟨rfl, hu1⟩; subst hu1)
        refine wpAny_take (i := 6) (v := .bool true) rfl (by kernel_rfl) (by kernel_rfl) (by kernel_rfl) (fun _ _ _ h => h) (Or.inl ⟨by rfl, fun w9 => ?_⟩) ?_
        · go_simp
        refine wpAny_take (i := 7) (v := .bool true) rfl (by kernel_rfl) (by kernel_rfl) (by kernel_rfl) (fun _ _ _ h => h) (Or.inl ⟨by rfl, fun w9 => ?_⟩) ?_
        · go_simp
        refine wpAny_take (i := 8) (v := undef) rfl (by kernel_rfl) (by kernel_rfl) (by kernel_rfl) (fun _ _ _ h => h) (Or.inr ⟨by kernel_rfl, rfl⟩) ?_
        refine wpAny_take (i := 9) (v := undef) rfl (by kernel_rfl) (by kernel_rfl) (by kernel_rfl) (fun _ _ _ h => h) (Or.inr ⟨by kernel_rfl, rfl⟩) ?_
        refine wpAny_take (i := 10) (v := undef) rfl (by kernel_rfl) (by kernel_rfl) (by kernel_rfl) (fun _ _ _ h => h) (Or.inr ⟨by kernel_rfl, rfl⟩) ?_
        refine wpAny_take (i := 11) (v := undef) rfl (by kernel_rfl) (by kernel_rfl) (by kernel_rfl) (fun _ _ _ h => h) (Or.inr ⟨by kernel_rfl, rfl⟩) ?_
        refine wpAny_take (i := 12) (v := undef) rfl (by kernel_rfl) (by kernel_rfl) (by kernel_rfl) (fun _ _ _ h => h) (Or.inr ⟨by kernel_rfl, rfl⟩) ?_
        refine wpAny_take (i := 13) (v := undef) rfl (by kernel_rfl) (by kernel_rfl) (by kernel_rfl) (fun _ _ _ h => h) (Or.inr ⟨by kernel_rfl, rfl⟩) ?_
        refine wpAny_take (i := 14) (v := undef) rfl (by kernel_rfl) (by kernel_rfl) (by kernel_rfl) (fun _ _ _ h => h) (Or.inr ⟨by kernel_rfl, rfl⟩) ?_
        refine wpAny_take (i := 15) (v := undef) rfl (by kernel_rfl) (by kernel_rfl) (by kernel_rfl) (fun _ _ _ h => h) (Or.inr ⟨by kernel_rfl, rfl⟩) ?_
        refine wpAny_take (i := 16) (v := .bool true) rfl (by kernel_rfl) (by kernel_rfl) (by kernel_rfl) (fun _ _ _ h => h) (Or.inl ⟨by rfl, fun w9 => ?_⟩) ?_
        · go_simp
        refine wpAny_done (by kernel_rfl) ?_ _
        go_simp
        go_wp2
        go_ret
        exact ⟨ret_bool (frB_false (fun hf => by have := (hf k hlt).1; rw [HZ.out, hi] at this; cases this)).symm, HH.out, bdn HB.out 1⟩
      · have HI : Hid _ := HIN.out z
        rw [hi] at HI
        by_cases hm : z ∈ zs.take k
        · go_wp2
          refine wp_region_any (by kernel_rfl) ?_
          change wpAny _ _ _ _ _ _ _ (World.drew _)
          refine wpAny_take (i := 0) (v := .string s) rfl (by kernel_rfl) (by kernel_rfl) (by kernel_rfl) (fun _ _ _ h => h) (Or.inl ⟨by rfl, fun w9 => ?_⟩) ?_
          · go_simp
          refine wpAny_take (i := 1) (v := .slice (some ⟨g, o, none⟩) zs.length c1) rfl (by kernel_rfl) (by kernel_rfl) (by kernel_rfl) (fun _ _ _ h => h) (Or.inl ⟨by rfl, fun w9 => ?_⟩) ?_
          · go_simp
          refine wpAny_take (i := 2) (v := .int .i64 k) rfl (by kernel_rfl) (by kernel_rfl) (by kernel_rfl) (fun _ _ _ h => h) (Or.inl ⟨by rfl, fun w9 => ?_⟩) ?_
          · go_simp
          refine wpAny_ready (rs := [3]) (by kernel_rfl) (by simp) ?_
          refine AllReady.cons rfl (fun K hK => ?_) AllReady.nil
          go_simp
          refine hK _ _ ?_
          clear hK K
          refine wpAny_ready (rs := [4]) (by kernel_rfl) (by simp) ?_
          refine AllReady.cons rfl (fun K hK => ?_) AllReady.nil
          go_simp
          refine hK _ _ ?_
          clear hK K
          refine wpAny_ready (rs := [5]) (by kernel_rfl) (by simp) ?_
          refine AllReady.cons rfl (fun K hK => ?_) AllReady.nil
          go_simp
          go_wp2_with (go_at_call 22; refine Calls.mono (HI.out _) ?_; rintro e u1 ⟨rfl, hu1⟩; subst hu1)
          refine wpAny_take (i := 6) (v := .bool false) rfl (by kernel_rfl) (by kernel_rfl) (by kernel_rfl) (fun _ _ _ h => h) (Or.inl ⟨by rfl, fun w9 => ?_⟩) ?_
          · go_simp
          refine wpAny_take (i := 7) (v := .bool false) rfl (by kernel_rfl) (by kernel_rfl) (by kernel_rfl) (fun _ _ _ h => h) (Or.inl ⟨by rfl, fun w9 => ?_⟩) ?_
          · go_simp
          refine wpAny_take (i := 8) (v := .slice (some ⟨g, o, none⟩) zs.length c1) rfl (by kernel_rfl) (by kernel_rfl) (by kernel_rfl) (fun _ _ _ h => h) (Or.inl ⟨by rfl, fun w9 => ?_⟩) ?_
          · go_simp
          refine wpAny_take (i := 9) (v := .int .i64 k) rfl (by kernel_rfl) (by kernel_rfl) (by kernel_rfl) (fun _ _ _ h => h) (Or.inl ⟨by rfl, fun w9 => ?_⟩) ?_
          · go_simp
          refine wpAny_take (i := 10) (v := .slice (some ⟨g, o, none⟩) k c1) rfl (by kernel_rfl) (by kernel_rfl) (by kernel_rfl) (fun _ _ _ h => h) (Or.inl ⟨by rfl, fun w9 => ?_⟩) ?_
          · go_simp
          refine wpAny_take (i := 11) (v := .slice (some ⟨g, o, none⟩) zs.length c1) rfl (by kernel_rfl) (by kernel_rfl) (by kernel_rfl) (fun _ _ _ h => h) (Or.inl ⟨by rfl, fun w9 => ?_⟩) ?_
          · go_simp
          refine wpAny_take (i := 12) (v := .int .i64 k) rfl (by kernel_rfl) (by kernel_rfl) (by kernel_rfl) (fun _ _ _ h => h) (Or.inl ⟨by rfl, fun w9 => ?_⟩) ?_
          · go_simp
          refine wpAny_ready (rs := [13]) (by kernel_rfl) (by simp) ?_
          refine AllReady.cons rfl (fun K hK => ?_) AllReady.nil
          go_simp
          refine hK _ _ ?_
          clear hK K
          refine wpAny_ready (rs := [14]) (by kernel_rfl) (by simp) ?_
          refine AllReady.cons rfl (fun K hK => ?_) AllReady.nil
          go_simp
          refine hK _ _ ?_
          clear hK K
          refine wpAny_ready (rs := [15]) (by kernel_rfl) (by simp) ?_
          refine AllReady.cons rfl (fun K hK => ?_) AllReady.nil
          go_simp
          go_wp2_with (go_at_call 23; refine Calls.mono (HIX.out _ (bdn HB.out 1) _) ?_; rintro e u2 ⟨rfl, hu2⟩; subst hu2)
          refine wpAny_take (i := 16) (v := .bool true) rfl (by kernel_rfl) (by kernel_rfl) (by kernel_rfl) (fun _ _ _ h => h) (Or.inl ⟨by rfl, fun w9 => ?_⟩) ?_
          · go_simp
          refine wpAny_done (by kernel_rfl) ?_ _
          go_simp
          go_wp2
          go_ret
          exact ⟨ret_bool (frB_false (fun hf => (hf k hlt).2 (by rw [HZ.out]; exact hm))).symm, HH.out, bdn HB.out 1⟩
        · go_wp2
          refine wp_region_any (by kernel_rfl) ?_
          change wpAny _ _ _ _ _ _ _ (World.drew _)
          refine wpAny_take (i := 0) (v := .string s) rfl (by kernel_rfl) (by kernel_rfl) (by kernel_rfl) (fun _ _ _ h => h) (Or.inl ⟨by rfl, fun w9 => ?_⟩) ?_
          · go_simp
          refine wpAny_take (i := 1) (v := .slice (some ⟨g, o, none⟩) zs.length c1) rfl (by kernel_rfl) (by kernel_rfl) (by kernel_rfl) (fun _ _ _ h => h) (Or.inl ⟨by rfl, fun w9 => ?_⟩) ?_
          · go_simp
          refine wpAny_take (i := 2) (v := .int .i64 k) rfl (by kernel_rfl) (by kernel_rfl) (by kernel_rfl) (fun _ _ _ h => h) (Or.inl ⟨by rfl, fun w9 => ?_⟩) ?_
          · go_simp
          refine wpAny_ready (rs := [3]) (by kernel_rfl) (by simp) ?_
          refine AllReady.cons rfl (fun K hK => ?_) AllReady.nil
          go_simp
          refine hK _ _ ?_
          clear hK K
          refine wpAny_ready (rs := [4]) (by kernel_rfl) (by simp) ?_
          refine AllReady.cons rfl (fun K hK => ?_) AllReady.nil
          go_simp
          refine hK _ _ ?_
          clear hK K
          refine wpAny_ready (rs := [5]) (by kernel_rfl) (by simp) ?_
          refine AllReady.cons rfl (fun K hK => ?_) AllReady.nil
          go_simp
          go_wp2_with (go_at_call 22; refine Calls.mono (HI.out _) ?_; rintro e u1 ⟨rfl, hu1⟩; subst hu1)
          refine wpAny_take (i := 6) (v := .bool false) rfl (by kernel_rfl) (by kernel_rfl) (by kernel_rfl) (fun _ _ _ h => h) (Or.inl ⟨by rfl, fun w9 => ?_⟩) ?_
          · go_simp
          refine wpAny_take (i := 7) (v := .bool false) rfl (by kernel_rfl) (by kernel_rfl) (by kernel_rfl) (fun _ _ _ h => h) (Or.inl ⟨by rfl, fun w9 => ?_⟩) ?_
          · go_simp
          refine wpAny_take (i := 8) (v := .slice (some ⟨g, o, none⟩) zs.length c1) rfl (by kernel_rfl) (by kernel_rfl) (by kernel_rfl) (fun _ _ _ h => h) (Or.inl ⟨by rfl, fun w9 => ?_⟩) ?_
          · go_simp
          refine wpAny_take (i := 9) (v := .int .i64 k) rfl (by kernel_rfl) (by kernel_rfl) (by kernel_rfl) (fun _ _ _ h => h) (Or.inl ⟨by rfl, fun w9 => ?_⟩) ?_
          · go_simp
          refine wpAny_take (i := 10) (v := .slice (some ⟨g, o, none⟩) k c1) rfl (by kernel_rfl) (by kernel_rfl) (by kernel_rfl) (fun _ _ _ h => h) (Or.inl ⟨by rfl, fun w9 => ?_⟩) ?_
          · go_simp
          refine wpAny_take (i := 11) (v := .slice (some ⟨g, o, none⟩) zs.length c1) rfl (by kernel_rfl) (by kernel_rfl) (by kernel_rfl) (fun _ _ _ h => h) (Or.inl ⟨by rfl, fun w9 => ?_⟩) ?_
          · go_simp
          refine wpAny_take (i := 12) (v := .int .i64 k) rfl (by kernel_rfl) (by kernel_rfl) (by kernel_rfl) (fun _ _ _ h => h) (Or.inl ⟨by rfl, fun w9 => ?_⟩) ?_
          · go_simp
          refine wpAny_ready (rs := [13]) (by kernel_rfl) (by simp) ?_
          refine AllReady.cons rfl (fun K hK => ?_) AllReady.nil
          go_simp
          refine hK _ _ ?_
          clear hK K
          refine wpAny_ready (rs := [14]) (by kernel_rfl) (by simp) ?_
          refine AllReady.cons rfl (fun K hK => ?_) AllReady.nil
          go_simp
          refine hK _ _ ?_
          clear hK K
          refine wpAny_ready (rs := [15]) (by kernel_rfl) (by simp) ?_
          refine AllReady.cons rfl (fun K hK => ?_) AllReady.nil
          go_simp
          go_wp2_with (go_at_call 23; refine Calls.mono (HIX.out _ (bdn HB.out 1) _) ?_; rintro e u2 ⟨rfl, hu2⟩; subst hu2)
          refine wpAny_take (i := 16) (v := .bool false) rfl (by kernel_rfl) (by kernel_rfl) (by kernel_rfl) (fun _ _ _ h => h) (Or.inl ⟨by rfl, fun w9 => ?_⟩) ?_
          · go_simp
          refine wpAny_done (by kernel_rfl) ?_ _
          go_simp
          go_wp2
          go_roundw
          case rel => exact ⟨k + 1, hlt, by go_num, HH.out, bdn HB.out 1, show FrTo n zs (k + 1) from FrTo.next hx.out hlt (by rw [HZ.out]; exact hi) (by rw [HZ.out]; exact hm)⟩
          case measure => simp [intOf]; omega
    · obtain rfl : k = zs.length := by omega
      go_wp2
      go_ret
      exact ⟨ret_bool (frB_true (FrTo.all hx.out)).symm, hh, hb⟩
end Go.Proofs.Ytjaelkagacmpkab
