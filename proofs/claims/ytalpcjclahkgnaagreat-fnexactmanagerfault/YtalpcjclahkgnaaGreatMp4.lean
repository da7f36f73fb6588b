import Derived.Test.YtalpcjclahkgnaaGreatMpZ
import Derived.Test.YtalpcjclahkgnaaGreatCr1
import Derived.Test.YtalpcjclahkgnaaGreatRegE
namespace Go.Proofs.YtalpcjclahkgnaaGreat
open Go.ChangeShapes Go.WideShapes Go.ChangeAt Go.RowKit

/-- A manager behind a pointer. -/
structure MX (w : World) (b : Nat) (s : MG) (a : MGA) : Prop where
  lt : b < w.heap.size
  cel : ∀ k v, (mgC s a)[k]? = some v → w.cell? ⟨b, k, none⟩ = some v
  rows : MGRows w s a
theorem MX.below {w w' : World} {b : Nat} {s : MG} {a : MGA} (h : MX w b s a) (hb : Below w.heap.size w w') : MX w' b s a :=
  ⟨Nat.lt_of_lt_of_le h.lt hb.size, fun k v hk => (World.cell?_of_block (hb.block b h.lt)).trans (h.cel k v hk), h.rows.below hb⟩
theorem MX.cx {w : World} {b : Nat} {s : MG} {a : MGA} (h : MX w b s a) : CX w b s.c a.ca :=
  ⟨h.lt, fun k v hk => h.cel k v (by
    match k, hk with
    | 0, hk => exact hk
    | 1, hk => exact hk
    | 2, hk => exact hk
    | 3, hk => exact hk
    | 4, hk => exact hk
    | n + 5, hk => simp [clC] at hk), h.rows.rc⟩
def bdM (s : MG) : Bool := decide (s.kept.length ≤ 20) && decide (s.jobs.length ≤ 20) && decide (1 ≤ s.next) && decide (s.next ≤ 1099511627776)
def ans0M : ANS := ⟨0, ⟨#[]⟩, ⟨#[]⟩⟩
def anA (zs : List ANS) (k : Nat) : ANS := zs.getD k ans0M
def kpk (zs : List ANS) (k : Nat) : Bool := asB (anA zs k) && !decide (ixANS (fun y => y.id == (anA zs k).id) zs < (k : Int))
def kpB (zs : List ANS) : Bool := allD (kpk zs) zs.length
set_option maxRecDepth 100000 in
set_option maxHeartbeats 16000000 in
theorem isBoundedM_any {w : World} {b : Nat} {s : MG} {a : MGA} (h : MX w b s a) (hl : MGlen s) : Calls Tryz.prog 37 #[.pointer (some ⟨b, 0, none⟩)] w fun e w' => e = .returned (.bool (bdM s)) ∧ w' = w := by
  have E : Hid (bdM s = (decide (s.kept.length ≤ 20) && decide (s.jobs.length ≤ 20) && decide (1 ≤ s.next) && decide (s.next ≤ 1099511627776))) := rfl
  obtain ⟨ak, kk, ek⟩ := h.rows.rk.sl
  obtain ⟨aj, kj, ej⟩ := h.rows.rj.sl
  rw [h.rows.nj.len] at ej
  have k5 : w.cell? ⟨b, 5, none⟩ = some (.slice ak s.kept.length kk) := (h.cel 5 a.vk rfl).trans (by rw [ek])
  have k6 : w.cell? ⟨b, 6, none⟩ = some (.slice aj s.jobs.length kj) := (h.cel 6 a.vj rfl).trans (by rw [ej])
  have k7 : w.cell? ⟨b, 7, none⟩ = some (.int .i64 s.next) := h.cel 7 _ rfl
  have kl := h.lt
  have a0 : (0 : Int) ≤ (s.kept.length : Int) := by omega
  have a1 : (s.kept.length : Int) ≤ 1048576 := by have := hl.lk.1; omega
  have b0 : (0 : Int) ≤ (s.jobs.length : Int) := by omega
  have b1 : (s.jobs.length : Int) ≤ 1048576 := by have := hl.lj.len; omega
  clear h hl ek ej
  generalize bdM s = V at *
  cases q0 : decide ((s.kept.length : Int) ≤ 20)
  · have r := of_decide_eq_false q0
    have E2 : Hid (V = false) := (show V = false by rw [E.out, show decide (s.kept.length ≤ 20) = false from decide_eq_false (by omega)]; simp)
    clear r
    clear E
    go_enter Tryz.func37, Tryz.ntmps37
    go_wp2
    go_ret
    exact ⟨ret_bool E2.out.symm, rfl⟩
  have r0 := of_decide_eq_true q0
  cases q1 : decide ((s.jobs.length : Int) ≤ 20)
  · have r := of_decide_eq_false q1
    have E2 : Hid (V = false) := (show V = false by rw [E.out, show decide (s.jobs.length ≤ 20) = false from decide_eq_false (by omega)]; simp)
    clear r
    clear E
    go_enter Tryz.func37, Tryz.ntmps37
    go_wp2
    go_ret
    exact ⟨ret_bool E2.out.symm, rfl⟩
  have r1 := of_decide_eq_true q1
  cases q2 : decide (1 ≤ s.next)
  · have r := of_decide_eq_false q2
    have E2 : Hid (V = false) := (show V = false by rw [E.out, show decide (1 ≤ s.next) = false from decide_eq_false (by omega)]; simp)
    clear r
    clear E
    go_enter Tryz.func37, Tryz.ntmps37
    go_wp2
    go_ret
    exact ⟨ret_bool E2.out.symm, rfl⟩
  have r2 := of_decide_eq_true q2
  cases q3 : decide (s.next ≤ 1099511627776)
  · have r := of_decide_eq_false q3
    have E2 : Hid (V = false) := (show V = false by rw [E.out, show decide (s.next ≤ 1099511627776) = false from decide_eq_false (by omega)]; simp)
    clear r
    clear E
    go_enter Tryz.func37, Tryz.ntmps37
    go_wp2
    go_ret
    exact ⟨ret_bool E2.out.symm, rfl⟩
  have r3 := of_decide_eq_true q3
  have E2 : Hid (V = true) := (show V = true by rw [E.out, show decide (s.kept.length ≤ 20) = true from decide_eq_true (by omega), show decide (s.jobs.length ≤ 20) = true from decide_eq_true (by omega), decide_eq_true r2, decide_eq_true r3]; rfl)
  clear r0 r1 r2 r3
  clear E
  go_enter Tryz.func37, Tryz.ntmps37
  go_wp2
  go_ret
  exact ⟨ret_bool E2.out.symm, rfl⟩
set_option maxRecDepth 100000 in
set_option maxHeartbeats 16000000 in
theorem keptRight_any {w : World} {b : Nat} {s : MG} {a : MGA} (h : MX w b s a) (hl : MGlen s) : Calls Tryz.prog 38 #[.pointer (some ⟨b, 0, none⟩)] w fun e w' => e = .returned (.bool (kpB s.kept)) ∧ Below w.heap.size w w' := by
  obtain ⟨ak, kk, ek⟩ := h.rows.rk.sl
  have HMC : Hid (∀ u, Below w.heap.size w u → u.cell? ⟨b, 5, none⟩ = some (.slice ak s.kept.length kk) ∧ b < u.heap.size) := fun u hu => ⟨((h.below hu).cel 5 a.vk rfl).trans (by rw [ek]), (h.below hu).lt⟩
  have HR : Hid (ANSrow w (.slice ak s.kept.length kk) s.kept) := (show ANSrow _ _ _ by rw [← ek]; exact h.rows.rk)
  obtain ⟨hl1, hl2⟩ := hl.lk
  have HZ : Hid (∀ z ∈ s.kept, z.ask.size ≤ 1048576 ∧ z.reply.size ≤ 1048576) := hl2
  have a0 : (0 : Int) ≤ (s.kept.length : Int) := by omega
  have a1 : (s.kept.length : Int) ≤ 1048576 := by omega
  obtain ⟨m5, ml⟩ := HMC.out w (Below.refl _ _)
  clear h hl hl2 ek
  go_enter Tryz.func38, Tryz.ntmps38
  go_wp2
  clear m5 ml
  go_loopw [10] (fun i wr => ∃ k : Nat, k ≤ s.kept.length ∧ i = .int .i64 k ∧ allD (kpk s.kept) k = true ∧ Below w.heap.size w wr) (fun i _ => s.kept.length - (intOf i).toNat)
  case atStart => exact ⟨0, Nat.zero_le _, rfl, rfl, Below.refl _ _⟩
  case round =>
    obtain ⟨k, hk, rfl, hok, hb⟩ := hrel
    have HOK : Hid (allD (kpk s.kept) k = true) := hok
    have HB : Hid (Below w.heap.size w wr) := hb
    clear hok
    by_cases hlt : k < s.kept.length
    · obtain ⟨g, o, cap2, hv, _, hg, hc⟩ := HR.out.resolve_left (fun h => by rw [h.1] at hlt; simp at hlt)
      injection hv with hv1 hv2 hv3
      subst hv1 hv3
      obtain ⟨d0, d1, d2⟩ := hc.below hb hg k hlt
      have hgw : g < wr.heap.size := Nat.lt_of_lt_of_le hg hb.size
      have hk0 : (0 : Int) ≤ (k : Int) := by omega
      have hk1 : (k : Int) < (s.kept.length : Int) := by omega
      obtain ⟨z1, z2⟩ := HZ.out s.kept[k] (List.getElem_mem hlt)
      have HK : Hid (kpk s.kept k = (asB s.kept[k] && !decide (ixANS (fun y => y.id == s.kept[k].id) s.kept < (k : Int)))) := (show _ = _ by unfold kpk anA; rw [List.getD_eq_getElem?_getD, List.getElem?_eq_getElem hlt]; rfl)
      have HAS0 : Hid (∀ u, Calls Tryz.prog 53 #[.agg #[.int .i64 s.kept[k].id, .string s.kept[k].ask, .string s.kept[k].reply]] u fun e w' => e = .returned (.bool (asB s.kept[k])) ∧ Below u.heap.size u w') := fun u => asRight_any s.kept[k] z1 z2 u
      have HAT : Hid (∀ u, Below w.heap.size w u → Calls Tryz.prog 54 #[.slice (some ⟨g, o, none⟩) s.kept.length kk, .int .i64 s.kept[k].id] u fun e w' => e = .returned (.int .i64 (ixANS (fun y => y.id == s.kept[k].id) s.kept)) ∧ Below u.heap.size u w') := fun u hu => answerAt_any (HR.out.below hu) hl1 _
      clear hc hb z1 z2 hv2
      generalize ixANS (fun y => y.id == s.kept[k].id) s.kept = X at *
      generalize s.kept[k] = z at *
      have HLN : Hid (LG w (wr.alloc (.cells #[.int .i64 z.id, .string z.ask, .string z.reply] 50)) wr.heap.size #[.int .i64 z.id, .string z.ask, .string z.reply] 50) := ⟨HB.out.trans ((bx1 wr _).mono HB.out.size), heap_new _ _, HB.out.size⟩
      go_upto_region 4 with fail
      clear d0 d1 d2 hgw
      generalize (wr.alloc (.cells #[.int .i64 z.id, .string z.ask, .string z.reply] 50)) = v0 at *
      generalize wr.heap.size = bn at *
      have HSB : Hid (LG w v0.drew bn #[.int .i64 z.id, .string z.ask, .string z.reply] 50) := HLN.out.drew
      cases hq : asB z
      · have HAS : Hid (∀ u, Calls Tryz.prog 53 #[.agg #[.int .i64 z.id, .string z.ask, .string z.reply]] u fun e w' => e = .returned (.bool false) ∧ Below u.heap.size u w') := (by have h9 := HAS0.out; rw [hq] at h9; exact h9)
        have hbad : Hid (kpB s.kept = false) := allD_badI hlt (HK.out.trans (by rw [hq]; rfl))
        clear hq HK HAS0 HAT
        refine wp_region_held (S := fun w9 => LG w w9 bn #[.int .i64 z.id, .string z.ask, .string z.reply] 50) (by kernel_rfl) ?_
        change wpAnyH _ _ _ _ _ _ _ _ (World.drew _)
        refine wpAnyH_take (i := 0) (v := .agg #[.int .i64 z.id, .string z.ask, .string z.reply]) rfl (by kernel_rfl) (by kernel_rfl) (by kernel_rfl) (fun _ _ _ h => h) (Or.inl ⟨by kernel_rfl, fun w9 h9 => ?_⟩) HSB.out ?_
        · have k0 := h9.cel 0 _ rfl; have k1 := h9.cel 1 _ rfl; have k2 := h9.cel 2 _ rfl; have kl := h9.lt; obtain ⟨m5, ml⟩ := HMC.out _ h9.bel; clear h9; go_simp
        refine held_one 1 (by kernel_rfl) rfl (by kernel_rfl) fun K hK => ?_
        go_simp
        go_wp2_with (go_at_call 53; refine Calls.mono (HAS.out _) ?_; rintro e u3 ⟨rfl, hb⟩; have HS3 : Hid (LG w u3 bn #[.int .i64 z.id, .string z.ask, .string z.reply] 50) := HSB.out.step hb; clear hb)
        refine hK _ _ HS3.out ?_
        clear hK K
        refine wpAnyH_take (i := 2) (v := .bool true) rfl (by kernel_rfl) (by kernel_rfl) (by kernel_rfl) (fun _ _ _ h => h) (Or.inl ⟨by kernel_rfl, fun w9 h9 => ?_⟩) HS3.out ?_
        · go_simp
        refine wpAnyH_take (i := 3) (v := .bool true) rfl (by kernel_rfl) (by kernel_rfl) (by kernel_rfl) (fun _ _ _ h => h) (Or.inl ⟨by kernel_rfl, fun w9 h9 => ?_⟩) HS3.out ?_
        · go_simp
        refine wpAnyH_take (i := 4) (v := undef) rfl (by kernel_rfl) (by kernel_rfl) (by kernel_rfl) (fun _ _ _ h => h) (Or.inr ⟨by kernel_rfl, rfl⟩) HS3.out ?_
        refine wpAnyH_take (i := 5) (v := undef) rfl (by kernel_rfl) (by kernel_rfl) (by kernel_rfl) (fun _ _ _ h => h) (Or.inr ⟨by kernel_rfl, rfl⟩) HS3.out ?_
        refine wpAnyH_take (i := 6) (v := undef) rfl (by kernel_rfl) (by kernel_rfl) (by kernel_rfl) (fun _ _ _ h => h) (Or.inr ⟨by kernel_rfl, rfl⟩) HS3.out ?_
        refine wpAnyH_take (i := 7) (v := undef) rfl (by kernel_rfl) (by kernel_rfl) (by kernel_rfl) (fun _ _ _ h => h) (Or.inr ⟨by kernel_rfl, rfl⟩) HS3.out ?_
        refine wpAnyH_take (i := 8) (v := undef) rfl (by kernel_rfl) (by kernel_rfl) (by kernel_rfl) (fun _ _ _ h => h) (Or.inr ⟨by kernel_rfl, rfl⟩) HS3.out ?_
        refine wpAnyH_take (i := 9) (v := undef) rfl (by kernel_rfl) (by kernel_rfl) (by kernel_rfl) (fun _ _ _ h => h) (Or.inr ⟨by kernel_rfl, rfl⟩) HS3.out ?_
        refine wpAnyH_take (i := 10) (v := undef) rfl (by kernel_rfl) (by kernel_rfl) (by kernel_rfl) (fun _ _ _ h => h) (Or.inr ⟨by kernel_rfl, rfl⟩) HS3.out ?_
        refine wpAnyH_take (i := 11) (v := undef) rfl (by kernel_rfl) (by kernel_rfl) (by kernel_rfl) (fun _ _ _ h => h) (Or.inr ⟨by kernel_rfl, rfl⟩) HS3.out ?_
        refine wpAnyH_take (i := 12) (v := undef) rfl (by kernel_rfl) (by kernel_rfl) (by kernel_rfl) (fun _ _ _ h => h) (Or.inr ⟨by kernel_rfl, rfl⟩) HS3.out ?_
        refine wpAnyH_take (i := 13) (v := .bool true) rfl (by kernel_rfl) (by kernel_rfl) (by kernel_rfl) (fun _ _ _ h => h) (Or.inl ⟨by kernel_rfl, fun w9 h9 => ?_⟩) HS3.out ?_
        · go_simp
        refine wpAnyH_done (by kernel_rfl) ?_ _
        go_simp
        go_wp2
        go_ret
        exact ⟨ret_bool hbad.out.symm, HS3.out.bel⟩
      · have HAS : Hid (∀ u, Calls Tryz.prog 53 #[.agg #[.int .i64 z.id, .string z.ask, .string z.reply]] u fun e w' => e = .returned (.bool true) ∧ Below u.heap.size u w') := (by have h9 := HAS0.out; rw [hq] at h9; exact h9)
        have HK2 : Hid (kpk s.kept k = !decide (X < (k : Int))) := (show _ = _ by rw [HK.out, hq]; rfl)
        clear hq HK HAS0
        refine wp_region_held (S := fun w9 => LG w w9 bn #[.int .i64 z.id, .string z.ask, .string z.reply] 50) (by kernel_rfl) ?_
        change wpAnyH _ _ _ _ _ _ _ _ (World.drew _)
        refine wpAnyH_take (i := 0) (v := .agg #[.int .i64 z.id, .string z.ask, .string z.reply]) rfl (by kernel_rfl) (by kernel_rfl) (by kernel_rfl) (fun _ _ _ h => h) (Or.inl ⟨by kernel_rfl, fun w9 h9 => ?_⟩) HSB.out ?_
        · have k0 := h9.cel 0 _ rfl; have k1 := h9.cel 1 _ rfl; have k2 := h9.cel 2 _ rfl; have kl := h9.lt; obtain ⟨m5, ml⟩ := HMC.out _ h9.bel; clear h9; go_simp
        refine held_one 1 (by kernel_rfl) rfl (by kernel_rfl) fun K hK => ?_
        go_simp
        go_wp2_with (go_at_call 53; refine Calls.mono (HAS.out _) ?_; rintro e u3 ⟨rfl, hb⟩; have HS3 : Hid (LG w u3 bn #[.int .i64 z.id, .string z.ask, .string z.reply] 50) := HSB.out.step hb; clear hb)
        refine hK _ _ HS3.out ?_
        clear hK K
        refine wpAnyH_take (i := 2) (v := .bool false) rfl (by kernel_rfl) (by kernel_rfl) (by kernel_rfl) (fun _ _ _ h => h) (Or.inl ⟨by kernel_rfl, fun w9 h9 => ?_⟩) HS3.out ?_
        · go_simp
        refine wpAnyH_take (i := 3) (v := .bool false) rfl (by kernel_rfl) (by kernel_rfl) (by kernel_rfl) (fun _ _ _ h => h) (Or.inl ⟨by kernel_rfl, fun w9 h9 => ?_⟩) HS3.out ?_
        · go_simp
        refine wpAnyH_take (i := 4) (v := .pointer (some ⟨b, 0, none⟩)) rfl (by kernel_rfl) (by kernel_rfl) (by kernel_rfl) (fun _ _ _ h => h) (Or.inl ⟨by kernel_rfl, fun w9 h9 => ?_⟩) HS3.out ?_
        · go_simp
        refine wpAnyH_take (i := 5) (v := .pointer (some ⟨b, 0, none⟩)) rfl (by kernel_rfl) (by kernel_rfl) (by kernel_rfl) (fun _ _ _ h => h) (Or.inl ⟨by kernel_rfl, fun w9 h9 => ?_⟩) HS3.out ?_
        · go_simp
        refine wpAnyH_take (i := 6) (v := .pointer (some ⟨b, 5, none⟩)) rfl (by kernel_rfl) (by kernel_rfl) (by kernel_rfl) (fun _ _ _ h => h) (Or.inl ⟨by kernel_rfl, fun w9 h9 => ?_⟩) HS3.out ?_
        · go_simp
        refine wpAnyH_take (i := 7) (v := .slice (some ⟨g, o, none⟩) s.kept.length kk) rfl (by kernel_rfl) (by kernel_rfl) (by kernel_rfl) (fun _ _ _ h => h) (Or.inl ⟨by kernel_rfl, fun w9 h9 => ?_⟩) HS3.out ?_
        · have k0 := h9.cel 0 _ rfl; have k1 := h9.cel 1 _ rfl; have k2 := h9.cel 2 _ rfl; have kl := h9.lt; obtain ⟨m5, ml⟩ := HMC.out _ h9.bel; clear h9; go_simp
        refine wpAnyH_take (i := 8) (v := .pointer (some ⟨bn, 0, none⟩)) rfl (by kernel_rfl) (by kernel_rfl) (by kernel_rfl) (fun _ _ _ h => h) (Or.inl ⟨by kernel_rfl, fun w9 h9 => ?_⟩) HS3.out ?_
        · go_simp
        refine wpAnyH_take (i := 9) (v := .int .i64 z.id) rfl (by kernel_rfl) (by kernel_rfl) (by kernel_rfl) (fun _ _ _ h => h) (Or.inl ⟨by kernel_rfl, fun w9 h9 => ?_⟩) HS3.out ?_
        · have k0 := h9.cel 0 _ rfl; have k1 := h9.cel 1 _ rfl; have k2 := h9.cel 2 _ rfl; have kl := h9.lt; obtain ⟨m5, ml⟩ := HMC.out _ h9.bel; clear h9; go_simp
        refine wpAnyH_take (i := 11) (v := .int .i64 k) rfl (by kernel_rfl) (by kernel_rfl) (by kernel_rfl) (fun _ _ _ h => h) (Or.inl ⟨by kernel_rfl, fun w9 h9 => ?_⟩) HS3.out ?_
        · go_simp
        refine held_one 10 (by kernel_rfl) rfl (by kernel_rfl) fun K hK => ?_
        go_simp
        go_wp2_with (go_at_call 54; refine Calls.mono (HAT.out _ HS3.out.bel) ?_; rintro e u4 ⟨rfl, hb⟩; have HS4 : Hid (LG w u4 bn #[.int .i64 z.id, .string z.ask, .string z.reply] 50) := HS3.out.step hb; clear hb)
        refine hK _ _ HS4.out ?_
        clear hK K
        refine wpAnyH_take (i := 12) (v := .bool (decide (X < (k : Int)))) rfl (by kernel_rfl) (by kernel_rfl) (by kernel_rfl) (fun _ _ _ h => h) (Or.inl ⟨by kernel_rfl, fun w9 h9 => ?_⟩) HS4.out ?_
        · go_simp; all_goals omega
        refine wpAnyH_take (i := 13) (v := .bool (decide (X < (k : Int)))) rfl (by kernel_rfl) (by kernel_rfl) (by kernel_rfl) (fun _ _ _ h => h) (Or.inl ⟨by kernel_rfl, fun w9 h9 => ?_⟩) HS4.out ?_
        · go_simp
        refine wpAnyH_done (by kernel_rfl) ?_ _
        go_simp
        cases hx : decide (X < (k : Int))
        · have hok2 : Hid (allD (kpk s.kept) (k + 1) = true) := (show _ = _ by rw [allD_succ, HOK.out, HK2.out, hx]; rfl)
          go_wp2
          go_roundw
          case rel => exact ⟨k + 1, hlt, by go_num, hok2.out, HS4.out.bel⟩
          case measure => simp [intOf]; omega
        · have hbad : Hid (kpB s.kept = false) := allD_badI hlt (HK2.out.trans (by rw [hx]; rfl))
          go_wp2
          go_ret
          exact ⟨ret_bool hbad.out.symm, HS4.out.bel⟩
    · obtain rfl : k = s.kept.length := by omega
      go_wp2
      go_ret
      exact ⟨ret_bool HOK.out.symm, HB.out⟩
end Go.Proofs.YtalpcjclahkgnaaGreat
