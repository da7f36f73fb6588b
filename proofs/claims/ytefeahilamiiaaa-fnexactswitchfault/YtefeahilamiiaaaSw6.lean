import Derived.Test.YtefeahilamiiaaaSw5
import Derived.Test.YtefeahilamiiaaaRt1
import Derived.Test.YtefeahilamiiaaaFr1
import Derived.Test.YtefeahilamiiaaaQu1
namespace Go.Proofs.Ytefeahilamiiaaa
open Go.ChangeShapes Go.WideShapes Go.ChangeAt Go.RowKit

theorem gd {zs : List Int} {k : Nat} (h : k < zs.length) : zs.getD k 0 = zs[k] := by simp [List.getD, List.getElem?_eq_getElem h]
/-- Rising networks. -/
def nk (zs : List Int) (j : Nat) : Bool := ntB (zs.getD j 0) && (decide (j = 0) || decide (zs.getD (j - 1) 0 < zs.getD j 0))
def snB (zs : List Int) : Bool := decide (1 ≤ zs.length) && decide (zs.length ≤ 20) && allB (nk zs) zs.length
set_option maxRecDepth 100000 in
set_option maxHeartbeats 4000000 in
theorem arNet_any {w : World} {v : Value} {zs : List Int} (h : Irow w v zs) (hl : zs.length ≤ 20) : Calls Try.prog 64 #[v, .func (.func 78) #[] #[]] w fun e w' => e = .returned (.bool (allB (nk zs) zs.length)) ∧ Below w.heap.size w w' := by
  obtain ⟨ao, cap, rfl⟩ := h.sl
  have HR : Hid (Irow w (.slice ao zs.length cap) zs) := h
  clear h
  have hcf : ∀ (xs : Array Value) (w' : World), (callFunc 78 xs).run Try.prog w' = .ok (.enter 78 xs) w' := by
    intro xs w'
    kernel_rfl
  go_enter Try.func64, Try.ntmps64
  go_wp2
  go_loopw [9] (fun i wr => ∃ k : Nat, k ≤ zs.length ∧ i = .int .i64 k ∧ allB (nk zs) k = true ∧ Below w.heap.size w wr) (fun i _ => zs.length - (intOf i).toNat)
  case atStart => exact ⟨0, Nat.zero_le _, rfl, rfl, Below.refl _ _⟩
  case round =>
    obtain ⟨k, hk, rfl, hok, hb⟩ := hrel
    have HOK : Hid (allB (nk zs) k = true) := hok
    have HB : Hid (Below w.heap.size w wr) := hb
    clear hok
    by_cases hlt : k < zs.length
    · obtain ⟨g, o, cap2, hv, _, hg, hc⟩ := HR.out.resolve_left (fun h => by rw [h.1] at hlt; simp at hlt)
      injection hv with hv1 hv2 hv3
      subst hv1 hv3
      have d0 := hc.below hb hg k hlt
      have hpk : nk zs k = (ntB zs[k] && (decide (k = 0) || decide (zs.getD (k - 1) 0 < zs[k]))) := by unfold nk; rw [gd hlt]
      have hk0 : (0 : Int) ≤ (k : Int) := by omega
      have hk1 : (k : Int) < (zs.length : Int) := by omega
      have HV : Hid _ := fun u => isNet_any zs[k] u
      cases hq : ntB zs[k]
      · rw [hq] at hpk HV
        generalize zs[k] = z at *
        have hbad : Hid _ := allB_bad (m := zs.length) hlt (hpk.trans (by simp))
        clear hc hpk hq
        go_wp2_with fail
        refine Calls.mono (HV.out _) ?_
        rintro e u1 ⟨rfl, hu1⟩
        rw [hu1]
        clear hu1
        go_wp2
        go_ret
        exact ⟨ret_bool (by rw [hbad.out]), HB.out⟩
      · rw [hq] at hpk HV
        by_cases h0 : k = 0
        · subst h0
          rw [Nat.add_zero] at d0
          generalize zs[0] = z at *
          have hgd : Hid _ := hpk
          clear hc hpk hq
          go_wp2_with fail
          refine Calls.mono (HV.out _) ?_
          rintro e u1 ⟨rfl, hu1⟩
          rw [hu1]
          clear hu1
          go_wp2
          go_roundw
          case rel => exact ⟨1, hlt, by go_num, by rw [allB_succ, hgd.out]; rfl, HB.out⟩
          case measure => simp [intOf]; omega
        · obtain ⟨j, rfl⟩ : ∃ j, k = j + 1 := ⟨k - 1, by omega⟩
          have d1 := hc.below hb hg j (by omega)
          rw [Nat.add_sub_cancel, gd (show j < zs.length by omega)] at hpk
          have hj0 : (0 : Int) < ((j + 1 : Nat) : Int) := by omega
          have hj1 : ((j + 1 : Nat) : Int) - 1 = (j : Int) := by omega
          have hj2 : (j : Int) < (zs.length : Int) := by omega
          have hj3 : (0 : Int) ≤ (j : Int) := by omega
          generalize zs[j + 1] = z at *
          generalize zs[j] = y at *
          have hgd : Hid _ := hpk
          clear hc hpk hq
          by_cases hyz : z ≤ y
          · go_wp2_with fail
            refine Calls.mono (HV.out _) ?_
            rintro e u1 ⟨rfl, hu1⟩
            rw [hu1]
            clear hu1
            go_wp2
            go_ret
            exact ⟨ret_bool (by rw [allB_bad hlt (hgd.out.trans (by simp; omega))]), HB.out⟩
          · go_wp2_with fail
            refine Calls.mono (HV.out _) ?_
            rintro e u1 ⟨rfl, hu1⟩
            rw [hu1]
            clear hu1
            go_wp2
            go_roundw
            case rel => exact ⟨j + 1 + 1, hlt, by go_num, by rw [allB_succ, HOK.out, hgd.out]; simp; omega, HB.out⟩
            case measure => simp [intOf]; omega
    · obtain rfl : k = zs.length := by omega
      go_wp2
      go_ret
      exact ⟨ret_bool (by rw [HOK.out]), HB.out⟩
set_option maxRecDepth 100000 in
set_option maxHeartbeats 4000000 in
theorem sharedNets_any {w : World} {v : Value} {zs : List Int} (h : Irow w v zs) : Calls Try.prog 83 #[v] w fun e w' => e = .returned (.bool (snB zs)) ∧ Below w.heap.size w w' := by
  obtain ⟨ao, cap, rfl⟩ := h.sl
  have HR : Hid (Irow w (.slice ao zs.length cap) zs) := h
  clear h
  cases h1 : decide ((zs.length : Int) < 1)
  · cases h2 : decide (20 < (zs.length : Int))
    · have g1 := of_decide_eq_false h1
      have g2 := of_decide_eq_false h2
      have E : Hid (snB zs = allB (nk zs) zs.length) := (show snB zs = _ by unfold snB; rw [decide_eq_true (show 1 ≤ zs.length by omega), decide_eq_true (show zs.length ≤ 20 by omega)]; rfl)
      have hl : zs.length ≤ 20 := by omega
      have HA : Hid _ := arNet_any HR.out hl
      have g3 : (1 : Int) ≤ (zs.length : Int) := by omega
      have g4 : (zs.length : Int) ≤ 20 := by omega
      go_enter Try.func83, Try.ntmps83
      go_wp2_with fail
      refine Calls.mono HA.out ?_
      rintro e u1 ⟨rfl, hb⟩
      have HB : Hid (Below w.heap.size w u1) := hb
      clear hb
      go_wp2
      go_ret
      exact ⟨ret_bool E.out.symm, HB.out⟩
    · have g2 := of_decide_eq_true h2
      have g1 := of_decide_eq_false h1
      have g3 : (1 : Int) ≤ (zs.length : Int) := by omega
      have g4 : ¬ (zs.length : Int) ≤ 20 := by omega
      have E : Hid (snB zs = false) := (show snB zs = _ by unfold snB; rw [decide_eq_false (show ¬ zs.length ≤ 20 by omega)]; simp)
      go_enter Try.func83, Try.ntmps83
      go_wp2
      go_ret
      exact ⟨ret_bool E.out.symm, Below.refl _ _⟩
  · have g1 := of_decide_eq_true h1
    have g3 : ¬ (1 : Int) ≤ (zs.length : Int) := by omega
    have E : Hid (snB zs = false) := (show snB zs = _ by unfold snB; rw [decide_eq_false (show ¬ 1 ≤ zs.length by omega)]; simp)
    go_enter Try.func83, Try.ntmps83
    go_wp2
    go_ret
    exact ⟨ret_bool E.out.symm, Below.refl _ _⟩
def ntsB (p : PO) : Bool := if (p.net != 0) = true then ntB p.net && ((p.ns.length : Int) == 0) else snB p.ns
def lvB (p : PO) : Bool := !decide (p.rate < 0) && !decide (1000000 < p.rate) && !decide (p.burst < 0) && !decide (1000000 < p.burst) && decide (0 ≤ p.lev) && decide (p.lev ≤ p.burst)
def portB (p : PO) : Bool := ntsB p && oaB p.own && lvB p
/-- A port in its box. -/
structure PX (w : World) (b : Nat) (p : PO) (v : Value) : Prop where
  box : w.heap[b]? = some (.cells (poC p v) 73 (0, 0))
  row : Irow w v p.ns
theorem PX.lt {w : World} {b : Nat} {p : PO} {v : Value} (h : PX w b p v) : b < w.heap.size := (Array.getElem?_eq_some_iff.1 h.box).1
theorem PX.below {w w' : World} {b : Nat} {p : PO} {v : Value} (h : PX w b p v) (hb : Below w.heap.size w w') : PX w' b p v := ⟨(hb.block b h.lt).trans h.box, h.row.below hb⟩
theorem PX.cel {w : World} {b : Nat} {p : PO} {v : Value} (h : PX w b p v) (k : Nat) (x : Value) (hx : (poC p v)[k]? = some x) : w.cell? ⟨b, k, none⟩ = some x := celN h.box k x hx
theorem PX.c0 {w : World} {b : Nat} {p : PO} {v : Value} (h : PX w b p v) : w.cell? ⟨b, 0, none⟩ = some (.int .i64 p.net) := h.cel 0 _ rfl
theorem PX.c1 {w : World} {b : Nat} {p : PO} {v : Value} (h : PX w b p v) : w.cell? ⟨b, 1, none⟩ = some (v) := h.cel 1 _ rfl
theorem PX.c2 {w : World} {b : Nat} {p : PO} {v : Value} (h : PX w b p v) : w.cell? ⟨b, 2, none⟩ = some (.int .i64 p.own) := h.cel 2 _ rfl
theorem PX.c3 {w : World} {b : Nat} {p : PO} {v : Value} (h : PX w b p v) : w.cell? ⟨b, 3, none⟩ = some (.bool p.up) := h.cel 3 _ rfl
theorem PX.c4 {w : World} {b : Nat} {p : PO} {v : Value} (h : PX w b p v) : w.cell? ⟨b, 4, none⟩ = some (.int .i64 p.rate) := h.cel 4 _ rfl
theorem PX.c5 {w : World} {b : Nat} {p : PO} {v : Value} (h : PX w b p v) : w.cell? ⟨b, 5, none⟩ = some (.int .i64 p.burst) := h.cel 5 _ rfl
theorem PX.c6 {w : World} {b : Nat} {p : PO} {v : Value} (h : PX w b p v) : w.cell? ⟨b, 6, none⟩ = some (.int .i64 p.lev) := h.cel 6 _ rfl
set_option maxRecDepth 100000 in
theorem isPlain_any {w : World} {b : Nat} {p : PO} {v : Value} (h : PX w b p v) : Calls Try.prog 82 #[.pointer (some ⟨b, 0, none⟩)] w fun e w' => e = .returned (.bool (p.net != 0)) ∧ w' = w := by
  have c0 := h.c0
  have cl := h.lt
  clear h
  go_enter Try.func82, Try.ntmps82
  go_wp2
  go_ret
  exact ⟨rfl, rfl⟩
set_option maxRecDepth 100000 in
set_option maxHeartbeats 4000000 in
theorem netsRight_any {w : World} {b : Nat} {p : PO} {v : Value} (h : PX w b p v) : Calls Try.prog 74 #[.pointer (some ⟨b, 0, none⟩)] w fun e w' => e = .returned (.bool (ntsB p)) ∧ Below w.heap.size w w' := by
  obtain ⟨a1, k1, rfl⟩ := h.row.sl
  have HP : Hid _ := isPlain_any h
  have HN : Hid (∀ u, Calls Try.prog 78 #[.int .i64 p.net] u fun e w' => e = .returned (.bool (ntB p.net)) ∧ w' = u) := fun u => isNet_any p.net u
  have HS : Hid _ := sharedNets_any h.row
  have c0 := h.c0
  have c1 := h.c1
  have cl := h.lt
  clear h
  cases h1 : (p.net != 0)
  · have E : Hid (ntsB p = snB p.ns) := (show ntsB p = _ by unfold ntsB; rw [h1]; rfl)
    rw [h1] at HP
    clear h1
    go_enter Try.func74, Try.ntmps74
    go_wp2_with fail
    refine Calls.mono HP.out ?_
    rintro e u1 ⟨rfl, hw1⟩
    rw [hw1]
    clear hw1
    go_wp2_with fail
    refine Calls.mono HS.out ?_
    rintro e u2 ⟨rfl, hb2⟩
    go_wp2
    go_ret
    exact ⟨ret_bool E.out.symm, hb2⟩
  · rw [h1] at HP
    cases h2 : ntB p.net
    · have E : Hid (ntsB p = false) := (show ntsB p = _ by unfold ntsB; rw [h1, h2]; rfl)
      rw [h2] at HN
      clear h1 h2
      go_enter Try.func74, Try.ntmps74
      go_wp2_with fail
      refine Calls.mono HP.out ?_
      rintro e u1 ⟨rfl, hw1⟩
      rw [hw1]
      clear hw1
      go_wp2_with fail
      refine Calls.mono (HN.out _) ?_
      rintro e u2 ⟨rfl, hw2⟩
      rw [hw2]
      clear hw2
      go_wp2
      go_ret
      exact ⟨ret_bool E.out.symm, Below.refl _ _⟩
    · have E : Hid (ntsB p = ((p.ns.length : Int) == 0)) := (show ntsB p = _ by unfold ntsB; rw [h1, h2]; rfl)
      rw [h2] at HN
      clear h1 h2
      cases h3 : ((p.ns.length : Int) == 0)
      all_goals rw [h3] at E
      all_goals go_enter Try.func74, Try.ntmps74
      all_goals go_wp2_with fail
      all_goals refine Calls.mono HP.out ?_
      all_goals rintro e u1 ⟨rfl, hw1⟩
      all_goals rw [hw1]
      all_goals clear hw1
      all_goals go_wp2_with fail
      all_goals refine Calls.mono (HN.out _) ?_
      all_goals rintro e u2 ⟨rfl, hw2⟩
      all_goals rw [hw2]
      all_goals clear hw2
      all_goals go_wp2
      all_goals go_ret
      all_goals exact ⟨ret_bool E.out.symm, Below.refl _ _⟩
set_option maxRecDepth 100000 in
set_option maxHeartbeats 4000000 in
theorem levelRight_any {w : World} {b : Nat} {p : PO} {v : Value} (h : PX w b p v) : Calls Try.prog 76 #[.pointer (some ⟨b, 0, none⟩)] w fun e w' => e = .returned (.bool (lvB p)) ∧ Below w.heap.size w w' := by
  have c4 := h.c4
  have c5 := h.c5
  have c6 := h.c6
  have cl := h.lt
  clear h
  have E : Hid (lvB p = (!decide (p.rate < 0) && !decide (1000000 < p.rate) && !decide (p.burst < 0) && !decide (1000000 < p.burst) && decide (0 ≤ p.lev) && decide (p.lev ≤ p.burst))) := rfl
  cases h1 : decide (p.rate < 0)
  · rw [h1] at E
    cases h2 : decide (1000000 < p.rate)
    · rw [h2] at E
      cases h3 : decide (p.burst < 0)
      · rw [h3] at E
        cases h4 : decide (1000000 < p.burst)
        · rw [h4] at E
          cases h5 : decide (0 ≤ p.lev)
          · rw [h5] at E
            go_enter Try.func76, Try.ntmps76
            go_upto_region 3 with fail
            have HSB : Hid (w.drew.cell? ⟨b, 5, none⟩ = some (.int .i64 p.burst) ∧ w.drew.cell? ⟨b, 6, none⟩ = some (.int .i64 p.lev) ∧ b < w.drew.heap.size) := ⟨c5, c6, cl⟩
            refine wp_region_held (S := fun w9 => w9.cell? ⟨b, 5, none⟩ = some (.int .i64 p.burst) ∧ w9.cell? ⟨b, 6, none⟩ = some (.int .i64 p.lev) ∧ b < w9.heap.size) (by kernel_rfl) ?_
            change wpAnyH _ _ _ _ _ _ _ _ (World.drew _)
            refine wpAnyH_take (i := 0) (v := .pointer (some ⟨b, 0, none⟩)) rfl (by kernel_rfl) (by kernel_rfl) (by kernel_rfl) (fun _ _ _ h => h) (Or.inl ⟨by kernel_rfl, fun w9 h9 => ?_⟩) HSB.out ?_
            · obtain ⟨x5, x6, xl⟩ := h9; go_simp
            refine wpAnyH_take (i := 1) (v := .pointer (some ⟨b, 0, none⟩)) rfl (by kernel_rfl) (by kernel_rfl) (by kernel_rfl) (fun _ _ _ h => h) (Or.inl ⟨by kernel_rfl, fun w9 h9 => ?_⟩) HSB.out ?_
            · obtain ⟨x5, x6, xl⟩ := h9; go_simp
            refine wpAnyH_take (i := 2) (v := .pointer (some ⟨b, 6, none⟩)) rfl (by kernel_rfl) (by kernel_rfl) (by kernel_rfl) (fun _ _ _ h => h) (Or.inl ⟨by kernel_rfl, fun w9 h9 => ?_⟩) HSB.out ?_
            · obtain ⟨x5, x6, xl⟩ := h9; go_simp
            refine wpAnyH_take (i := 3) (v := .int .i64 p.lev) rfl (by kernel_rfl) (by kernel_rfl) (by kernel_rfl) (fun _ _ _ h => h) (Or.inl ⟨by kernel_rfl, fun w9 h9 => ?_⟩) HSB.out ?_
            · obtain ⟨x5, x6, xl⟩ := h9; go_simp
            refine wpAnyH_take (i := 4) (v := .bool false) rfl (by kernel_rfl) (by kernel_rfl) (by kernel_rfl) (fun _ _ _ h => h) (Or.inl ⟨by kernel_rfl, fun w9 h9 => ?_⟩) HSB.out ?_
            · obtain ⟨x5, x6, xl⟩ := h9; go_simp
            refine wpAnyH_take (i := 5) (v := .bool false) rfl (by kernel_rfl) (by kernel_rfl) (by kernel_rfl) (fun _ _ _ h => h) (Or.inl ⟨by kernel_rfl, fun w9 h9 => ?_⟩) HSB.out ?_
            · obtain ⟨x5, x6, xl⟩ := h9; go_simp
            refine wpAnyH_take (i := 6) (v := undef) rfl (by kernel_rfl) (by kernel_rfl) (by kernel_rfl) (fun _ _ _ h => h) (Or.inr ⟨by kernel_rfl, rfl⟩) HSB.out ?_
            refine wpAnyH_take (i := 7) (v := undef) rfl (by kernel_rfl) (by kernel_rfl) (by kernel_rfl) (fun _ _ _ h => h) (Or.inr ⟨by kernel_rfl, rfl⟩) HSB.out ?_
            refine wpAnyH_take (i := 8) (v := undef) rfl (by kernel_rfl) (by kernel_rfl) (by kernel_rfl) (fun _ _ _ h => h) (Or.inr ⟨by kernel_rfl, rfl⟩) HSB.out ?_
            refine wpAnyH_take (i := 9) (v := undef) rfl (by kernel_rfl) (by kernel_rfl) (by kernel_rfl) (fun _ _ _ h => h) (Or.inr ⟨by kernel_rfl, rfl⟩) HSB.out ?_
            refine wpAnyH_take (i := 10) (v := undef) rfl (by kernel_rfl) (by kernel_rfl) (by kernel_rfl) (fun _ _ _ h => h) (Or.inr ⟨by kernel_rfl, rfl⟩) HSB.out ?_
            refine wpAnyH_take (i := 11) (v := undef) rfl (by kernel_rfl) (by kernel_rfl) (by kernel_rfl) (fun _ _ _ h => h) (Or.inr ⟨by kernel_rfl, rfl⟩) HSB.out ?_
            refine wpAnyH_take (i := 12) (v := undef) rfl (by kernel_rfl) (by kernel_rfl) (by kernel_rfl) (fun _ _ _ h => h) (Or.inr ⟨by kernel_rfl, rfl⟩) HSB.out ?_
            refine wpAnyH_take (i := 13) (v := undef) rfl (by kernel_rfl) (by kernel_rfl) (by kernel_rfl) (fun _ _ _ h => h) (Or.inr ⟨by kernel_rfl, rfl⟩) HSB.out ?_
            refine wpAnyH_take (i := 14) (v := undef) rfl (by kernel_rfl) (by kernel_rfl) (by kernel_rfl) (fun _ _ _ h => h) (Or.inr ⟨by kernel_rfl, rfl⟩) HSB.out ?_
            refine wpAnyH_take (i := 15) (v := .bool false) rfl (by kernel_rfl) (by kernel_rfl) (by kernel_rfl) (fun _ _ _ h => h) (Or.inl ⟨by kernel_rfl, fun w9 h9 => ?_⟩) HSB.out ?_
            · obtain ⟨x5, x6, xl⟩ := h9; go_simp
            refine wpAnyH_take (i := 16) (v := .bool false) rfl (by kernel_rfl) (by kernel_rfl) (by kernel_rfl) (fun _ _ _ h => h) (Or.inl ⟨by kernel_rfl, fun w9 h9 => ?_⟩) HSB.out ?_
            · obtain ⟨x5, x6, xl⟩ := h9; go_simp
            refine wpAnyH_done (by kernel_rfl) ?_ _
            go_simp
            go_wp2
            go_ret
            exact ⟨ret_bool (by rw [E.out]; simp), bdn (Below.refl _ _) 1⟩
          · rw [h5] at E
            go_enter Try.func76, Try.ntmps76
            go_upto_region 3 with fail
            have HSB : Hid (w.drew.cell? ⟨b, 5, none⟩ = some (.int .i64 p.burst) ∧ w.drew.cell? ⟨b, 6, none⟩ = some (.int .i64 p.lev) ∧ b < w.drew.heap.size) := ⟨c5, c6, cl⟩
            refine wp_region_held (S := fun w9 => w9.cell? ⟨b, 5, none⟩ = some (.int .i64 p.burst) ∧ w9.cell? ⟨b, 6, none⟩ = some (.int .i64 p.lev) ∧ b < w9.heap.size) (by kernel_rfl) ?_
            change wpAnyH _ _ _ _ _ _ _ _ (World.drew _)
            refine wpAnyH_take (i := 0) (v := .pointer (some ⟨b, 0, none⟩)) rfl (by kernel_rfl) (by kernel_rfl) (by kernel_rfl) (fun _ _ _ h => h) (Or.inl ⟨by kernel_rfl, fun w9 h9 => ?_⟩) HSB.out ?_
            · obtain ⟨x5, x6, xl⟩ := h9; go_simp
            refine wpAnyH_take (i := 1) (v := .pointer (some ⟨b, 0, none⟩)) rfl (by kernel_rfl) (by kernel_rfl) (by kernel_rfl) (fun _ _ _ h => h) (Or.inl ⟨by kernel_rfl, fun w9 h9 => ?_⟩) HSB.out ?_
            · obtain ⟨x5, x6, xl⟩ := h9; go_simp
            refine wpAnyH_take (i := 2) (v := .pointer (some ⟨b, 6, none⟩)) rfl (by kernel_rfl) (by kernel_rfl) (by kernel_rfl) (fun _ _ _ h => h) (Or.inl ⟨by kernel_rfl, fun w9 h9 => ?_⟩) HSB.out ?_
            · obtain ⟨x5, x6, xl⟩ := h9; go_simp
            refine wpAnyH_take (i := 3) (v := .int .i64 p.lev) rfl (by kernel_rfl) (by kernel_rfl) (by kernel_rfl) (fun _ _ _ h => h) (Or.inl ⟨by kernel_rfl, fun w9 h9 => ?_⟩) HSB.out ?_
            · obtain ⟨x5, x6, xl⟩ := h9; go_simp
            refine wpAnyH_take (i := 4) (v := .bool true) rfl (by kernel_rfl) (by kernel_rfl) (by kernel_rfl) (fun _ _ _ h => h) (Or.inl ⟨by kernel_rfl, fun w9 h9 => ?_⟩) HSB.out ?_
            · obtain ⟨x5, x6, xl⟩ := h9; go_simp
            refine wpAnyH_take (i := 5) (v := .bool true) rfl (by kernel_rfl) (by kernel_rfl) (by kernel_rfl) (fun _ _ _ h => h) (Or.inl ⟨by kernel_rfl, fun w9 h9 => ?_⟩) HSB.out ?_
            · obtain ⟨x5, x6, xl⟩ := h9; go_simp
            refine wpAnyH_take (i := 6) (v := .pointer (some ⟨b, 0, none⟩)) rfl (by kernel_rfl) (by kernel_rfl) (by kernel_rfl) (fun _ _ _ h => h) (Or.inl ⟨by kernel_rfl, fun w9 h9 => ?_⟩) HSB.out ?_
            · obtain ⟨x5, x6, xl⟩ := h9; go_simp
            refine wpAnyH_take (i := 7) (v := .pointer (some ⟨b, 0, none⟩)) rfl (by kernel_rfl) (by kernel_rfl) (by kernel_rfl) (fun _ _ _ h => h) (Or.inl ⟨by kernel_rfl, fun w9 h9 => ?_⟩) HSB.out ?_
            · obtain ⟨x5, x6, xl⟩ := h9; go_simp
            refine wpAnyH_take (i := 8) (v := .pointer (some ⟨b, 6, none⟩)) rfl (by kernel_rfl) (by kernel_rfl) (by kernel_rfl) (fun _ _ _ h => h) (Or.inl ⟨by kernel_rfl, fun w9 h9 => ?_⟩) HSB.out ?_
            · obtain ⟨x5, x6, xl⟩ := h9; go_simp
            refine wpAnyH_take (i := 9) (v := .int .i64 p.lev) rfl (by kernel_rfl) (by kernel_rfl) (by kernel_rfl) (fun _ _ _ h => h) (Or.inl ⟨by kernel_rfl, fun w9 h9 => ?_⟩) HSB.out ?_
            · obtain ⟨x5, x6, xl⟩ := h9; go_simp
            refine wpAnyH_take (i := 10) (v := .pointer (some ⟨b, 0, none⟩)) rfl (by kernel_rfl) (by kernel_rfl) (by kernel_rfl) (fun _ _ _ h => h) (Or.inl ⟨by kernel_rfl, fun w9 h9 => ?_⟩) HSB.out ?_
            · obtain ⟨x5, x6, xl⟩ := h9; go_simp
            refine wpAnyH_take (i := 11) (v := .pointer (some ⟨b, 0, none⟩)) rfl (by kernel_rfl) (by kernel_rfl) (by kernel_rfl) (fun _ _ _ h => h) (Or.inl ⟨by kernel_rfl, fun w9 h9 => ?_⟩) HSB.out ?_
            · obtain ⟨x5, x6, xl⟩ := h9; go_simp
            refine wpAnyH_take (i := 12) (v := .pointer (some ⟨b, 5, none⟩)) rfl (by kernel_rfl) (by kernel_rfl) (by kernel_rfl) (fun _ _ _ h => h) (Or.inl ⟨by kernel_rfl, fun w9 h9 => ?_⟩) HSB.out ?_
            · obtain ⟨x5, x6, xl⟩ := h9; go_simp
            refine wpAnyH_take (i := 13) (v := .int .i64 p.burst) rfl (by kernel_rfl) (by kernel_rfl) (by kernel_rfl) (fun _ _ _ h => h) (Or.inl ⟨by kernel_rfl, fun w9 h9 => ?_⟩) HSB.out ?_
            · obtain ⟨x5, x6, xl⟩ := h9; go_simp
            refine wpAnyH_take (i := 14) (v := .bool (decide (p.lev ≤ p.burst))) rfl (by kernel_rfl) (by kernel_rfl) (by kernel_rfl) (fun _ _ _ h => h) (Or.inl ⟨by kernel_rfl, fun w9 h9 => ?_⟩) HSB.out ?_
            · obtain ⟨x5, x6, xl⟩ := h9; go_simp
            refine wpAnyH_take (i := 15) (v := .bool (decide (p.lev ≤ p.burst))) rfl (by kernel_rfl) (by kernel_rfl) (by kernel_rfl) (fun _ _ _ h => h) (Or.inl ⟨by kernel_rfl, fun w9 h9 => ?_⟩) HSB.out ?_
            · obtain ⟨x5, x6, xl⟩ := h9; go_simp
            refine wpAnyH_take (i := 16) (v := .bool (decide (p.lev ≤ p.burst))) rfl (by kernel_rfl) (by kernel_rfl) (by kernel_rfl) (fun _ _ _ h => h) (Or.inl ⟨by kernel_rfl, fun w9 h9 => ?_⟩) HSB.out ?_
            · obtain ⟨x5, x6, xl⟩ := h9; go_simp
            refine wpAnyH_done (by kernel_rfl) ?_ _
            go_simp
            go_wp2
            go_ret
            exact ⟨ret_bool (by rw [E.out]; simp), bdn (Below.refl _ _) 1⟩
        · rw [h4] at E
          go_enter Try.func76, Try.ntmps76
          go_wp2
          go_ret
          exact ⟨ret_bool (by rw [E.out]; simp), Below.refl _ _⟩
      · rw [h3] at E
        go_enter Try.func76, Try.ntmps76
        go_wp2
        go_ret
        exact ⟨ret_bool (by rw [E.out]; simp), Below.refl _ _⟩
    · rw [h2] at E
      go_enter Try.func76, Try.ntmps76
      go_wp2
      go_ret
      exact ⟨ret_bool (by rw [E.out]; simp), Below.refl _ _⟩
  · rw [h1] at E
    go_enter Try.func76, Try.ntmps76
    go_wp2
    go_ret
    exact ⟨ret_bool (by rw [E.out]; simp), Below.refl _ _⟩
set_option maxRecDepth 100000 in
set_option maxHeartbeats 4000000 in
theorem portRight_any {w : World} {b : Nat} {p : PO} {v : Value} (h : PX w b p v) : Calls Try.prog 59 #[.pointer (some ⟨b, 0, none⟩)] w fun e w' => e = .returned (.bool (portB p)) ∧ Below w.heap.size w w' := by
  have HX : Hid (PX w b p v) := h
  have HN : Hid _ := netsRight_any h
  have HO : Hid (∀ u, Calls Try.prog 75 #[.int .i64 p.own] u fun e w' => e = .returned (.bool (oaB p.own)) ∧ w' = u) := fun u => oneAddr_any p.own u
  have HL : Hid (∀ u, Below w.heap.size w u → Calls Try.prog 76 #[.pointer (some ⟨b, 0, none⟩)] u fun e w' => e = .returned (.bool (lvB p)) ∧ Below u.heap.size u w') := fun u hu => levelRight_any (HX.out.below hu)
  have E : Hid (portB p = (ntsB p && oaB p.own && lvB p)) := rfl
  clear h
  cases h1 : ntsB p
  · rw [h1] at HN E
    go_enter Try.func59, Try.ntmps59
    go_wp2_with fail
    refine Calls.mono HN.out ?_
    rintro e u1 ⟨rfl, hb1⟩
    go_wp2
    go_ret
    exact ⟨ret_bool (by rw [E.out]; rfl), hb1⟩
  · rw [h1] at HN E
    cases h2 : oaB p.own
    · rw [h2] at HO E
      go_enter Try.func59, Try.ntmps59
      go_wp2_with fail
      refine Calls.mono HN.out ?_
      rintro e u1 ⟨rfl, hb1⟩
      have c2 := (HX.out.below hb1).c2
      have cl := (HX.out.below hb1).lt
      have HB1 : Hid (Below w.heap.size w u1) := hb1
      clear hb1
      go_wp2_with fail
      refine Calls.mono (HO.out _) ?_
      rintro e u2 ⟨rfl, hw2⟩
      rw [hw2]
      clear hw2
      go_wp2
      go_ret
      exact ⟨ret_bool (by rw [E.out]; rfl), HB1.out⟩
    · rw [h2] at HO E
      go_enter Try.func59, Try.ntmps59
      go_wp2_with fail
      refine Calls.mono HN.out ?_
      rintro e u1 ⟨rfl, hb1⟩
      have c2 := (HX.out.below hb1).c2
      have cl := (HX.out.below hb1).lt
      have HB1 : Hid (Below w.heap.size w u1) := hb1
      clear hb1
      go_wp2_with fail
      refine Calls.mono (HO.out _) ?_
      rintro e u2 ⟨rfl, hw2⟩
      rw [hw2]
      clear hw2 c2 cl
      go_wp2_with fail
      refine Calls.mono (HL.out _ HB1.out) ?_
      rintro e u3 ⟨rfl, hb3⟩
      have HB3 : Hid (Below w.heap.size w u3) := HB1.out.trans (hb3.mono HB1.out.size)
      clear hb3
      go_wp2
      go_ret
      exact ⟨ret_bool (by rw [E.out]; rfl), HB3.out⟩
set_option maxRecDepth 100000 in
set_option maxHeartbeats 4000000 in
theorem portFn_any {w : World} (p : PO) {v : Value} (h : Irow w v p.ns) : Calls Try.prog 58 #[poA p v] w fun e w' => e = .returned (.bool (!portB p)) ∧ Below w.heap.size w w' := by
  obtain ⟨a1, k1, rfl⟩ := h.sl
  have HB : Hid (Below w.heap.size w (w.alloc (.cells #[.int .i64 p.net, .slice a1 p.ns.length k1, .int .i64 p.own, .bool p.up, .int .i64 p.rate, .int .i64 p.burst, .int .i64 p.lev] 73))) := bx1 _ _
  have HX : Hid (PX (w.alloc (.cells #[.int .i64 p.net, .slice a1 p.ns.length k1, .int .i64 p.own, .bool p.up, .int .i64 p.rate, .int .i64 p.burst, .int .i64 p.lev] 73)) w.heap.size p (.slice a1 p.ns.length k1)) := ⟨heap_new _ _, h.below (bx1 _ _)⟩
  clear h
  unfold poA poC
  go_enter Try.func58, Try.ntmps58
  go_wp2_with fail
  generalize (w.alloc (.cells #[.int .i64 p.net, .slice a1 p.ns.length k1, .int .i64 p.own, .bool p.up, .int .i64 p.rate, .int .i64 p.burst, .int .i64 p.lev] 73)) = u0 at *
  refine Calls.mono (portRight_any HX.out) ?_
  rintro e u1 ⟨rfl, hb1⟩
  have HB1 : Hid (Below w.heap.size w u1) := HB.out.trans (hb1.mono HB.out.size)
  clear hb1
  go_wp2
  go_ret
  exact ⟨rfl, HB1.out⟩
end Go.Proofs.Ytefeahilamiiaaa
