import Derived.Test.YtmbdclbddbbdpaaKw1
import Derived.Test.YtmbdclbddbbdpaaLG
import Derived.Test.YtmbdclbddbbdpaaRowPV1
import Derived.Test.YtmbdclbddbbdpaaHl
import Derived.Deep.CutRange
import Derived.Deep.RegionWith
namespace Go.Proofs.Ytmbdclbddbbdpaa
open Go.ChangeShapes Go.WideShapes Go.ChangeAt Go.RowKit

/-- The words of a row of ports. -/
def ptL (zs : List PV) : List Int := zs.flatMap fun z => [z.port, z.value]
theorem ptL_len (zs : List PV) : (ptL zs).length = 2 * zs.length := by
  induction zs with
  | nil => rfl
  | cons z zs ih =>
    have e : ptL (z :: zs) = [z.port, z.value] ++ ptL zs := rfl
    rw [e, List.length_append, ih, List.length_cons]
    simp
    omega
theorem ptL_take (zs : List PV) (k : Nat) (hk : k < zs.length) : ptL (zs.take (k + 1)) = ptL (zs.take k) ++ [zs[k].port, zs[k].value] := by
  unfold ptL
  rw [List.take_succ_eq_append_getElem hk, List.flatMap_append]
  simp
theorem pwT_app (a b : List Int) : pwT (a ++ b) = pwT a ++ pwT b := by
  unfold pwT pwL
  rw [List.map_append]
  apply ByteArray.ext
  simp [catB]
theorem pwT_two (x y : Int) : pwT [x, y] = pw x ++ pw y := by
  apply ByteArray.ext
  simp [pwT, pwL, catB]
theorem pwT_sz (t : List Int) : (pwT t).size = 4 * t.length := by
  rw [← pwL_size t]
  simp [pwT, ByteArray.size]
/-- Two numbers more. -/
theorem app2I {w : World} {B n : Nat} {v : Value} {xs : List Value} (H0 : w.ownsRow B 2 1 v n xs) (x y : Int) (hn : n ≤ 1048576) (hB : B ≤ w.heap.size) :
    ∃ v' u', (Builtin.append_ #[22, 22] 22 #[v, .slice (some ⟨w.heap.size, 0, none⟩) 2 2]).run Try.prog (w.alloc (.cells #[.int .i64 x, .int .i64 y] 2)) = .ok v' u' ∧ (u'.ownsRow B 2 1 v' (n + 2) (xs ++ [.int .i64 x, .int .i64 y]) ∧ (w.alloc (.cells #[.int .i64 x, .int .i64 y] 2)).grownBy u' v.ownBlock) := by
  obtain ⟨i0, hi0, hz0, hz1, hz2⟩ := info_parts Try.info2
  obtain ⟨v', w', hr, h2, h3, _, _⟩ := run_append_own_at (P := Try.prog) (w.alloc (.cells #[.int .i64 x, .int .i64 y] 2)) B 22 22 2 i0 (.int .i64 0) 1 8 Try.underlying22 hi0 hz0 hz1 hz2 rfl (by decide) v n xs (World.ownsRow.alloc H0 _) ⟨w.heap.size, 0, none⟩ 2 2 [.int .i64 x, .int .i64 y] rfl (new_cells w [.int .i64 x, .int .i64 y] 2) (by intro u hu; simp at hu; rcases hu with rfl | rfl <;> rfl) (by unfold maxLen; omega) (by omega) (by simp; omega)
  exact ⟨v', w', hr, h2, h3⟩
set_option maxRecDepth 100000 in
set_option maxHeartbeats 4000000 in
theorem packPorts_any {w : World} {v : Value} {zs : List PV} (h : PVrow w v zs) (hl : zs.length ≤ 100) : Calls Try.prog 55 #[v] w fun e w' => e = .returned (.string (pwT (ptL zs))) ∧ Below w.heap.size w w' := by
  obtain ⟨ao, cap, rfl⟩ := h.sl
  have HR : Hid (PVrow w (.slice ao zs.length cap) zs) := h
  clear h
  go_enter Try.func55, Try.ntmps55
  go_wp2
  go_loopw [3, 8] (fun st i wr => ∃ k : Nat, k ≤ zs.length ∧ i = .int .i64 k ∧ wr.ownsRow w.heap.size 2 1 st (2 * k) (iR (ptL (zs.take k))) ∧ Below w.heap.size w wr) (fun _ i _ => zs.length - (intOf i).toNat)
  case atStart => exact ⟨0, Nat.zero_le _, rfl, World.ownsRow_nil _ _ _ _, Below.refl _ _⟩
  case round =>
    obtain ⟨k, hk, rfl, hown, hb⟩ := hrel
    obtain ⟨a3, c3, rfl⟩ := i_sl hown
    have HOW : Hid (wr.ownsRow w.heap.size 2 1 (.slice a3 (2 * k) c3) (2 * k) (iR (ptL (zs.take k)))) := hown
    have HB : Hid (Below w.heap.size w wr) := hb
    clear hown
    by_cases hlt : k < zs.length
    · obtain ⟨g, o, cap2, hv, _, hg, hc⟩ := HR.out.resolve_left (fun h => by rw [h.1] at hlt; simp at hlt)
      injection hv with hv1 hv2 hv3
      subst hv1 hv3
      obtain ⟨d0, d1⟩ := hc.below hb hg k hlt
      have HS : Hid (ptL (zs.take (k + 1)) = ptL (zs.take k) ++ [zs[k].port, zs[k].value]) := ptL_take zs k hlt
      generalize zs[k] = z at *
      have hk0 : (0 : Int) ≤ (k : Int) := by omega
      have hk1 : (k : Int) < (zs.length : Int) := by omega
      have hk9 : (k : Int) ≤ 100 := by omega
      have HLN : Hid (LG w (wr.alloc (.cells #[.int .i64 z.port, .int .i64 z.value] 69)) wr.heap.size #[.int .i64 z.port, .int .i64 z.value] 69) := ⟨HB.out.trans ((bx1 wr _).mono HB.out.size), heap_new _ _, HB.out.size⟩
      have HO1 : Hid ((wr.alloc (.cells #[.int .i64 z.port, .int .i64 z.value] 69)).ownsRow w.heap.size 2 1 (.slice a3 (2 * k) c3) (2 * k) (iR (ptL (zs.take k)))) := World.ownsRow.alloc HOW.out _
      clear hb hc hv2
      go_upto_region 5 with fail
      clear d0 d1
      generalize (wr.alloc (.cells #[.int .i64 z.port, .int .i64 z.value] 69)) = u0 at *
      generalize wr.heap.size = b0 at *
      have k0 := HLN.out.cel 0 _ rfl
      have k1 := HLN.out.cel 1 _ rfl
      have kl := HLN.out.lt
      have HAP : Hid _ := app2I HO1.out z.port z.value (by omega) HLN.out.bel.size
      have HOB : Hid (∀ j, (Value.slice a3 (2 * k) c3).ownBlock = some j → w.heap.size ≤ j) := fun j hj => (HO1.out.lt j hj).1
      go_wp2_with (at_builtin; (refine wl_append_exB rfl _ _ 22 rfl _ _ rfl rfl HAP.out ?_; rintro v' u' ⟨ho, hg⟩; obtain ⟨a5, c5, rfl⟩ := i_sl ho; have HO2 : Hid (u'.ownsRow w.heap.size 2 1 (.slice a5 (2 * k + 2) c5) (2 * (k + 1)) (iR (ptL (zs.take (k + 1))))) := (by rw [HS.out]; unfold iR at ho ⊢; rw [List.map_append]; exact ho); have HB2 : Hid (Below w.heap.size w u') := ((HLN.out.bel.alloc HLN.out.bel.size _).grown hg (by have := HLN.out.bel.size; simp; omega) HOB.out); clear ho hg HAP HOB))
      exact ⟨⟨k + 1, hlt, by go_num, HO2.out, HB2.out⟩, by simp [intOf]; omega⟩
    · obtain rfl : k = zs.length := by omega
      have HP : Hid (Calls Try.prog 53 #[.slice a3 (2 * zs.length) c3] wr fun e w' => e = .returned (.string (pwT (ptL zs))) ∧ Below wr.heap.size wr w') := packWords_any (Irow.of (B := w.heap.size) (by have h9 := HOW.out; rw [List.take_length] at h9; rw [ptL_len]; exact h9)) (by rw [ptL_len]; omega)
      have hk1 : ¬ (zs.length : Int) < (zs.length : Int) := by omega
      clear HOW
      go_wp2_with (go_at_call 53; refine Calls.mono HP.out ?_; rintro e u1 ⟨rfl, hu⟩; have HU : Hid (Below w.heap.size w u1) := HB.out.trans (hu.mono HB.out.size); clear hu)
      go_ret
      exact ⟨rfl, HU.out⟩
set_option maxRecDepth 100000 in
set_option maxHeartbeats 4000000 in
theorem l20Ports_any {w : World} {v : Value} {zs : List PV} (h : PVrow w v zs) (hl : zs.length ≤ 100) : Calls Try.prog 39 #[v] w fun e w' => e = .returned (.string (pwT (ptL zs))) ∧ Below w.heap.size w w' := by
  obtain ⟨ao, cap, rfl⟩ := h.sl
  have HR : Hid (PVrow w (.slice ao zs.length cap) zs) := h
  clear h
  go_enter Try.func39, Try.ntmps39
  go_wp2
  go_loopw [3, 4] (fun out i wr => ∃ k : Nat, k ≤ zs.length ∧ i = .int .i64 k ∧ out = .string (pwT (ptL (zs.take k))) ∧ Below w.heap.size w wr) (fun _ i _ => zs.length - (intOf i).toNat)
  case atStart => exact ⟨0, Nat.zero_le _, rfl, rfl, Below.refl _ _⟩
  case round =>
    obtain ⟨k, hk, rfl, rfl, hb⟩ := hrel
    have HB : Hid (Below w.heap.size w wr) := hb
    by_cases hlt : k < zs.length
    · obtain ⟨g, o, cap2, hv, _, hg, hc⟩ := HR.out.resolve_left (fun h => by rw [h.1] at hlt; simp at hlt)
      injection hv with hv1 hv2 hv3
      subst hv1 hv3
      obtain ⟨d0, d1⟩ := hc.below hb hg k hlt
      have hgw : g < wr.heap.size := Nat.lt_of_lt_of_le hg hb.size
      have HS : Hid (pwT (ptL (zs.take (k + 1))) = pwT (ptL (zs.take k)) ++ pw zs[k].port ++ pw zs[k].value) := (show _ = _ by rw [ptL_take zs k hlt, pwT_app, pwT_two, ByteArray.append_assoc])
      have hbs : (pwT (ptL (zs.take k))).size ≤ 800 := by
        rw [pwT_sz, ptL_len, List.length_take]
        omega
      have HP1 : Hid (∀ u, Calls Try.prog 17 #[.int .i64 zs[k].port] u fun e w' => e = .returned (.string (pw zs[k].port)) ∧ Below u.heap.size u w') := fun u => specPutWord_any zs[k].port u
      have HP2 : Hid (∀ u, Calls Try.prog 17 #[.int .i64 zs[k].value] u fun e w' => e = .returned (.string (pw zs[k].value)) ∧ Below u.heap.size u w') := fun u => specPutWord_any zs[k].value u
      have h1 := pw_sz zs[k].port
      have h2 := pw_sz zs[k].value
      generalize pwT (ptL (zs.take k)) = X at *
      generalize zs[k] = z at *
      generalize pw z.port = P1 at *
      generalize pw z.value = P2 at *
      have hadd1 := fun w => run_string_add_sum (P := Try.prog) w X P1 (by omega)
      obtain ⟨Y1, hY1⟩ : ∃ Y1, X ++ P1 = Y1 := ⟨_, rfl⟩
      have hz1 : Y1.size ≤ 900 := by rw [← hY1, ByteArray.size_append]; omega
      rw [hY1] at hadd1 HS
      have hadd2 := fun w => run_string_add_sum (P := Try.prog) w Y1 P2 (by omega)
      obtain ⟨Y2, hY2⟩ : ∃ Y2, Y1 ++ P2 = Y2 := ⟨_, rfl⟩
      rw [hY2] at hadd2 HS
      have hk0 : (0 : Int) ≤ (k : Int) := by omega
      have hk1 : (k : Int) < (zs.length : Int) := by omega
      have hk9 : (k : Int) ≤ 100 := by omega
      have HSB : Hid ((fun w9 => Below w.heap.size w w9 ∧ w9.cell? ⟨g, o + k * 2, none⟩ = some (.int .i64 z.port) ∧ w9.cell? ⟨g, o + k * 2 + 1, none⟩ = some (.int .i64 z.value) ∧ g < w9.heap.size) wr.drew) := ⟨bdn HB.out 1, d0, d1, hgw⟩
      clear hb hc hv2 hbs d0 d1 hY1 hY2
      go_upto_region 5 with fail
      refine wp_region_held (S := fun w9 => Below w.heap.size w w9 ∧ w9.cell? ⟨g, o + k * 2, none⟩ = some (.int .i64 z.port) ∧ w9.cell? ⟨g, o + k * 2 + 1, none⟩ = some (.int .i64 z.value) ∧ g < w9.heap.size) (by kernel_rfl) ?_
      change wpAnyH _ _ _ _ _ _ _ _ (World.drew _)
      refine wpAnyH_take (i := 0) (v := .string X) rfl (by kernel_rfl) (by kernel_rfl) (by kernel_rfl) (fun _ _ _ h => h) (Or.inl ⟨by kernel_rfl, fun w9 h9 => ?_⟩) HSB.out ?_
      · go_simp
      refine wpAnyH_take (i := 1) (v := .slice (some ⟨g, o, none⟩) zs.length cap) rfl (by kernel_rfl) (by kernel_rfl) (by kernel_rfl) (fun _ _ _ h => h) (Or.inl ⟨by kernel_rfl, fun w9 h9 => ?_⟩) HSB.out ?_
      · go_simp
      refine wpAnyH_take (i := 2) (v := .int .i64 (k : Int)) rfl (by kernel_rfl) (by kernel_rfl) (by kernel_rfl) (fun _ _ _ h => h) (Or.inl ⟨by kernel_rfl, fun w9 h9 => ?_⟩) HSB.out ?_
      · go_simp
      refine wpAnyH_take (i := 3) (v := .pointer (some ⟨g, o + k * 2, none⟩)) rfl (by kernel_rfl) (by kernel_rfl) (by kernel_rfl) (fun _ _ _ h => h) (Or.inl ⟨by kernel_rfl, fun w9 h9 => ?_⟩) HSB.out ?_
      · go_simp
      refine wpAnyH_take (i := 4) (v := .pointer (some ⟨g, o + k * 2, none⟩)) rfl (by kernel_rfl) (by kernel_rfl) (by kernel_rfl) (fun _ _ _ h => h) (Or.inl ⟨by kernel_rfl, fun w9 h9 => ?_⟩) HSB.out ?_
      · go_simp
      refine wpAnyH_take (i := 5) (v := .int .i64 z.port) rfl (by kernel_rfl) (by kernel_rfl) (by kernel_rfl) (fun _ _ _ h => h) (Or.inl ⟨by kernel_rfl, fun w9 h9 => ?_⟩) HSB.out ?_
      · obtain ⟨_, d0, d1, dl⟩ := h9; go_simp
      refine wpAnyH_take (i := 8) (v := .slice (some ⟨g, o, none⟩) zs.length cap) rfl (by kernel_rfl) (by kernel_rfl) (by kernel_rfl) (fun _ _ _ h => h) (Or.inl ⟨by kernel_rfl, fun w9 h9 => ?_⟩) HSB.out ?_
      · go_simp
      refine wpAnyH_take (i := 9) (v := .int .i64 (k : Int)) rfl (by kernel_rfl) (by kernel_rfl) (by kernel_rfl) (fun _ _ _ h => h) (Or.inl ⟨by kernel_rfl, fun w9 h9 => ?_⟩) HSB.out ?_
      · go_simp
      refine wpAnyH_take (i := 10) (v := .pointer (some ⟨g, o + k * 2, none⟩)) rfl (by kernel_rfl) (by kernel_rfl) (by kernel_rfl) (fun _ _ _ h => h) (Or.inl ⟨by kernel_rfl, fun w9 h9 => ?_⟩) HSB.out ?_
      · go_simp
      refine wpAnyH_take (i := 11) (v := .pointer (some ⟨g, o + k * 2 + 1, none⟩)) rfl (by kernel_rfl) (by kernel_rfl) (by kernel_rfl) (fun _ _ _ h => h) (Or.inl ⟨by kernel_rfl, fun w9 h9 => ?_⟩) HSB.out ?_
      · go_simp
      refine wpAnyH_take (i := 12) (v := .int .i64 z.value) rfl (by kernel_rfl) (by kernel_rfl) (by kernel_rfl) (fun _ _ _ h => h) (Or.inl ⟨by kernel_rfl, fun w9 h9 => ?_⟩) HSB.out ?_
      · obtain ⟨_, d0, d1, dl⟩ := h9; go_simp
      refine held_one 6 (by kernel_rfl) rfl (by kernel_rfl) fun K hK => ?_
      go_simp
      go_wp2_with (go_at_call 17; refine Calls.mono (HP1.out _) ?_; rintro e u1 ⟨rfl, hb⟩; have HS1 : Hid ((fun w9 => Below w.heap.size w w9 ∧ w9.cell? ⟨g, o + k * 2, none⟩ = some (.int .i64 z.port) ∧ w9.cell? ⟨g, o + k * 2 + 1, none⟩ = some (.int .i64 z.value) ∧ g < w9.heap.size) u1) := ⟨HSB.out.1.trans (hb.mono HSB.out.1.size), (hb.cell (p := ⟨g, o + k * 2, none⟩) HSB.out.2.2.2).trans HSB.out.2.1, (hb.cell (p := ⟨g, o + k * 2 + 1, none⟩) HSB.out.2.2.2).trans HSB.out.2.2.1, Nat.lt_of_lt_of_le HSB.out.2.2.2 hb.size⟩; clear hb)
      refine hK _ _ HS1.out ?_
      clear hK K
      refine wpAnyH_take (i := 7) (v := .string Y1) rfl (by kernel_rfl) (by kernel_rfl) (by kernel_rfl) (fun _ _ _ h => h) (Or.inl ⟨by kernel_rfl, fun w9 h9 => ?_⟩) HS1.out ?_
      · go_simp
      refine held_one 13 (by kernel_rfl) rfl (by kernel_rfl) fun K hK => ?_
      go_simp
      go_wp2_with (go_at_call 17; refine Calls.mono (HP2.out _) ?_; rintro e u2 ⟨rfl, hb⟩; have HS2 : Hid ((fun w9 => Below w.heap.size w w9 ∧ w9.cell? ⟨g, o + k * 2, none⟩ = some (.int .i64 z.port) ∧ w9.cell? ⟨g, o + k * 2 + 1, none⟩ = some (.int .i64 z.value) ∧ g < w9.heap.size) u2) := ⟨HS1.out.1.trans (hb.mono HS1.out.1.size), (hb.cell (p := ⟨g, o + k * 2, none⟩) HS1.out.2.2.2).trans HS1.out.2.1, (hb.cell (p := ⟨g, o + k * 2 + 1, none⟩) HS1.out.2.2.2).trans HS1.out.2.2.1, Nat.lt_of_lt_of_le HS1.out.2.2.2 hb.size⟩; clear hb)
      refine hK _ _ HS2.out ?_
      clear hK K
      refine wpAnyH_take (i := 14) (v := .string Y2) rfl (by kernel_rfl) (by kernel_rfl) (by kernel_rfl) (fun _ _ _ h => h) (Or.inl ⟨by kernel_rfl, fun w9 h9 => ?_⟩) HS2.out ?_
      · go_simp
      refine wpAnyH_take (i := 15) (v := .string Y2) rfl (by kernel_rfl) (by kernel_rfl) (by kernel_rfl) (fun _ _ _ h => h) (Or.inl ⟨by kernel_rfl, fun w9 h9 => ?_⟩) HS2.out ?_
      · go_simp
      refine wpAnyH_done (by kernel_rfl) ?_ _
      go_simp
      go_wp2
      go_roundw
      case rel => exact ⟨k + 1, hlt, by go_num, by rw [HS.out], HS2.out.1⟩
      case measure => simp [intOf]; omega
    · obtain rfl : k = zs.length := by omega
      have hk1 : ¬ (zs.length : Int) < (zs.length : Int) := by omega
      have HG : Hid (pwT (ptL (zs.take zs.length)) = pwT (ptL zs)) := (show _ = _ by rw [List.take_length])
      generalize pwT (ptL (zs.take zs.length)) = X at *
      go_wp2
      go_ret
      exact ⟨ret_str HG.out, hb⟩
end Go.Proofs.Ytmbdclbddbbdpaa
