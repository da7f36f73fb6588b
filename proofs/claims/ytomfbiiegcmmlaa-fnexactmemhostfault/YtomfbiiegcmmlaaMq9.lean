import Derived.Test.YtomfbiiegcmmlaaMq8
namespace Go.Proofs.Ytomfbiiegcmmlaa
open Go.ChangeShapes Go.WideShapes Go.ChangeAt Go.RowKit

set_option maxRecDepth 100000
/-- A slot follows upon the first one. -/
def eqK (ss : List SL) (k : Nat) : Bool := (ss.getD k sZ0).pos == IntKind.i64.wrap ((ss.getD 0 sZ0).pos + (k : Int))
/-- Four slots may be a huge group. -/
def mbB (h : MH) (ss : List SL) : Bool := (List.range 4).all (eqK ss) && (((ss.getD 0 sZ0).pos.tmod 4 == 0) && ss.all (owB h))
set_option maxHeartbeats 8000000 in
theorem mayBeHuge_any {w : World} {B : Nat} {h : MH} {a : HA} (hQ : QH w B h a) (hlc : h.cs.length ≤ 1048576) {g2 o2 k2 : Nat} {ss : List SL} (hs : SLrow w (.slice (some ⟨g2, o2, none⟩) 4 k2) ss) (hss : ss.length = 4) {lv : Value} (hI : Irow w lv (ldL h.cs 1 (allS h))) : Calls Try.prog 116 #[.pointer (some ⟨B, 0, none⟩), .slice (some ⟨g2, o2, none⟩) 4 k2, lv] w fun e w' => e = .returned (.bool (mbB h ss)) ∧ Below w.heap.size w w' := by
  obtain ⟨an, kn, rfl⟩ := hI.sl
  have HOC : Hid (∀ u, Below w.heap.size w u → Calls Try.prog 134 #[.pointer (some ⟨B, 0, none⟩), .slice (some ⟨g2, o2, none⟩) 4 k2, .slice an (ldL h.cs 1 (allS h)).length kn] u fun e w' => e = .returned (.bool (ss.all (owB h))) ∧ Below u.heap.size u w') := fun u hu => ownCells_any (hQ.below hu) hlc (hs.below hu) (by omega) (hI.below hu)
  obtain ⟨g3, o3, cap3, hv, _, hg, hc⟩ := hs.resolve_left (fun h => by rw [h.1] at hss; simp at hss)
  injection hv with hv1 hv2 hv3
  injection hv1 with hv4
  injection hv4 with hv5 hv6
  subst hv5 hv6 hv3
  have HCC : Hid (∀ u k (hk : k < ss.length), Below w.heap.size w u → u.cell? ⟨g2, o2 + k * 3, none⟩ = some (.int .i64 ss[k].kind) ∧ u.cell? ⟨g2, o2 + k * 3 + 1, none⟩ = some (.int .i64 ss[k].pos) ∧ u.cell? ⟨g2, o2 + k * 3 + 2, none⟩ = some (.int .i64 ss[k].used)) := fun u k hk hu => hc.below hu hg k hk
  obtain ⟨f, hf⟩ : ∃ f, (ss.getD 0 sZ0).pos = f := ⟨_, rfl⟩
  have hf0 : ss[0].pos = f := by rw [← hf, List.getD_eq_getElem?_getD, List.getElem?_eq_getElem (by omega), Option.getD_some]
  have d0 := (hc 0 (by omega)).2.1
  rw [hf0] at d0
  simp only [Nat.zero_mul, Nat.add_zero] at d0
  obtain ⟨G, hG⟩ : ∃ G, mbB h ss = G := ⟨_, rfl⟩
  rw [hG]
  unfold mbB at hG
  rw [hf] at hG
  have HEK : Hid (∀ k (hk : k < ss.length), eqK ss k = (ss[k].pos == IntKind.i64.wrap (f + (k : Int)))) := fun k hk => by
    unfold eqK
    rw [hf, List.getD_eq_getElem?_getD, List.getElem?_eq_getElem hk, Option.getD_some]
  have HNO : Hid (∀ k, k < 4 → eqK ss k = false → G = false) := fun k hk he => by rw [← hG, allB_no' hk he, Bool.false_and]
  have HYS : Hid ((∀ k, k < 4 → eqK ss k = true) → ((f.tmod 4 == 0) && ss.all (owB h)) = G) := fun h1 => by
    rw [← hG, List.all_eq_true.2 (fun k hk => h1 k (List.mem_range.1 hk)), Bool.true_and]
  have HSS : Hid (ss.length = 4) := hss
  generalize ss.all (owB h) = oc at *
  clear hG hf hf0 hQ hI hs hc hv2 hss
  have hb1 : (o2 + 1 : Nat) = o2 + 1 := rfl
  clear hb1
  go_enter Try.func116, Try.ntmps116
  go_wp2
  go_loopw [16] (fun i wr => ∃ k : Nat, k ≤ 4 ∧ i = .int .i64 k ∧ (∀ j, j < k → eqK ss j = true) ∧ Below w.heap.size w wr) (fun i _ => 4 - (intOf i).toNat)
  case atStart => exact ⟨0, by omega, rfl, fun j hj => absurd hj (Nat.not_lt_zero _), Below.refl _ _⟩
  case round =>
    obtain ⟨k, hk, rfl, hal, hb⟩ := hrel
    have HA : Hid (∀ j, j < k → eqK ss j = true) := hal
    have HB : Hid (Below w.heap.size w wr) := hb
    clear hal
    by_cases hlt : k < 4
    · have hkl : k < ss.length := by rw [HSS.out]; exact hlt
      obtain ⟨e0, e1, e2⟩ := HCC.out wr k hkl hb
      have he := HEK.out k hkl
      have HX : Hid (eqK ss k = false → G = false) := fun h => HNO.out k hlt h
      have HX2 : Hid (eqK ss k = true → ∀ j, j < k + 1 → eqK ss j = true) := fun h j hj => by
        rcases Nat.lt_succ_iff_lt_or_eq.1 hj with h2 | h2
        · exact HA.out j h2
        · subst h2; exact h
      have hk0 : (0 : Int) ≤ (k : Int) := by omega
      have hk1 : (k : Int) < 4 := by omega
      have hgw : g2 < wr.heap.size := Nat.lt_of_lt_of_le hg hb.size
      generalize ss[k] = y at *
      have HB2 : Hid (Below w.heap.size w (wr.alloc (.cells #[.int .i64 y.kind, .int .i64 y.pos, .int .i64 y.used] 99))) := hb.alloc hb.size _
      obtain ⟨z, hz⟩ : ∃ z, IntKind.i64.wrap (f + (k : Int)) = z := ⟨_, rfl⟩
      rw [hz] at he
      clear hb
      cases hq : (y.pos == z) with
      | true =>
        have HYY : Hid _ := HX2.out (by rw [he, hq])
        have hq2 : (y.pos != z) = false := by simp [bne, hq]
        clear he
        go_wp2
        exact ⟨⟨k + 1, by omega, by simp, HYY.out, HB2.out⟩, by simp [intOf]; omega⟩
      | false =>
        have hg0 := HX.out (by rw [he, hq])
        subst hg0
        have hq2 : (y.pos != z) = true := by simp [bne, hq]
        clear he
        go_wp2
        go_ret
        exact ⟨rfl, HB2.out⟩
    · obtain rfl : k = 4 := by omega
      have hyy := HYS.out HA.out
      obtain ⟨r, hr⟩ : ∃ r, f.tmod 4 = r := ⟨_, rfl⟩
      rw [hr] at hyy
      have HYY : Hid ((r == 0 && oc) = G) := hyy
      clear hyy
      cases hq : (r == 0) with
      | true =>
        rw [hq, Bool.true_and] at HYY
        go_wp2_with (go_at_call 134; refine Calls.mono (HOC.out _ HB.out) ?_; rintro e v1 ⟨rfl, hu⟩; have HU : Hid (Below w.heap.size w v1) := HB.out.trans (hu.mono HB.out.size); clear hu)
        go_ret
        exact ⟨ret_bool HYY.out, HU.out⟩
      | false =>
        rw [hq, Bool.false_and] at HYY
        go_wp2
        go_ret
        exact ⟨ret_bool HYY.out, HB.out⟩
end Go.Proofs.Ytomfbiiegcmmlaa
