import Derived.Test.YtfagohdmepnkkaaTFl2
import Derived.Laws.CopyOwn
namespace Go.Proofs.Ytfagohdmepnkkaa
open Go.ChangeShapes Go.WideShapes Go.ChangeAt Go.RowKit

set_option maxRecDepth 100000 in
set_option maxHeartbeats 4000000 in
/-- slices.DeleteFunc at a row of one's own. -/
theorem delT {w : World} {B : Nat} {ao : Option Addr} {cap : Nat} {zs : List TE} (h : w.ownsRow B 66 5 (.slice ao zs.length cap) zs.length (teR zs)) (hB : B ≤ w.heap.size) (hl : zs.length ≤ 16) (F : Nat) (caps : Array Value) (p : TE → Bool) (hcf : ∀ (xs : Array Value) (w' : World), (callFunc F xs).run Try.prog w' = .ok (.enter F xs) w')
    (hf : ∀ (x : TE), x ∈ zs → ∀ (w' : World), Below B w w' → Calls Try.prog F (#[teA x] ++ caps) w' fun r w'' => r = .returned (.bool (p x)) ∧ Below w'.heap.size w' w'') :
    Calls Try.prog 82 #[.slice ao zs.length cap, .func (.func F) #[] caps] w fun r w' => r = .returned (.slice ao (zs.filter fun x => !p x).length cap) ∧ w'.ownsRow B 66 5 (.slice ao (zs.filter fun x => !p x).length cap) (zs.filter fun x => !p x).length (teR (zs.filter fun x => !p x)) ∧ Below B w w' := by
  have HI := indexFunc_mem (TErow.of h) (by omega) F caps p hcf (fun x hx w' hw => hf x hx w' (hw.mono hB))
  have HO : Hid (w.ownsRow B 66 5 (.slice ao zs.length cap) zs.length (teR zs)) := h
  have HF : Hid (∀ (x : TE), x ∈ zs → ∀ (w' : World), Below B w w' → Calls Try.prog F (#[teA x] ++ caps) w' fun r w'' => r = .returned (.bool (p x)) ∧ Below w'.heap.size w' w'') := hf
  by_cases ha : zs.any p = true
  · have hi := idxI_yes ha
    obtain ⟨k0, hk0⟩ : ∃ k : Nat, idxI p zs = k := ⟨(idxI p zs).toNat, by omega⟩
    rw [hk0] at HI hi
    have hkl : k0 < zs.length := by omega
    have HK : Hid (zs.findIdx? p = some k0) := by
      show zs.findIdx? p = some k0
      unfold idxI at hk0
      cases hq : zs.findIdx? p with
      | none => rw [hq] at hk0; simp only at hk0; omega
      | some q => rw [hq] at hk0; simp only at hk0; congr 1; omega
    obtain ⟨g, cap2, cur0, hv, hBg, hg0, hcp, hmx, hcs, htk⟩ := h.2.resolve_left (fun q => by omega)
    injection hv with hv1 hv2 hv3
    subst hv1 hv3
    have hI : Hid _ := HI
    have HCP : Hid (zs.length ≤ cap) := hcp
    have hne : ((k0 : Int) == -1) = false := by
      simp
    clear HI hf h ha hk0 hg0 hcs htk hi hv2 cur0
    go_enter Try.func82, Try.ntmps82
    go_wp2_with (go_at_call 86; refine Calls.mono hI.out ?_; rintro r u1 ⟨rfl, hu1⟩; have HB1 : Hid (Below w.heap.size w u1) := hu1; clear hu1 hI)
    go_loopw [5, 6] (fun i j wr => ∃ (a b : Nat) (ys : List TE), i = .int .i64 a ∧ j = .int .i64 b ∧ a < b ∧ b ≤ zs.length ∧ ys.length = zs.length ∧ wr.ownsRow B 66 5 (.slice (some ⟨g, 0, none⟩) zs.length cap) zs.length (teR ys) ∧ Below B w wr ∧ Hid (ys.take a = (zs.take b).filter (fun x => !p x) ∧ ys.drop b = zs.drop b)) (fun _ j _ => zs.length - (intOf j).toNat)
    case atStart =>
      refine ⟨k0, k0 + 1, zs, rfl, by simp, Nat.lt_succ_self _, hkl, rfl, te_below HO.out HB1.out, HB1.out.mono hB, ?_⟩
      obtain ⟨_, q1, q2⟩ := List.findIdx?_eq_some_iff_getElem.1 HK.out
      show zs.take k0 = _ ∧ _
      refine ⟨?_, rfl⟩
      rw [fil_take hkl, if_pos q1, List.append_nil]
      symm
      rw [List.filter_eq_self]
      intro x hx
      obtain ⟨j, hj, rfl⟩ := List.getElem_of_mem hx
      rw [List.length_take] at hj
      rw [List.getElem_take]
      have := q2 j (by omega)
      simpa using this
    case round =>
      obtain ⟨a, b, ys, rfl, rfl, hab, hbl, hy, hown, hb, hx⟩ := hrel
      have HB : Hid (Below B w wr) := hb
      have HOW : Hid (wr.ownsRow B 66 5 (.slice (some ⟨g, 0, none⟩) ys.length cap) ys.length (teR ys)) := (show wr.ownsRow B 66 5 (.slice (some ⟨g, 0, none⟩) ys.length cap) ys.length (teR ys) by rw [hy]; exact hown)
      by_cases hlt : b < zs.length
      · have hz := te_read HOW.out b (by omega)
        have hyz := drop_get hx.out.2 (by omega) hlt
        rw [hyz] at hz
        obtain ⟨z, hze⟩ : ∃ z, zs[b] = z := ⟨_, rfl⟩
        rw [hze] at hz
        obtain ⟨d0, d1, d2, d3, d4⟩ := hz
        have HZ : Hid (zs[b] = z) := hze
        have HY : Hid (ys.length = zs.length) := hy
        have hk0 : (0 : Int) ≤ (b : Int) := by omega
        have hk1 : (b : Int) < (zs.length : Int) := by omega
        have HX : Hid (ys.take a = (zs.take b).filter (fun x => !p x) ∧ ys.drop b = zs.drop b) := hx
        clear hown hb hx hze hyz hy
        have HBA : Hid (Below wr.heap.size wr (wr.alloc (.cells #[.int .i64 z.asid, .int .i64 z.page, .int .i64 z.frame, .int .i64 z.flags, .bool z.large] 66))) := (Below.refl _ _).alloc (Nat.le_refl _) _
        have HBX : Hid ((wr.alloc (.cells #[.int .i64 z.asid, .int .i64 z.page, .int .i64 z.frame, .int .i64 z.flags, .bool z.large] 66)).heap[wr.heap.size]? = some (.cells #[.int .i64 z.asid, .int .i64 z.page, .int .i64 z.frame, .int .i64 z.flags, .bool z.large] 66 (0, 0))) := heap_new _ _
        go_wp2_with fail
        generalize wr.alloc (.cells #[.int .i64 z.asid, .int .i64 z.page, .int .i64 z.frame, .int .i64 z.flags, .bool z.large] 66) = W at *
        have HBW : Hid (Below B w W) := HB.out.trans (HBA.out.mono (Nat.le_trans hB HB.out.size))
        refine Calls.mono (HF.out z (by rw [← HZ.out]; exact List.getElem_mem hlt) _ HBW.out) ?_
        rintro r u5 ⟨rfl, hu5⟩
        have HB5 : Hid (Below B w u5) := HBW.out.trans (hu5.mono (Nat.le_trans hB HBW.out.size))
        have HO5 : Hid (u5.ownsRow B 66 5 (.slice (some ⟨g, 0, none⟩) ys.length cap) ys.length (teR ys)) := te_below (te_below HOW.out HBA.out) hu5
        have HX5 : Hid (u5.heap[wr.heap.size]? = some (.cells #[.int .i64 z.asid, .int .i64 z.page, .int .i64 z.frame, .int .i64 z.flags, .bool z.large] 66 (0, 0))) := (hu5.block _ (Array.getElem?_eq_some_iff.1 HBX.out).1).trans HBX.out
        have hgw : g < wr.heap.size := (HOW.out.lt g rfl).2
        clear hu5 d0 d1 d2 d3 d4
        cases hp : p z
        · obtain ⟨y0, y1, y2, y3, y4⟩ := cel5 HX5.out
          obtain ⟨v, v0, v1, v2, v3, v4⟩ := te_cells HO5.out rfl a (by have := HY.out; omega)
          have hfz := HO5.out.frozenAt
          have n1 : ¬ g = wr.heap.size := by omega
          have n2 : ¬ wr.heap.size = g := by omega
          have ha0 : (0 : Int) ≤ (a : Int) := by omega
          have ha1 : (a : Int) < (zs.length : Int) := by omega
          have ST : Hid _ := own_setTE HO5.out a (by have := HY.out; omega) z
          go_wp2
          refine ⟨⟨a + 1, b + 1, ys.set a z, by go_num, by go_num, by omega, hlt, by rw [List.length_set]; exact HY.out, ?_, ?_, ?_⟩, by simp [intOf]; omega⟩
          · have := ST.out.1
            rw [HY.out] at this
            exact this
          · exact HB5.out.grown ST.out.2 (Nat.le_trans hB HB5.out.size) (fun j hj => by cases hj; exact hBg)
          · show (ys.set a z).take (a + 1) = _ ∧ _
            rw [take_set_app (by have := HY.out; omega), HX.out.1, fil_take hlt, HZ.out, hp, if_neg (by decide), List.drop_set_of_lt (by omega)]
            exact ⟨rfl, drop_succ HX.out.2⟩
        · go_wp2
          refine ⟨⟨a, b + 1, ys, rfl, by go_num, by omega, hlt, HY.out, ?_, HB5.out, ?_⟩, by simp [intOf]; omega⟩
          · have := HO5.out
            rw [HY.out] at this
            exact this
          · show ys.take a = _ ∧ _
            rw [fil_take hlt, HZ.out, hp, if_pos rfl, List.append_nil]
            exact ⟨HX.out.1, drop_succ HX.out.2⟩
      · obtain rfl : b = zs.length := by omega
        have hfl : zs.filter (fun x => !p x) = ys.take a := by rw [hx.out.1, List.take_length]
        have hfn : (zs.filter (fun x => !p x)).length = a := by rw [hfl, List.length_take]; omega
        obtain ⟨g2, cap2, cur, hv, hBg2, hgc, hcp2, hmx2, hcs, htk⟩ := hown.2.resolve_left (fun q => by omega)
        injection hv with hv1 hv2 hv3
        injection hv1 with hv4
        injection hv4 with hv5
        subst hv5 hv3
        have hcl := fun ty => run_clearT wr ty g (a * 5) (zs.length - a) (cap - a) cur hgc (by omega) (by rw [hcs]; omega)
        have s1 := fun u => sl_fromT g zs.length cap a (by omega) HCP.out u
        have s2 := fun u => sl_toT (some ⟨g, 0, none⟩) zs.length cap a (by omega) u
        have HB2 : Hid (Below B w (wr.setRow g (cur.toList.take (a * 5) ++ (Builtin.zeroCells zC5 (zs.length - a)).toList ++ cur.toList.drop (a * 5 + (zs.length - a) * 5)).toArray)) := below_setRow hb hBg _
        have HO2 : Hid ((wr.setRow g (cur.toList.take (a * 5) ++ (Builtin.zeroCells zC5 (zs.length - a)).toList ++ cur.toList.drop (a * 5 + (zs.length - a) * 5)).toArray).ownsRow B 66 5 (.slice (some ⟨g, 0, none⟩) a cap) a (teR (ys.take a))) := by
          have e1 : (teR (ys.take a)).length = a * 5 := by rw [teR_len, List.length_take]; congr 1; omega
          have e2 : (cur.toList.take (a * 5)).length = a * 5 := by rw [List.length_take, Array.length_toList, hcs]; omega
          have e3 : cur.toList.take (a * 5) = teR (ys.take a) := by
            have e4 : teR ys = teR (ys.take a) ++ teR (ys.drop a) := by rw [← teR_app, List.take_append_drop]
            have e5 : (cur.toList.take (zs.length * 5)).take (a * 5) = cur.toList.take (a * 5) := by rw [List.take_take]; congr 1; omega
            rw [← e5, htk, e4, ← e1, List.take_left]
          refine ⟨e1, .inr ⟨g, cap, _, rfl, hBg, setRow_heap _ _ _ _ _ _ hgc, by omega, hmx2, ?_, ?_⟩⟩
          · have q := HCP.out
            rw [List.size_toArray, List.length_append, List.length_append, zC_len, e2, List.length_drop, Array.length_toList (xs := cur), hcs]
            omega
          · rw [List.toList_toArray, List.append_assoc, List.take_left' e2]
            exact e3
        have HFL : Hid (zs.filter (fun x => !p x) = ys.take a) := hfl
        have HFN : Hid ((zs.filter (fun x => !p x)).length = a) := hfn
        simp only [List.append_assoc] at hcl HO2 HB2
        clear hfl hfn hgc hcs htk hown hb hx
        go_wp2
        go_ret
        rw [HFN.out, HFL.out]
        exact ⟨rfl, HO2.out, HB2.out⟩
  · have hn : idxI p zs = -1 := idxI_no (by simpa using ha)
    rw [hn] at HI
    have hI : Hid _ := HI
    have E : Hid (zs.filter (fun x => !p x) = zs) := by
      show zs.filter (fun x => !p x) = zs
      rw [List.filter_eq_self]
      intro x hx
      have := List.any_eq_false.1 (by simpa using ha) x hx
      simpa using this
    rw [E.out]
    clear HI hf h ha hn
    go_enter Try.func82, Try.ntmps82
    go_wp2_with (go_at_call 86; refine Calls.mono hI.out ?_; rintro r u1 ⟨rfl, hu1⟩; have HB1 : Hid (Below w.heap.size w u1) := hu1; clear hu1 hI)
    go_ret
    exact ⟨rfl, te_below HO.out HB1.out, HB1.out.mono hB⟩
end Go.Proofs.Ytfagohdmepnkkaa
