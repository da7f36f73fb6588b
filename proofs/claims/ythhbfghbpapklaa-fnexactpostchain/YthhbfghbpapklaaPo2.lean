import Derived.Test.YthhbfghbpapklaaPo1
import Derived.Test.YthhbfghbpapklaaGc2
namespace Go.Proofs.Ythhbfghbpapklaa
open Go.ChangeShapes Go.WideShapes Go.ChangeAt Go.RowKit

set_option maxRecDepth 100000
def dv (d : DD) : DV := ⟨d.pos, d.len, d.write, d.next, d.ind, d.avl, d.usd, d.num⟩
def fitB (d : DD) : Bool := wdB d.pos && wdB d.len && wdB (dF (dv d)) && wdB d.num
theorem all_take {α : Type} (p : α → Bool) (l : List α) (k : Nat) (hk : k < l.length) : (l.take (k + 1)).all p = ((l.take k).all p && p l[k]) := by
  rw [List.take_succ_eq_append_getElem hk, List.all_append]
  simp
theorem all_no {α : Type} (p : α → Bool) (l : List α) (k : Nat) (hk : k < l.length) (h : p l[k] = false) : l.all p = false := by
  rw [List.all_eq_false]
  exact ⟨l[k], List.getElem_mem hk, by simp [h]⟩
set_option maxHeartbeats 4000000 in
theorem areDesc_any {w : World} {v : Value} {ds : List DD} (h : DDrow w v ds) (hl : ds.length ≤ 1000) :
    Calls Try.prog 30 #[v] w fun e w' => e = .returned (.bool (ds.all fitB)) ∧ Below w.heap.size w w' := by
  obtain ⟨a1, c1, rfl⟩ := h.sl
  have HR : Hid (DDrow w (.slice a1 ds.length c1) ds) := h
  clear h
  go_enter Try.func30, Try.ntmps30
  go_wp2_with fail
  go_loopw [7] (fun i wr => ∃ k : Nat, k ≤ ds.length ∧ i = .int .i64 k ∧ Hid ((ds.take k).all fitB = true) ∧ Hid (Below w.heap.size w wr)) (fun i _ => ds.length - (intOf i).toNat)
  case atStart => exact ⟨0, Nat.zero_le _, rfl, by show _ = _; simp, Below.refl _ _⟩
  case round =>
    obtain ⟨k, hk, rfl, HA, HB⟩ := hrel
    by_cases hlt : k < ds.length
    · obtain ⟨g, o, cap2, hv, _, hg, hc⟩ := HR.out.resolve_left (fun h => by rw [h.1] at hlt; simp at hlt)
      injection hv with hv1 hv2 hv3
      subst hv1 hv3
      obtain ⟨d0, d1, d2, d3, d4, d5, d6, d7⟩ := hc.below HB.out hg k hlt
      have HN : Hid _ := all_take fitB ds k hlt
      have HNo : Hid _ := all_no fitB ds k hlt
      clear hc
      generalize ds[k] = z at *
      obtain ⟨z0, z1, z2, z3, z4, z5, z6, z7⟩ := z
      simp only at d0 d1 d2 d3 d4 d5 d6 d7
      have hk0 : (0 : Int) ≤ (k : Int) := by omega
      have hk1 : (k : Int) < (ds.length : Int) := by omega
      have hgw : g < wr.heap.size := Nat.lt_of_lt_of_le hg HB.out.size
      have HW : Hid _ := fun u => words_any ⟨z0, z1, z2, z3, z4, z5, z6, z7⟩ u
      have HFt : Hid _ := fun u => fit_any z0 z1 (dF ⟨z0, z1, z2, z3, z4, z5, z6, z7⟩) z7 u
      have HFe : Hid (fitB ⟨z0, z1, z2, z3, z4, z5, z6, z7⟩ = (wdB z0 && wdB z1 && wdB (dF ⟨z0, z1, z2, z3, z4, z5, z6, z7⟩) && wdB z7)) := rfl
      generalize dF ⟨z0, z1, z2, z3, z4, z5, z6, z7⟩ = fl at *
      generalize (wdB z0 && wdB z1 && wdB fl && wdB z7) = bb at *
      unfold dA at HW
      have HB3 : Hid (Below w.heap.size w (wr.alloc (.cells #[.int .i64 z0, .int .i64 z1, .bool z2, .bool z3, .bool z4, .bool z5, .bool z6, .int .i64 z7] 99))) := HB.out.alloc HB.out.size _
      unfold wA at HW HFt
      simp only at HW
      cases bb
      · go_wp2_with (first
          | (go_at_call 56; refine Calls.mono (HW.out _) ?_; rintro e u1 ⟨rfl, hu⟩; have HB4 : Hid (Below w.heap.size w u1) := HB3.out.trans (hu.mono HB3.out.size); clear hu)
          | (go_at_call 57; refine Calls.mono (HFt.out _) ?_; rintro e u2 ⟨rfl, hu⟩; have HB5 : Hid (Below w.heap.size w u2) := HB4.out.trans (hu.mono HB4.out.size); clear hu))
        go_ret
        exact ⟨ret_bool (HNo.out HFe.out).symm, HB5.out⟩
      · go_wp2_with (first
          | (go_at_call 56; refine Calls.mono (HW.out _) ?_; rintro e u1 ⟨rfl, hu⟩; have HB4 : Hid (Below w.heap.size w u1) := HB3.out.trans (hu.mono HB3.out.size); clear hu)
          | (go_at_call 57; refine Calls.mono (HFt.out _) ?_; rintro e u2 ⟨rfl, hu⟩; have HB5 : Hid (Below w.heap.size w u2) := HB4.out.trans (hu.mono HB4.out.size); clear hu))
        go_roundw
        case rel => exact ⟨k + 1, hlt, by go_num, by show _ = _; rw [HN.out, HA.out, HFe.out]; rfl, HB5⟩
        case measure => simp [intOf]; omega
    · obtain rfl : k = ds.length := by omega
      go_wp2_with fail
      go_ret
      have h9 := HA.out
      rw [List.take_length] at h9
      exact ⟨ret_bool h9.symm, HB.out⟩
end Go.Proofs.Ythhbfghbpapklaa
