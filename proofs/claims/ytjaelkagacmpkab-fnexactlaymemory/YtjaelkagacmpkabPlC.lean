import Derived.Test.YtjaelkagacmpkabPlA
namespace Go.Proofs.Ytjaelkagacmpkab
open Go.ChangeShapes Go.WideShapes Go.ChangeAt Go.RowKit

/-- Which numbers are taken. -/
def tkC (zs : List Int) : Array Value := ((List.range 256).map fun i : Nat => Value.bool (decide ((i : Int) ∈ zs))).toArray
theorem tkC_cell {w : World} {b : Nat} {xs : List Int} {T : TypeId} (h : w.heap[b]? = some (.cells (tkC xs) T (0, 0))) {j : Nat} (hj : j < 256) : w.cell? ⟨b, j, none⟩ = some (.bool (decide ((j : Int) ∈ xs))) := by
  have e : (tkC xs)[j]? = some (.bool (decide ((j : Int) ∈ xs))) := by
    unfold tkC
    simp [hj]
  simp [World.cell?, h, e]
theorem tkC_set (xs : List Int) {j : Nat} (hj : j < 256) : (tkC xs).setIfInBounds j (.bool true) = tkC (xs ++ [(j : Int)]) := by
  apply Array.ext_getElem?
  intro i
  rw [Array.getElem?_setIfInBounds]
  by_cases h : j = i
  · subst h
    simp [tkC, hj]
  · rw [if_neg h]
    unfold tkC
    by_cases h2 : i < 256
    · simp [h2]
      omega
    · simp [h2]
theorem tkC_fz {w : World} {b : Nat} {xs : List Int} {T : TypeId} (h : w.heap[b]? = some (.cells (tkC xs) T (0, 0))) (j : Nat) : w.frozen? ⟨b, j, none⟩ = false := by
  simp [World.frozen?, h]
set_option maxRecDepth 100000 in
theorem zeroBools (w : World) : Sem.run Try.prog (zeroValue 41) w = .ok (.agg (tkC [])) w := by kernel_rfl
set_option maxRecDepth 100000 in
set_option maxHeartbeats 4000000 in
theorem areFrames_any {w : World} {v : Value} {zs : List Int} (s : ByteArray) (h : Irow w v zs) (hl : zs.length ≤ 1048576) (hs : s.size ≤ 65536) :
    Calls Try.prog 17 #[v, .string s] w fun e w' => e = .returned (.bool (frB (s.size / 256) zs)) ∧ Below w.heap.size w w' := by
  obtain ⟨a1, c1, rfl⟩ := h.sl
  have HR : Hid (Irow w (.slice a1 zs.length c1) zs) := h
  clear h
  have hz := zeroBools w
  go_enter Try.func17, Try.ntmps17
  go_wp2
  go_loopw [10] (fun i w5 => ∃ k : Nat, k ≤ zs.length ∧ i = .int .i64 k ∧ w5.heap[w.heap.size]? = some (.cells (tkC (zs.take k)) 41 (0, 0)) ∧ Below w.heap.size w w5 ∧ Hid (FrTo (s.size / 256) zs k)) (fun i _ => zs.length - (intOf i).toNat)
  case atStart => exact ⟨0, Nat.zero_le _, rfl, (MapKept.heap_alloc w _).1, (Below.refl _ _).alloc (Nat.le_refl _) _, show FrTo _ zs 0 from fun k hk h => absurd h (Nat.not_lt_zero _)⟩
  case round =>
    obtain ⟨k, hk, rfl, hh, hb, hx⟩ := hrel
    clear hz
    by_cases hlt : k < zs.length
    · obtain ⟨g, o, cap2, hv, hcp, hg, hc⟩ := HR.out.resolve_left (fun h => by rw [h.1] at hlt; simp at hlt)
      injection hv with hv1 hv2 hv3
      subst hv1 hv3
      have d1 := hc.below hb hg k hlt
      obtain ⟨z, hz⟩ : ∃ z, zs[k] = z := ⟨_, rfl⟩
      have HZ : Hid (zs[k] = z) := hz
      rw [hz] at d1
      have HB : Hid _ := hb
      have HH : Hid _ := hh
      have hk0 : (0 : Int) ≤ (k : Int) := by omega
      have hk1 : (k : Int) < (zs.length : Int) := by omega
      have e1 : ((s.size / 256 : Nat) : Int) = (s.size : Int) / 256 := by omega
      have E1 : Hid _ := e1
      have hsz := hb.size
      have hhl : w.heap.size < wr.heap.size := (Array.getElem?_eq_some_iff.1 hh).1
      clear hc hz hb e1
      by_cases h0 : z < 0
      · clear hh
        go_wp2
        go_ret
        exact ⟨ret_bool (frB_false (fun hf => by have := (hf k hlt).1; rw [HZ.out] at this; unfold inN at this; simp at this; omega)).symm, HB.out⟩
      by_cases h1 : (s.size : Int) / 256 ≤ z
      · clear hh
        go_wp2
        go_ret
        exact ⟨ret_bool (frB_false (fun hf => by have := (hf k hlt).1; rw [HZ.out] at this; unfold inN at this; rw [E1.out] at this; simp at this; omega)).symm, HB.out⟩
      obtain ⟨j, rfl⟩ : ∃ j : Nat, z = (j : Int) := ⟨z.toNat, by omega⟩
      have hj : j < 256 := by omega
      have hj1 : (j : Int) < 256 := by omega
      have hcj := tkC_cell hh hj
      have hfz := tkC_fz hh j
      clear hh h0
      have hin : Hid (inN (s.size / 256) (j : Int) = true) := (show inN (s.size / 256) (j : Int) = true by unfold inN; rw [E1.out]; simp; omega)
      by_cases hm : (j : Int) ∈ zs.take k
      · rw [decide_eq_true hm] at hcj
        go_wp2
        go_ret
        exact ⟨ret_bool (frB_false (fun hf => (hf k hlt).2 (by rw [HZ.out]; exact hm))).symm, HB.out⟩
      · rw [decide_eq_false hm] at hcj
        go_wp2
        refine ⟨⟨k + 1, hlt, by go_num, ?_, HB.out.setCell (Nat.le_refl _) _, show FrTo _ zs (k + 1) from FrTo.next hx.out hlt (by rw [HZ.out]; exact hin.out) (by rw [HZ.out]; exact hm)⟩, by simp [intOf]; omega⟩
        rw [heap_setCell_same _ _ _ _ _ _ HH.out, tkC_set _ hj, List.take_succ_eq_append_getElem hlt, HZ.out]
    · obtain rfl : k = zs.length := by omega
      clear hh
      go_wp2
      go_ret
      exact ⟨ret_bool (frB_true (FrTo.all hx.out)).symm, hb⟩
end Go.Proofs.Ytjaelkagacmpkab
