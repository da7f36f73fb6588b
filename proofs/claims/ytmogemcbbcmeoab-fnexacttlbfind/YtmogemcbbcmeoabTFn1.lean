import Derived.Test.YtmogemcbbcmeoabMayB
namespace Go.Proofs.Ytmogemcbbcmeoab
open Go.ChangeShapes Go.WideShapes Go.ChangeAt Go.RowKit

/-- Whether an entry's page holds an address. -/
def holdsB (e : TE) (va : Int) : Bool := if e.large = true then decide (e.page / 32 = va / 8192) else decide (e.page = va / 256)
theorem teOk_b {z : TE} (h : teOk z = true) : (0 ≤ z.asid ∧ z.asid ≤ 255) ∧ (0 ≤ z.page ∧ z.page ≤ 1023) ∧ (0 ≤ z.frame ∧ z.frame ≤ 1023) ∧ (0 ≤ z.flags ∧ z.flags ≤ 255) ∧ (z.large = true → z.page % 32 = 0 ∧ z.frame % 32 = 0) := by
  unfold teOk at h
  rw [Bool.and_eq_true] at h
  obtain ⟨h1, h2⟩ := h
  have h3 := of_decide_eq_true h1
  refine ⟨⟨h3.1, h3.2.1⟩, ⟨h3.2.2.1, h3.2.2.2.1⟩, ⟨h3.2.2.2.2.1, h3.2.2.2.2.2.1⟩, h3.2.2.2.2.2.2, fun hl => ?_⟩
  rw [hl] at h2
  simpa using h2
set_option maxRecDepth 100000 in
set_option maxHeartbeats 4000000 in
theorem specHolds_any (z : TE) (va : Int) (w : World) (hz : 0 ≤ z.page ∧ z.page ≤ 1023) : Calls Try.prog 36 #[teA z, .int .i64 va] w fun e w' => e = .returned (.bool (holdsB z va)) ∧ Below w.heap.size w w' := by
  obtain ⟨a, p, f, g, l⟩ := z
  unfold teA holdsB
  simp only at hz
  cases l
  · go_enter Try.func36, Try.ntmps36
    go_wp2
    go_ret
    exact ⟨ret_bool rfl, (Below.refl _ _).alloc (Nat.le_refl _) _⟩
  · go_enter Try.func36, Try.ntmps36
    go_wp2
    go_ret
    exact ⟨ret_bool rfl, (Below.refl _ _).alloc (Nat.le_refl _) _⟩
set_option maxRecDepth 100000 in
set_option maxHeartbeats 4000000 in
theorem implHolds_any (z : TE) (va : Int) (w : World) (hz : 0 ≤ z.page ∧ z.page ≤ 1023) (hl : z.large = true → z.page % 32 = 0) : Calls Try.prog 44 #[teA z, .int .i64 va] w fun e w' => e = .returned (.bool (holdsB z va)) ∧ Below w.heap.size w w' := by
  obtain ⟨a, p, f, g, l⟩ := z
  unfold teA holdsB
  simp only at hz hl
  obtain ⟨z0, z1⟩ := hz
  have w1 : IntKind.i64.wrap (p * 256) = p * 256 := by rw [IntKind.wrap_i64]; omega
  cases l
  · have w2 : IntKind.i64.wrap ((p + 1) * 256) = (p + 1) * 256 := by rw [IntKind.wrap_i64]; omega
    go_enter Try.func44, Try.ntmps44
    go_wp2
    all_goals go_ret
    · exact ⟨ret_bool (decide_eq_decide.2 (by omega)), (Below.refl _ _).alloc (Nat.le_refl _) _⟩
    · exact ⟨ret_bool (decide_eq_false (by omega)).symm, (Below.refl _ _).alloc (Nat.le_refl _) _⟩
  · have w2 : IntKind.i64.wrap ((p + 32) * 256) = (p + 32) * 256 := by rw [IntKind.wrap_i64]; omega
    have hl2 := hl rfl
    go_enter Try.func44, Try.ntmps44
    go_wp2
    all_goals go_ret
    · exact ⟨ret_bool (decide_eq_decide.2 (by omega)), (Below.refl _ _).alloc (Nat.le_refl _) _⟩
    · exact ⟨ret_bool (decide_eq_false (by omega)).symm, (Below.refl _ _).alloc (Nat.le_refl _) _⟩
set_option maxRecDepth 100000 in
set_option maxHeartbeats 4000000 in
/-- The first of a row for which a function answers yes. -/
theorem indexFunc_mem {w : World} {v : Value} {zs : List TE} (h : TErow w v zs) (hl : zs.length ≤ 1048576) (F : Nat) (caps : Array Value) (p : TE → Bool) (hcf : ∀ (xs : Array Value) (w' : World), (callFunc F xs).run Try.prog w' = .ok (.enter F xs) w')
    (hf : ∀ (x : TE), x ∈ zs → ∀ (w' : World), Below w.heap.size w w' → Calls Try.prog F (#[teA x] ++ caps) w' fun r w'' => r = .returned (.bool (p x)) ∧ Below w'.heap.size w' w'') :
    Calls Try.prog 42 #[v, .func (.func F) #[] caps] w fun r w' => r = .returned (.int .i64 (idxI p zs)) ∧ Below w.heap.size w w' := by
  obtain ⟨ao, cap, rfl⟩ := h.sl
  have HR : Hid (TErow w (.slice ao zs.length cap) zs) := h
  have HF : Hid (∀ (x : TE), x ∈ zs → ∀ (w' : World), Below w.heap.size w w' → Calls Try.prog F (#[teA x] ++ caps) w' fun r w'' => r = .returned (.bool (p x)) ∧ Below w'.heap.size w' w'') := hf
  clear h hf
  go_enter Try.func42, Try.ntmps42
  go_wp2
  go_loopw [8] (fun i wr => ∃ k : Nat, k ≤ zs.length ∧ i = .int .i64 k ∧ (∀ j (hj : j < k) (hz : j < zs.length), p zs[j] = false) ∧ Below w.heap.size w wr) (fun i _ => zs.length - (intOf i).toNat)
  case atStart => exact ⟨0, Nat.zero_le _, rfl, fun j hj => absurd hj (Nat.not_lt_zero _), Below.refl _ _⟩
  case round =>
    obtain ⟨k, hk, rfl, hno, hb⟩ := hrel
    have HN : Hid (∀ j (hj : j < k) (hz : j < zs.length), p zs[j] = false) := hno
    have HB : Hid (Below w.heap.size w wr) := hb
    by_cases hlt : k < zs.length
    · obtain ⟨g, o, cap2, hv, _, hg, hc⟩ := HR.out.resolve_left (fun h => by rw [h.1] at hlt; simp at hlt)
      injection hv with hv1 hv2 hv3
      subst hv1 hv3
      obtain ⟨d0, d1, d2, d3, d4⟩ := hc.below hb hg k hlt
      obtain ⟨z, hz⟩ : ∃ z, zs[k] = z := ⟨_, rfl⟩
      rw [hz] at d0 d1 d2 d3 d4
      have HZ : Hid (zs[k] = z) := hz
      have hk0 : (0 : Int) ≤ (k : Int) := by omega
      have hk1 : (k : Int) < (zs.length : Int) := by omega
      clear hc hno hb hz
      go_wp2_with fail
      refine Calls.mono (HF.out z (by rw [← HZ.out]; exact List.getElem_mem hlt) _ HB.out) ?_
      rintro r u5 ⟨rfl, hu5⟩
      have HB5 : Hid (Below w.heap.size w u5) := HB.out.trans (hu5.mono HB.out.size)
      clear hu5
      cases hp : p z
      · go_wp2
        refine ⟨⟨k + 1, hlt, by simp, fun j hj hz => ?_, HB5.out⟩, ?_⟩
        · by_cases hjk : j = k
          · subst hjk
            rw [HZ.out]
            exact hp
          · exact HN.out j (by omega) hz
        simp [intOf]
        omega
      · go_wp2
        go_ret
        refine ⟨ret_int (idxI_at hlt (by rw [HZ.out]; exact hp) (fun j hj => HN.out j hj (by omega))).symm, HB5.out⟩
    · obtain rfl : k = zs.length := by omega
      clear hno hb
      go_wp2
      go_ret
      exact ⟨ret_int (idxI_none (fun j hj => HN.out j hj hj)).symm, HB.out⟩
/-- Which entry is asked for. -/
def fP (asid va : Int) (e : TE) : Bool := holdsB e va && (decide (e.asid = asid) || decide (e.flags / 128 % 2 = 1))
set_option maxRecDepth 100000 in
set_option maxHeartbeats 4000000 in
theorem findFn_any (z : TE) (hz : teOk z = true) (asid va : Int) (b1 b2 : Nat) (w : World) (c1 : w.cell? ⟨b1, 0, none⟩ = some (.int .i64 va)) (c2 : w.cell? ⟨b2, 0, none⟩ = some (.int .i64 asid)) (l1 : b1 < w.heap.size) (l2 : b2 < w.heap.size) : Calls Try.prog 43 #[teA z, .pointer (some ⟨b1, 0, none⟩), .pointer (some ⟨b2, 0, none⟩)] w fun e w' => e = .returned (.bool (fP asid va z)) ∧ Below w.heap.size w w' := by
  obtain ⟨q1, q2, q3, q4, q5⟩ := teOk_b hz
  have HH : Hid _ := fun w' => implHolds_any z va w' q2 (fun h => (q5 h).1)
  have hg : bits .and .i64 z.flags 128 = z.flags / 128 % 2 * 128 := and128 _ q4.1 (by omega)
  unfold fP
  obtain ⟨a, p, f, g, l⟩ := z
  simp only at hg
  unfold teA at HH ⊢
  generalize holdsB ⟨a, p, f, g, l⟩ va = hb at *
  clear q1 q2 q3 q5 hz
  have q41 : 0 ≤ g := q4.1
  clear q4
  have wz : Hid (w.heap.size < (w.alloc (.cells #[.int .i64 a, .int .i64 p, .int .i64 f, .int .i64 g, .bool l] 39)).heap.size) := (by show _ < _; simp)
  go_enter Try.func43, Try.ntmps43
  go_wp2_with (go_at_call 44; refine Calls.mono (HH.out _) ?_; rintro e u5 ⟨rfl, hu5⟩; have hz0 := (hu5.block w.heap.size wz.out).trans (heap_new _ _); obtain ⟨x0, x1, x2, x3, x4⟩ := cel5 hz0; have y1 : u5.cell? ⟨b1, 0, none⟩ = some (.int .i64 va) := (World.cell?_of_block ((hu5.block b1 (Nat.lt_trans l1 wz.out)).trans (Below.heap_alloc _ _ _ l1))).trans c1; have y2 : u5.cell? ⟨b2, 0, none⟩ = some (.int .i64 asid) := (World.cell?_of_block ((hu5.block b2 (Nat.lt_trans l2 wz.out)).trans (Below.heap_alloc _ _ _ l2))).trans c2; have HB : Hid (Below w.heap.size w u5) := bstep (Below.refl _ _) _ hu5; clear hu5 hz0)
  all_goals go_ret
  all_goals refine ⟨ret_bool ?_, HB.out⟩
  all_goals first
    | (simp [*]; done)
    | (rcases (by omega : g / 128 % 2 = 0 ∨ g / 128 % 2 = 1) with q | q <;> simp [*])
end Go.Proofs.Ytmogemcbbcmeoab
