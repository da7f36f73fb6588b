import Derived.Test.YtfagohdmepnkkaaTPut4
import Derived.Test.YtfagohdmepnkkaaFlg
import Derived.BigQuiet
namespace Go.Proofs.Ytfagohdmepnkkaa
open Go.ChangeShapes Go.WideShapes Go.ChangeAt Go.RowKit

/-- Whether an entry's page holds an address. -/
def holdsB (e : TE) (va : Int) : Bool := if e.large = true then decide (e.page / 32 = va / 8192) else decide (e.page = va / 256)
theorem teOk_b {z : TE} (h : teOk z = true) : (0 ≤ z.asid ∧ z.asid ≤ 255) ∧ (0 ≤ z.page ∧ z.page ≤ 1023) ∧ (0 ≤ z.frame ∧ z.frame ≤ 1023) ∧ (0 ≤ z.flags ∧ z.flags ≤ 255) ∧ (z.large = true → z.page % 32 = 0 ∧ z.frame % 32 = 0) := by
  unfold teOk at h
  rw [Bool.and_eq_true] at h
  obtain ⟨h1, h2⟩ := h
  have h3 := of_decide_eq_true h1
  refine ⟨⟨h3.1, h3.2.1⟩, ⟨h3.2.2.1, h3.2.2.2.1⟩, ⟨h3.2.2.2.2.1, h3.2.2.2.2.2.1⟩, h3.2.2.2.2.2.2, fun hl => ?_⟩
  rw [hl] at h2
  simpa using h2
set_option maxRecDepth 100000 in
set_option maxHeartbeats 4000000 in
theorem implHolds_any (z : TE) (va : Int) (w : World) (hz : 0 ≤ z.page ∧ z.page ≤ 1023) (hl : z.large = true → z.page % 32 = 0) : Calls Try.prog 85 #[teA z, .int .i64 va] w fun e w' => e = .returned (.bool (holdsB z va)) ∧ Below w.heap.size w w' := by
  obtain ⟨a, p, f, g, l⟩ := z
  unfold teA holdsB
  simp only at hz hl
  obtain ⟨z0, z1⟩ := hz
  have w1 : IntKind.i64.wrap (p * 256) = p * 256 := by rw [IntKind.wrap_i64]; omega
  cases l
  · have w2 : IntKind.i64.wrap ((p + 1) * 256) = (p + 1) * 256 := by rw [IntKind.wrap_i64]; omega
    go_enter Try.func85, Try.ntmps85
    go_wp2
    all_goals go_ret
    · exact ⟨ret_bool (decide_eq_decide.2 (by omega)), (Below.refl _ _).alloc (Nat.le_refl _) _⟩
    · exact ⟨ret_bool (decide_eq_false (by omega)).symm, (Below.refl _ _).alloc (Nat.le_refl _) _⟩
  · have w2 : IntKind.i64.wrap ((p + 32) * 256) = (p + 32) * 256 := by rw [IntKind.wrap_i64]; omega
    have hl2 := hl rfl
    go_enter Try.func85, Try.ntmps85
    go_wp2
    all_goals go_ret
    · exact ⟨ret_bool (decide_eq_decide.2 (by omega)), (Below.refl _ _).alloc (Nat.le_refl _) _⟩
    · exact ⟨ret_bool (decide_eq_false (by omega)).symm, (Below.refl _ _).alloc (Nat.le_refl _) _⟩
set_option maxRecDepth 100000 in
set_option maxHeartbeats 4000000 in
/-- The first of a row for which a function answers yes. -/
theorem indexFunc_mem {w : World} {v : Value} {zs : List TE} (h : TErow w v zs) (hl : zs.length ≤ 1048576) (F : Nat) (caps : Array Value) (p : TE → Bool) (hcf : ∀ (xs : Array Value) (w' : World), (callFunc F xs).run Try.prog w' = .ok (.enter F xs) w')
    (hf : ∀ (x : TE), x ∈ zs → ∀ (w' : World), Below w.heap.size w w' → Calls Try.prog F (#[teA x] ++ caps) w' fun r w'' => r = .returned (.bool (p x)) ∧ Below w'.heap.size w' w'') :
    Calls Try.prog 86 #[v, .func (.func F) #[] caps] w fun r w' => r = .returned (.int .i64 (idxI p zs)) ∧ Below w.heap.size w w' := by
  obtain ⟨ao, cap, rfl⟩ := h.sl
  have HR : Hid (TErow w (.slice ao zs.length cap) zs) := h
  have HF : Hid (∀ (x : TE), x ∈ zs → ∀ (w' : World), Below w.heap.size w w' → Calls Try.prog F (#[teA x] ++ caps) w' fun r w'' => r = .returned (.bool (p x)) ∧ Below w'.heap.size w' w'') := hf
  clear h hf
  go_enter Try.func86, Try.ntmps86
  go_wp2
  go_loopw [8] (fun i wr => ∃ k : Nat, k ≤ zs.length ∧ i = .int .i64 k ∧ (∀ j (hj : j < k) (hz : j < zs.length), p zs[j] = false) ∧ Below w.heap.size w wr) (fun i _ => zs.length - (intOf i).toNat)
  case atStart => exact ⟨0, Nat.zero_le _, rfl, fun j hj => absurd hj (Nat.not_lt_zero _), Below.refl _ _⟩
  case round =>
    obtain ⟨k, hk, rfl, hno, hb⟩ := hrel
    have HN : Hid (∀ j (hj : j < k) (hz : j < zs.length), p zs[j] = false) := hno
    have HB : Hid (Below w.heap.size w wr) := hb
    by_cases hlt : k < zs.length
    · obtain ⟨g, o, cap2, hv, _, hg, hc⟩ := HR.out.resolve_left (fun h => by rw [h.1] at hlt; simp at hlt)
      injection hv with hv1 hv2 hv3
      subst hv1 hv3
      obtain ⟨d0, d1, d2, d3, d4⟩ := hc.below hb hg k hlt
      obtain ⟨z, hz⟩ : ∃ z, zs[k] = z := ⟨_, rfl⟩
      rw [hz] at d0 d1 d2 d3 d4
      have HZ : Hid (zs[k] = z) := hz
      have hk0 : (0 : Int) ≤ (k : Int) := by omega
      have hk1 : (k : Int) < (zs.length : Int) := by omega
      clear hc hno hb hz
      go_wp2_with fail
      refine Calls.mono (HF.out z (by rw [← HZ.out]; exact List.getElem_mem hlt) _ HB.out) ?_
      rintro r u5 ⟨rfl, hu5⟩
      have HB5 : Hid (Below w.heap.size w u5) := HB.out.trans (hu5.mono HB.out.size)
      clear hu5
      cases hp : p z
      · go_wp2
        refine ⟨⟨k + 1, hlt, by simp, fun j hj hz => ?_, HB5.out⟩, ?_⟩
        · by_cases hjk : j = k
          · subst hjk
            rw [HZ.out]
            exact hp
          · exact HN.out j (by omega) hz
        simp [intOf]
        omega
      · go_wp2
        go_ret
        refine ⟨ret_int (idxI_at hlt (by rw [HZ.out]; exact hp) (fun j hj => HN.out j hj (by omega))).symm, HB5.out⟩
    · obtain rfl : k = zs.length := by omega
      clear hno hb
      go_wp2
      go_ret
      exact ⟨ret_int (idxI_none (fun j hj => HN.out j hj hj)).symm, HB.out⟩
end Go.Proofs.Ytfagohdmepnkkaa
