import Derived.Test.YtblmodlpopnckaaRowFZ
import Derived.Deep.RegionWith
namespace Go.Proofs.Ytblmodlpopnckaa
open Go.ChangeShapes Go.WideShapes Go.ChangeAt Go.RowKit

/-- The number of the first that is so, or -1. -/
def ixFT (p : FT → Bool) (zs : List FT) : Int := match zs.findIdx? p with | some k => (k : Int) | none => -1
theorem ixFT_at {p : FT → Bool} {zs : List FT} {k : Nat} (hk : k < zs.length) (h : p zs[k] = true) (hn : ∀ j (hj : j < k), p (zs[j]'(Nat.lt_trans hj hk)) = false) : ixFT p zs = k := by
  have : zs.findIdx? p = some k := List.findIdx?_eq_some_iff_getElem.2 ⟨hk, h, fun j hj => by rw [hn j hj]; decide⟩
  simp [ixFT, this]
theorem ixFT_none {p : FT → Bool} {zs : List FT} (hn : ∀ j (hj : j < zs.length), p zs[j] = false) : ixFT p zs = -1 := by
  have : zs.findIdx? p = none := List.findIdx?_eq_none_iff.2 fun x hx => by
    obtain ⟨j, hj, rfl⟩ := List.getElem_of_mem hx
    exact hn j hj
  simp [ixFT, this]
theorem ixFT_any (p : FT → Bool) (zs : List FT) : decide (0 ≤ ixFT p zs) = zs.any p := by
  unfold ixFT
  cases hq : zs.findIdx? p with
  | none =>
    have h2 : zs.any p = false := List.any_eq_false.2 fun x hx => by
      have := List.findIdx?_eq_none_iff.1 hq x hx
      simpa using this
    rw [h2]
    rfl
  | some k =>
    obtain ⟨hk, hp, _⟩ := List.findIdx?_eq_some_iff_getElem.1 hq
    have h2 : zs.any p = true := List.any_eq_true.2 ⟨zs[k], List.getElem_mem hk, hp⟩
    rw [h2]
    simp only [decide_eq_true_eq]
    omega
set_option maxRecDepth 100000 in
set_option maxHeartbeats 4000000 in
theorem indexFT_any {w : World} {v : Value} {zs : List FT} (h : FTrow w v zs) (hl : zs.length ≤ 1048576) (F : Nat) (caps : Array Value) (p : FT → Bool) (hcf : ∀ (xs : Array Value) (w' : World), (callFunc F xs).run Try.prog w' = .ok (.enter F xs) w')
    (hf : ∀ (x : FT) (w' : World), Below w.heap.size w w' → Calls Try.prog F (#[.agg #[.string x.name, .int .i64 x.rev, .string x.body]] ++ caps) w' fun r w'' => r = .returned (.bool (p x)) ∧ Below w'.heap.size w' w'') :
    Calls Try.prog 50 #[v, .func (.func F) #[] caps] w fun r w' => r = .returned (.int .i64 (ixFT p zs)) ∧ Below w.heap.size w w' := by
  obtain ⟨ao, cap, rfl⟩ := h.sl
  have HR : Hid (FTrow w (.slice ao zs.length cap) zs) := h
  have HF : Hid (∀ (x : FT) (w' : World), Below w.heap.size w w' → Calls Try.prog F (#[.agg #[.string x.name, .int .i64 x.rev, .string x.body]] ++ caps) w' fun r w'' => r = .returned (.bool (p x)) ∧ Below w'.heap.size w' w'') := hf
  clear h hf
  go_enter Try.func50, Try.ntmps50
  go_wp2
  go_loopw [8] (fun i wr => ∃ k : Nat, k ≤ zs.length ∧ i = .int .i64 k ∧ (∀ j (hj : j < k) (hz : j < zs.length), p zs[j] = false) ∧ Below w.heap.size w wr) (fun i _ => zs.length - (intOf i).toNat)
  case atStart => exact ⟨0, Nat.zero_le _, rfl, fun j hj => absurd hj (Nat.not_lt_zero _), Below.refl _ _⟩
  case round =>
    obtain ⟨k, hk, rfl, hno, hb⟩ := hrel
    have HN : Hid (∀ j (hj : j < k) (hz : j < zs.length), p zs[j] = false) := hno
    have HB : Hid (Below w.heap.size w wr) := hb
    by_cases hlt : k < zs.length
    · obtain ⟨g, o, cap2, hv, _, hg, hc⟩ := HR.out.resolve_left (fun h => by rw [h.1] at hlt; simp at hlt)
      injection hv with hv1 hv2 hv3
      subst hv1 hv3
      obtain ⟨d0, d1, d2⟩ := hc.below hb hg k hlt
      obtain ⟨z, hz⟩ : ∃ z, zs[k] = z := ⟨_, rfl⟩
      rw [hz] at d0 d1 d2
      have HZ : Hid (zs[k] = z) := hz
      have hk0 : (0 : Int) ≤ (k : Int) := by omega
      have hk1 : (k : Int) < (zs.length : Int) := by omega
      clear hc hno hb hz
      go_wp2_with fail
      refine Calls.mono (HF.out z _ HB.out) ?_
      rintro r u5 ⟨rfl, hu5⟩
      have HB5 : Hid (Below w.heap.size w u5) := HB.out.trans (hu5.mono HB.out.size)
      clear hu5
      cases hp : p z
      · go_wp2
        refine ⟨⟨k + 1, hlt, by simp, fun j hj hz => ?_, HB5.out⟩, ?_⟩
        · by_cases hjk : j = k
          · subst hjk
            rw [HZ.out]
            exact hp
          · exact HN.out j (by omega) hz
        simp [intOf]
        omega
      · go_wp2
        go_ret
        refine ⟨ret_int (ixFT_at hlt (by rw [HZ.out]; exact hp) (fun j hj => HN.out j hj (by omega))).symm, HB5.out⟩
    · obtain rfl : k = zs.length := by omega
      clear hno hb
      go_wp2
      go_ret
      exact ⟨ret_int (ixFT_none (fun j hj => HN.out j hj hj)).symm, HB.out⟩
set_option maxRecDepth 100000 in
set_option maxHeartbeats 4000000 in
theorem containsFT_any {w : World} {v : Value} {zs : List FT} (h : FTrow w v zs) (hl : zs.length ≤ 1048576) (F : Nat) (caps : Array Value) (p : FT → Bool) (hcf : ∀ (xs : Array Value) (w' : World), (callFunc F xs).run Try.prog w' = .ok (.enter F xs) w')
    (hf : ∀ (x : FT) (w' : World), Below w.heap.size w w' → Calls Try.prog F (#[.agg #[.string x.name, .int .i64 x.rev, .string x.body]] ++ caps) w' fun r w'' => r = .returned (.bool (p x)) ∧ Below w'.heap.size w' w'') :
    Calls Try.prog 34 #[v, .func (.func F) #[] caps] w fun r w' => r = .returned (.bool (zs.any p)) ∧ Below w.heap.size w w' := by
  have HI := indexFT_any h hl F caps p hcf hf
  rw [← ixFT_any]
  generalize ixFT p zs = x at *
  have HIH : Hid (Calls Try.prog 50 #[v, .func (.func F) #[] caps] w fun r w' => r = .returned (.int .i64 x) ∧ Below w.heap.size w w') := HI
  obtain ⟨ao, cap, rfl⟩ := h.sl
  clear h hf HI hcf
  go_enter Try.func34, Try.ntmps34
  go_wp2_with (go_at_call 50; refine Calls.mono HIH.out ?_; rintro r u5 ⟨rfl, hu5⟩)
  go_ret
  exact ⟨rfl, hu5⟩
end Go.Proofs.Ytblmodlpopnckaa
