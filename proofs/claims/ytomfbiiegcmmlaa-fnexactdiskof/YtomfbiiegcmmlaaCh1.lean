import Derived.Test.YtomfbiiegcmmlaaIg1
import Derived.Test.YtomfbiiegcmmlaaIdxIG
import Derived.Test.YtomfbiiegcmmlaaNa3
namespace Go.Proofs.Ytomfbiiegcmmlaa
open Go.ChangeShapes Go.WideShapes Go.ChangeAt Go.RowKit

set_option maxRecDepth 100000
/-- The place of the image of that name. -/
def fdN (ms : List IM) (n : ByteArray) : Option Nat := (ms.map (·.n)).findIdx? (fun x => x.toList == n.toList)
def fdI (ms : List IM) (n : ByteArray) : Int := match fdN ms n with | some k => (k : Int) | none => -1
theorem fdN_lt {ms : List IM} {n : ByteArray} {k : Nat} (h : fdN ms n = some k) : k < ms.length := by
  obtain ⟨hk, _⟩ := List.findIdx?_eq_some_iff_getElem.1 h
  simpa using hk
theorem IGin.names {w : World} {gs : List IG} {ms : List IM} (h : IGin w gs ms) : gs.map (·.n) = ms.map (·.n) := by
  apply List.ext_getElem
  · simp [h.len]
  · intro i h1 h2
    simp only [List.getElem_map]
    exact (h.el i (by simpa using h1) (by simpa using h2)).1
theorem ixIG_fd {w : World} {gs : List IG} {ms : List IM} (h : IGin w gs ms) (n : ByteArray) : ixIG (fun x => x.n.toList == n.toList) gs = fdI ms n := by
  have e : gs.findIdx? (fun x => x.n.toList == n.toList) = fdN ms n := by
    unfold fdN
    rw [← h.names, List.findIdx?_map]
    rfl
  unfold ixIG fdI
  rw [e]
  cases fdN ms n <;> rfl
theorem fd_at {ms : List IM} {n : ByteArray} {k : Nat} (hk : k < ms.length) (h : (ms[k].n.toList == n.toList) = true) (hn : ∀ j (hj : j < ms.length), j < k → (ms[j].n.toList == n.toList) = false) : fdI ms n = k := by
  have e : fdN ms n = some k := List.findIdx?_eq_some_iff_getElem.2 ⟨by simpa using hk, by simpa using h, fun j hj => by
    have := hn j (by omega) hj
    simp only [List.getElem_map, this]
    decide⟩
  unfold fdI
  rw [e]
theorem fd_none {ms : List IM} {n : ByteArray} (hn : ∀ j (hj : j < ms.length), (ms[j].n.toList == n.toList) = false) : fdI ms n = -1 := by
  have e : fdN ms n = none := List.findIdx?_eq_none_iff.2 fun x hx => by
    obtain ⟨j, hj, rfl⟩ := List.getElem_of_mem hx
    have hj2 : j < ms.length := by simpa using hj
    simpa using hn j hj2
  unfold fdI
  rw [e]
set_option maxHeartbeats 4000000 in
theorem l13Find_any {w : World} {v : Value} {gs : List IG} {ms : List IM} (h : IGrow w v gs) (hi : IGin w gs ms) (hl : ms.length ≤ 1048576) (n : ByteArray) : Calls Try.prog 21 #[v, .string n] w fun e w' => e = .returned (.int .i64 (fdI ms n)) ∧ w' = w := by
  obtain ⟨ao, cap, rfl⟩ := h.sl
  have hlq := hi.len
  have HR : Hid (IGrow w (.slice ao ms.length cap) gs) := (show IGrow w (.slice ao ms.length cap) gs by rw [← hlq]; exact h)
  have HC : Hid (IGin w gs ms) := hi
  have HLQ : Hid (gs.length = ms.length) := hlq
  have HAT : Hid (∀ k (hk : k < ms.length), (ms[k].n.toList == n.toList) = true → (∀ j (hj : j < ms.length), j < k → (ms[j].n.toList == n.toList) = false) → fdI ms n = k) := fun k hk h hn => fd_at hk h hn
  have HNO : Hid ((∀ j (hj : j < ms.length), (ms[j].n.toList == n.toList) = false) → fdI ms n = -1) := fun hn => fd_none hn
  rw [hlq]
  clear h hi hlq
  generalize fdI ms n = G at *
  go_enter Try.func21, Try.ntmps21
  go_wp2
  go_loopw [5] (fun i wr => ∃ k : Nat, k ≤ ms.length ∧ i = .int .i64 k ∧ (∀ j (hj : j < ms.length), j < k → (ms[j].n.toList == n.toList) = false) ∧ wr = w) (fun i _ => ms.length - (intOf i).toNat)
  case atStart => exact ⟨0, Nat.zero_le _, rfl, fun j _ hj => absurd hj (Nat.not_lt_zero _), rfl⟩
  case round =>
    obtain ⟨k, hk, rfl, hal, rfl⟩ := hrel
    have HA : Hid (∀ j (hj : j < ms.length), j < k → (ms[j].n.toList == n.toList) = false) := hal
    clear hal
    by_cases hlt : k < ms.length
    · have hkq : k < gs.length := by rw [HLQ.out]; exact hlt
      obtain ⟨g, o, cap2, hv, _, hg, hc⟩ := HR.out.resolve_left (fun h => by rw [h.1] at hkq; simp at hkq)
      injection hv with hv1 hv2 hv3
      subst hv1 hv3
      obtain ⟨d0, _⟩ := hc k hkq
      rw [(HC.out.el k hkq hlt).1] at d0
      have HX : Hid ((ms[k].n.toList == n.toList) = true → G = k) := fun h => HAT.out k hlt h HA.out
      have HX2 : Hid ((ms[k].n.toList == n.toList) = false → ∀ j (hj : j < ms.length), j < k + 1 → (ms[j].n.toList == n.toList) = false) := fun h j hl hj => by
        rcases Nat.lt_succ_iff_lt_or_eq.1 hj with h2 | h2
        · exact HA.out j hl h2
        · subst h2; exact h
      generalize ms[k].n = y at *
      have hk0 : (0 : Int) ≤ (k : Int) := by omega
      have hk1 : (k : Int) < (ms.length : Int) := by omega
      clear hc hv2
      cases hq : (y.toList == n.toList)
      · have HG2 : Hid _ := HX2.out hq
        go_wp2
        exact ⟨⟨k + 1, hlt, by simp, HG2.out, trivial⟩, by simp [intOf]; omega⟩
      · have hg2 := HX.out hq
        go_wp2
        go_ret
        exact ⟨ret_int hg2.symm, rfl⟩
    · obtain rfl : k = ms.length := by omega
      have hg := HNO.out (fun j hj => HA.out j hj hj)
      go_wp2
      go_ret
      exact ⟨ret_int hg.symm, rfl⟩
set_option maxHeartbeats 2000000 in
theorem imageIs_any (m : IM) (n : ByteArray) (a1 a2 a3 : Option Addr) (k1 k2 k3 c1 c2 c3 Bc : Nat) (w : World) (hb : Bc < w.heap.size) (hc : w.cell? ⟨Bc, 0, none⟩ = some (.string n)) : Calls Try.prog 101 #[.agg #[.string m.n, .string m.b, .slice a1 k1 c1, .slice a2 k2 c2, .slice a3 k3 c3], .pointer (some ⟨Bc, 0, none⟩)] w fun r w' => r = .returned (.bool (m.n.toList == n.toList)) ∧ Below w.heap.size w w' := by
  have HB : Hid (Below w.heap.size w (w.alloc (.cells #[.string m.n, .string m.b, .slice a1 k1 c1, .slice a2 k2 c2, .slice a3 k3 c3] 57))) := (Below.refl _ _).alloc (Nat.le_refl _) _
  go_enter Try.func101, Try.ntmps101
  go_wp2
  go_ret
  exact ⟨rfl, HB.out⟩
set_option maxHeartbeats 2000000 in
theorem imageAt_any {w : World} {v : Value} {gs : List IG} {ms : List IM} (h : IGrow w v gs) (hi : IGin w gs ms) (hl : ms.length ≤ 1048576) (n : ByteArray) : Calls Try.prog 73 #[v, .string n] w fun e w' => e = .returned (.int .i64 (fdI ms n)) ∧ Below w.heap.size w w' := by
  have hb1 : Below w.heap.size w (w.alloc (.cells #[.string n] 9)) := (Below.refl _ _).alloc (Nat.le_refl _) _
  have hcn : (w.alloc (.cells #[.string n] 9)).cell? ⟨w.heap.size, 0, none⟩ = some (.string n) := by
    have hh := heap_new w (.cells #[.string n] 9)
    simp only [World.cell?, hh]
    rfl
  have HC : Hid _ := indexIG_any (h.below hb1) (by rw [hi.len]; exact hl) 101 #[.pointer (some ⟨w.heap.size, 0, none⟩)] (fun x => x.n.toList == n.toList) (fun xs w' => by kernel_rfl) (fun x hx w' hb => by
    obtain ⟨k, hk, rfl⟩ := List.getElem_of_mem hx
    have hks : k < ms.length := by rw [← hi.len]; exact hk
    obtain ⟨e0, e1, q, e2⟩ := hi.el k hk hks
    obtain ⟨a1, c1, h1⟩ := e2.t.sl
    obtain ⟨a2, c2, h2⟩ := e2.d.sl
    obtain ⟨a3, c3, h3⟩ := e2.sn.sl
    simp only at h1 h2 h3
    generalize ms[k] = m at *
    generalize gs[k] = z at *
    obtain ⟨zn, zb, zt, zd, zs⟩ := z
    simp only at h1 h2 h3 e0 e1
    subst h1 h2 h3 e0 e1
    have hsz : w.heap.size < (w.alloc (.cells #[.string n] 9)).heap.size := by simp
    exact imageIs_any m n a1 a2 a3 _ _ _ c1 c2 c3 w.heap.size w' (Nat.lt_of_lt_of_le hsz hb.size) (((bcell hb).1 w.heap.size 0 hsz).trans hcn))
  rw [ixIG_fd hi] at HC
  obtain ⟨ao, cap, rfl⟩ := h.sl
  have HB : Hid (Below w.heap.size w (w.alloc (.cells #[.string n] 9))) := hb1
  clear h hi hb1 hcn
  generalize fdI ms n = G at *
  go_enter Try.func73, Try.ntmps73
  go_wp2_with (go_at_call 100; refine Calls.mono HC.out ?_; rintro e u1 ⟨rfl, hu⟩)
  go_ret
  exact ⟨rfl, HB.out.trans (hu.mono HB.out.size)⟩
/-- The name of what is behind an image. -/
def bkO (ms : List IM) (j : Nat) : ByteArray := (ms.getD j ⟨⟨#[]⟩, ⟨#[]⟩, [], [], []⟩).b
theorem bkO_at (ms : List IM) (k : Nat) (hk : k < ms.length) : bkO ms k = ms[k].b := by
  simp [bkO, List.getD_eq_getElem?_getD, List.getElem?_eq_getElem hk]
/-- The way from an image ends within so many looks. -/
def ceI (ms : List IM) : Nat → Nat → Bool
  | 0, _ => false
  | f + 1, j => if (bkO ms j).size = 0 then true else match fdN ms (bkO ms j) with
    | none => false
    | some k => ceI ms f k
theorem ceI_mono {ms : List IM} {f : Nat} : ∀ {j : Nat}, ceI ms f j = true → ceI ms (f + 1) j = true := by
  induction f with
  | zero => intro j h; cases h
  | succ f ih =>
    intro j h
    unfold ceI at h ⊢
    by_cases e : (bkO ms j).size = 0
    · rw [if_pos e]
    · rw [if_neg e] at h ⊢
      cases hq : fdN ms (bkO ms j) with
      | none => rw [hq] at h; cases h
      | some k => rw [hq] at h; exact ih h
theorem ceI_le {ms : List IM} {f g j : Nat} (h : ceI ms f j = true) (hg : f ≤ g) : ceI ms g j = true := by
  induction g with
  | zero => obtain rfl : f = 0 := by omega
            exact h
  | succ g ih =>
    rcases Nat.lt_or_ge g f with h1 | h1
    · obtain rfl : f = g + 1 := by omega
      exact h
    · exact ceI_mono (ih h1)
theorem ceI_path {ms : List IM} : ∀ (v j : Nat), j < ms.length → ceI ms v j = true → (∀ u, u < v → ceI ms u j = false) → ∃ l : List Nat, l.length = v ∧ l.Nodup ∧ ∀ x ∈ l, x < ms.length ∧ ceI ms v x = true := by
  intro v
  induction v with
  | zero => intro j _ h _; cases h
  | succ v ih =>
    intro j hj h hmin
    by_cases e : (bkO ms j).size = 0
    · have hv : v = 0 := by
        cases v with
        | zero => rfl
        | succ v =>
          have := hmin (v + 1) (by omega)
          unfold ceI at this
          rw [if_pos e] at this
          cases this
      subst hv
      exact ⟨[j], rfl, by simp, fun x hx => by simp at hx; subst hx; exact ⟨hj, h⟩⟩
    · have h' := h
      unfold ceI at h'
      rw [if_neg e] at h'
      cases hq : fdN ms (bkO ms j) with
      | none => rw [hq] at h'; cases h'
      | some k =>
        rw [hq] at h'
        obtain ⟨l, l1, l2, l3⟩ := ih k (fdN_lt hq) h' (fun u hu => by
          have := hmin (u + 1) (by omega)
          unfold ceI at this
          rw [if_neg e, hq] at this
          exact this)
        refine ⟨j :: l, by simp [l1], List.nodup_cons.2 ⟨fun hm => ?_, l2⟩, fun x hx => ?_⟩
        · have := (l3 j hm).2
          rw [hmin v (by omega)] at this
          cases this
        · rcases List.mem_cons.1 hx with rfl | hx
          · exact ⟨hj, h⟩
          · exact ⟨(l3 x hx).1, ceI_mono (l3 x hx).2⟩
theorem nodup_lt : ∀ (n : Nat) (l : List Nat), l.Nodup → (∀ x ∈ l, x < n) → l.length ≤ n := by
  intro n
  induction n with
  | zero =>
    intro l _ h
    cases l with
    | nil => exact Nat.le_refl _
    | cons x l => exact absurd (h x (by simp)) (Nat.not_lt_zero _)
  | succ n ih =>
    intro l hn h
    have h1 := ih (l.erase n) (hn.erase n) (fun x hx => by
      have hx2 := (List.Nodup.mem_erase_iff hn).1 hx
      have := h x hx2.2
      have := hx2.1
      omega)
    have h2 : l.length ≤ (l.erase n).length + 1 := by
      rw [List.length_erase]
      split <;> omega
    omega
theorem ceI_len {ms : List IM} {f j : Nat} (hj : j < ms.length) (h : ceI ms f j = true) : ceI ms ms.length j = true := by
  have hex : ∃ v, ceI ms v j = true ∧ ∀ u, u < v → ceI ms u j = false := by
    induction f with
    | zero => cases h
    | succ f ih =>
      cases hq : ceI ms f j with
      | true => exact ih hq
      | false => exact ⟨f + 1, h, fun u hu => by
          cases hu2 : ceI ms u j with
          | false => rfl
          | true =>
            have := ceI_le hu2 (show u ≤ f by omega)
            rw [hq] at this
            cases this⟩
  obtain ⟨v, hv, hmin⟩ := hex
  obtain ⟨l, l1, l2, l3⟩ := ceI_path v j hj hv hmin
  have := nodup_lt ms.length l l2 (fun x hx => (l3 x hx).1)
  exact ceI_le hv (by omega)
end Go.Proofs.Ytomfbiiegcmmlaa
