import Derived.Test.YtaobbddecmhpnaaIg1
import Derived.Test.YtaobbddecmhpnaaIdxIG
import Derived.Test.YtaobbddecmhpnaaNa3
namespace Go.Proofs.Ytaobbddecmhpnaa
open Go.ChangeShapes Go.WideShapes Go.ChangeAt Go.RowKit

set_option maxRecDepth 100000
/-- The place of the image of that name. -/
def fdN (ms : List IM) (n : ByteArray) : Option Nat := (ms.map (·.n)).findIdx? (fun x => x.toList == n.toList)
def fdI (ms : List IM) (n : ByteArray) : Int := match fdN ms n with | some k => (k : Int) | none => -1
theorem fdN_lt {ms : List IM} {n : ByteArray} {k : Nat} (h : fdN ms n = some k) : k < ms.length := by
  obtain ⟨hk, _⟩ := List.findIdx?_eq_some_iff_getElem.1 h
  simpa using hk
theorem IGin.names {w : World} {gs : List IG} {ms : List IM} (h : IGin w gs ms) : gs.map (·.n) = ms.map (·.n) := by
  apply List.ext_getElem
  · simp [h.len]
  · intro i h1 h2
    simp only [List.getElem_map]
    exact (h.el i (by simpa using h1) (by simpa using h2)).1
theorem ixIG_fd {w : World} {gs : List IG} {ms : List IM} (h : IGin w gs ms) (n : ByteArray) : ixIG (fun x => x.n.toList == n.toList) gs = fdI ms n := by
  have e : gs.findIdx? (fun x => x.n.toList == n.toList) = fdN ms n := by
    unfold fdN
    rw [← h.names, List.findIdx?_map]
    rfl
  unfold ixIG fdI
  rw [e]
  cases fdN ms n <;> rfl
theorem fd_at {ms : List IM} {n : ByteArray} {k : Nat} (hk : k < ms.length) (h : (ms[k].n.toList == n.toList) = true) (hn : ∀ j (hj : j < ms.length), j < k → (ms[j].n.toList == n.toList) = false) : fdI ms n = k := by
  have e : fdN ms n = some k := List.findIdx?_eq_some_iff_getElem.2 ⟨by simpa using hk, by simpa using h, fun j hj => by
    have := hn j (by omega) hj
    simp only [List.getElem_map, this]
    decide⟩
  unfold fdI
  rw [e]
theorem fd_none {ms : List IM} {n : ByteArray} (hn : ∀ j (hj : j < ms.length), (ms[j].n.toList == n.toList) = false) : fdI ms n = -1 := by
  have e : fdN ms n = none := List.findIdx?_eq_none_iff.2 fun x hx => by
    obtain ⟨j, hj, rfl⟩ := List.getElem_of_mem hx
    have hj2 : j < ms.length := by simpa using hj
    simpa using hn j hj2
  unfold fdI
  rw [e]
/-- The name of what is behind an image. -/
def bkO (ms : List IM) (j : Nat) : ByteArray := (ms.getD j ⟨⟨#[]⟩, ⟨#[]⟩, [], [], []⟩).b
theorem bkO_at (ms : List IM) (k : Nat) (hk : k < ms.length) : bkO ms k = ms[k].b := by
  simp [bkO, List.getD_eq_getElem?_getD, List.getElem?_eq_getElem hk]
/-- The way from an image ends within so many looks. -/
def ceI (ms : List IM) : Nat → Nat → Bool
  | 0, _ => false
  | f + 1, j => if (bkO ms j).size = 0 then true else match fdN ms (bkO ms j) with
    | none => false
    | some k => ceI ms f k
theorem ceI_mono {ms : List IM} {f : Nat} : ∀ {j : Nat}, ceI ms f j = true → ceI ms (f + 1) j = true := by
  induction f with
  | zero => intro j h; cases h
  | succ f ih =>
    intro j h
    unfold ceI at h ⊢
    by_cases e : (bkO ms j).size = 0
    · rw [if_pos e]
    · rw [if_neg e] at h ⊢
      cases hq : fdN ms (bkO ms j) with
      | none => rw [hq] at h; cases h
      | some k => rw [hq] at h; exact ih h
theorem ceI_le {ms : List IM} {f g j : Nat} (h : ceI ms f j = true) (hg : f ≤ g) : ceI ms g j = true := by
  induction g with
  | zero => obtain rfl : f = 0 := by omega
            exact h
  | succ g ih =>
    rcases Nat.lt_or_ge g f with h1 | h1
    · obtain rfl : f = g + 1 := by omega
      exact h
    · exact ceI_mono (ih h1)
theorem ceI_path {ms : List IM} : ∀ (v j : Nat), j < ms.length → ceI ms v j = true → (∀ u, u < v → ceI ms u j = false) → ∃ l : List Nat, l.length = v ∧ l.Nodup ∧ ∀ x ∈ l, x < ms.length ∧ ceI ms v x = true := by
  intro v
  induction v with
  | zero => intro j _ h _; cases h
  | succ v ih =>
    intro j hj h hmin
    by_cases e : (bkO ms j).size = 0
    · have hv : v = 0 := by
        cases v with
        | zero => rfl
        | succ v =>
          have := hmin (v + 1) (by omega)
          unfold ceI at this
          rw [if_pos e] at this
          cases this
      subst hv
      exact ⟨[j], rfl, by simp, fun x hx => by simp at hx; subst hx; exact ⟨hj, h⟩⟩
    · have h' := h
      unfold ceI at h'
      rw [if_neg e] at h'
      cases hq : fdN ms (bkO ms j) with
      | none => rw [hq] at h'; cases h'
      | some k =>
        rw [hq] at h'
        obtain ⟨l, l1, l2, l3⟩ := ih k (fdN_lt hq) h' (fun u hu => by
          have := hmin (u + 1) (by omega)
          unfold ceI at this
          rw [if_neg e, hq] at this
          exact this)
        refine ⟨j :: l, by simp [l1], List.nodup_cons.2 ⟨fun hm => ?_, l2⟩, fun x hx => ?_⟩
        · have := (l3 j hm).2
          rw [hmin v (by omega)] at this
          cases this
        · rcases List.mem_cons.1 hx with rfl | hx
          · exact ⟨hj, h⟩
          · exact ⟨(l3 x hx).1, ceI_mono (l3 x hx).2⟩
theorem nodup_lt : ∀ (n : Nat) (l : List Nat), l.Nodup → (∀ x ∈ l, x < n) → l.length ≤ n := by
  intro n
  induction n with
  | zero =>
    intro l _ h
    cases l with
    | nil => exact Nat.le_refl _
    | cons x l => exact absurd (h x (by simp)) (Nat.not_lt_zero _)
  | succ n ih =>
    intro l hn h
    have h1 := ih (l.erase n) (hn.erase n) (fun x hx => by
      have hx2 := (List.Nodup.mem_erase_iff hn).1 hx
      have := h x hx2.2
      have := hx2.1
      omega)
    have h2 : l.length ≤ (l.erase n).length + 1 := by
      rw [List.length_erase]
      split <;> omega
    omega
theorem ceI_len {ms : List IM} {f j : Nat} (hj : j < ms.length) (h : ceI ms f j = true) : ceI ms ms.length j = true := by
  have hex : ∃ v, ceI ms v j = true ∧ ∀ u, u < v → ceI ms u j = false := by
    induction f with
    | zero => cases h
    | succ f ih =>
      cases hq : ceI ms f j with
      | true => exact ih hq
      | false => exact ⟨f + 1, h, fun u hu => by
          cases hu2 : ceI ms u j with
          | false => rfl
          | true =>
            have := ceI_le hu2 (show u ≤ f by omega)
            rw [hq] at this
            cases this⟩
  obtain ⟨v, hv, hmin⟩ := hex
  obtain ⟨l, l1, l2, l3⟩ := ceI_path v j hj hv hmin
  have := nodup_lt ms.length l l2 (fun x hx => (l3 x hx).1)
  exact ceI_le hv (by omega)
end Go.Proofs.Ytaobbddecmhpnaa
