import Derived.Test.YtomfbiiegcmmlaaCh4
namespace Go.Proofs.Ytomfbiiegcmmlaa
open Go.ChangeShapes Go.WideShapes Go.ChangeAt Go.RowKit

set_option maxRecDepth 100000
def gI (ms : List IM) (c : Nat) : IM := ms.getD c ⟨⟨#[]⟩, ⟨#[]⟩, [], [], []⟩
theorem gI_at (ms : List IM) (k : Nat) (hk : k < ms.length) : gI ms k = ms[k] := by simp [gI, List.getD_eq_getElem?_getD, List.getElem?_eq_getElem hk]
theorem bkO_g (ms : List IM) (k : Nat) : bkO ms k = (gI ms k).b := rfl
/-- The way from an image on. -/
def ptL (ms : List IM) : Nat → Nat → List Nat
  | 0, _ => []
  | f + 1, c => c :: (if (bkO ms c).size = 0 then [] else match fdN ms (bkO ms c) with
    | none => []
    | some k => ptL ms f k)
theorem ptL_len (ms : List IM) : ∀ (f c : Nat), (ptL ms f c).length ≤ f := by
  intro f
  induction f with
  | zero => intro c; exact Nat.le_refl _
  | succ f ih =>
    intro c
    unfold ptL
    rw [List.length_cons]
    split
    · simp
    · split
      · simp
      · have := ih ‹_›; omega
theorem ptL_stable {ms : List IM} : ∀ {f c : Nat}, ceI ms f c = true → ptL ms (f + 1) c = ptL ms f c := by
  intro f
  induction f with
  | zero => intro c h; cases h
  | succ f ih =>
    intro c h
    by_cases e : (bkO ms c).size = 0
    · simp [ptL, e]
    · cases hq : fdN ms (bkO ms c) with
      | none => rw [ceI_none e hq] at h; cases h
      | some k =>
        rw [ceI_some e hq] at h
        have h2 := ih h
        rw [show ptL ms (f + 1 + 1) c = c :: (if (bkO ms c).size = 0 then [] else match fdN ms (bkO ms c) with | none => [] | some k => ptL ms (f + 1) k) from rfl, show ptL ms (f + 1) c = c :: (if (bkO ms c).size = 0 then [] else match fdN ms (bkO ms c) with | none => [] | some k => ptL ms f k) from rfl, if_neg e, if_neg e, hq]
        simp only
        rw [h2]
def pth (ms : List IM) (c : Nat) : List Nat := ptL ms 14 c
theorem pth_end {ms : List IM} {c : Nat} (e : (bkO ms c).size = 0) : pth ms c = [c] := by
  unfold pth
  rw [show ptL ms 14 c = c :: (if (bkO ms c).size = 0 then [] else match fdN ms (bkO ms c) with | none => [] | some k => ptL ms 13 k) from rfl, if_pos e]
theorem pth_next {ms : List IM} {c : Nat} (h : ceI ms 14 c = true) (e : ¬ (bkO ms c).size = 0) : ∃ k, fdN ms (bkO ms c) = some k ∧ k < ms.length ∧ ceI ms 14 k = true ∧ pth ms c = c :: pth ms k := by
  cases hq : fdN ms (bkO ms c) with
  | none => rw [ceI_none e hq] at h; cases h
  | some k =>
    rw [ceI_some e hq] at h
    refine ⟨k, rfl, fdN_lt hq, ceI_mono h, ?_⟩
    unfold pth
    rw [ptL_stable h]
    rw [show ptL ms 14 c = c :: (if (bkO ms c).size = 0 then [] else match fdN ms (bkO ms c) with | none => [] | some k => ptL ms 13 k) from rfl, if_neg e, hq]
/-- What is asked of a list that is read. -/
structure RL (ms : List IM) : Prop where
  len : ms.length ≤ 12
  im : ∀ k (hk : k < ms.length), IR ms[k]
  fd : ∀ k (hk : k < ms.length), fdI ms ms[k].n = k
  ce : ∀ k, k < ms.length → ceI ms 14 k = true
theorem RL.of {ms : List IM} (h : chB ms = true) : RL ms := by
  have h2 := of_decide_eq_true h
  have h3 : ∀ k (hk : k < ms.length), s1B ms k hk = true ∧ ceI ms 14 k = true := fun k hk => by
    have := h2.2 k hk
    rw [c1_of h2.1 hk, Bool.and_eq_true] at this
    exact this
  refine ⟨h2.1, fun k hk => ?_, fun k hk => ?_, fun k hk => (h3 k hk).2⟩
  · have := (h3 k hk).1
    unfold s1B at this
    rw [Bool.and_eq_true] at this
    exact (imB_iff _).1 this.1
  · have := (h3 k hk).1
    unfold s1B at this
    rw [Bool.and_eq_true] at this
    exact of_decide_eq_true this.2
end Go.Proofs.Ytomfbiiegcmmlaa
