import Derived.Test.YtaobbddecmhpnaaCh4
import Derived.Test.YtaobbddecmhpnaaJn
import Derived.Laws.Concat
namespace Go.Proofs.Ytaobbddecmhpnaa
open Go.ChangeShapes Go.WideShapes Go.ChangeAt Go.RowKit

set_option maxRecDepth 100000
def gI (ms : List IM) (c : Nat) : IM := ms.getD c ⟨⟨#[]⟩, ⟨#[]⟩, [], [], []⟩
theorem gI_at (ms : List IM) (k : Nat) (hk : k < ms.length) : gI ms k = ms[k] := by simp [gI, List.getD_eq_getElem?_getD, List.getElem?_eq_getElem hk]
theorem bkO_g (ms : List IM) (k : Nat) : bkO ms k = (gI ms k).b := rfl
/-- The way from an image on. -/
def ptL (ms : List IM) : Nat → Nat → List Nat
  | 0, _ => []
  | f + 1, c => c :: (if (bkO ms c).size = 0 then [] else match fdN ms (bkO ms c) with
    | none => []
    | some k => ptL ms f k)
theorem ptL_len (ms : List IM) : ∀ (f c : Nat), (ptL ms f c).length ≤ f := by
  intro f
  induction f with
  | zero => intro c; exact Nat.le_refl _
  | succ f ih =>
    intro c
    unfold ptL
    rw [List.length_cons]
    split
    · simp
    · split
      · simp
      · have := ih ‹_›; omega
theorem ptL_stable {ms : List IM} : ∀ {f c : Nat}, ceI ms f c = true → ptL ms (f + 1) c = ptL ms f c := by
  intro f
  induction f with
  | zero => intro c h; cases h
  | succ f ih =>
    intro c h
    by_cases e : (bkO ms c).size = 0
    · simp [ptL, e]
    · cases hq : fdN ms (bkO ms c) with
      | none => rw [ceI_none e hq] at h; cases h
      | some k =>
        rw [ceI_some e hq] at h
        have h2 := ih h
        rw [show ptL ms (f + 1 + 1) c = c :: (if (bkO ms c).size = 0 then [] else match fdN ms (bkO ms c) with | none => [] | some k => ptL ms (f + 1) k) from rfl, show ptL ms (f + 1) c = c :: (if (bkO ms c).size = 0 then [] else match fdN ms (bkO ms c) with | none => [] | some k => ptL ms f k) from rfl, if_neg e, if_neg e, hq]
        simp only
        rw [h2]
def pth (ms : List IM) (c : Nat) : List Nat := ptL ms 14 c
theorem pth_end {ms : List IM} {c : Nat} (e : (bkO ms c).size = 0) : pth ms c = [c] := by
  unfold pth
  rw [show ptL ms 14 c = c :: (if (bkO ms c).size = 0 then [] else match fdN ms (bkO ms c) with | none => [] | some k => ptL ms 13 k) from rfl, if_pos e]
theorem pth_next {ms : List IM} {c : Nat} (h : ceI ms 14 c = true) (e : ¬ (bkO ms c).size = 0) : ∃ k, fdN ms (bkO ms c) = some k ∧ k < ms.length ∧ ceI ms 14 k = true ∧ pth ms c = c :: pth ms k := by
  cases hq : fdN ms (bkO ms c) with
  | none => rw [ceI_none e hq] at h; cases h
  | some k =>
    rw [ceI_some e hq] at h
    refine ⟨k, rfl, fdN_lt hq, ceI_mono h, ?_⟩
    unfold pth
    rw [ptL_stable h]
    rw [show ptL ms 14 c = c :: (if (bkO ms c).size = 0 then [] else match fdN ms (bkO ms c) with | none => [] | some k => ptL ms 13 k) from rfl, if_neg e, hq]
/-- What a cluster reads as, along a way. -/
def clP (ms : List IM) (n : Nat) : List Nat → ByteArray
  | [] => z16
  | c :: cs => if n < (gI ms c).t.length then
      (if 0 ≤ (gI ms c).t.getD n 0 then (gI ms c).d.getD ((gI ms c).t.getD n 0).toNat z16 else if (gI ms c).t.getD n 0 = -2 then z16 else clP ms n cs)
    else z16
/-- What is asked of a list that is read. -/
structure RL (ms : List IM) : Prop where
  len : ms.length ≤ 12
  im : ∀ k (hk : k < ms.length), IR ms[k]
  fd : ∀ k (hk : k < ms.length), fdI ms ms[k].n = k
  ce : ∀ k, k < ms.length → ceI ms 14 k = true
theorem RL.of {ms : List IM} (h : chB ms = true) : RL ms := by
  have h2 := of_decide_eq_true h
  have h3 : ∀ k (hk : k < ms.length), s1B ms k hk = true ∧ ceI ms 14 k = true := fun k hk => by
    have := h2.2 k hk
    rw [c1_of h2.1 hk, Bool.and_eq_true] at this
    exact this
  refine ⟨h2.1, fun k hk => ?_, fun k hk => ?_, fun k hk => (h3 k hk).2⟩
  · have := (h3 k hk).1
    unfold s1B at this
    rw [Bool.and_eq_true] at this
    exact (imB_iff _).1 this.1
  · have := (h3 k hk).1
    unfold s1B at this
    rw [Bool.and_eq_true] at this
    exact of_decide_eq_true this.2
theorem z16_size : z16.size = 16 := by simp [z16, zerL, ByteArray.size]
theorem clP_size {ms : List IM} (h : RL ms) (n : Nat) : ∀ (cs : List Nat), (∀ c ∈ cs, c < ms.length) → (clP ms n cs).size = 16 := by
  intro cs
  induction cs with
  | nil => intro _; exact z16_size
  | cons c cs ih =>
    intro hc
    have hcl := hc c (by simp)
    unfold clP
    rw [gI_at ms c hcl]
    split
    · rename_i hn
      split
      · rename_i h0
        have hr := h.im c hcl
        have ht := of_decide_eq_true (hr.tb 0 (by omega))
        have hen := of_decide_eq_true (ht.2 n hn)
        have e1 : ms[c].t.getD n 0 = (tlV ms[c] 0)[n]'hn := by
          show ms[c].t.getD n 0 = ms[c].t[n]
          simp [List.getD_eq_getElem?_getD, List.getElem?_eq_getElem hn]
        rw [← e1] at hen
        have hl : (ms[c].t.getD n 0).toNat < ms[c].d.length := by omega
        rw [List.getD_eq_getElem?_getD, List.getElem?_eq_getElem hl, Option.getD_some]
        exact hr.dz _ hl
      · split
        · exact z16_size
        · exact ih (fun x hx => hc x (by simp [hx]))
    · exact z16_size
theorem mkBytes16 (w : World) : (Instr.makeSlice 61 (.int .i64 16) (.int .i64 16)).run Try.prog w = .ok (.slice (some ⟨w.heap.size, 0, none⟩) 16 16) (w.alloc (.cells (cells8 (zerL 16)).toArray 5)) := by
  obtain ⟨i0, hi, hz0, hz1, hz2⟩ := info_parts Try.info5
  have hr := run_makeSlice (P := Try.prog) w 61 5 i0 (.int .u8 0) Try.underlying61 hi hz0 .i64 .i64 16 16 (by omega) (by omega) (by rw [hz1]; omega) (by rw [hz2]; omega) (by omega)
  rw [hr, hz1]
  have e : madeCells (Value.int .u8 0).cells (Int.toNat 16 * 1) = (cells8 (zerL 16)).toArray := by
    refine Array.toList_inj.1 ((toList_madeCells_one _ _).trans ?_)
    simp [cells8, zerL]
  rw [e]
  rfl
theorem own16 (w : World) : (w.alloc (.cells (cells8 (zerL 16)).toArray 5)).ownsRow w.heap.size 5 1 (.slice (some ⟨w.heap.size, 0, none⟩) 16 16) 16 (cells8 (zerL 16)) :=
  ⟨rfl, .inr ⟨w.heap.size, 16, _, rfl, Nat.le_refl _, heap_new _ _, Nat.le_refl _, by unfold maxLen; omega, rfl, rfl⟩⟩
end Go.Proofs.Ytaobbddecmhpnaa
