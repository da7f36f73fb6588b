import Derived.Test.YtomfbiiegcmmlaaMr3
namespace Go.Proofs.Ytomfbiiegcmmlaa
open Go.ChangeShapes Go.WideShapes Go.ChangeAt Go.RowKit

set_option maxRecDepth 100000
/-- Rising from a number on. -/
def rsF : Int → List Int → Prop
  | _, [] => True
  | A, x :: xs => A < x ∧ rsF x xs
theorem rk_succ (x y : Int) (ys : List Int) (j : Nat) : rk (x :: y :: ys) (j + 2) = rk (y :: ys) (j + 1) := by
  unfold rk
  simp
theorem ris_cons : ∀ (xs : List Int) (x : Int), risB (x :: xs) = true ↔ rsF x xs := by
  intro xs
  induction xs with
  | nil =>
    intro x
    refine ⟨fun _ => trivial, fun _ => allB_iff.2 fun k hk => ?_⟩
    have : k = 0 := by simp at hk; omega
    subst this
    rfl
  | cons y ys ih =>
    intro x
    have h1 : risB (x :: y :: ys) = true ↔ x < y ∧ risB (y :: ys) = true := by
      unfold risB
      rw [allB_iff, allB_iff]
      constructor
      · intro h
        refine ⟨?_, fun k hk => ?_⟩
        · have := h 1 (by simp)
          unfold rk at this
          simpa using this
        · cases k with
          | zero => rfl
          | succ k =>
            rw [← rk_succ x]
            exact h (k + 2) (by simp at hk ⊢; omega)
      · rintro ⟨hxy, h⟩ k hk
        match k, hk with
        | 0, _ => rfl
        | 1, _ => unfold rk; simpa using hxy
        | k + 2, hk =>
          rw [rk_succ]
          exact h (k + 1) (by simp at hk ⊢; omega)
    rw [h1, ih]
    rfl
theorem hk_iff (h : MH) (ss : List SL) : ∀ (hs : List Int) (A : Int), hkB h ss A hs = true ↔ rsF A hs ∧ ∀ x ∈ hs, hgB ss.length x = true ∧ mbB h (grp ss x.toNat) = true := by
  intro hs
  induction hs with
  | nil => intro A; simp [hkB, rsF]
  | cons x xs ih =>
    intro A
    unfold hkB rsF
    simp only [Bool.and_eq_true, decide_eq_true_eq, ih, List.mem_cons, forall_eq_or_imp]
    constructor
    · rintro ⟨h1, h2, h3, h4, h5⟩
      exact ⟨⟨h1, h4⟩, ⟨h2, h3⟩, h5⟩
    · rintro ⟨⟨h1, h4⟩, ⟨h2, h3⟩, h5⟩
      exact ⟨h1, h2, h3, h4, h5⟩
theorem getD_at {α : Type} {l : List α} {k : Nat} {d : α} (hk : k < l.length) : l.getD k d = l[k] := by
  rw [List.getD_eq_getElem?_getD, List.getElem?_eq_getElem hk, Option.getD_some]
theorem tmod_zero (f : Int) : (f.tmod 4 == 0) = decide (f % 4 = 0) := by
  rw [Bool.eq_iff_iff]
  simp only [beq_iff_eq, decide_eq_true_eq]
  constructor
  · intro h
    exact Int.emod_eq_zero_of_dvd (Int.dvd_of_tmod_eq_zero h)
  · intro h
    exact Int.tmod_eq_zero_of_dvd (Int.dvd_of_emod_eq_zero h)
/-- A group is right for the one as for the other, where all slots are right and cells are few. -/
theorem mb_gr {h : MH} {ss : List SL} (hsl : ss.all (slB h) = true) (hcs : h.cs.length ≤ 64) {x : Int} (hx : hgB ss.length x = true) : mbB h (grp ss x.toNat) = grB h ss x := by
  have hx2 := of_decide_eq_true hx
  obtain ⟨N, rfl⟩ : ∃ N : Nat, x = (N : Int) := ⟨x.toNat, by omega⟩
  rw [Int.toNat_natCast]
  have hN : (N + 1) * 4 ≤ ss.length := by omega
  have hl := grp_len hN
  have hat : ∀ k (hk : k < 4), (grp ss N).getD k sZ0 = ss[N * 4 + k]'(by omega) := fun k hk => by
    rw [getD_at (by omega)]
    exact grp_at hN k (by omega)
  have hgd : ∀ k (hk : k < 4), ss.getD (N * 4 + k) sZ0 = ss[N * 4 + k]'(by omega) := fun k hk => getD_at (by omega)
  have hsr : ∀ k (hk : k < 4), slB h (ss[N * 4 + k]'(by omega)) = true := fun k hk => List.all_eq_true.1 hsl _ (List.getElem_mem _)
  have hld : ∀ y, slB h y = true → y.kind = 1 → inB h.cs y.pos = true := fun y hy hk => by
    unfold slB at hy
    simp only [Bool.and_eq_true] at hy
    have := hy.1.1
    unfold ldB at this
    rw [if_neg (by omega), if_pos hk] at this
    exact this
  have hpos : ∀ y : SL, inB h.cs y.pos = true → 0 ≤ y.pos ∧ y.pos < 64 := fun y hy => by
    unfold inB at hy
    simp only [Bool.and_eq_true, decide_eq_true_eq] at hy
    omega
  have how : ∀ y, slB h y = true → (owB h y = true ↔ y.kind = 1 ∧ cntS h 1 y.pos = 1) := fun y hy => by
    unfold owB ltB
    simp only [Bool.and_eq_true, beq_iff_eq, decide_eq_true_eq]
    constructor
    · rintro ⟨⟨h1, _⟩, h3⟩
      exact ⟨h1, h3⟩
    · rintro ⟨h1, h3⟩
      exact ⟨⟨h1, hld y hy h1⟩, h3⟩
  have hall : (grp ss N).all (owB h) = true ↔ ∀ k (hk : k < 4), owB h (ss[N * 4 + k]'(by omega)) = true := by
    rw [List.all_eq_true]
    constructor
    · intro h2 k hk
      have := h2 _ (List.getElem_mem (show k < (grp ss N).length by omega))
      rw [grp_at hN] at this
      exact this
    · intro h2 y hy
      obtain ⟨k, hk, rfl⟩ := List.getElem_of_mem hy
      rw [grp_at hN]
      exact h2 k (by omega)
  unfold mbB grB
  rw [Int.toNat_natCast, decide_eq_true (show 0 ≤ (N : Int) ∧ ((N : Int) + 1) * 4 ≤ (ss.length : Int) by omega), Bool.true_and, tmod_zero]
  have hfs : fsG ss N = ((grp ss N).getD 0 sZ0).pos := by
    unfold fsG
    rw [hat 0 (by omega)]
    have := hgd 0 (by omega)
    simp only [Nat.add_zero] at this ⊢
    rw [this]
  rw [hfs, Bool.eq_iff_iff]
  generalize hf : ((grp ss N).getD 0 sZ0).pos = f
  simp only [Bool.and_eq_true, List.all_eq_true, List.mem_range, decide_eq_true_eq]
  rw [show (∀ y ∈ grp ss N, owB h y = true) ↔ (grp ss N).all (owB h) = true from by rw [List.all_eq_true]]
  rw [hall]
  have hok : ∀ k (hk : k < 4), okG h ss f N k = true ↔ (ss[N * 4 + k]'(by omega)).kind = 1 ∧ (ss[N * 4 + k]'(by omega)).pos = f + (k : Int) ∧ cntS h 1 (ss[N * 4 + k]'(by omega)).pos = 1 := fun k hk => by
    unfold okG
    rw [hgd k hk]
    simp only [Bool.and_eq_true, beq_iff_eq, and_assoc]
  have heq : ∀ k (hk : k < 4), eqK (grp ss N) k = true ↔ (ss[N * 4 + k]'(by omega)).pos = IntKind.i64.wrap (f + (k : Int)) := fun k hk => by
    unfold eqK
    rw [hat k hk, hf, beq_iff_eq]
  have hf0 : f = (ss[N * 4 + 0]'(by omega)).pos := by rw [← hf, hat 0 (by omega)]
  constructor
  · rintro ⟨h1, h2, h3⟩
    refine ⟨fun k hk => (hok k hk).2 ?_, h2⟩
    have ho := (how _ (hsr k hk)).1 (h3 k hk)
    refine ⟨ho.1, ?_, ho.2⟩
    have hf1 := (how _ (hsr 0 (by omega))).1 (h3 0 (by omega))
    have hfb := hpos _ (hld _ (hsr 0 (by omega)) hf1.1)
    rw [← hf0] at hfb
    have := (heq k hk).1 (h1 k hk)
    rw [this, IntKind.wrap_i64]
    omega
  · rintro ⟨h1, h2⟩
    refine ⟨fun k hk => (heq k hk).2 ?_, h2, fun k hk => ?_⟩
    · have h3 := (hok k hk).1 (h1 k hk)
      have h4 := (hok 0 (by omega)).1 (h1 0 (by omega))
      have hfb := hpos _ (hld _ (hsr 0 (by omega)) h4.1)
      rw [← hf0] at hfb
      rw [h3.2.1, IntKind.wrap_i64]
      omega
    · have h3 := (hok k hk).1 (h1 k hk)
      exact (how _ (hsr k hk)).2 ⟨h3.1, h3.2.2⟩
theorem grB_hg {h : MH} {ss : List SL} {x : Int} (hx : grB h ss x = true) : hgB ss.length x = true := by
  unfold grB at hx
  simp only [Bool.and_eq_true] at hx
  exact hx.1.1
theorem hk_gr {h : MH} {ss : List SL} (hsl : ss.all (slB h) = true) (hcs : h.cs.length ≤ 64) (hs : List Int) : hkB h ss (-1) hs = (risB hs && hs.all (grB h ss)) := by
  rw [Bool.eq_iff_iff, hk_iff, Bool.and_eq_true, List.all_eq_true]
  have hg : (∀ x ∈ hs, hgB ss.length x = true ∧ mbB h (grp ss x.toNat) = true) ↔ ∀ x ∈ hs, grB h ss x = true := by
    constructor
    · intro h1 x hx
      rw [← mb_gr hsl hcs (h1 x hx).1]
      exact (h1 x hx).2
    · intro h1 x hx
      have h2 := grB_hg (h1 x hx)
      exact ⟨h2, by rw [mb_gr hsl hcs h2]; exact h1 x hx⟩
  rw [hg]
  cases hs with
  | nil =>
    simp [rsF, risB, allB]
  | cons x xs =>
    rw [ris_cons]
    constructor
    · rintro ⟨h1, h2⟩
      exact ⟨h1.2, h2⟩
    · rintro ⟨h1, h2⟩
      have h3 := of_decide_eq_true (grB_hg (h2 x (by simp)))
      exact ⟨⟨by omega, h1⟩, h2⟩
theorem irB_mhB (h : MH) : irB h = mhB h := by
  unfold irB mhB m0B eiB
  have hf : ∀ (p : SL → Bool), (allS h).all p = h.gs.all (fun g => g.ss.all p) := fun p => by
    unfold allS
    rw [List.all_flatMap]
  by_cases hm1 : mtB h.cs = true
  case neg =>
    have : mtB h.cs = false := by simpa using hm1
    rw [this]; simp
  have hcs : h.cs.length ≤ 64 := by
    unfold mtB at hm1
    simp only [Bool.and_eq_true, decide_eq_true_eq] at hm1
    exact hm1.1
  rw [Bool.eq_iff_iff]
  simp only [Bool.and_eq_true, bdB, tmB, arB, grsB, hf, allB, List.all_eq_true, decide_eq_true_eq, and_assoc]
  constructor
  · rintro ⟨h1, h2, h3, h4, h5, h6, h7, h8, h9, h10, h11⟩
    refine ⟨h1, h2, h3, h4, h5, h6, fun g hg => ?_, h9, h10⟩
    have hb := h7 g hg
    have hk := h11 g hg
    have hsl : g.ss.all (slB h) = true := List.all_eq_true.2 (h8 g hg)
    rw [hk_gr hsl hcs, Bool.and_eq_true] at hk
    unfold bgB drB at hb
    simp only [Bool.and_eq_true, decide_eq_true_eq] at hb
    unfold guB g0B
    simp only [Bool.and_eq_true, decide_eq_true_eq]
    exact ⟨⟨⟨⟨⟨hb.1, hb.2.1⟩, hk.1⟩, hb.2.2⟩, hsl⟩, hk.2⟩
  · rintro ⟨h1, h2, h3, h4, h5, h6, h7, h9, h10⟩
    have hg : ∀ g ∈ h.gs, (g.ss.length ≤ 32 ∧ g.d.size ≤ 4 ∧ nxt g.d g.ss.length true < 0) ∧ g.ss.all (slB h) = true ∧ risB g.hs = true ∧ g.hs.all (grB h g.ss) = true := fun g hg => by
      have := h7 g hg
      unfold guB g0B at this
      simp only [Bool.and_eq_true, decide_eq_true_eq] at this
      obtain ⟨⟨⟨⟨⟨a1, a2⟩, a3⟩, a4⟩, a5⟩, a6⟩ := this
      exact ⟨⟨a1, a2, a4⟩, a5, a3, a6⟩
    refine ⟨h1, h2, h3, h4, h5, h6, fun g hgm => ?_, fun g hgm => List.all_eq_true.1 (hg g hgm).2.1, h9, h10, fun g hgm => ?_⟩
    · unfold bgB drB
      simp only [Bool.and_eq_true, decide_eq_true_eq]
      exact (hg g hgm).1
    · rw [hk_gr (hg g hgm).2.1 hcs, (hg g hgm).2.2.1, (hg g hgm).2.2.2]
      rfl
end Go.Proofs.Ytomfbiiegcmmlaa
