import Derived.Test.YtefeahilamiiaaaRt17
import Derived.Deep.Slices
namespace Go.Proofs.Ytefeahilamiiaaa
open Go.ChangeShapes Go.WideShapes Go.ChangeAt Go.RowKit

theorem cCQ : Try.prog.cellsOf 81 = 3 := by kernel_rfl
theorem cIS : Try.prog.cellsOf 57 = 1 := by kernel_rfl
theorem list3 {α : Type} {cs : List α} (h : cs.length = 3) : ∃ x0 x1 x2, cs = [x0, x1, x2] := by
  match cs, h with
  | [x0, x1, x2], _ => exact ⟨x0, x1, x2, rfl⟩
theorem cq_one {H : Type} {enc : TypeId × Value → H} {W : World} {fuel : Nat} {cs : List Value} {x : DataW H × List MemPlace} (h : DataW.trod enc Try.prog W 0 (fun _ => true) true fuel 81 cs = some x) : ∃ z : CQ × CP, cs = cqC z.1 ∧ z.1.lim = z.2.lim ∧ Irow W z.1.p z.2.ps ∧ Irow W z.1.s z.2.ss ∧ z.2.ps.length ≤ maxLen ∧ z.2.ss.length ≤ maxLen := by
  obtain ⟨xs, m, _, hx, hl, hlen, hel⟩ := DataW.trod_struct Try.underlying81 h
  obtain ⟨x0, x1, x2, rfl⟩ := list3 (hl.trans cCQ)
  match xs, hlen, hel, hx with
  | [y0, y1, y2], _, hel, hx =>
    have g0 := hel 0 _ rfl
    have g1 := hel 1 _ rfl
    have g2 := hel 2 _ rfl
    obtain ⟨a0, e0, _, _⟩ := DataW.trod_int Try.underlying2 g0
    simp [ciI] at e0
    subst e0
    have k1 : DataW.trod enc Try.prog W 0 (fun _ => true) true m 57 [x1] = some y1 := by simpa [ciI, cIS] using g1
    obtain ⟨l1, r1, w1⟩ := open_iS k1
    have k2 : DataW.trod enc Try.prog W 0 (fun _ => true) true m 57 [x2] = some y2 := by simpa [ciI, cIS] using g2
    obtain ⟨l2, r2, w2⟩ := open_iS k2
    exact ⟨⟨⟨a0, x1, x2⟩, ⟨a0, l1, l2⟩⟩, rfl, rfl, r1, r2, w1, w2⟩
instance : Inhabited (CQ × CP) := ⟨⟨cq0, cp0⟩⟩
theorem open_cqS {H : Type} {enc : TypeId × Value → H} {W : World} {fuel : Nat} {c : Value} {x : DataW H × List MemPlace} (h : DataW.trod enc Try.prog W 0 (fun _ => true) true fuel 23 [c] = some x) : ∃ (qs : List CQ) (cs : List CP), CQrow W c qs ∧ CPin W qs cs ∧ cs.length ≤ maxLen ∧ ∀ k (hk : k < cs.length), cs[k].ps.length ≤ maxLen ∧ cs[k].ss.length ≤ maxLen := by
  rcases Go.Deep.open_slice Try.underlying23 h with ⟨hcs, _⟩ | ⟨a, len, cap, m, k, D, Pl, hcs, _, hl, hm, hmm, _, hel⟩
  · obtain rfl : c = .slice none 0 0 := by simpa using hcs
    exact ⟨[], [], .inl ⟨rfl, none, 0, rfl⟩, ⟨rfl, fun k hk => absurd hk (by simp)⟩, Nat.zero_le _, fun k hk => absurd hk (by simp)⟩
  · obtain rfl : c = .slice (some a) len cap := by simpa using hcs
    rw [if_pos rfl] at hmm
    subst hmm
    rw [cCQ] at hel
    cases len with
    | zero => exact ⟨[], [], .inl ⟨rfl, _, _, rfl⟩, ⟨rfl, fun k hk => absurd hk (by simp)⟩, Nat.zero_le _, fun k hk => absurd hk (by simp)⟩
    | succ len =>
      have each : ∀ i, i < len + 1 → ∃ z : CQ × CP, (∀ j, j < 3 → W.cell? (a.add (i * 3 + j)) = (cqC z.1)[j]?) ∧ z.1.lim = z.2.lim ∧ Irow W z.1.p z.2.ps ∧ Irow W z.1.s z.2.ss ∧ z.2.ps.length ≤ maxLen ∧ z.2.ss.length ≤ maxLen := by
        intro i hi
        obtain ⟨cs', h1, h2⟩ := hel i (by omega)
        obtain ⟨z, rfl, hz⟩ := cq_one h2
        obtain ⟨_, _, h3⟩ := World.cells?_some h1
        refine ⟨z, fun j hj => ?_, hz⟩
        rw [← Go.Deep.add_add]
        exact h3 j hj
      obtain ⟨f, hf⟩ := Go.Deep.choose_lt each
      have h0 := (hf 0 (by omega)).1 0 (by omega)
      have hsp : a.spot = none := by
        cases hs : a.spot with
        | none => rfl
        | some q =>
          simp [Addr.add, World.cell?, hs, cqC] at h0
          cases hq : W.heap[a.block]? with
          | none => simp [hq] at h0
          | some ob => cases ob <;> simp [hq] at h0
      have hlt : a.block < W.heap.size := by
        simp [Addr.add, World.cell?, cqC] at h0
        cases hq : W.heap[a.block]? with
        | none => simp [hq] at h0
        | some ob => exact (Array.getElem?_eq_some_iff.1 hq).1
      obtain ⟨b, o, sp⟩ := a
      simp only at hsp hlt
      subst hsp
      have hadd : ∀ q, Addr.add ⟨b, o, none⟩ q = ⟨b, o + q, none⟩ := fun q => by
        unfold Addr.add
        split
        · subst_vars; rfl
        · rfl
      refine ⟨(List.range (len + 1)).map (fun i => (f i).1), (List.range (len + 1)).map (fun i => (f i).2), .inr ⟨b, o, m, by simp, by simpa using hl, hlt, fun i hi => ?_⟩, ⟨by simp, fun i hi hi3 => ?_⟩, by simp; omega, fun i hi => ?_⟩
      · have hi2 : i < len + 1 := by simpa using hi
        have hfi : ((List.range (len + 1)).map (fun i => (f i).1))[i] = (f i).1 := by simp
        rw [hfi]
        have q := fun j hj => (hf i hi2).1 j hj
        simp only [hadd] at q
        exact ⟨(q 0 (by omega)), (by rw [Nat.add_assoc]; exact q 1 (by omega)), (by rw [Nat.add_assoc]; exact q 2 (by omega))⟩
      · have hi2 : i < len + 1 := by simpa using hi
        simp only [List.getElem_map, List.getElem_range]
        obtain ⟨_, q1, q2, q3, _⟩ := hf i hi2
        exact ⟨q1, q2, q3⟩
      · have hi2 : i < len + 1 := by simpa using hi
        simp only [List.getElem_map, List.getElem_range]
        obtain ⟨_, _, _, _, q4, q5⟩ := hf i hi2
        exact ⟨q4, q5⟩
theorem cR : Try.prog.cellsOf 26 = 3 := by kernel_rfl
theorem cLS : Try.prog.cellsOf 22 = 1 := by kernel_rfl
theorem cCS : Try.prog.cellsOf 23 = 1 := by kernel_rfl
theorem cMS : Try.prog.cellsOf 24 = 1 := by kernel_rfl
theorem array3 {α : Type} {cs : Array α} (h : cs.size = 3) : ∃ c0 c1 c2, cs = #[c0, c1, c2] := by
  obtain ⟨l⟩ := cs
  match l, h with
  | [c0, c1, c2], _ => exact ⟨c0, c1, c2, rfl⟩
set_option maxRecDepth 100000 in
theorem open_router {H : Type} {enc : TypeId × Value → H} {W : World} {base : Nat} {v : Value} {d : DataW H} {p : List MemPlace} (hv : Value.okWide Try.prog W .any base 26 v)
    (h : DataW.Trod enc Try.prog W 0 (fun _ => true) true 26 v d p) : ∃ (r : RT) (a : RA), v = rtA a ∧ RRows W r a ∧ RMax r := by
  obtain ⟨cs, rfl, hsz⟩ := okWide_struct Try.underlying26 hv
  obtain ⟨x0, x1, x2, rfl⟩ := array3 (hsz.trans cR)
  obtain ⟨fuel, hf⟩ := h
  obtain ⟨xs, n, _, hx, _, hlen, hel⟩ := DataW.trod_struct Try.underlying26 hf
  match xs, hlen, hel, hx with
  | [y0, y1, y2], _, hel, hx =>
    have g0 := hel 0 _ rfl
    have g1 := hel 1 _ rfl
    have g2 := hel 2 _ rfl
    simp only [Value.cells] at g0 g1 g2
    have k0 : DataW.trod enc Try.prog W 0 (fun _ => true) true n 22 [x0] = some y0 := by simpa [cLS, cCS, cMS] using g0
    obtain ⟨l0, r0, w0⟩ := open_lnS k0
    have k1 : DataW.trod enc Try.prog W 0 (fun _ => true) true n 23 [x1] = some y1 := by simpa [cLS, cCS, cMS] using g1
    obtain ⟨qs, l1, r1, p1, w1, e1⟩ := open_cqS k1
    have k2 : DataW.trod enc Try.prog W 0 (fun _ => true) true n 24 [x2] = some y2 := by simpa [cLS, cCS, cMS] using g2
    obtain ⟨l2, r2, w2⟩ := open_rmS k2
    exact ⟨⟨l0, l1, l2⟩, ⟨x0, x1, x2, qs⟩, rfl, ⟨r0, r1, p1, r2⟩, ⟨w0, w1, w2, e1⟩⟩
end Go.Proofs.Ytefeahilamiiaaa
