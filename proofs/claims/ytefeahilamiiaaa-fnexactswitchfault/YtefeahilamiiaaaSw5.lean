import Derived.Test.YtefeahilamiiaaaSw4
import Derived.Deep.Slices
namespace Go.Proofs.Ytefeahilamiiaaa
open Go.ChangeShapes Go.WideShapes Go.ChangeAt Go.RowKit

theorem cPQ : Try.prog.cellsOf 95 = 7 := by kernel_rfl
theorem cIS : Try.prog.cellsOf 57 = 1 := by kernel_rfl
theorem cI1 : Try.prog.cellsOf 2 = 1 := by kernel_rfl
theorem cB1 : Try.prog.cellsOf 4 = 1 := by kernel_rfl
theorem list7 {α : Type} {cs : List α} (h : cs.length = 7) : ∃ x0 x1 x2 x3 x4 x5 x6, cs = [x0, x1, x2, x3, x4, x5, x6] := by
  match cs, h with
  | [x0, x1, x2, x3, x4, x5, x6], _ => exact ⟨x0, x1, x2, x3, x4, x5, x6, rfl⟩
set_option maxRecDepth 100000 in
theorem pq_one {H : Type} {enc : TypeId × Value → H} {W : World} {fuel : Nat} {cs : List Value} {x : DataW H × List MemPlace} (h : DataW.trod enc Try.prog W 0 (fun _ => true) true fuel 95 cs = some x) : ∃ z : PQ × PO, cs = pqC z.1 ∧ z.1 = poQ z.2 z.1.nets ∧ Irow W z.1.nets z.2.ns ∧ z.2.ns.length ≤ maxLen := by
  obtain ⟨xs, m, _, hx, hl, hlen, hel⟩ := DataW.trod_struct Try.underlying95 h
  obtain ⟨x0, x1, x2, x3, x4, x5, x6, rfl⟩ := list7 (hl.trans cPQ)
  match xs, hlen, hel, hx with
  | [y0, y1, y2, y3, y4, y5, y6], _, hel, hx =>
    have g0 := hel 0 _ rfl
    have g1 := hel 1 _ rfl
    have g2 := hel 2 _ rfl
    have g3 := hel 3 _ rfl
    have g4 := hel 4 _ rfl
    have g5 := hel 5 _ rfl
    have g6 := hel 6 _ rfl
    obtain ⟨a0, e0, _, _⟩ := DataW.trod_int Try.underlying2 g0
    obtain ⟨a2, e2, _, _⟩ := DataW.trod_int Try.underlying2 g2
    obtain ⟨a3, e3, _⟩ := DataW.trod_bool Try.underlying4 g3
    obtain ⟨a4, e4, _, _⟩ := DataW.trod_int Try.underlying2 g4
    obtain ⟨a5, e5, _, _⟩ := DataW.trod_int Try.underlying2 g5
    obtain ⟨a6, e6, _, _⟩ := DataW.trod_int Try.underlying2 g6
    simp [cI1, cB1] at e0 e2 e3 e4 e5 e6
    subst e0 e2 e3 e4 e5 e6
    have k1 : DataW.trod enc Try.prog W 0 (fun _ => true) true m 57 [x1] = some y1 := by simpa [cI1, cIS] using g1
    obtain ⟨l1, r1, w1⟩ := open_iS k1
    exact ⟨⟨⟨a0, x1, a2, a3, a4, a5, a6⟩, ⟨a0, a2, a3, a4, a5, a6, l1⟩⟩, rfl, rfl, r1, w1⟩
def po0 : PO := ⟨0, 0, false, 0, 0, 0, []⟩
instance : Inhabited (PQ × PO) := ⟨⟨pq0, po0⟩⟩
set_option maxRecDepth 100000 in
theorem open_pqS {H : Type} {enc : TypeId × Value → H} {W : World} {fuel : Nat} {c : Value} {x : DataW H × List MemPlace} (h : DataW.trod enc Try.prog W 0 (fun _ => true) true fuel 37 [c] = some x) : ∃ (qs : List PQ) (cs : List PO), PQrow W c qs ∧ POin W qs cs ∧ cs.length ≤ maxLen ∧ ∀ k (hk : k < cs.length), cs[k].ns.length ≤ maxLen := by
  rcases Go.Deep.open_slice Try.underlying37 h with ⟨hcs, _⟩ | ⟨a, len, cap, m, k, D, Pl, hcs, _, hl, hm, hmm, _, hel⟩
  · obtain rfl : c = .slice none 0 0 := by simpa using hcs
    exact ⟨[], [], .inl ⟨rfl, none, 0, rfl⟩, ⟨rfl, fun k hk => absurd hk (by simp)⟩, Nat.zero_le _, fun k hk => absurd hk (by simp)⟩
  · obtain rfl : c = .slice (some a) len cap := by simpa using hcs
    rw [if_pos rfl] at hmm
    subst hmm
    rw [cPQ] at hel
    cases len with
    | zero => exact ⟨[], [], .inl ⟨rfl, _, _, rfl⟩, ⟨rfl, fun k hk => absurd hk (by simp)⟩, Nat.zero_le _, fun k hk => absurd hk (by simp)⟩
    | succ len =>
      have each : ∀ i, i < len + 1 → ∃ z : PQ × PO, (∀ j, j < 7 → W.cell? (a.add (i * 7 + j)) = (pqC z.1)[j]?) ∧ z.1 = poQ z.2 z.1.nets ∧ Irow W z.1.nets z.2.ns ∧ z.2.ns.length ≤ maxLen := by
        intro i hi
        obtain ⟨cs', h1, h2⟩ := hel i (by omega)
        obtain ⟨z, rfl, hz⟩ := pq_one h2
        obtain ⟨_, _, h3⟩ := World.cells?_some h1
        refine ⟨z, fun j hj => ?_, hz⟩
        rw [← Go.Deep.add_add]
        exact h3 j hj
      obtain ⟨f, hf⟩ := Go.Deep.choose_lt each
      have h0 := (hf 0 (by omega)).1 0 (by omega)
      have hsp : a.spot = none := by
        cases hs : a.spot with
        | none => rfl
        | some q =>
          simp [Addr.add, World.cell?, hs, pqC] at h0
          cases hq : W.heap[a.block]? with
          | none => simp [hq] at h0
          | some ob => cases ob <;> simp [hq] at h0
      have hlt : a.block < W.heap.size := by
        simp [Addr.add, World.cell?, pqC] at h0
        cases hq : W.heap[a.block]? with
        | none => simp [hq] at h0
        | some ob => exact (Array.getElem?_eq_some_iff.1 hq).1
      obtain ⟨b, o, sp⟩ := a
      simp only at hsp hlt
      subst hsp
      have hadd : ∀ q, Addr.add ⟨b, o, none⟩ q = ⟨b, o + q, none⟩ := fun q => by
        unfold Addr.add
        split
        · subst_vars; rfl
        · rfl
      refine ⟨(List.range (len + 1)).map (fun i => (f i).1), (List.range (len + 1)).map (fun i => (f i).2), .inr ⟨b, o, m, by simp, by simpa using hl, hlt, fun i hi => ?_⟩, ⟨by simp, fun i hi hi3 => ?_⟩, by simp; omega, fun i hi => ?_⟩
      · have hi2 : i < len + 1 := by simpa using hi
        have hfi : ((List.range (len + 1)).map (fun i => (f i).1))[i] = (f i).1 := by simp
        rw [hfi]
        have q := fun j hj => (hf i hi2).1 j hj
        simp only [hadd] at q
        exact ⟨(q 0 (by omega)), (by rw [Nat.add_assoc]; exact q 1 (by omega)), (by rw [Nat.add_assoc]; exact q 2 (by omega)), (by rw [Nat.add_assoc]; exact q 3 (by omega)), (by rw [Nat.add_assoc]; exact q 4 (by omega)), (by rw [Nat.add_assoc]; exact q 5 (by omega)), (by rw [Nat.add_assoc]; exact q 6 (by omega))⟩
      · have hi2 : i < len + 1 := by simpa using hi
        simp only [List.getElem_map, List.getElem_range]
        obtain ⟨_, q1, q2, _⟩ := hf i hi2
        exact ⟨q1, q2⟩
      · have hi2 : i < len + 1 := by simpa using hi
        simp only [List.getElem_map, List.getElem_range]
        obtain ⟨_, _, _, q4⟩ := hf i hi2
        exact q4
theorem cSW : Try.prog.cellsOf 40 = 4 := by kernel_rfl
theorem cPS : Try.prog.cellsOf 37 = 1 := by kernel_rfl
theorem cES : Try.prog.cellsOf 38 = 1 := by kernel_rfl
theorem array4S {α : Type} {cs : Array α} (h : cs.size = 4) : ∃ c0 c1 c2 c3, cs = #[c0, c1, c2, c3] := by
  obtain ⟨l⟩ := cs
  match l, h with
  | [c0, c1, c2, c3], _ => exact ⟨c0, c1, c2, c3, rfl⟩
set_option maxRecDepth 100000 in
theorem open_switch {H : Type} {enc : TypeId × Value → H} {W : World} {base : Nat} {v : Value} {d : DataW H} {p : List MemPlace} (hv : Value.okWide Try.prog W .any base 40 v)
    (h : DataW.Trod enc Try.prog W 0 (fun _ => true) true 40 v d p) : ∃ (s : SW) (a : SA), v = swA s a ∧ SRows W s a ∧ SMax s := by
  obtain ⟨cs, rfl, hsz⟩ := okWide_struct Try.underlying40 hv
  obtain ⟨x0, x1, x2, x3, rfl⟩ := array4S (hsz.trans cSW)
  obtain ⟨fuel, hf⟩ := h
  obtain ⟨xs, n, _, hx, _, hlen, hel⟩ := DataW.trod_struct Try.underlying40 hf
  match xs, hlen, hel, hx with
  | [y0, y1, y2, y3], _, hel, hx =>
    have g0 := hel 0 _ rfl
    have g1 := hel 1 _ rfl
    have g2 := hel 2 _ rfl
    have g3 := hel 3 _ rfl
    simp only [Value.cells] at g0 g1 g2 g3
    have k0 : DataW.trod enc Try.prog W 0 (fun _ => true) true n 37 [x0] = some y0 := by simpa [cPS, cES] using g0
    obtain ⟨qs, l0, r0, p0, w0, e0⟩ := open_pqS k0
    have k1 : DataW.trod enc Try.prog W 0 (fun _ => true) true n 38 [x1] = some y1 := by simpa [cPS, cES] using g1
    obtain ⟨l1, r1, w1⟩ := open_seS k1
    obtain ⟨a2, e2, _, _⟩ := DataW.trod_int Try.underlying2 g2
    obtain ⟨a3, e3, _, _⟩ := DataW.trod_int Try.underlying2 g3
    simp [cI1] at e2 e3
    subst e2 e3
    exact ⟨⟨l0, l1, a2, a3⟩, ⟨x0, x1, qs⟩, rfl, ⟨r0, p0, r1⟩, ⟨⟨w0, e0⟩, w1⟩⟩
end Go.Proofs.Ytefeahilamiiaaa
