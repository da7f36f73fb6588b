import Derived.Test.YtkmbhhkgfofcoaaRowNOD3
import Derived.Deep.Slices
namespace Go.Proofs.Ytkmbhhkgfofcoaa
open Go.ChangeShapes Go.WideShapes Go.ChangeAt Go.RowKit

theorem cNOD : Try.prog.cellsOf 72 = 7 := by kernel_rfl
theorem ciNOD : Try.prog.cellsOf 2 = 1 := by kernel_rfl
theorem cbNOD : Try.prog.cellsOf 4 = 1 := by kernel_rfl
theorem csNOD : Try.prog.cellsOf 9 = 1 := by kernel_rfl
theorem listNOD {α : Type} {cs : List α} (h : cs.length = 7) : ∃ x0 x1 x2 x3 x4 x5 x6, cs = [x0, x1, x2, x3, x4, x5, x6] := by
  match cs, h with
  | [x0, x1, x2, x3, x4, x5, x6], _ => exact ⟨x0, x1, x2, x3, x4, x5, x6, rfl⟩
theorem nod_one {H : Type} {enc : TypeId × Value → H} {W : World} {fuel : Nat} {cs : List Value} {x : DataW H × List MemPlace} (h : DataW.trod enc Try.prog W 0 (fun _ => true) true fuel 72 cs = some x) : ∃ z : NOD, cs = nodC z ∧ z.name.size ≤ maxLen := by
  obtain ⟨xs, m, _, hx, hl, hlen, hel⟩ := DataW.trod_struct Try.underlying72 h
  obtain ⟨x0, x1, x2, x3, x4, x5, x6, rfl⟩ := listNOD (hl.trans cNOD)
  match xs, hlen, hel, hx with
  | [y0, y1, y2, y3, y4, y5, y6], _, hel, hx =>
    have g0 := hel 0 _ rfl
    have g1 := hel 1 _ rfl
    have g2 := hel 2 _ rfl
    have g3 := hel 3 _ rfl
    have g4 := hel 4 _ rfl
    have g5 := hel 5 _ rfl
    have g6 := hel 6 _ rfl
    obtain ⟨a0, e0, _, w0⟩ := DataW.trod_string Try.underlying9 g0
    obtain ⟨a1, e1, _, _⟩ := DataW.trod_int Try.underlying2 g1
    obtain ⟨a2, e2, _, _⟩ := DataW.trod_int Try.underlying2 g2
    obtain ⟨a3, e3, _, _⟩ := DataW.trod_int Try.underlying2 g3
    obtain ⟨a4, e4, _, _⟩ := DataW.trod_int Try.underlying2 g4
    obtain ⟨a5, e5, _⟩ := DataW.trod_bool Try.underlying4 g5
    obtain ⟨a6, e6, _⟩ := DataW.trod_bool Try.underlying4 g6
    simp [ciNOD, cbNOD, csNOD] at e0 e1 e2 e3 e4 e5 e6
    subst e0 e1 e2 e3 e4 e5 e6
    exact ⟨⟨a0, a1, a2, a3, a4, a5, a6⟩, rfl, w0⟩
instance : Inhabited NOD := ⟨nod0⟩
theorem open_nodS {H : Type} {enc : TypeId × Value → H} {W : World} {fuel : Nat} {c : Value} {x : DataW H × List MemPlace} (h : DataW.trod enc Try.prog W 0 (fun _ => true) true fuel 22 [c] = some x) : ∃ zs : List NOD, NODrow W c zs ∧ zs.length ≤ maxLen ∧ ∀ z ∈ zs, z.name.size ≤ maxLen := by
  rcases Go.Deep.open_slice Try.underlying22 h with ⟨hcs, _⟩ | ⟨a, len, cap, m, k, D, Pl, hcs, _, hl, hm, hmm, _, hel⟩
  · obtain rfl : c = .slice none 0 0 := by simpa using hcs
    exact ⟨[], .inl ⟨rfl, none, 0, rfl⟩, Nat.zero_le _, fun z hz => by cases hz⟩
  · obtain rfl : c = .slice (some a) len cap := by simpa using hcs
    rw [if_pos rfl] at hmm
    subst hmm
    rw [cNOD] at hel
    cases len with
    | zero => exact ⟨[], .inl ⟨rfl, _, _, rfl⟩, Nat.zero_le _, fun z hz => by cases hz⟩
    | succ len =>
      have each : ∀ i, i < len + 1 → ∃ z : NOD, (∀ j, j < 7 → W.cell? (a.add (i * 7 + j)) = (nodC z)[j]?) ∧ z.name.size ≤ maxLen := by
        intro i hi
        obtain ⟨cs', h1, h2⟩ := hel i (by omega)
        obtain ⟨z, rfl, q0⟩ := nod_one h2
        obtain ⟨_, _, h3⟩ := World.cells?_some h1
        refine ⟨z, fun j hj => ?_, q0⟩
        rw [← Go.Deep.add_add]
        exact h3 j hj
      obtain ⟨f, hf⟩ := Go.Deep.choose_lt each
      have h0 := (hf 0 (by omega)).1 0 (by omega)
      have hsp : a.spot = none := by
        cases hs : a.spot with
        | none => rfl
        | some q =>
          simp [Addr.add, World.cell?, hs, nodC] at h0
          cases hq : W.heap[a.block]? with
          | none => simp [hq] at h0
          | some ob => cases ob <;> simp [hq] at h0
      have hlt : a.block < W.heap.size := by
        simp [Addr.add, World.cell?, nodC] at h0
        cases hq : W.heap[a.block]? with
        | none => simp [hq] at h0
        | some ob => exact (Array.getElem?_eq_some_iff.1 hq).1
      obtain ⟨b, o, sp⟩ := a
      simp only at hsp hlt
      subst hsp
      have hadd : ∀ q, Addr.add ⟨b, o, none⟩ q = ⟨b, o + q, none⟩ := fun q => by
        unfold Addr.add
        split
        · subst_vars; rfl
        · rfl
      refine ⟨(List.range (len + 1)).map f, .inr ⟨b, o, m, by simp, by simpa using hl, hlt, fun i hi => ?_⟩, by simp; omega, fun z hz => ?_⟩
      case refine_2 =>
        obtain ⟨i, hi, rfl⟩ := List.mem_map.1 hz
        exact (hf i (by simpa using hi)).2
      have hi2 : i < len + 1 := by simpa using hi
      have hfi : ((List.range (len + 1)).map f)[i] = f i := by simp
      rw [hfi]
      have q := fun j hj => (hf i hi2).1 j hj
      simp only [hadd] at q
      exact ⟨(q 0 (by omega)), (by rw [Nat.add_assoc]; exact q 1 (by omega)), (by rw [Nat.add_assoc]; exact q 2 (by omega)), (by rw [Nat.add_assoc]; exact q 3 (by omega)), (by rw [Nat.add_assoc]; exact q 4 (by omega)), (by rw [Nat.add_assoc]; exact q 5 (by omega)), (by rw [Nat.add_assoc]; exact q 6 (by omega))⟩
end Go.Proofs.Ytkmbhhkgfofcoaa
