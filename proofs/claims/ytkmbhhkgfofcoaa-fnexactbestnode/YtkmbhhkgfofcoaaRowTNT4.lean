import Derived.Test.YtkmbhhkgfofcoaaRowTNT3
import Derived.Deep.Slices
namespace Go.Proofs.Ytkmbhhkgfofcoaa
open Go.ChangeShapes Go.WideShapes Go.ChangeAt Go.RowKit

theorem cTNT : Try.prog.cellsOf 76 = 3 := by kernel_rfl
theorem ciTNT : Try.prog.cellsOf 2 = 1 := by kernel_rfl
theorem listTNT {α : Type} {cs : List α} (h : cs.length = 3) : ∃ x0 x1 x2, cs = [x0, x1, x2] := by
  match cs, h with
  | [x0, x1, x2], _ => exact ⟨x0, x1, x2, rfl⟩
theorem tnt_one {H : Type} {enc : TypeId × Value → H} {W : World} {fuel : Nat} {cs : List Value} {x : DataW H × List MemPlace} (h : DataW.trod enc Try.prog W 0 (fun _ => true) true fuel 76 cs = some x) : ∃ z : TNT, cs = tntC z := by
  obtain ⟨xs, m, _, hx, hl, hlen, hel⟩ := DataW.trod_struct Try.underlying76 h
  obtain ⟨x0, x1, x2, rfl⟩ := listTNT (hl.trans cTNT)
  match xs, hlen, hel, hx with
  | [y0, y1, y2], _, hel, hx =>
    have g0 := hel 0 _ rfl
    have g1 := hel 1 _ rfl
    have g2 := hel 2 _ rfl
    obtain ⟨a0, e0, _, _⟩ := DataW.trod_int Try.underlying2 g0
    obtain ⟨a1, e1, _, _⟩ := DataW.trod_int Try.underlying2 g1
    obtain ⟨a2, e2, _, _⟩ := DataW.trod_int Try.underlying2 g2
    simp [ciTNT] at e0 e1 e2
    subst e0 e1 e2
    exact ⟨⟨a0, a1, a2⟩, rfl⟩
instance : Inhabited TNT := ⟨tnt0⟩
theorem open_tntS {H : Type} {enc : TypeId × Value → H} {W : World} {fuel : Nat} {c : Value} {x : DataW H × List MemPlace} (h : DataW.trod enc Try.prog W 0 (fun _ => true) true fuel 24 [c] = some x) : ∃ zs : List TNT, TNTrow W c zs ∧ zs.length ≤ maxLen := by
  rcases Go.Deep.open_slice Try.underlying24 h with ⟨hcs, _⟩ | ⟨a, len, cap, m, k, D, Pl, hcs, _, hl, hm, hmm, _, hel⟩
  · obtain rfl : c = .slice none 0 0 := by simpa using hcs
    exact ⟨[], .inl ⟨rfl, none, 0, rfl⟩, Nat.zero_le _⟩
  · obtain rfl : c = .slice (some a) len cap := by simpa using hcs
    rw [if_pos rfl] at hmm
    subst hmm
    rw [cTNT] at hel
    cases len with
    | zero => exact ⟨[], .inl ⟨rfl, _, _, rfl⟩, Nat.zero_le _⟩
    | succ len =>
      have each : ∀ i, i < len + 1 → ∃ z : TNT, (∀ j, j < 3 → W.cell? (a.add (i * 3 + j)) = (tntC z)[j]?) := by
        intro i hi
        obtain ⟨cs', h1, h2⟩ := hel i (by omega)
        obtain ⟨z, rfl⟩ := tnt_one h2
        obtain ⟨_, _, h3⟩ := World.cells?_some h1
        refine ⟨z, fun j hj => ?_⟩
        rw [← Go.Deep.add_add]
        exact h3 j hj
      obtain ⟨f, hf⟩ := Go.Deep.choose_lt each
      have h0 := (hf 0 (by omega)) 0 (by omega)
      have hsp : a.spot = none := by
        cases hs : a.spot with
        | none => rfl
        | some q =>
          simp [Addr.add, World.cell?, hs, tntC] at h0
          cases hq : W.heap[a.block]? with
          | none => simp [hq] at h0
          | some ob => cases ob <;> simp [hq] at h0
      have hlt : a.block < W.heap.size := by
        simp [Addr.add, World.cell?, tntC] at h0
        cases hq : W.heap[a.block]? with
        | none => simp [hq] at h0
        | some ob => exact (Array.getElem?_eq_some_iff.1 hq).1
      obtain ⟨b, o, sp⟩ := a
      simp only at hsp hlt
      subst hsp
      have hadd : ∀ q, Addr.add ⟨b, o, none⟩ q = ⟨b, o + q, none⟩ := fun q => by
        unfold Addr.add
        split
        · subst_vars; rfl
        · rfl
      refine ⟨(List.range (len + 1)).map f, .inr ⟨b, o, m, by simp, by simpa using hl, hlt, fun i hi => ?_⟩, by simp; omega⟩
      have hi2 : i < len + 1 := by simpa using hi
      have hfi : ((List.range (len + 1)).map f)[i] = f i := by simp
      rw [hfi]
      have q := fun j hj => (hf i hi2) j hj
      simp only [hadd] at q
      exact ⟨(q 0 (by omega)), (by rw [Nat.add_assoc]; exact q 1 (by omega)), (by rw [Nat.add_assoc]; exact q 2 (by omega))⟩
end Go.Proofs.Ytkmbhhkgfofcoaa
