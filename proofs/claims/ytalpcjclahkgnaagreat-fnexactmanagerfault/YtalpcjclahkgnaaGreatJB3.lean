import Derived.Test.YtalpcjclahkgnaaGreatJB2
import Derived.Deep.Slices
namespace Go.Proofs.YtalpcjclahkgnaaGreat
open Go.ChangeShapes Go.WideShapes Go.ChangeAt Go.RowKit

theorem cMJ : Tryz.prog.cellsOf 68 = 5 := by kernel_rfl
theorem cMJv : Tryz.prog.cellsOf 51 = 1 := by kernel_rfl
theorem cMJi : Tryz.prog.cellsOf 2 = 1 := by kernel_rfl
theorem cMJs : Tryz.prog.cellsOf 9 = 1 := by kernel_rfl
theorem cMJb : Tryz.prog.cellsOf 4 = 1 := by kernel_rfl
theorem listMJ {α : Type} {cs : List α} (h : cs.length = 5) : ∃ x0 x1 x2 x3 x4, cs = [x0, x1, x2, x3, x4] := by
  match cs, h with
  | [x0, x1, x2, x3, x4], _ => exact ⟨x0, x1, x2, x3, x4, rfl⟩
set_option maxRecDepth 100000 in
theorem mj_one {H : Type} {enc : TypeId × Value → H} {W : World} {fuel : Nat} {cs : List Value} {x : DataW H × List MemPlace} (h : DataW.trod enc Tryz.prog W 0 (fun _ => true) true fuel 68 cs = some x) : ∃ z : MJ × JB, cs = mjC z.1 ∧ z.1 = jbQ z.2 z.1.left ∧ Srow W z.1.left z.2.ls ∧ (z.2.ls.length ≤ maxLen ∧ z.2.node.size ≤ maxLen ∧ ∀ q9 ∈ z.2.ls, q9.size ≤ maxLen) := by
  obtain ⟨xs, m, _, hx, hl, hlen, hel⟩ := DataW.trod_struct Tryz.underlying68 h
  obtain ⟨x0, x1, x2, x3, x4, rfl⟩ := listMJ (hl.trans cMJ)
  match xs, hlen, hel, hx with
  | [y0, y1, y2, y3, y4], _, hel, hx =>
    have g0 := hel 0 _ rfl
    have g1 := hel 1 _ rfl
    have g2 := hel 2 _ rfl
    have g3 := hel 3 _ rfl
    have g4 := hel 4 _ rfl
    obtain ⟨a0, e0, _, _⟩ := DataW.trod_int Tryz.underlying2 g0
    obtain ⟨a1, e1, _, n1⟩ := DataW.trod_string Tryz.underlying9 g1
    obtain ⟨a3, e3, _, _⟩ := DataW.trod_int Tryz.underlying2 g3
    obtain ⟨a4, e4, _, _⟩ := DataW.trod_int Tryz.underlying2 g4
    simp [cMJi, cMJs] at e0 e1 e3 e4
    subst e0 e1 e3 e4
    have kk : DataW.trod enc Tryz.prog W 0 (fun _ => true) true m 51 [x2] = some y2 := by simpa [cMJi, cMJs, cMJv] using g2
    obtain ⟨l1, r1, w1⟩ := open_sS kk
    exact ⟨⟨⟨a0, a1, x2, a3, a4⟩, ⟨a0, a1, a3, a4, l1⟩⟩, rfl, rfl, r1, w1.1, n1, w1.2⟩
def jb0 : JB := ⟨0, ⟨#[]⟩, 0, 0, []⟩
instance : Inhabited (MJ × JB) := ⟨⟨mj0, jb0⟩⟩
set_option maxRecDepth 100000 in
theorem open_mjS {H : Type} {enc : TypeId × Value → H} {W : World} {fuel : Nat} {c : Value} {x : DataW H × List MemPlace} (h : DataW.trod enc Tryz.prog W 0 (fun _ => true) true fuel 28 [c] = some x) : ∃ (qs : List MJ) (cs : List JB), MJrow W c qs ∧ JBin W qs cs ∧ cs.length ≤ maxLen ∧ ∀ k (hk : k < cs.length), (cs[k].ls.length ≤ maxLen ∧ cs[k].node.size ≤ maxLen ∧ ∀ q9 ∈ cs[k].ls, q9.size ≤ maxLen) := by
  rcases Go.Deep.open_slice Tryz.underlying28 h with ⟨hcs, _⟩ | ⟨a, len, cap, m, k, D, Pl, hcs, _, hl, hm, hmm, _, hel⟩
  · obtain rfl : c = .slice none 0 0 := by simpa using hcs
    exact ⟨[], [], .inl ⟨rfl, none, 0, rfl⟩, ⟨rfl, fun k hk => absurd hk (by simp)⟩, Nat.zero_le _, fun k hk => absurd hk (by simp)⟩
  · obtain rfl : c = .slice (some a) len cap := by simpa using hcs
    rw [if_pos rfl] at hmm
    subst hmm
    rw [cMJ] at hel
    cases len with
    | zero => exact ⟨[], [], .inl ⟨rfl, _, _, rfl⟩, ⟨rfl, fun k hk => absurd hk (by simp)⟩, Nat.zero_le _, fun k hk => absurd hk (by simp)⟩
    | succ len =>
      have each : ∀ i, i < len + 1 → ∃ z : MJ × JB, (∀ j, j < 5 → W.cell? (a.add (i * 5 + j)) = (mjC z.1)[j]?) ∧ z.1 = jbQ z.2 z.1.left ∧ Srow W z.1.left z.2.ls ∧ (z.2.ls.length ≤ maxLen ∧ z.2.node.size ≤ maxLen ∧ ∀ q9 ∈ z.2.ls, q9.size ≤ maxLen) := by
        intro i hi
        obtain ⟨cs', h1, h2⟩ := hel i (by omega)
        obtain ⟨z, rfl, hz⟩ := mj_one h2
        obtain ⟨_, _, h3⟩ := World.cells?_some h1
        refine ⟨z, fun j hj => ?_, hz⟩
        rw [← Go.Deep.add_add]
        exact h3 j hj
      obtain ⟨f, hf⟩ := Go.Deep.choose_lt each
      have h0 := (hf 0 (by omega)).1 0 (by omega)
      have hsp : a.spot = none := by
        cases hs : a.spot with
        | none => rfl
        | some q =>
          simp [Addr.add, World.cell?, hs, mjC] at h0
          cases hq : W.heap[a.block]? with
          | none => simp [hq] at h0
          | some ob => cases ob <;> simp [hq] at h0
      have hlt : a.block < W.heap.size := by
        simp [Addr.add, World.cell?, mjC] at h0
        cases hq : W.heap[a.block]? with
        | none => simp [hq] at h0
        | some ob => exact (Array.getElem?_eq_some_iff.1 hq).1
      obtain ⟨b, o, sp⟩ := a
      simp only at hsp hlt
      subst hsp
      have hadd : ∀ q, Addr.add ⟨b, o, none⟩ q = ⟨b, o + q, none⟩ := fun q => by
        unfold Addr.add
        split
        · subst_vars; rfl
        · rfl
      refine ⟨(List.range (len + 1)).map (fun i => (f i).1), (List.range (len + 1)).map (fun i => (f i).2), .inr ⟨b, o, m, by simp, by simpa using hl, hlt, fun i hi => ?_⟩, ⟨by simp, fun i hi hi3 => ?_⟩, by simp; omega, fun i hi => ?_⟩
      · have hi2 : i < len + 1 := by simpa using hi
        have hfi : ((List.range (len + 1)).map (fun i => (f i).1))[i] = (f i).1 := by simp
        rw [hfi]
        have q := fun j hj => (hf i hi2).1 j hj
        simp only [hadd] at q
        exact ⟨(q 0 (by omega)), (by rw [Nat.add_assoc]; exact q 1 (by omega)), (by rw [Nat.add_assoc]; exact q 2 (by omega)), (by rw [Nat.add_assoc]; exact q 3 (by omega)), (by rw [Nat.add_assoc]; exact q 4 (by omega))⟩
      · have hi2 : i < len + 1 := by simpa using hi
        simp only [List.getElem_map, List.getElem_range]
        obtain ⟨_, q1, q2, _⟩ := hf i hi2
        exact ⟨q1, q2⟩
      · have hi2 : i < len + 1 := by simpa using hi
        simp only [List.getElem_map, List.getElem_range]
        obtain ⟨_, _, _, q4⟩ := hf i hi2
        exact q4
end Go.Proofs.YtalpcjclahkgnaaGreat
