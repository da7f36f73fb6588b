import Derived.Test.YtaobbddecmhpnaaImZ
import Derived.Deep.Slices
namespace Go.Proofs.Ytaobbddecmhpnaa
open Go.ChangeShapes Go.WideShapes Go.ChangeAt Go.RowKit

theorem cSN : Try.prog.cellsOf 55 = 2 := by kernel_rfl
theorem cIS : Try.prog.cellsOf 22 = 1 := by kernel_rfl
theorem cSS : Try.prog.cellsOf 23 = 1 := by kernel_rfl
theorem cNS : Try.prog.cellsOf 24 = 1 := by kernel_rfl
theorem list2 {α : Type} {cs : List α} (h : cs.length = 2) : ∃ x0 x1, cs = [x0, x1] := by
  match cs, h with
  | [x0, x1], _ => exact ⟨x0, x1, rfl⟩
theorem sn_one {H : Type} {enc : TypeId × Value → H} {W : World} {fuel : Nat} {cs : List Value} {x : DataW H × List MemPlace} (h : DataW.trod enc Try.prog W 0 (fun _ => true) true fuel 55 cs = some x) : ∃ z : SN × SP, cs = snC z.1 ∧ z.1.n = z.2.n ∧ Irow W z.1.t z.2.t ∧ z.2.t.length ≤ maxLen ∧ z.2.n.size ≤ maxLen := by
  obtain ⟨xs, m, _, hx, hl, hlen, hel⟩ := DataW.trod_struct Try.underlying55 h
  obtain ⟨x0, x1, rfl⟩ := list2 (hl.trans cSN)
  match xs, hlen, hel, hx with
  | [y0, y1], _, hel, hx =>
    have g0 := hel 0 _ rfl
    have g1 := hel 1 _ rfl
    obtain ⟨a0, e0, _, w0⟩ := DataW.trod_string Try.underlying9 g0
    simp [csS] at e0
    subst e0
    have k1 : DataW.trod enc Try.prog W 0 (fun _ => true) true m 22 [x1] = some y1 := by simpa [csS, cIS] using g1
    obtain ⟨l1, r1, w1⟩ := open_iS k1
    exact ⟨⟨⟨a0, x1⟩, ⟨a0, l1⟩⟩, rfl, rfl, r1, w1, w0⟩
instance : Inhabited (SN × SP) := ⟨⟨sn0, ⟨⟨#[]⟩, []⟩⟩⟩
theorem open_snS {H : Type} {enc : TypeId × Value → H} {W : World} {fuel : Nat} {c : Value} {x : DataW H × List MemPlace} (h : DataW.trod enc Try.prog W 0 (fun _ => true) true fuel 24 [c] = some x) : ∃ (qs : List SN) (cs : List SP), SNrow W c qs ∧ SNin W qs cs ∧ cs.length ≤ maxLen ∧ ∀ k (hk : k < cs.length), cs[k].t.length ≤ maxLen ∧ cs[k].n.size ≤ maxLen := by
  rcases Go.Deep.open_slice Try.underlying24 h with ⟨hcs, _⟩ | ⟨a, len, cap, m, k, D, Pl, hcs, _, hl, hm, hmm, _, hel⟩
  · obtain rfl : c = .slice none 0 0 := by simpa using hcs
    exact ⟨[], [], .inl ⟨rfl, none, 0, rfl⟩, ⟨rfl, fun k hk => absurd hk (by simp)⟩, Nat.zero_le _, fun k hk => absurd hk (by simp)⟩
  · obtain rfl : c = .slice (some a) len cap := by simpa using hcs
    rw [if_pos rfl] at hmm
    subst hmm
    rw [cSN] at hel
    cases len with
    | zero => exact ⟨[], [], .inl ⟨rfl, _, _, rfl⟩, ⟨rfl, fun k hk => absurd hk (by simp)⟩, Nat.zero_le _, fun k hk => absurd hk (by simp)⟩
    | succ len =>
      have each : ∀ i, i < len + 1 → ∃ z : SN × SP, (∀ j, j < 2 → W.cell? (a.add (i * 2 + j)) = (snC z.1)[j]?) ∧ z.1.n = z.2.n ∧ Irow W z.1.t z.2.t ∧ z.2.t.length ≤ maxLen ∧ z.2.n.size ≤ maxLen := by
        intro i hi
        obtain ⟨cs', h1, h2⟩ := hel i (by omega)
        obtain ⟨z, rfl, hz⟩ := sn_one h2
        obtain ⟨_, _, h3⟩ := World.cells?_some h1
        refine ⟨z, fun j hj => ?_, hz⟩
        rw [← Go.Deep.add_add]
        exact h3 j hj
      obtain ⟨f, hf⟩ := Go.Deep.choose_lt each
      have h0 := (hf 0 (by omega)).1 0 (by omega)
      have hsp : a.spot = none := by
        cases hs : a.spot with
        | none => rfl
        | some q =>
          simp [Addr.add, World.cell?, hs, snC] at h0
          cases hq : W.heap[a.block]? with
          | none => simp [hq] at h0
          | some ob => cases ob <;> simp [hq] at h0
      have hlt : a.block < W.heap.size := by
        simp [Addr.add, World.cell?, snC] at h0
        cases hq : W.heap[a.block]? with
        | none => simp [hq] at h0
        | some ob => exact (Array.getElem?_eq_some_iff.1 hq).1
      obtain ⟨b, o, sp⟩ := a
      simp only at hsp hlt
      subst hsp
      have hadd : ∀ q, Addr.add ⟨b, o, none⟩ q = ⟨b, o + q, none⟩ := fun q => by
        unfold Addr.add
        split
        · subst_vars; rfl
        · rfl
      refine ⟨(List.range (len + 1)).map (fun i => (f i).1), (List.range (len + 1)).map (fun i => (f i).2), .inr ⟨b, o, m, by simp, by simpa using hl, hlt, fun i hi => ?_⟩, ⟨by simp, fun i hi hi3 => ?_⟩, by simp; omega, fun i hi => ?_⟩
      · have hi2 : i < len + 1 := by simpa using hi
        have hfi : ((List.range (len + 1)).map (fun i => (f i).1))[i] = (f i).1 := by simp
        rw [hfi]
        have q := fun j hj => (hf i hi2).1 j hj
        simp only [hadd] at q
        exact ⟨(q 0 (by omega)), (by rw [Nat.add_assoc]; exact q 1 (by omega))⟩
      · have hi2 : i < len + 1 := by simpa using hi
        simp only [List.getElem_map, List.getElem_range]
        obtain ⟨_, q1, q2, _⟩ := hf i hi2
        exact ⟨q1, q2⟩
      · have hi2 : i < len + 1 := by simpa using hi
        simp only [List.getElem_map, List.getElem_range]
        obtain ⟨_, _, _, q4, q5⟩ := hf i hi2
        exact ⟨q4, q5⟩
theorem cIM : Try.prog.cellsOf 26 = 5 := by kernel_rfl
theorem array5 {α : Type} {cs : Array α} (h : cs.size = 5) : ∃ c0 c1 c2 c3 c4, cs = #[c0, c1, c2, c3, c4] := by
  obtain ⟨l⟩ := cs
  match l, h with
  | [c0, c1, c2, c3, c4], _ => exact ⟨c0, c1, c2, c3, c4, rfl⟩
theorem im_one {H : Type} {enc : TypeId × Value → H} {W : World} {fuel : Nat} {x0 x1 x2 x3 x4 : Value} {x : DataW H × List MemPlace} (h : DataW.trod enc Try.prog W 0 (fun _ => true) true fuel 26 [x0, x1, x2, x3, x4] = some x) : ∃ (m : IM) (a : IA), x0 = .string m.n ∧ x1 = .string m.b ∧ x2 = a.vt ∧ x3 = a.vd ∧ x4 = a.vs ∧ IRows W m a ∧ IMax m := by
  obtain ⟨xs, n, _, hx, _, hlen, hel⟩ := DataW.trod_struct Try.underlying26 h
  match xs, hlen, hel, hx with
  | [y0, y1, y2, y3, y4], _, hel, hx =>
    have g0 := hel 0 _ rfl
    have g1 := hel 1 _ rfl
    have g2 := hel 2 _ rfl
    have g3 := hel 3 _ rfl
    have g4 := hel 4 _ rfl
    have k0 : DataW.trod enc Try.prog W 0 (fun _ => true) true n 9 [x0] = some y0 := by simpa [csS, cIS, cSS, cNS] using g0
    obtain ⟨a0, e0, _, w0⟩ := DataW.trod_string Try.underlying9 k0
    obtain rfl : x0 = .string a0 := by simpa using e0
    have k1 : DataW.trod enc Try.prog W 0 (fun _ => true) true n 9 [x1] = some y1 := by simpa [csS, cIS, cSS, cNS] using g1
    obtain ⟨a1, e1, _, w1⟩ := DataW.trod_string Try.underlying9 k1
    obtain rfl : x1 = .string a1 := by simpa using e1
    have k2 : DataW.trod enc Try.prog W 0 (fun _ => true) true n 22 [x2] = some y2 := by simpa [csS, cIS, cSS, cNS] using g2
    obtain ⟨l2, r2, w2⟩ := open_iS k2
    have k3 : DataW.trod enc Try.prog W 0 (fun _ => true) true n 23 [x3] = some y3 := by simpa [csS, cIS, cSS, cNS] using g3
    obtain ⟨l3, r3, w3, v3⟩ := open_sS k3
    have k4 : DataW.trod enc Try.prog W 0 (fun _ => true) true n 24 [x4] = some y4 := by simpa [csS, cIS, cSS, cNS] using g4
    obtain ⟨qs, l4, r4, p4, w4, e4⟩ := open_snS k4
    exact ⟨⟨a0, a1, l2, l3, l4⟩, ⟨x2, x3, x4, qs⟩, rfl, rfl, rfl, rfl, rfl, ⟨r2, r3, r4, p4⟩, ⟨w0, w1, w2, w3, v3, w4, e4⟩⟩
set_option maxRecDepth 100000 in
theorem open_image {H : Type} {enc : TypeId × Value → H} {W : World} {base : Nat} {v : Value} {d : DataW H} {p : List MemPlace} (hv : Value.okWide Try.prog W .any base 26 v)
    (h : DataW.Trod enc Try.prog W 0 (fun _ => true) true 26 v d p) : ∃ (m : IM) (a : IA), v = imA m a ∧ IRows W m a ∧ IMax m := by
  obtain ⟨cs, rfl, hsz⟩ := okWide_struct Try.underlying26 hv
  obtain ⟨x0, x1, x2, x3, x4, rfl⟩ := array5 (hsz.trans cIM)
  obtain ⟨fuel, hf⟩ := h
  simp only [Value.cells] at hf
  obtain ⟨m, a, rfl, rfl, rfl, rfl, rfl, hr, hm⟩ := im_one hf
  exact ⟨m, a, rfl, hr, hm⟩
end Go.Proofs.Ytaobbddecmhpnaa
