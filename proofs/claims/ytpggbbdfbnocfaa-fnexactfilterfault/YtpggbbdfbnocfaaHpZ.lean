import Derived.Test.YtpggbbdfbnocfaaHO2
import Derived.Deep.Slices
import Derived.Test.YtpggbbdfbnocfaaGP2
import Derived.Test.YtpggbbdfbnocfaaFi1
namespace Go.Proofs.Ytpggbbdfbnocfaa
open Go.ChangeShapes Go.WideShapes Go.ChangeAt Go.RowKit

theorem cNH : Try.prog.cellsOf 81 = 2 := by kernel_rfl
theorem cNHv : Try.prog.cellsOf 79 = 1 := by kernel_rfl
theorem cNHi : Try.prog.cellsOf 2 = 1 := by kernel_rfl
theorem cNHb : Try.prog.cellsOf 4 = 1 := by kernel_rfl
theorem listNH {α : Type} {cs : List α} (h : cs.length = 2) : ∃ x0 x1, cs = [x0, x1] := by
  match cs, h with
  | [x0, x1], _ => exact ⟨x0, x1, rfl⟩
set_option maxRecDepth 100000 in
theorem nh_one {H : Type} {enc : TypeId × Value → H} {W : World} {fuel : Nat} {cs : List Value} {x : DataW H × List MemPlace} (h : DataW.trod enc Try.prog W 0 (fun _ => true) true fuel 81 cs = some x) : ∃ z : NH × HO, cs = nhC z.1 ∧ z.1 = hoQ z.2 z.1.groups ∧ Irow W z.1.groups z.2.gs ∧ z.2.gs.length ≤ maxLen := by
  obtain ⟨xs, m, _, hx, hl, hlen, hel⟩ := DataW.trod_struct Try.underlying81 h
  obtain ⟨x0, x1, rfl⟩ := listNH (hl.trans cNH)
  match xs, hlen, hel, hx with
  | [y0, y1], _, hel, hx =>
    have g0 := hel 0 _ rfl
    have g1 := hel 1 _ rfl
    obtain ⟨a0, e0, _, _⟩ := DataW.trod_int Try.underlying2 g0
    simp [cNHi] at e0
    subst e0
    have kk : DataW.trod enc Try.prog W 0 (fun _ => true) true m 79 [x1] = some y1 := by simpa [cNHi, cNHv] using g1
    obtain ⟨l1, r1, w1⟩ := open_iS kk
    exact ⟨⟨⟨a0, x1⟩, ⟨a0, l1⟩⟩, rfl, rfl, r1, w1⟩
def ho0 : HO := ⟨0, []⟩
instance : Inhabited (NH × HO) := ⟨⟨nh0, ho0⟩⟩
set_option maxRecDepth 100000 in
theorem open_nhS {H : Type} {enc : TypeId × Value → H} {W : World} {fuel : Nat} {c : Value} {x : DataW H × List MemPlace} (h : DataW.trod enc Try.prog W 0 (fun _ => true) true fuel 22 [c] = some x) : ∃ (qs : List NH) (cs : List HO), NHrow W c qs ∧ HOin W qs cs ∧ cs.length ≤ maxLen ∧ ∀ k (hk : k < cs.length), cs[k].gs.length ≤ maxLen := by
  rcases Go.Deep.open_slice Try.underlying22 h with ⟨hcs, _⟩ | ⟨a, len, cap, m, k, D, Pl, hcs, _, hl, hm, hmm, _, hel⟩
  · obtain rfl : c = .slice none 0 0 := by simpa using hcs
    exact ⟨[], [], .inl ⟨rfl, none, 0, rfl⟩, ⟨rfl, fun k hk => absurd hk (by simp)⟩, Nat.zero_le _, fun k hk => absurd hk (by simp)⟩
  · obtain rfl : c = .slice (some a) len cap := by simpa using hcs
    rw [if_pos rfl] at hmm
    subst hmm
    rw [cNH] at hel
    cases len with
    | zero => exact ⟨[], [], .inl ⟨rfl, _, _, rfl⟩, ⟨rfl, fun k hk => absurd hk (by simp)⟩, Nat.zero_le _, fun k hk => absurd hk (by simp)⟩
    | succ len =>
      have each : ∀ i, i < len + 1 → ∃ z : NH × HO, (∀ j, j < 2 → W.cell? (a.add (i * 2 + j)) = (nhC z.1)[j]?) ∧ z.1 = hoQ z.2 z.1.groups ∧ Irow W z.1.groups z.2.gs ∧ z.2.gs.length ≤ maxLen := by
        intro i hi
        obtain ⟨cs', h1, h2⟩ := hel i (by omega)
        obtain ⟨z, rfl, hz⟩ := nh_one h2
        obtain ⟨_, _, h3⟩ := World.cells?_some h1
        refine ⟨z, fun j hj => ?_, hz⟩
        rw [← Go.Deep.add_add]
        exact h3 j hj
      obtain ⟨f, hf⟩ := Go.Deep.choose_lt each
      have h0 := (hf 0 (by omega)).1 0 (by omega)
      have hsp : a.spot = none := by
        cases hs : a.spot with
        | none => rfl
        | some q =>
          simp [Addr.add, World.cell?, hs, nhC] at h0
          cases hq : W.heap[a.block]? with
          | none => simp [hq] at h0
          | some ob => cases ob <;> simp [hq] at h0
      have hlt : a.block < W.heap.size := by
        simp [Addr.add, World.cell?, nhC] at h0
        cases hq : W.heap[a.block]? with
        | none => simp [hq] at h0
        | some ob => exact (Array.getElem?_eq_some_iff.1 hq).1
      obtain ⟨b, o, sp⟩ := a
      simp only at hsp hlt
      subst hsp
      have hadd : ∀ q, Addr.add ⟨b, o, none⟩ q = ⟨b, o + q, none⟩ := fun q => by
        unfold Addr.add
        split
        · subst_vars; rfl
        · rfl
      refine ⟨(List.range (len + 1)).map (fun i => (f i).1), (List.range (len + 1)).map (fun i => (f i).2), .inr ⟨b, o, m, by simp, by simpa using hl, hlt, fun i hi => ?_⟩, ⟨by simp, fun i hi hi3 => ?_⟩, by simp; omega, fun i hi => ?_⟩
      · have hi2 : i < len + 1 := by simpa using hi
        have hfi : ((List.range (len + 1)).map (fun i => (f i).1))[i] = (f i).1 := by simp
        rw [hfi]
        have q := fun j hj => (hf i hi2).1 j hj
        simp only [hadd] at q
        exact ⟨(q 0 (by omega)), (by rw [Nat.add_assoc]; exact q 1 (by omega))⟩
      · have hi2 : i < len + 1 := by simpa using hi
        simp only [List.getElem_map, List.getElem_range]
        obtain ⟨_, q1, q2, _⟩ := hf i hi2
        exact ⟨q1, q2⟩
      · have hi2 : i < len + 1 := by simpa using hi
        simp only [List.getElem_map, List.getElem_range]
        obtain ⟨_, _, _, q4⟩ := hf i hi2
        exact q4

theorem cNG : Try.prog.cellsOf 85 = 1 := by kernel_rfl
theorem cNGv : Try.prog.cellsOf 83 = 1 := by kernel_rfl
theorem cNGi : Try.prog.cellsOf 2 = 1 := by kernel_rfl
theorem cNGb : Try.prog.cellsOf 4 = 1 := by kernel_rfl
theorem listNG {α : Type} {cs : List α} (h : cs.length = 1) : ∃ x0, cs = [x0] := by
  match cs, h with
  | [x0], _ => exact ⟨x0, rfl⟩
set_option maxRecDepth 100000 in
theorem ng_one {H : Type} {enc : TypeId × Value → H} {W : World} {fuel : Nat} {cs : List Value} {x : DataW H × List MemPlace} (h : DataW.trod enc Try.prog W 0 (fun _ => true) true fuel 85 cs = some x) : ∃ z : NG × GP, cs = ngC z.1 ∧ z.1 = gpQ z.2 z.1.rules ∧ NRrow W z.1.rules z.2.rs ∧ z.2.rs.length ≤ maxLen := by
  obtain ⟨xs, m, _, hx, hl, hlen, hel⟩ := DataW.trod_struct Try.underlying85 h
  obtain ⟨x0, rfl⟩ := listNG (hl.trans cNG)
  match xs, hlen, hel, hx with
  | [y0], _, hel, hx =>
    have g0 := hel 0 _ rfl
    have kk : DataW.trod enc Try.prog W 0 (fun _ => true) true m 83 [x0] = some y0 := by simpa [cNGi, cNGv] using g0
    obtain ⟨l1, r1, w1⟩ := open_nrS kk
    exact ⟨⟨⟨x0⟩, ⟨l1⟩⟩, rfl, rfl, r1, w1⟩
def gp0 : GP := ⟨[]⟩
instance : Inhabited (NG × GP) := ⟨⟨ng0, gp0⟩⟩
set_option maxRecDepth 100000 in
theorem open_ngS {H : Type} {enc : TypeId × Value → H} {W : World} {fuel : Nat} {c : Value} {x : DataW H × List MemPlace} (h : DataW.trod enc Try.prog W 0 (fun _ => true) true fuel 23 [c] = some x) : ∃ (qs : List NG) (cs : List GP), NGrow W c qs ∧ GPin W qs cs ∧ cs.length ≤ maxLen ∧ ∀ k (hk : k < cs.length), cs[k].rs.length ≤ maxLen := by
  rcases Go.Deep.open_slice Try.underlying23 h with ⟨hcs, _⟩ | ⟨a, len, cap, m, k, D, Pl, hcs, _, hl, hm, hmm, _, hel⟩
  · obtain rfl : c = .slice none 0 0 := by simpa using hcs
    exact ⟨[], [], .inl ⟨rfl, none, 0, rfl⟩, ⟨rfl, fun k hk => absurd hk (by simp)⟩, Nat.zero_le _, fun k hk => absurd hk (by simp)⟩
  · obtain rfl : c = .slice (some a) len cap := by simpa using hcs
    rw [if_pos rfl] at hmm
    subst hmm
    rw [cNG] at hel
    cases len with
    | zero => exact ⟨[], [], .inl ⟨rfl, _, _, rfl⟩, ⟨rfl, fun k hk => absurd hk (by simp)⟩, Nat.zero_le _, fun k hk => absurd hk (by simp)⟩
    | succ len =>
      have each : ∀ i, i < len + 1 → ∃ z : NG × GP, (∀ j, j < 1 → W.cell? (a.add (i * 1 + j)) = (ngC z.1)[j]?) ∧ z.1 = gpQ z.2 z.1.rules ∧ NRrow W z.1.rules z.2.rs ∧ z.2.rs.length ≤ maxLen := by
        intro i hi
        obtain ⟨cs', h1, h2⟩ := hel i (by omega)
        obtain ⟨z, rfl, hz⟩ := ng_one h2
        obtain ⟨_, _, h3⟩ := World.cells?_some h1
        refine ⟨z, fun j hj => ?_, hz⟩
        rw [← Go.Deep.add_add]
        exact h3 j hj
      obtain ⟨f, hf⟩ := Go.Deep.choose_lt each
      have h0 := (hf 0 (by omega)).1 0 (by omega)
      have hsp : a.spot = none := by
        cases hs : a.spot with
        | none => rfl
        | some q =>
          simp [Addr.add, World.cell?, hs, ngC] at h0
          cases hq : W.heap[a.block]? with
          | none => simp [hq] at h0
          | some ob => cases ob <;> simp [hq] at h0
      have hlt : a.block < W.heap.size := by
        simp [Addr.add, World.cell?, ngC] at h0
        cases hq : W.heap[a.block]? with
        | none => simp [hq] at h0
        | some ob => exact (Array.getElem?_eq_some_iff.1 hq).1
      obtain ⟨b, o, sp⟩ := a
      simp only at hsp hlt
      subst hsp
      have hadd : ∀ q, Addr.add ⟨b, o, none⟩ q = ⟨b, o + q, none⟩ := fun q => by
        unfold Addr.add
        split
        · subst_vars; rfl
        · rfl
      refine ⟨(List.range (len + 1)).map (fun i => (f i).1), (List.range (len + 1)).map (fun i => (f i).2), .inr ⟨b, o, m, by simp, by simpa using hl, hlt, fun i hi => ?_⟩, ⟨by simp, fun i hi hi3 => ?_⟩, by simp; omega, fun i hi => ?_⟩
      · have hi2 : i < len + 1 := by simpa using hi
        have hfi : ((List.range (len + 1)).map (fun i => (f i).1))[i] = (f i).1 := by simp
        rw [hfi]
        have q := fun j hj => (hf i hi2).1 j hj
        simp only [hadd] at q
        simpa [ngC] using q 0 (by omega)
      · have hi2 : i < len + 1 := by simpa using hi
        simp only [List.getElem_map, List.getElem_range]
        obtain ⟨_, q1, q2, _⟩ := hf i hi2
        exact ⟨q1, q2⟩
      · have hi2 : i < len + 1 := by simpa using hi
        simp only [List.getElem_map, List.getElem_range]
        obtain ⟨_, _, _, q4⟩ := hf i hi2
        exact q4

theorem cFIT : Try.prog.cellsOf 27 = 8 := by kernel_rfl
theorem cFII : Try.prog.cellsOf 2 = 1 := by kernel_rfl
theorem cFIB : Try.prog.cellsOf 4 = 1 := by kernel_rfl
theorem cFIhs : Try.prog.cellsOf 22 = 1 := by kernel_rfl
theorem cFIgs : Try.prog.cellsOf 23 = 1 := by kernel_rfl
theorem cFIfs : Try.prog.cellsOf 24 = 1 := by kernel_rfl
theorem cFIcs : Try.prog.cellsOf 25 = 1 := by kernel_rfl
theorem arrayFI {α : Type} {cs : Array α} (h : cs.size = 8) : ∃ x0 x1 x2 x3 x4 x5 x6 x7, cs = #[x0, x1, x2, x3, x4, x5, x6, x7] := by
  obtain ⟨l⟩ := cs
  match l, h with
  | [x0, x1, x2, x3, x4, x5, x6, x7], _ => exact ⟨x0, x1, x2, x3, x4, x5, x6, x7, rfl⟩
set_option maxRecDepth 100000 in
theorem open_FI {H : Type} {enc : TypeId × Value → H} {W : World} {base : Nat} {v : Value} {d : DataW H} {p : List MemPlace} (hv : Value.okWide Try.prog W .any base 27 v)
    (h : DataW.Trod enc Try.prog W 0 (fun _ => true) true 27 v d p) : ∃ (s : FI) (a : FA), v = flA s a ∧ FIRows W s a ∧ FImax s := by
  obtain ⟨cs, rfl, hsz⟩ := okWide_struct Try.underlying27 hv
  obtain ⟨x0, x1, x2, x3, x4, x5, x6, x7, rfl⟩ := arrayFI (hsz.trans cFIT)
  obtain ⟨fuel, hf⟩ := h
  obtain ⟨xs, n, _, hx, _, hlen, hel⟩ := DataW.trod_struct Try.underlying27 hf
  match xs, hlen, hel, hx with
  | [y0, y1, y2, y3, y4, y5, y6, y7], _, hel, hx =>
    have g0 := hel 0 _ rfl
    have g1 := hel 1 _ rfl
    have g2 := hel 2 _ rfl
    have g3 := hel 3 _ rfl
    have g4 := hel 4 _ rfl
    have g5 := hel 5 _ rfl
    have g6 := hel 6 _ rfl
    have g7 := hel 7 _ rfl
    simp only [Value.cells] at g0 g1 g2 g3 g4 g5 g6 g7
    have j0 : DataW.trod enc Try.prog W 0 (fun _ => true) true n 22 [x0] = some y0 := by simpa [cFIhs, cFIgs, cFIfs, cFIcs, cFII] using g0
    obtain ⟨z0, l0, r0, p0, w0, m0⟩ := open_nhS j0
    have j1 : DataW.trod enc Try.prog W 0 (fun _ => true) true n 23 [x1] = some y1 := by simpa [cFIhs, cFIgs, cFIfs, cFIcs, cFII] using g1
    obtain ⟨z1, l1, r1, p1, w1, m1⟩ := open_ngS j1
    have j2 : DataW.trod enc Try.prog W 0 (fun _ => true) true n 24 [x2] = some y2 := by simpa [cFIhs, cFIgs, cFIfs, cFIcs, cFII] using g2
    obtain ⟨l2, r2, w2⟩ := open_fwS j2
    obtain ⟨a3, e3, _, _⟩ := DataW.trod_int Try.underlying2 g3
    obtain ⟨a4, e4, _, _⟩ := DataW.trod_int Try.underlying2 g4
    obtain ⟨a5, e5, _, _⟩ := DataW.trod_int Try.underlying2 g5
    have j6 : DataW.trod enc Try.prog W 0 (fun _ => true) true n 25 [x6] = some y6 := by simpa [cFIhs, cFIgs, cFIfs, cFIcs, cFII] using g6
    obtain ⟨l6, r6, w6⟩ := open_cnS j6
    obtain ⟨a7, e7, _, _⟩ := DataW.trod_int Try.underlying2 g7
    simp [cFII] at e3 e4 e5 e7
    subst e3 e4 e5 e7
    exact ⟨⟨l0, l1, l2, a3, a4, a5, l6, a7⟩, ⟨x0, x1, x2, x6, z0, z1⟩, rfl, ⟨r0, p0, r1, p1, r2, r6⟩, ⟨⟨w0, m0⟩, ⟨w1, m1⟩, w2, w6⟩⟩
end Go.Proofs.Ytpggbbdfbnocfaa
