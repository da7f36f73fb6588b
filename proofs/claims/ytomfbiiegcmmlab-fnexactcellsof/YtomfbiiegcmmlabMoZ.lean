import Derived.Test.YtomfbiiegcmmlabRowSL3
import Derived.Deep.Slices
import Derived.Test.YtomfbiiegcmmlabMh7
import Derived.WalkKit
import Derived.ProofKit
import Derived.OpenShut
namespace Go.Proofs.Ytomfbiiegcmmlab
open Go.ChangeShapes Go.WideShapes Go.ChangeAt Go.RowKit

theorem cSL : Try.prog.cellsOf 197 = 3 := by kernel_rfl
theorem ciSL : Try.prog.cellsOf 2 = 1 := by kernel_rfl
theorem listSL {α : Type} {cs : List α} (h : cs.length = 3) : ∃ x0 x1 x2, cs = [x0, x1, x2] := by
  match cs, h with
  | [x0, x1, x2], _ => exact ⟨x0, x1, x2, rfl⟩
theorem sl_one {H : Type} {enc : TypeId × Value → H} {W : World} {fuel : Nat} {cs : List Value} {x : DataW H × List MemPlace} (h : DataW.trod enc Try.prog W 0 (fun _ => true) true fuel 197 cs = some x) : ∃ z : SL, cs = slC z := by
  obtain ⟨xs, m, _, hx, hl, hlen, hel⟩ := DataW.trod_struct Try.underlying197 h
  obtain ⟨x0, x1, x2, rfl⟩ := listSL (hl.trans cSL)
  match xs, hlen, hel, hx with
  | [y0, y1, y2], _, hel, hx =>
    have g0 := hel 0 _ rfl
    have g1 := hel 1 _ rfl
    have g2 := hel 2 _ rfl
    obtain ⟨a0, e0, _, _⟩ := DataW.trod_int Try.underlying2 g0
    obtain ⟨a1, e1, _, _⟩ := DataW.trod_int Try.underlying2 g1
    obtain ⟨a2, e2, _, _⟩ := DataW.trod_int Try.underlying2 g2
    simp [ciSL] at e0 e1 e2
    subst e0 e1 e2
    exact ⟨⟨a0, a1, a2⟩, rfl⟩
instance : Inhabited SL := ⟨sl0⟩
theorem open_slS {H : Type} {enc : TypeId × Value → H} {W : World} {fuel : Nat} {c : Value} {x : DataW H × List MemPlace} (h : DataW.trod enc Try.prog W 0 (fun _ => true) true fuel 117 [c] = some x) : ∃ zs : List SL, SLrow W c zs ∧ zs.length ≤ maxLen := by
  rcases Go.Deep.open_slice Try.underlying117 h with ⟨hcs, _⟩ | ⟨a, len, cap, m, k, D, Pl, hcs, _, hl, hm, hmm, _, hel⟩
  · obtain rfl : c = .slice none 0 0 := by simpa using hcs
    exact ⟨[], .inl ⟨rfl, none, 0, rfl⟩, Nat.zero_le _⟩
  · obtain rfl : c = .slice (some a) len cap := by simpa using hcs
    rw [if_pos rfl] at hmm
    subst hmm
    rw [cSL] at hel
    cases len with
    | zero => exact ⟨[], .inl ⟨rfl, _, _, rfl⟩, Nat.zero_le _⟩
    | succ len =>
      have each : ∀ i, i < len + 1 → ∃ z : SL, ∀ j, j < 3 → W.cell? (a.add (i * 3 + j)) = (slC z)[j]? := by
        intro i hi
        obtain ⟨cs', h1, h2⟩ := hel i (by omega)
        obtain ⟨z, rfl⟩ := sl_one h2
        obtain ⟨_, _, h3⟩ := World.cells?_some h1
        refine ⟨z, fun j hj => ?_⟩
        rw [← Go.Deep.add_add]
        exact h3 j hj
      obtain ⟨f, hf⟩ := Go.Deep.choose_lt each
      have h0 := hf 0 (by omega) 0 (by omega)
      have hsp : a.spot = none := by
        cases hs : a.spot with
        | none => rfl
        | some q =>
          simp [Addr.add, World.cell?, hs, slC] at h0
          cases hq : W.heap[a.block]? with
          | none => simp [hq] at h0
          | some ob => cases ob <;> simp [hq] at h0
      have hlt : a.block < W.heap.size := by
        simp [Addr.add, World.cell?, slC] at h0
        cases hq : W.heap[a.block]? with
        | none => simp [hq] at h0
        | some ob => exact (Array.getElem?_eq_some_iff.1 hq).1
      obtain ⟨b, o, sp⟩ := a
      simp only at hsp hlt
      subst hsp
      have hadd : ∀ q, Addr.add ⟨b, o, none⟩ q = ⟨b, o + q, none⟩ := fun q => by
        unfold Addr.add
        split
        · subst_vars; rfl
        · rfl
      refine ⟨(List.range (len + 1)).map f, .inr ⟨b, o, m, by simp, by simpa using hl, hlt, fun i hi => ?_⟩, by simp; omega⟩
      have hi2 : i < len + 1 := by simpa using hi
      have hfi : ((List.range (len + 1)).map f)[i] = f i := by simp
      rw [hfi]
      have q := fun j hj => hf i hi2 j hj
      simp only [hadd] at q
      exact ⟨(q 0 (by omega)), (by rw [Nat.add_assoc]; exact q 1 (by omega)), (by rw [Nat.add_assoc]; exact q 2 (by omega))⟩

theorem cMG : Try.prog.cellsOf 119 = 3 := by kernel_rfl
theorem cMH : Try.prog.cellsOf 25 = 4 := by kernel_rfl
theorem cIS : Try.prog.cellsOf 65 = 1 := by kernel_rfl
theorem cSS : Try.prog.cellsOf 22 = 1 := by kernel_rfl
theorem cSLS : Try.prog.cellsOf 117 = 1 := by kernel_rfl
theorem cMGS : Try.prog.cellsOf 23 = 1 := by kernel_rfl
theorem cI6 : Try.prog.cellsOf 2 = 1 := by kernel_rfl
theorem list3 {α : Type} {cs : List α} (h : cs.length = 3) : ∃ x0 x1 x2, cs = [x0, x1, x2] := by
  match cs, h with
  | [x0, x1, x2], _ => exact ⟨x0, x1, x2, rfl⟩
theorem mg_one {H : Type} {enc : TypeId × Value → H} {W : World} {fuel : Nat} {cs : List Value} {x : DataW H × List MemPlace} (h : DataW.trod enc Try.prog W 0 (fun _ => true) true fuel 119 cs = some x) : ∃ z : MG × GS, cs = mgC z.1 ∧ (z.1.d = z.2.d ∧ SLrow W z.1.s z.2.ss ∧ Irow W z.1.h z.2.hs) ∧ z.2.ss.length ≤ maxLen ∧ z.2.hs.length ≤ maxLen ∧ z.2.d.size ≤ maxLen := by
  obtain ⟨xs, m, _, hx, hl, hlen, hel⟩ := DataW.trod_struct Try.underlying119 h
  obtain ⟨x0, x1, x2, rfl⟩ := list3 (hl.trans cMG)
  match xs, hlen, hel, hx with
  | [y0, y1, y2], _, hel, hx =>
    have g0 := hel 0 _ rfl
    have g1 := hel 1 _ rfl
    have g2 := hel 2 _ rfl
    have k0 : DataW.trod enc Try.prog W 0 (fun _ => true) true m 117 [x0] = some y0 := by simpa [csS, cIS, cSLS] using g0
    have k1 : DataW.trod enc Try.prog W 0 (fun _ => true) true m 9 [x1] = some y1 := by simpa [csS, cIS, cSLS] using g1
    have k2 : DataW.trod enc Try.prog W 0 (fun _ => true) true m 65 [x2] = some y2 := by simpa [csS, cIS, cSLS] using g2
    obtain ⟨l0, r0, w0⟩ := open_slS k0
    obtain ⟨a1, e1, _, w1⟩ := DataW.trod_string Try.underlying9 k1
    obtain rfl : x1 = .string a1 := by simpa using e1
    obtain ⟨l2, r2, w2⟩ := open_iS k2
    exact ⟨⟨⟨x0, a1, x2⟩, ⟨l0, a1, l2⟩⟩, rfl, ⟨rfl, r0, r2⟩, w0, w2, w1⟩
instance : Inhabited (MG × GS) := ⟨⟨⟨.nilFunc, ⟨#[]⟩, .nilFunc⟩, ⟨[], ⟨#[]⟩, []⟩⟩⟩
theorem open_mgS {H : Type} {enc : TypeId × Value → H} {W : World} {fuel : Nat} {c : Value} {x : DataW H × List MemPlace} (h : DataW.trod enc Try.prog W 0 (fun _ => true) true fuel 23 [c] = some x) : ∃ (qs : List MG) (cs : List GS), MGrow W c qs ∧ MGin W qs cs ∧ cs.length ≤ maxLen ∧ ∀ k (hk : k < cs.length), cs[k].ss.length ≤ maxLen ∧ cs[k].hs.length ≤ maxLen ∧ cs[k].d.size ≤ maxLen := by
  rcases Go.Deep.open_slice Try.underlying23 h with ⟨hcs, _⟩ | ⟨a, len, cap, m, k, D, Pl, hcs, _, hl, hm, hmm, _, hel⟩
  · obtain rfl : c = .slice none 0 0 := by simpa using hcs
    exact ⟨[], [], .inl ⟨rfl, none, 0, rfl⟩, ⟨rfl, fun k hk => absurd hk (by simp)⟩, Nat.zero_le _, fun k hk => absurd hk (by simp)⟩
  · obtain rfl : c = .slice (some a) len cap := by simpa using hcs
    rw [if_pos rfl] at hmm
    subst hmm
    rw [cMG] at hel
    cases len with
    | zero => exact ⟨[], [], .inl ⟨rfl, _, _, rfl⟩, ⟨rfl, fun k hk => absurd hk (by simp)⟩, Nat.zero_le _, fun k hk => absurd hk (by simp)⟩
    | succ len =>
      have each : ∀ i, i < len + 1 → ∃ z : MG × GS, (∀ j, j < 3 → W.cell? (a.add (i * 3 + j)) = (mgC z.1)[j]?) ∧ (z.1.d = z.2.d ∧ SLrow W z.1.s z.2.ss ∧ Irow W z.1.h z.2.hs) ∧ z.2.ss.length ≤ maxLen ∧ z.2.hs.length ≤ maxLen ∧ z.2.d.size ≤ maxLen := by
        intro i hi
        obtain ⟨cs', h1, h2⟩ := hel i (by omega)
        obtain ⟨z, rfl, hz⟩ := mg_one h2
        obtain ⟨_, _, h3⟩ := World.cells?_some h1
        refine ⟨z, fun j hj => ?_, hz⟩
        rw [← Go.Deep.add_add]
        exact h3 j hj
      obtain ⟨f, hf⟩ := Go.Deep.choose_lt each
      have h0 := (hf 0 (by omega)).1 0 (by omega)
      have hsp : a.spot = none := by
        cases hs : a.spot with
        | none => rfl
        | some q =>
          simp [Addr.add, World.cell?, hs, mgC] at h0
          cases hq : W.heap[a.block]? with
          | none => simp [hq] at h0
          | some ob => cases ob <;> simp [hq] at h0
      have hlt : a.block < W.heap.size := by
        simp [Addr.add, World.cell?, mgC] at h0
        cases hq : W.heap[a.block]? with
        | none => simp [hq] at h0
        | some ob => exact (Array.getElem?_eq_some_iff.1 hq).1
      obtain ⟨b, o, sp⟩ := a
      simp only at hsp hlt
      subst hsp
      have hadd : ∀ q, Addr.add ⟨b, o, none⟩ q = ⟨b, o + q, none⟩ := fun q => by
        unfold Addr.add
        split
        · subst_vars; rfl
        · rfl
      refine ⟨(List.range (len + 1)).map (fun i => (f i).1), (List.range (len + 1)).map (fun i => (f i).2), .inr ⟨b, o, m, by simp, by simpa using hl, hlt, fun i hi => ?_⟩, ⟨by simp, fun i hi hi3 => ?_⟩, by simp; omega, fun i hi => ?_⟩
      · have hi2 : i < len + 1 := by simpa using hi
        have hfi : ((List.range (len + 1)).map (fun i => (f i).1))[i] = (f i).1 := by simp
        rw [hfi]
        have q := fun j hj => (hf i hi2).1 j hj
        simp only [hadd] at q
        exact ⟨(q 0 (by omega)), (by rw [Nat.add_assoc]; exact q 1 (by omega)), (by rw [Nat.add_assoc]; exact q 2 (by omega))⟩
      · have hi2 : i < len + 1 := by simpa using hi
        simp only [List.getElem_map, List.getElem_range]
        obtain ⟨_, q1, _⟩ := hf i hi2
        exact q1
      · have hi2 : i < len + 1 := by simpa using hi
        simp only [List.getElem_map, List.getElem_range]
        obtain ⟨_, _, q4⟩ := hf i hi2
        exact q4
theorem array4 {α : Type} {cs : Array α} (h : cs.size = 4) : ∃ c0 c1 c2 c3, cs = #[c0, c1, c2, c3] := by
  obtain ⟨l⟩ := cs
  match l, h with
  | [c0, c1, c2, c3], _ => exact ⟨c0, c1, c2, c3, rfl⟩
set_option maxRecDepth 100000 in
theorem open_host {H : Type} {enc : TypeId × Value → H} {W : World} {base : Nat} {v : Value} {d : DataW H} {p : List MemPlace} (hv : Value.okWide Try.prog W .any base 25 v)
    (h : DataW.Trod enc Try.prog W 0 (fun _ => true) true 25 v d p) : ∃ (m : MH) (a : HA), v = mhA a m.time ∧ HRows W m a ∧ HMax m := by
  obtain ⟨cs, rfl, hsz⟩ := okWide_struct Try.underlying25 hv
  obtain ⟨x0, x1, x2, x3, rfl⟩ := array4 (hsz.trans cMH)
  obtain ⟨fuel, hf⟩ := h
  simp only [Value.cells] at hf
  obtain ⟨xs, n, _, hx, _, hlen, hel⟩ := DataW.trod_struct Try.underlying25 hf
  match xs, hlen, hel, hx with
  | [y0, y1, y2, y3], _, hel, hx =>
    have g0 := hel 0 _ rfl
    have g1 := hel 1 _ rfl
    have g2 := hel 2 _ rfl
    have g3 := hel 3 _ rfl
    have k0 : DataW.trod enc Try.prog W 0 (fun _ => true) true n 22 [x0] = some y0 := by simpa [cSS, cMGS, cI6] using g0
    have k1 : DataW.trod enc Try.prog W 0 (fun _ => true) true n 22 [x1] = some y1 := by simpa [cSS, cMGS, cI6] using g1
    have k2 : DataW.trod enc Try.prog W 0 (fun _ => true) true n 23 [x2] = some y2 := by simpa [cSS, cMGS, cI6] using g2
    have k3 : DataW.trod enc Try.prog W 0 (fun _ => true) true n 2 [x3] = some y3 := by simpa [cSS, cMGS, cI6] using g3
    obtain ⟨l0, r0, w0, v0⟩ := open_sS k0
    obtain ⟨l1, r1, w1, v1⟩ := open_sS k1
    obtain ⟨qs, l2, r2, p2, w2, e2⟩ := open_mgS k2
    obtain ⟨a3, e3, _, _⟩ := DataW.trod_int Try.underlying2 k3
    obtain rfl : x3 = .int .i64 a3 := by simpa using e3
    exact ⟨⟨l0, l1, l2, a3⟩, ⟨x0, x1, x2, qs⟩, rfl, ⟨r0, r1, r2, p2⟩, ⟨w0, w1, w2, v0, v1, e2⟩⟩
end Go.Proofs.Ytomfbiiegcmmlab
