import Derived.Test.YtfagohdmepnkkaaGTwo
namespace Go.Proofs.Ytfagohdmepnkkaa
open Go.ChangeShapes Go.WideShapes Go.ChangeAt Go.RowKit

/-- Where a walk without fault ends. -/
theorem walkV_pa (s : ByteArray) (root va : Nat) (acc : Int) (user : Bool) (h : (walkV s root va acc user).fault = 0) (h4 : va % 4 = 0) :
    0 ≤ (walkV s root va acc user).pa ∧ (walkV s root va acc user).pa + 4 ≤ (s.size : Int) ∧ (walkV s root va acc user).pa % 4 = 0 := by
  revert h
  rw [walk_fe]
  split
  · unfold finV
    have hb := wv_b s (feV s root va).2.2.1
    have hp := pgV_b (wv s (feV s root va).2.2.1) va (feV s root va).2.2.2 hb.1 hb.2
    split
    · split
      · rename_i h2
        intro _
        show 0 ≤ pgV _ _ _ * 256 + (va : Int) % 256 ∧ pgV _ _ _ * 256 + (va : Int) % 256 + 4 ≤ (s.size : Int) ∧ (pgV _ _ _ * 256 + (va : Int) % 256) % 4 = 0
        omega
      · intro h
        cases h
    · intro h
      cases h
  · intro h
    cases h
theorem guestHolds_any (G : Nat) (x : Int) (w : World) : Calls Try.prog 148 #[.pointer (some ⟨G, 0, none⟩), .int .i64 x] w fun e w' => e = .returned (.bool (decide (x < 1024))) ∧ w' = w := by
  go_enter Try.func148, Try.ntmps148
  go_wp2
  go_ret
  exact ⟨rfl, rfl⟩
theorem Gr2.trans {w u v : World} {b G : Nat} (h : Gr2 w u b G) (h2 : Gr2 u v b G) : Gr2 w v b G :=
  ⟨h2.os.trans h.os, h2.tape.trans h.tape, h2.output.trans h.output, Nat.le_trans h.size h2.size, fun k hk h1 h3 => (h2.block k (Nat.lt_of_lt_of_le hk h.size) h1 h3).trans (h.block k hk h1 h3)⟩
theorem Gr2.of_grown {w u : World} {b G : Nat} (h : w.grownBy u (some b)) : Gr2 w u b G := ⟨h.os, h.tape, h.output, h.size, fun k hk h1 _ => h.block k hk (fun e => h1 (Option.some.inj e))⟩
theorem Gr2.drewN {w u : World} {b G : Nat} (h : Gr2 w u b G) (q : Nat) : Gr2 w (u.drewN q) b G := ⟨h.os, h.tape, h.output, h.size, h.block⟩
set_option maxRecDepth 100000 in
set_option maxHeartbeats 4000000 in
theorem readEntryG {w : World} {b G n : Nat} {s : ByteArray} {x : GS} (hM : MemAt w b s) (h : GBx w G b n x) (hbG : b < G) (p : Nat) (hn : s.size = n * 256) (hs : s.size ≤ 65536) (hh : x.host ≤ 255) (hp : p ≤ 262143) (hp4 : p % 4 = 0) (hst0 : 0 ≤ x.steps) (hst : x.steps ≤ 1000) :
    Calls Try.prog 150 #[.pointer (some ⟨G, 0, none⟩), .int .i64 p] w fun e u => Gr2 w u b G ∧ MemAt u b (walkV s x.host p 1 false).mem ∧
      GBx u G b n { x with steps := x.steps + (walkV s x.host p 1 false).reads.length, place := p } ∧
      ((walkV s x.host p 1 false).fault = 0 → e = .returned (.tuple #[.int .i64 (wv (walkV s x.host p 1 false).mem (walkV s x.host p 1 false).pa.toNat), .int .i64 0])) ∧
      (¬ (walkV s x.host p 1 false).fault = 0 → e = .returned (.tuple #[.int .i64 0, .int .i64 3])) := by
  have HL : Hid _ := lookup_ok hM h hbG p 1 hn hs hh hp (by omega) (by omega) hst0 hst
  have hpa := fun hf => walkV_pa s x.host p 1 false hf hp4
  have hsz := walkV_size s x.host p 1 false hp
  obtain ⟨r, hr⟩ : ∃ r, walkV s x.host p 1 false = r := ⟨_, rfl⟩
  rw [hr] at HL hpa hsz ⊢
  obtain ⟨host, steps, place⟩ := x
  simp only at *
  have HN : Hid (s.size = n * 256 ∧ s.size ≤ 65536) := ⟨hn, hs⟩
  clear hr hM h hp hp4 hn hs
  by_cases hf : r.fault = 0
  · obtain ⟨p0, p1, p2⟩ := hpa hf
    obtain ⟨k, hk⟩ := Int.eq_ofNat_of_zero_le p0
    rw [hk] at p1 p2
    have hk2 : r.pa.toNat = k := by omega
    rw [hk2]
    have HK : Hid (r.mem.size = n * 256 ∧ r.mem.size ≤ 65536 ∧ k + 4 ≤ r.mem.size ∧ k % 4 = 0) := by
      have := HN.out
      exact ⟨by omega, by omega, by omega, by omega⟩
    clear hpa p0 p1 p2 hk2 hsz
    go_enter Try.func150, Try.ntmps150
    go_wp2_with (first | (go_at_call 49; refine Calls.mono HL.out ?_; rintro e u ⟨hg, hm, hb, hy, _⟩; obtain rfl := hy hf; rw [hk]; have HG : Hid (Gr2 w u b G) := hg; have HM : Hid (MemAt u b r.mem) := hm; have HB : Hid (GBx u G b n ⟨host, steps + (r.reads.length : Int), p⟩) := hb; obtain ⟨d0, d1, d2, d3, df⟩ := hb.cells; clear hg hm hb hy HL) | (go_at_call 101; refine Calls.mono (memWord_any b n r.mem k u HM.out HK.out.1 HK.out.2.1 HK.out.2.2.1 HK.out.2.2.2) ?_; rintro e u2 ⟨rfl, q, hu2⟩; have HG2 : Hid (Gr2 w u2 b G) := (by rw [hu2]; exact HG.out.drewN q); have HM2 : Hid (MemAt u2 b r.mem) := (by rw [hu2]; exact HM.out); have HB2 : Hid (GBx u2 G b n ⟨host, steps + (r.reads.length : Int), p⟩) := (by rw [hu2]; exact HB.out); clear hu2))
    go_ret2
    exact ⟨HG2.out, HM2.out, HB2.out, fun _ => rfl, fun h => absurd hf h⟩
  · clear hpa hsz
    go_enter Try.func150, Try.ntmps150
    go_wp2_with (go_at_call 49; refine Calls.mono HL.out ?_; rintro e u ⟨hg, hm, hb, _, hy⟩; obtain rfl := hy hf; have HG : Hid (Gr2 w u b G) := hg; have HM : Hid (MemAt u b r.mem) := hm; have HB : Hid (GBx u G b n ⟨host, steps + (r.reads.length : Int), p⟩) := hb; clear hg hm hb hy HL)
    go_ret2
    exact ⟨HG.out, HM.out, HB.out, fun h => absurd h hf, fun _ => rfl⟩
set_option maxRecDepth 100000 in
set_option maxHeartbeats 4000000 in
theorem putEntryG {w : World} {b G n : Nat} {s : ByteArray} {x : GS} (hM : MemAt w b s) (h : GBx w G b n x) (hbG : b < G) (p : Nat) (z : Int) (hn : s.size = n * 256) (hs : s.size ≤ 65536) (hh : x.host ≤ 255) (hp : p ≤ 262143) (hp4 : p % 4 = 0) (hst0 : 0 ≤ x.steps) (hst : x.steps ≤ 1000) :
    Calls Try.prog 149 #[.pointer (some ⟨G, 0, none⟩), .int .i64 p, .int .i64 z] w fun e u => Gr2 w u b G ∧
      GBx u G b n { x with steps := x.steps + (walkV s x.host p 2 false).reads.length, place := p } ∧
      ((walkV s x.host p 2 false).fault = 0 → e = .returned (.int .i64 0) ∧ MemAt u b (setv (walkV s x.host p 2 false).mem (walkV s x.host p 2 false).pa.toNat z)) ∧
      (¬ (walkV s x.host p 2 false).fault = 0 → e = .returned (.int .i64 3) ∧ MemAt u b (walkV s x.host p 2 false).mem) := by
  have HL : Hid _ := lookup_ok hM h hbG p 2 hn hs hh hp (by omega) (by omega) hst0 hst
  have hpa := fun hf => walkV_pa s x.host p 2 false hf hp4
  have hsz := walkV_size s x.host p 2 false hp
  obtain ⟨r, hr⟩ : ∃ r, walkV s x.host p 2 false = r := ⟨_, rfl⟩
  rw [hr] at HL hpa hsz ⊢
  obtain ⟨host, steps, place⟩ := x
  simp only at *
  have HN : Hid (s.size = n * 256 ∧ s.size ≤ 65536) := ⟨hn, hs⟩
  clear hr hM h hp hp4 hn hs
  by_cases hf : r.fault = 0
  · obtain ⟨p0, p1, p2⟩ := hpa hf
    obtain ⟨k, hk⟩ := Int.eq_ofNat_of_zero_le p0
    rw [hk] at p1 p2
    have hk2 : r.pa.toNat = k := by omega
    rw [hk2]
    have HK : Hid (r.mem.size = n * 256 ∧ r.mem.size ≤ 65536 ∧ k + 4 ≤ r.mem.size ∧ k % 4 = 0) := by
      have := HN.out
      exact ⟨by omega, by omega, by omega, by omega⟩
    clear hpa p0 p1 p2 hk2 hsz
    go_enter Try.func149, Try.ntmps149
    go_wp2_with (first | (go_at_call 49; refine Calls.mono HL.out ?_; rintro e u ⟨hg, hm, hb, hy, _⟩; obtain rfl := hy hf; rw [hk]; have HG : Hid (Gr2 w u b G) := hg; have HM : Hid (MemAt u b r.mem) := hm; have HB : Hid (GBx u G b n ⟨host, steps + (r.reads.length : Int), p⟩) := hb; obtain ⟨d0, d1, d2, d3, df⟩ := hb.cells; clear hg hm hb hy HL) | (go_at_call 119; refine Calls.mono (memPut_any b n r.mem k z u HM.out HK.out.1 HK.out.2.1 HK.out.2.2.1 HK.out.2.2.2) ?_; rintro e u2 ⟨rfl, hm2, hg2⟩; have HG2 : Hid (Gr2 w u2 b G) := HG.out.trans (Gr2.of_grown hg2); have HM2 : Hid (MemAt u2 b (setv r.mem k z)) := hm2; have HB2 : Hid (GBx u2 G b n ⟨host, steps + (r.reads.length : Int), p⟩) := HB.out.block (hg2.block G HB.out.lt (fun e => (by have := Option.some.inj e; omega))); clear hm2 hg2))
    go_ret
    exact ⟨HG2.out, HB2.out, fun _ => ⟨rfl, HM2.out⟩, fun h => absurd hf h⟩
  · clear hpa hsz
    go_enter Try.func149, Try.ntmps149
    go_wp2_with (go_at_call 49; refine Calls.mono HL.out ?_; rintro e u ⟨hg, hm, hb, _, hy⟩; obtain rfl := hy hf; have HG : Hid (Gr2 w u b G) := hg; have HM : Hid (MemAt u b r.mem) := hm; have HB : Hid (GBx u G b n ⟨host, steps + (r.reads.length : Int), p⟩) := hb; clear hg hm hb hy HL)
    go_ret
    exact ⟨HG.out, HB.out, fun h => absurd h hf, fun _ => ⟨rfl, HM.out⟩⟩
end Go.Proofs.Ytfagohdmepnkkaa
