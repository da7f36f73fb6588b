import Derived.Test.YtfagohdmepnkkaaDe3
import Derived.OrdersHeld
import Derived.Deep.DeepCutAuto
namespace Go.Proofs.Ytfagohdmepnkkaa
open Go.ChangeShapes Go.WideShapes Go.ChangeAt Go.RowKit

/-- What GivePacked answers. -/
def gpA (c : Int) (m : ByteArray) (p : PV) : Value := .agg #[.int .i64 c, .string m, .int .i64 p.size, .int .i64 p.ring, .int .i64 p.pos, .bool p.wrap]
def p0 : PV := ⟨0, 0, 0, false⟩
/-- What is asked of the numbers besides. -/
def gpB (p : PV) (id size count : Int) : Bool := wdB size && decide (0 ≤ id ∧ id ≤ 65535) && decide (1 ≤ count ∧ count ≤ p.size)
def gpV (s : ByteArray) (p : PV) (id size count : Int) : Value := if 65536 < s.size then gpA 2 ⟨#[]⟩ p0 else if (pOk s p && gpB p id size count) = true then gpA 0 (setd s (p.ring + p.pos * 16).toNat 0 size (fi p.wrap 32896) id) (goP p count) else gpA 1 ⟨#[]⟩ p0
theorem gpV_2 {s : ByteArray} {p : PV} {i z c : Int} (h : 65536 < s.size) : gpV s p i z c = gpA 2 ⟨#[]⟩ p0 := by unfold gpV; rw [if_pos h]
theorem gpV_1 {s : ByteArray} {p : PV} {i z c : Int} (h : ¬ 65536 < s.size) (h1 : (pOk s p && gpB p i z c) = false) : gpV s p i z c = gpA 1 ⟨#[]⟩ p0 := by unfold gpV; rw [if_neg h, h1]; rfl
theorem gpV_0 {s : ByteArray} {p : PV} {i z c : Int} (h : ¬ 65536 < s.size) (h1 : (pOk s p && gpB p i z c) = true) : gpV s p i z c = gpA 0 (setd s (p.ring + p.pos * 16).toNat 0 z (fi p.wrap 32896) i) (goP p c) := by unfold gpV; rw [if_neg h, if_pos h1]
theorem pOk_b {s : ByteArray} {p : PV} (h : pOk s p = true) : memOk s = true ∧ 1 ≤ p.size ∧ p.size ≤ 16 ∧ 0 ≤ p.pos ∧ p.pos < p.size ∧ p.ring % 4 = 0 ∧ 0 ≤ p.ring ∧ p.ring + p.size * 16 ≤ (s.size : Int) := by
  simp [pOk, tbB, inW] at h
  obtain ⟨⟨⟨h1, h2⟩, h3⟩, h4, h5⟩ := h
  exact ⟨h1, h2.1, h2.2, h3.1, h3.2, h4, h5.1, by omega⟩
theorem dF_back (z i : Int) (w : Bool) : dF ⟨0, z, false, false, false, w, w, i⟩ = fi w 32896 := by cases w <;> rfl
theorem wdB_fi (w : Bool) : wdB (fi w 32896) = true := by cases w <;> decide
set_option maxRecDepth 100000 in
set_option maxHeartbeats 4000000 in
theorem implGive_code (s : ByteArray) (p : PV) (id size count C : Int) (w : World) (hs : s.size ≤ 1048576) (hc : pkC s p = C) (hn : (C != 0) = true) :
    Calls Try.prog 25 #[.string s, pA p, .int .i64 id, .int .i64 size, .int .i64 count] w fun e w' => e = .returned (gpA C ⟨#[]⟩ p0) ∧ Below w.heap.size w w' := by
  have HC : Hid _ := fun u => packedCode_any s p u hs
  rw [hc] at HC
  clear hc hs
  obtain ⟨sz, rg, ps, wr⟩ := p
  unfold pA at HC ⊢
  unfold gpA p0
  go_enter Try.func25, Try.ntmps25
  go_wp2_with (go_at_call 66; refine Calls.mono (HC.out _) ?_; rintro e u1 ⟨rfl, hu1⟩; have HX1 : Hid _ := TwoBx.of _ _ _ _ _ hu1; clear hu1; have g0 := HX1.out.c2 0 _ rfl; have g1 := HX1.out.c2 1 _ rfl; have g2 := HX1.out.c2 2 _ rfl; have g3 := HX1.out.c2 3 _ rfl; have g4 := HX1.out.c2 4 _ rfl; have g5 := HX1.out.c2 5 _ rfl; have gf := fun k => HX1.out.f2 k)
  refine bodyPost_ret (v := .agg #[.int .i64 C, .string ⟨#[]⟩, .int .i64 0, .int .i64 0, .int .i64 0, .bool false]) ?_ rfl ⟨rfl, ?_⟩
  · simp [results, Try.results25, go_sem, g0, g1, g2, g3, g4, g5]
  · exact (((((HX1.out.bel.setCell (by simp) _).setCell (by simp) _).setCell (by simp) _).setCell (by simp) _).setCell (by simp) _).setCell (by simp) _
set_option maxRecDepth 100000 in
set_option maxHeartbeats 4000000 in
theorem backDesc_any (p : PV) (id size : Int) (w : World) : Calls Try.prog 67 #[.agg #[.int .i64 p.size, .int .i64 p.ring, .int .i64 p.pos, .bool p.wrap], .int .i64 id, .int .i64 size] w fun e w' => e = .returned (.agg #[.int .i64 0, .int .i64 size, .bool false, .bool false, .bool false, .bool p.wrap, .bool p.wrap, .int .i64 id]) ∧ Below w.heap.size w w' := by
  have HX0 : Hid (TwoBx w ((w.alloc (.cells #[.int .i64 p.size, .int .i64 p.ring, .int .i64 p.pos, .bool p.wrap] 45)).alloc (.cells #[.int .i64 0, .int .i64 0, .bool false, .bool false, .bool false, .bool false, .bool false, .int .i64 0] 116)) #[.int .i64 p.size, .int .i64 p.ring, .int .i64 p.pos, .bool p.wrap] 45 #[.int .i64 0, .int .i64 0, .bool false, .bool false, .bool false, .bool false, .bool false, .int .i64 0] 116) := TwoBx.of _ _ _ _ _ (Below.refl _ _)
  go_enter Try.func67, Try.ntmps67
  go_upto_region 1 with fail
  generalize ((w.alloc (.cells #[.int .i64 p.size, .int .i64 p.ring, .int .i64 p.pos, .bool p.wrap] 45)).alloc (.cells #[.int .i64 0, .int .i64 0, .bool false, .bool false, .bool false, .bool false, .bool false, .int .i64 0] 116)) = u1 at *
  have g3 := HX0.out.c1 3 _ rfl
  have r0 := HX0.out.c2 0 _ rfl
  have r1 := HX0.out.c2 1 _ rfl
  have r2 := HX0.out.c2 2 _ rfl
  have r3 := HX0.out.c2 3 _ rfl
  have r4 := HX0.out.c2 4 _ rfl
  have r5 := HX0.out.c2 5 _ rfl
  have r6 := HX0.out.c2 6 _ rfl
  have r7 := HX0.out.c2 7 _ rfl
  have rf := fun k => HX0.out.f2 k
  have rl := HX0.out.lt
  have rl1 : w.heap.size < u1.heap.size := by omega
  go_wp2
  refine bodyPost_ret (v := .agg #[.int .i64 0, .int .i64 size, .bool false, .bool false, .bool false, .bool p.wrap, .bool p.wrap, .int .i64 id]) ?_ rfl ⟨rfl, ?_⟩
  · simp [results, Try.results67, go_sem, r0, r1, r2, r3, r4, r5, r6, r7]
  · exact (((((((HX0.out.bel.setCell (by simp) _).setCell (by simp) _).setCell (by simp) _).setCell (by simp) _).setCell (by simp) _).setCell (by simp) _).setCell (by simp) _).setCell (by simp) _
/-- A third box. -/
structure GBx (w u : World) (cs : Array Value) (t : Nat) (ds : Array Value) (t2 : Nat) (b : Nat) (es : Array Value) (t3 : Nat) : Prop where
  two : TwoBx w u cs t ds t2
  b3 : u.heap[b]? = some (.cells es t3 (0, 0))
  ge : w.heap.size + 2 ≤ b
theorem GBx.new {w u : World} {cs ds : Array Value} {t t2 : Nat} (h : TwoBx w u cs t ds t2) (es : Array Value) (t3 : Nat) : GBx w (u.alloc (.cells es t3)) cs t ds t2 u.heap.size es t3 := ⟨h.step (bx1 _ _), heap_new _ _, by have := h.lt; omega⟩
theorem GBx.lt {w u : World} {cs ds es : Array Value} {t t2 t3 b : Nat} (h : GBx w u cs t ds t2 b es t3) : b < u.heap.size := (Array.getElem?_eq_some_iff.1 h.b3).1
theorem GBx.step {w u u' : World} {cs ds es : Array Value} {t t2 t3 b : Nat} (h : GBx w u cs t ds t2 b es t3) (hb : Below u.heap.size u u') : GBx w u' cs t ds t2 b es t3 := ⟨h.two.step hb, (hb.block _ h.lt).trans h.b3, h.ge⟩
theorem GBx.cel {w u : World} {cs ds es : Array Value} {t t2 t3 b : Nat} (h : GBx w u cs t ds t2 b es t3) (k : Nat) (v : Value) (hv : es[k]? = some v) : u.cell? ⟨b, k, none⟩ = some v := by simp [World.cell?, h.b3, hv]
set_option maxRecDepth 100000 in
set_option maxHeartbeats 4000000 in
theorem implGive_form (s : ByteArray) (p : PV) (id size count : Int) (w : World) (hs : s.size ≤ 1048576) (hc : pkC s p = 0) (hn : gpB p id size count = false) :
    Calls Try.prog 25 #[.string s, pA p, .int .i64 id, .int .i64 size, .int .i64 count] w fun e w' => e = .returned (gpA 1 ⟨#[]⟩ p0) ∧ Below w.heap.size w w' := by
  have HC : Hid _ := fun u => packedCode_any s p u hs
  rw [hc] at HC
  clear hc hs
  obtain ⟨sz, rg, ps, wr⟩ := p
  have HBD : Hid _ := fun u => backDesc_any ⟨sz, rg, ps, wr⟩ id size u
  simp only at HBD
  have HW : Hid _ := fun u => words_any ⟨0, size, false, false, false, wr, wr, id⟩ u
  simp only [dF_back] at HW
  have HF : Hid _ := fun u => fit_any 0 size (fi wr 32896) id u
  rw [wdB_fi, show wdB 0 = true by decide] at HF
  unfold pA at HC ⊢
  unfold gpA p0
  unfold dA wA at HW
  unfold wA at HF
  simp only [Bool.true_and, Bool.and_true] at HF
  generalize fi wr 32896 = FL at *
  cases hf : (wdB size && wdB id)
  · rw [hf] at HF
    clear hn hf
    go_enter Try.func25, Try.ntmps25
    go_wp2_with ((go_at_call 66; refine Calls.mono (HC.out _) ?_; rintro e u1 ⟨rfl, hu1⟩; have HX1 : Hid _ := TwoBx.of _ _ _ _ _ hu1; clear hu1; have g0 := HX1.out.c1 0 _ rfl; have g1 := HX1.out.c1 1 _ rfl; have g2 := HX1.out.c1 2 _ rfl; have g3 := HX1.out.c1 3 _ rfl; have glt := HX1.out.lt))
    refine Calls.mono (HBD.out _) ?_
    rintro e u1x ⟨rfl, hux⟩
    have HX1x : Hid _ := HX1.out.step hux
    clear hux g0 g1 g2 g3 glt HX1
    go_wp2_with fail
    refine Calls.mono (HW.out _) ?_
    have HX1b : Hid _ := GBx.new HX1x.out #[.int .i64 0, .int .i64 size, .bool false, .bool false, .bool false, .bool wr, .bool wr, .int .i64 id] 116
    generalize (u1x.alloc (.cells #[.int .i64 0, .int .i64 size, .bool false, .bool false, .bool false, .bool wr, .bool wr, .int .i64 id] 116)) = u1b at *
    generalize u1x.heap.size = B3 at *
    rintro e u2 ⟨rfl, hu2⟩
    have HX2 : Hid _ := HX1b.out.step hu2
    clear hu2 HX1x HX1b
    go_wp2_with fail
    refine Calls.mono (HF.out _) ?_
    rintro e u3 ⟨rfl, hu3⟩
    have HX3 : Hid _ := HX2.out.step hu3
    clear hu3 HX2
    have g0 := HX3.out.two.c1 0 _ rfl
    have g1 := HX3.out.two.c1 1 _ rfl
    have g2 := HX3.out.two.c1 2 _ rfl
    have g3 := HX3.out.two.c1 3 _ rfl
    have r0 := HX3.out.two.c2 0 _ rfl
    have r1 := HX3.out.two.c2 1 _ rfl
    have r2 := HX3.out.two.c2 2 _ rfl
    have r3 := HX3.out.two.c2 3 _ rfl
    have r4 := HX3.out.two.c2 4 _ rfl
    have r5 := HX3.out.two.c2 5 _ rfl
    have rf := fun k => HX3.out.two.f2 k
    go_wp2_with fail
    refine bodyPost_ret (v := .agg #[.int .i64 1, .string ⟨#[]⟩, .int .i64 0, .int .i64 0, .int .i64 0, .bool false]) ?_ rfl ⟨rfl, ?_⟩
    · simp [results, Try.results25, go_sem, r0, r1, r2, r3, r4, r5]
    · exact (((((HX3.out.two.bel.setCell (by simp) _).setCell (by simp) _).setCell (by simp) _).setCell (by simp) _).setCell (by simp) _).setCell (by simp) _
  rw [hf] at HF
  by_cases k1 : 65536 ≤ id
  · clear hn hf
    go_enter Try.func25, Try.ntmps25
    go_wp2_with ((go_at_call 66; refine Calls.mono (HC.out _) ?_; rintro e u1 ⟨rfl, hu1⟩; have HX1 : Hid _ := TwoBx.of _ _ _ _ _ hu1; clear hu1; have g0 := HX1.out.c1 0 _ rfl; have g1 := HX1.out.c1 1 _ rfl; have g2 := HX1.out.c1 2 _ rfl; have g3 := HX1.out.c1 3 _ rfl; have glt := HX1.out.lt))
    refine Calls.mono (HBD.out _) ?_
    rintro e u1x ⟨rfl, hux⟩
    have HX1x : Hid _ := HX1.out.step hux
    clear hux g0 g1 g2 g3 glt HX1
    go_wp2_with fail
    refine Calls.mono (HW.out _) ?_
    have HX1b : Hid _ := GBx.new HX1x.out #[.int .i64 0, .int .i64 size, .bool false, .bool false, .bool false, .bool wr, .bool wr, .int .i64 id] 116
    generalize (u1x.alloc (.cells #[.int .i64 0, .int .i64 size, .bool false, .bool false, .bool false, .bool wr, .bool wr, .int .i64 id] 116)) = u1b at *
    generalize u1x.heap.size = B3 at *
    rintro e u2 ⟨rfl, hu2⟩
    have HX2 : Hid _ := HX1b.out.step hu2
    clear hu2 HX1x HX1b
    go_wp2_with fail
    refine Calls.mono (HF.out _) ?_
    rintro e u3 ⟨rfl, hu3⟩
    have HX3 : Hid _ := HX2.out.step hu3
    clear hu3 HX2
    have g0 := HX3.out.two.c1 0 _ rfl
    have g1 := HX3.out.two.c1 1 _ rfl
    have g2 := HX3.out.two.c1 2 _ rfl
    have g3 := HX3.out.two.c1 3 _ rfl
    have r0 := HX3.out.two.c2 0 _ rfl
    have r1 := HX3.out.two.c2 1 _ rfl
    have r2 := HX3.out.two.c2 2 _ rfl
    have r3 := HX3.out.two.c2 3 _ rfl
    have r4 := HX3.out.two.c2 4 _ rfl
    have r5 := HX3.out.two.c2 5 _ rfl
    have rf := fun k => HX3.out.two.f2 k
    go_wp2_with fail
    refine bodyPost_ret (v := .agg #[.int .i64 1, .string ⟨#[]⟩, .int .i64 0, .int .i64 0, .int .i64 0, .bool false]) ?_ rfl ⟨rfl, ?_⟩
    · simp [results, Try.results25, go_sem, r0, r1, r2, r3, r4, r5]
    · exact (((((HX3.out.two.bel.setCell (by simp) _).setCell (by simp) _).setCell (by simp) _).setCell (by simp) _).setCell (by simp) _).setCell (by simp) _
  by_cases k2 : count < 1
  · clear hn hf
    go_enter Try.func25, Try.ntmps25
    go_wp2_with ((go_at_call 66; refine Calls.mono (HC.out _) ?_; rintro e u1 ⟨rfl, hu1⟩; have HX1 : Hid _ := TwoBx.of _ _ _ _ _ hu1; clear hu1; have g0 := HX1.out.c1 0 _ rfl; have g1 := HX1.out.c1 1 _ rfl; have g2 := HX1.out.c1 2 _ rfl; have g3 := HX1.out.c1 3 _ rfl; have glt := HX1.out.lt))
    refine Calls.mono (HBD.out _) ?_
    rintro e u1x ⟨rfl, hux⟩
    have HX1x : Hid _ := HX1.out.step hux
    clear hux g0 g1 g2 g3 glt HX1
    go_wp2_with fail
    refine Calls.mono (HW.out _) ?_
    have HX1b : Hid _ := GBx.new HX1x.out #[.int .i64 0, .int .i64 size, .bool false, .bool false, .bool false, .bool wr, .bool wr, .int .i64 id] 116
    generalize (u1x.alloc (.cells #[.int .i64 0, .int .i64 size, .bool false, .bool false, .bool false, .bool wr, .bool wr, .int .i64 id] 116)) = u1b at *
    generalize u1x.heap.size = B3 at *
    rintro e u2 ⟨rfl, hu2⟩
    have HX2 : Hid _ := HX1b.out.step hu2
    clear hu2 HX1x HX1b
    go_wp2_with fail
    refine Calls.mono (HF.out _) ?_
    rintro e u3 ⟨rfl, hu3⟩
    have HX3 : Hid _ := HX2.out.step hu3
    clear hu3 HX2
    have g0 := HX3.out.two.c1 0 _ rfl
    have g1 := HX3.out.two.c1 1 _ rfl
    have g2 := HX3.out.two.c1 2 _ rfl
    have g3 := HX3.out.two.c1 3 _ rfl
    have r0 := HX3.out.two.c2 0 _ rfl
    have r1 := HX3.out.two.c2 1 _ rfl
    have r2 := HX3.out.two.c2 2 _ rfl
    have r3 := HX3.out.two.c2 3 _ rfl
    have r4 := HX3.out.two.c2 4 _ rfl
    have r5 := HX3.out.two.c2 5 _ rfl
    have rf := fun k => HX3.out.two.f2 k
    go_wp2_with fail
    refine bodyPost_ret (v := .agg #[.int .i64 1, .string ⟨#[]⟩, .int .i64 0, .int .i64 0, .int .i64 0, .bool false]) ?_ rfl ⟨rfl, ?_⟩
    · simp [results, Try.results25, go_sem, r0, r1, r2, r3, r4, r5]
    · exact (((((HX3.out.two.bel.setCell (by simp) _).setCell (by simp) _).setCell (by simp) _).setCell (by simp) _).setCell (by simp) _).setCell (by simp) _
  have k3 : sz < count := by
    rcases Int.lt_or_le sz count with h | h
    · exact h
    · exfalso
      simp [wdB] at hf
      have hg : gpB ⟨sz, rg, ps, wr⟩ id size count = true := by
        simp only [gpB, wdB, Bool.and_eq_true, decide_eq_true_eq]
        omega
      rw [hg] at hn
      cases hn
  clear hn hf
  go_enter Try.func25, Try.ntmps25
  go_wp2_with ((go_at_call 66; refine Calls.mono (HC.out _) ?_; rintro e u1 ⟨rfl, hu1⟩; have HX1 : Hid _ := TwoBx.of _ _ _ _ _ hu1; clear hu1; have g0 := HX1.out.c1 0 _ rfl; have g1 := HX1.out.c1 1 _ rfl; have g2 := HX1.out.c1 2 _ rfl; have g3 := HX1.out.c1 3 _ rfl; have glt := HX1.out.lt))
  refine Calls.mono (HBD.out _) ?_
  rintro e u1x ⟨rfl, hux⟩
  have HX1x : Hid _ := HX1.out.step hux
  clear hux g0 g1 g2 g3 glt HX1
  go_wp2_with fail
  refine Calls.mono (HW.out _) ?_
  have HX1b : Hid _ := GBx.new HX1x.out #[.int .i64 0, .int .i64 size, .bool false, .bool false, .bool false, .bool wr, .bool wr, .int .i64 id] 116
  generalize (u1x.alloc (.cells #[.int .i64 0, .int .i64 size, .bool false, .bool false, .bool false, .bool wr, .bool wr, .int .i64 id] 116)) = u1b at *
  generalize u1x.heap.size = B3 at *
  rintro e u2 ⟨rfl, hu2⟩
  have HX2 : Hid _ := HX1b.out.step hu2
  clear hu2 HX1x HX1b
  go_wp2_with fail
  refine Calls.mono (HF.out _) ?_
  rintro e u3 ⟨rfl, hu3⟩
  have HX3 : Hid _ := HX2.out.step hu3
  clear hu3 HX2
  have g0 := HX3.out.two.c1 0 _ rfl
  have g1 := HX3.out.two.c1 1 _ rfl
  have g2 := HX3.out.two.c1 2 _ rfl
  have g3 := HX3.out.two.c1 3 _ rfl
  have r0 := HX3.out.two.c2 0 _ rfl
  have r1 := HX3.out.two.c2 1 _ rfl
  have r2 := HX3.out.two.c2 2 _ rfl
  have r3 := HX3.out.two.c2 3 _ rfl
  have r4 := HX3.out.two.c2 4 _ rfl
  have r5 := HX3.out.two.c2 5 _ rfl
  have rf := fun k => HX3.out.two.f2 k
  go_wp2_with fail
  refine bodyPost_ret (v := .agg #[.int .i64 1, .string ⟨#[]⟩, .int .i64 0, .int .i64 0, .int .i64 0, .bool false]) ?_ rfl ⟨rfl, ?_⟩
  · simp [results, Try.results25, go_sem, r0, r1, r2, r3, r4, r5]
  · exact (((((HX3.out.two.bel.setCell (by simp) _).setCell (by simp) _).setCell (by simp) _).setCell (by simp) _).setCell (by simp) _).setCell (by simp) _

end Go.Proofs.Ytfagohdmepnkkaa
