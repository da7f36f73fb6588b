import Derived.Test.YtggciigjhlbhhaaDe3
import Derived.OrdersHeld
import Derived.Deep.DeepCutAuto
namespace Go.Proofs.Ytggciigjhlbhhaa
open Go.ChangeShapes Go.WideShapes Go.ChangeAt Go.RowKit

/-- What GivePacked answers. -/
def gpA (c : Int) (m : ByteArray) (p : PV) : Value := .agg #[.int .i64 c, .string m, .int .i64 p.size, .int .i64 p.ring, .int .i64 p.pos, .bool p.wrap]
def p0 : PV := ⟨0, 0, 0, false⟩
/-- What is asked of the numbers besides. -/
def gpB (p : PV) (id size count : Int) : Bool := wdB size && decide (0 ≤ id ∧ id ≤ 65535) && decide (1 ≤ count ∧ count ≤ p.size)
def gpV (s : ByteArray) (p : PV) (id size count : Int) : Value := if 65536 < s.size then gpA 2 ⟨#[]⟩ p0 else if (pOk s p && gpB p id size count) = true then gpA 0 (setd s (p.ring + p.pos * 16).toNat 0 size (fi p.wrap 32896) id) (goP p count) else gpA 1 ⟨#[]⟩ p0
theorem gpV_2 {s : ByteArray} {p : PV} {i z c : Int} (h : 65536 < s.size) : gpV s p i z c = gpA 2 ⟨#[]⟩ p0 := by unfold gpV; rw [if_pos h]
theorem gpV_1 {s : ByteArray} {p : PV} {i z c : Int} (h : ¬ 65536 < s.size) (h1 : (pOk s p && gpB p i z c) = false) : gpV s p i z c = gpA 1 ⟨#[]⟩ p0 := by unfold gpV; rw [if_neg h, h1]; rfl
theorem gpV_0 {s : ByteArray} {p : PV} {i z c : Int} (h : ¬ 65536 < s.size) (h1 : (pOk s p && gpB p i z c) = true) : gpV s p i z c = gpA 0 (setd s (p.ring + p.pos * 16).toNat 0 z (fi p.wrap 32896) i) (goP p c) := by unfold gpV; rw [if_neg h, if_pos h1]
theorem pOk_b {s : ByteArray} {p : PV} (h : pOk s p = true) : memOk s = true ∧ 1 ≤ p.size ∧ p.size ≤ 16 ∧ 0 ≤ p.pos ∧ p.pos < p.size ∧ p.ring % 4 = 0 ∧ 0 ≤ p.ring ∧ p.ring + p.size * 16 ≤ (s.size : Int) := by
  simp [pOk, tbB, inW] at h
  obtain ⟨⟨⟨h1, h2⟩, h3⟩, h4, h5⟩ := h
  exact ⟨h1, h2.1, h2.2, h3.1, h3.2, h4, h5.1, by omega⟩
theorem dF_back (z i : Int) (w : Bool) : dF ⟨0, z, false, false, false, w, w, i⟩ = fi w 32896 := by cases w <;> rfl
theorem wdB_fi (w : Bool) : wdB (fi w 32896) = true := by cases w <;> decide
set_option maxRecDepth 100000 in
set_option maxHeartbeats 4000000 in
theorem implGive_code (s : ByteArray) (p : PV) (id size count C : Int) (w : World) (hs : s.size ≤ 1048576) (hc : pkC s p = C) (hn : (C != 0) = true) :
    Calls Try.prog 17 #[.string s, pA p, .int .i64 id, .int .i64 size, .int .i64 count] w fun e w' => e = .returned (gpA C ⟨#[]⟩ p0) ∧ Below w.heap.size w w' := by
  have HC : Hid _ := fun u => packedCode_any s p u hs
  rw [hc] at HC
  clear hc hs
  obtain ⟨sz, rg, ps, wr⟩ := p
  unfold pA at HC ⊢
  unfold gpA p0
  go_enter Try.func17, Try.ntmps17
  go_wp2_with (go_at_call 32; refine Calls.mono (HC.out _) ?_; rintro e u1 ⟨rfl, hu1⟩; have HX1 : Hid _ := TwoBx.of _ _ _ _ _ hu1; clear hu1; have g0 := HX1.out.c2 0 _ rfl; have g1 := HX1.out.c2 1 _ rfl; have g2 := HX1.out.c2 2 _ rfl; have g3 := HX1.out.c2 3 _ rfl; have g4 := HX1.out.c2 4 _ rfl; have g5 := HX1.out.c2 5 _ rfl; have gf := fun k => HX1.out.f2 k)
  refine bodyPost_ret (v := .agg #[.int .i64 C, .string ⟨#[]⟩, .int .i64 0, .int .i64 0, .int .i64 0, .bool false]) ?_ rfl ⟨rfl, ?_⟩
  · simp [results, Try.results17, go_sem, g0, g1, g2, g3, g4, g5]
  · exact (((((HX1.out.bel.setCell (by simp) _).setCell (by simp) _).setCell (by simp) _).setCell (by simp) _).setCell (by simp) _).setCell (by simp) _
/-- A third box. -/
structure GBx (w u : World) (cs : Array Value) (t : Nat) (ds : Array Value) (t2 : Nat) (b : Nat) (es : Array Value) (t3 : Nat) : Prop where
  two : TwoBx w u cs t ds t2
  b3 : u.heap[b]? = some (.cells es t3 (0, 0))
  ge : w.heap.size + 2 ≤ b
theorem GBx.new {w u : World} {cs ds : Array Value} {t t2 : Nat} (h : TwoBx w u cs t ds t2) (es : Array Value) (t3 : Nat) : GBx w (u.alloc (.cells es t3)) cs t ds t2 u.heap.size es t3 := ⟨h.step (bx1 _ _), heap_new _ _, by have := h.lt; omega⟩
theorem GBx.lt {w u : World} {cs ds es : Array Value} {t t2 t3 b : Nat} (h : GBx w u cs t ds t2 b es t3) : b < u.heap.size := (Array.getElem?_eq_some_iff.1 h.b3).1
theorem GBx.step {w u u' : World} {cs ds es : Array Value} {t t2 t3 b : Nat} (h : GBx w u cs t ds t2 b es t3) (hb : Below u.heap.size u u') : GBx w u' cs t ds t2 b es t3 := ⟨h.two.step hb, (hb.block _ h.lt).trans h.b3, h.ge⟩
theorem GBx.cel {w u : World} {cs ds es : Array Value} {t t2 t3 b : Nat} (h : GBx w u cs t ds t2 b es t3) (k : Nat) (v : Value) (hv : es[k]? = some v) : u.cell? ⟨b, k, none⟩ = some v := by simp [World.cell?, h.b3, hv]
end Go.Proofs.Ytggciigjhlbhhaa
