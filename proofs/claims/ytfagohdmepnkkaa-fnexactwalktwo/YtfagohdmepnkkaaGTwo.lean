import Derived.Test.YtfagohdmepnkkaaPWk7M
import Derived.Test.YtfagohdmepnkkaaWalkYesS
import Derived.Deep.RegionHeld
namespace Go.Proofs.Ytfagohdmepnkkaa
open Go.ChangeShapes Go.WideShapes Go.ChangeAt Go.RowKit

/-- A guest's space: what its box holds beside its memory. -/
structure GS where
  host : Nat
  steps : Int
  place : Int
def GBx (w : World) (G : Nat) (b n : Nat) (x : GS) : Prop := w.heap[G]? = some (.cells #[mv b n, .int .i64 x.host, .int .i64 x.steps, .int .i64 x.place] 88 (0, 0))
theorem GBx.lt {w : World} {G b n : Nat} {x : GS} (h : GBx w G b n x) : G < w.heap.size := (Array.getElem?_eq_some_iff.1 h).1
theorem GBx.cells {w : World} {G b n : Nat} {x : GS} (h : GBx w G b n x) : w.cell? ⟨G, 0, none⟩ = some (.slice (some ⟨b, 0, none⟩) n n) ∧ w.cell? ⟨G, 1, none⟩ = some (.int .i64 x.host) ∧ w.cell? ⟨G, 2, none⟩ = some (.int .i64 x.steps) ∧ w.cell? ⟨G, 3, none⟩ = some (.int .i64 x.place) ∧ ∀ o, w.frozen? ⟨G, o, none⟩ = false := by
  unfold GBx mv at h
  simp [World.cell?, World.frozen?, h]
theorem GBx.block {w u : World} {G b n : Nat} {x : GS} (h : GBx w G b n x) (hu : u.heap[G]? = w.heap[G]?) : GBx u G b n x := hu.trans h
theorem GBx.put2 {w : World} {G b n : Nat} {x : GS} (h : GBx w G b n x) (y : Int) : GBx (w.setCell ⟨G, 2, none⟩ (.int .i64 y)) G b n { x with steps := y } := by
  unfold GBx at h ⊢
  simp [World.setCell, Array.getElem?_modify, h]
theorem GBx.put3 {w : World} {G b n : Nat} {x : GS} (h : GBx w G b n x) (y : Int) : GBx (w.setCell ⟨G, 3, none⟩ (.int .i64 y)) G b n { x with place := y } := by
  unfold GBx at h ⊢
  simp [World.setCell, Array.getElem?_modify, h]
/-- All below stays but the memory and the space's own box. -/
structure Gr2 (w u : World) (b G : Nat) : Prop where
  os : u.os = w.os
  tape : u.tape = w.tape
  output : u.output = w.output
  size : w.heap.size ≤ u.heap.size
  block : ∀ k, k < w.heap.size → k ≠ b → k ≠ G → u.heap[k]? = w.heap[k]?
theorem set_alloc (w : World) (o : Obj) (p : Addr) (v : Value) (k : Nat) (hk : k < w.heap.size) : ((w.alloc o).setCell p v).heap[k]? = (w.setCell p v).heap[k]? := by
  have h := Below.heap_alloc w o k hk
  simp only [World.setCell, Array.getElem?_modify, h]
set_option maxRecDepth 100000 in
set_option maxHeartbeats 4000000 in
theorem lookup_ok {w : World} {b G n : Nat} {s : ByteArray} {x : GS} (hM : MemAt w b s) (h : GBx w G b n x) (hbG : b < G) (p : Nat) (acc : Int) (hn : s.size = n * 256) (hs : s.size ≤ 65536) (hh : x.host ≤ 255) (hp : p ≤ 262143) (a1 : 1 ≤ acc) (a2 : acc ≤ 3) (hst0 : 0 ≤ x.steps) (hst : x.steps ≤ 1000) :
    Calls Try.prog 49 #[.pointer (some ⟨G, 0, none⟩), .int .i64 p, .int .i64 acc] w fun e u => Gr2 w u b G ∧ MemAt u b (walkV s x.host p acc false).mem ∧
      GBx u G b n { x with steps := x.steps + (walkV s x.host p acc false).reads.length, place := p } ∧
      ((walkV s x.host p acc false).fault = 0 → e = .returned (.tuple #[.int .i64 (walkV s x.host p acc false).pa, .int .i64 0])) ∧
      (¬ (walkV s x.host p acc false).fault = 0 → e = .returned (.tuple #[.int .i64 0, .int .i64 3])) := by
  obtain ⟨host, steps, place⟩ := x
  obtain ⟨c0, c1, c2, c3, cf⟩ := h.cells
  simp only at *
  have hlt := h.lt
  have hlen := walkV_len s host p acc false
  have HH : Hid (GBx w G b n ⟨host, steps, place⟩) := h
  have HI : Hid (WSt (w.setCell ⟨G, 3, none⟩ (.int .i64 p)) b w.heap.size n s ((w.setCell ⟨G, 3, none⟩ (.int .i64 p)).alloc (.cells #[.iface 85 (mv b n), .int .i64 p, .int .i64 acc, .bool false, .int .i64 0, .int .i64 0, .bool false, .slice none 0 0, .int .i64 0, .bool false] 92)) (.slice none 0 0) [] ⟨p, acc, false, 0, 0, false, 0⟩) := by
    have hm1 : b < w.heap.size := hM.lt
    have hz : (w.setCell ⟨G, 3, none⟩ (.int .i64 p)).heap.size = w.heap.size := by simp [World.setCell]
    have hx := heap_new (w.setCell ⟨G, 3, none⟩ (.int .i64 p)) (.cells #[.iface 85 (mv b n), .int .i64 p, .int .i64 acc, .bool false, .int .i64 0, .int .i64 0, .bool false, .slice none 0 0, .int .i64 0, .bool false] 92)
    rw [hz] at hx
    refine ⟨gb_below (gb_refl _ _) ((Below.refl _ _).alloc (Nat.le_refl _) _), ?_, ⟨false, hx⟩, World.ownsRow_nil _ _ _ _, by rw [hz]; exact Nat.le_refl _, hm1⟩
    exact (Below.heap_alloc _ _ _ (by rw [hz]; exact hm1)).trans ((Below.heap_setCell _ _ _ _ (by simp; omega)).trans hM)
  have hbw : b < w.heap.size := hM.lt
  have HF : Hid _ := findM HI.out hn hs host (by omega) hp a1 a2
  simp only at HF
  obtain ⟨r, hr⟩ : ∃ r, walkV s host p acc false = r := ⟨_, rfl⟩
  rw [hr] at HF hlen ⊢
  have V : Hid (p ≤ 262143) := hp
  clear hr h hM hp hn hs
  unfold mv at HF HI
  go_enter Try.func49, Try.ntmps49
  go_wp2_with (go_at_call 48; refine Calls.mono HF.out ?_; rintro e u ⟨rfl, rv', x', hst', hx1, hx2, hx3, hx4⟩; have hGb : GBx u G b n ⟨host, steps, p⟩ := GBx.block (HH.out.put3 p) (hst'.grw.block G (by simp [World.setCell]; exact hlt) (fun e => (by have := Option.some.inj e; omega))); have HGb : Hid (GBx u G b n ⟨host, steps, p⟩) := hGb; have HS : Hid (WSt (w.setCell ⟨G, 3, none⟩ (.int .i64 p)) b w.heap.size n r.mem u rv' r.reads x') := hst'; obtain ⟨d0, d1, d2, d3, df⟩ := hGb.cells; obtain ⟨ao, cap, hv⟩ := hst'.sl; obtain ⟨b0, b1, b2, b3, b4, b5, b6, b7, b8, bf⟩ := hst'.box.cells; rw [hv] at b7; clear hst' hGb hv)
  have hw2 : IntKind.i64.wrap (steps + (r.reads.length : Int)) = steps + (r.reads.length : Int) := by rw [IntKind.wrap_i64]; omega
  have HP : Hid (∀ y, Gr2 w (u.setCell ⟨G, 2, none⟩ (.int .i64 y)) b G ∧ MemAt (u.setCell ⟨G, 2, none⟩ (.int .i64 y)) b r.mem) := by
    intro y
    have hg := HS.out.grw
    refine ⟨⟨hg.os, hg.tape, hg.output, ?_, fun k hk h1 h2 => ?_⟩, (Below.heap_setCell _ _ _ _ (by simp; omega)).trans HS.out.mem⟩
    · have := hg.size
      simp [World.setCell] at this ⊢
      exact this
    · rw [Below.heap_setCell _ _ _ _ h2, hg.block k (by simp [World.setCell]; exact hk) (fun e => h1 (Option.some.inj e)), Below.heap_setCell _ _ _ _ h2]
  by_cases hf : r.fault = 0
  · obtain ⟨hpa, _, _⟩ := hx4 hf
    rw [hpa] at b8
    clear hx4
    go_region
    all_goals go_wp2
    go_ret2
    exact ⟨⟨(HP.out (steps + (r.reads.length : Int))).1.os, (HP.out (steps + (r.reads.length : Int))).1.tape, (HP.out (steps + (r.reads.length : Int))).1.output, (HP.out (steps + (r.reads.length : Int))).1.size, (HP.out (steps + (r.reads.length : Int))).1.block⟩, (HP.out (steps + (r.reads.length : Int))).2, HGb.out.put2 _, fun _ => rfl, fun h => absurd hf h⟩
  · have hf2 : (r.fault != 0) = true := by simpa using hf
    clear hx4
    go_region
    all_goals go_wp2
    go_ret2
    exact ⟨⟨(HP.out (steps + (r.reads.length : Int))).1.os, (HP.out (steps + (r.reads.length : Int))).1.tape, (HP.out (steps + (r.reads.length : Int))).1.output, (HP.out (steps + (r.reads.length : Int))).1.size, (HP.out (steps + (r.reads.length : Int))).1.block⟩, (HP.out (steps + (r.reads.length : Int))).2, HGb.out.put2 _, fun h => absurd h hf, fun _ => rfl⟩
end Go.Proofs.Ytfagohdmepnkkaa
