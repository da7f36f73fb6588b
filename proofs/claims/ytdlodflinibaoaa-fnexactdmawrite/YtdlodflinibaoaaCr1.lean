import Derived.Test.YtdlodflinibaoaaHl
import Derived.Test.YtdlodflinibaoaaPMem4
import Derived.Test.YtdlodflinibaoaaPk0
import Derived.Test.YtdlodflinibaoaaRowBU1
namespace Go.Proofs.Ytdlodflinibaoaa
open Go.ChangeShapes Go.WideShapes Go.ChangeAt Go.RowKit

theorem Try.info53 : (Try.prog.info? 53).map (fun i => (i.zero, i.size, i.bytes)) = some (some (.agg #[.int .i64 0, .int .i64 0, .bool false]), 3, 24) := by kernel_rfl
/-- No row of buffers lies there. -/
def NB (u : World) (k : Nat) : Prop := ∀ cs fz, u.heap[k]? ≠ some (.cells cs 53 fz)
theorem NB.of {u : World} {k t : Nat} {cs : Array Value} {fz : Nat × Nat} (h : u.heap[k]? = some (.cells cs t fz)) (ht : t ≠ 53) : NB u k := by
  intro cs' fz' e
  rw [h] at e
  injection e with e
  injection e with _ e2
  exact ht e2
/-- Only a reader's box and rows of buffers behind it may be others. -/
structure FrT (u u' : World) (Bc : Nat) : Prop where
  os : u'.os = u.os
  tape : u'.tape = u.tape
  output : u'.output = u.output
  size : u.heap.size ≤ u'.heap.size
  block : ∀ k, k < u.heap.size → k ≠ Bc → (k < Bc ∨ NB u k) → u'.heap[k]? = u.heap[k]?
theorem FrT.refl (u : World) (Bc : Nat) : FrT u u Bc := ⟨rfl, rfl, rfl, Nat.le_refl _, fun _ _ _ _ => rfl⟩
theorem FrT.trans {u v w : World} {Bc : Nat} (h : FrT u v Bc) (h2 : FrT v w Bc) : FrT u w Bc :=
  ⟨h2.os.trans h.os, h2.tape.trans h.tape, h2.output.trans h.output, Nat.le_trans h.size h2.size, fun k hk hn hc => by
    have e := h.block k hk hn hc
    refine (h2.block k (Nat.lt_of_lt_of_le hk h.size) hn ?_).trans e
    rcases hc with hc | hc
    · exact .inl hc
    · exact .inr (fun cs fz => by rw [e]; exact hc cs fz)⟩
theorem FrT.of_below {u v : World} {Bc : Nat} (h : Below u.heap.size u v) : FrT u v Bc := ⟨h.os, h.tape, h.output, h.size, fun k hk _ _ => h.block k hk⟩
theorem FrT.box {u v : World} {Bc k t : Nat} {cs : Array Value} (h : FrT u v Bc) (hb : u.heap[k]? = some (.cells cs t (0, 0))) (hn : k ≠ Bc) (ht : t ≠ 53) : v.heap[k]? = some (.cells cs t (0, 0)) :=
  (h.block k (Array.getElem?_eq_some_iff.1 hb).1 hn (.inr (NB.of hb ht))).trans hb
/-- A reader of chains in its box, its buffers' row behind it, beside a memory. -/
structure CR (u : World) (Bc mb n : Nat) (v : Value) (zs : List BU) (s : ByteArray) : Prop where
  box : u.heap[Bc]? = some (.cells #[mv mb n, v] 173 (0, 0))
  row : u.ownsRow (Bc + 1) 53 3 v zs.length (buR zs)
  mem : MemAt u mb s
theorem CR.lt {u : World} {Bc mb n : Nat} {v : Value} {zs : List BU} {s : ByteArray} (h : CR u Bc mb n v zs s) : Bc < u.heap.size := (Array.getElem?_eq_some_iff.1 h.box).1
theorem CR.below {u u' : World} {Bc mb n : Nat} {v : Value} {zs : List BU} {s : ByteArray} (h : CR u Bc mb n v zs s) (hb : Below u.heap.size u u') : CR u' Bc mb n v zs s := ⟨(hb.block _ h.lt).trans h.box, bu_below h.row hb, h.mem.below hb h.mem.lt⟩
theorem CR.cel {u : World} {Bc mb n : Nat} {v : Value} {zs : List BU} {s : ByteArray} (h : CR u Bc mb n v zs s) : u.cell? ⟨Bc, 0, none⟩ = some (.slice (some ⟨mb, 0, none⟩) n n) ∧ u.cell? ⟨Bc, 1, none⟩ = some v ∧ (∀ k, u.frozen? ⟨Bc, k, none⟩ = false) := by
  have e := h.box
  unfold mv at e
  refine ⟨?_, ?_, fun k => ?_⟩ <;> simp [World.cell?, World.frozen?, e]
set_option maxRecDepth 100000 in
set_option maxHeartbeats 4000000 in
theorem crHolds_any {w : World} {Bc mb n : Nat} {v : Value} {zs : List BU} {s : ByteArray} (h : CR w Bc mb n v zs s) (z : BU) (hn : s.size = n * 256) (hs : s.size ≤ 65536) (hz : i64B z.len) :
    Calls Try.prog 141 #[.pointer (some ⟨Bc, 0, none⟩), buA z] w fun e w' => e = .returned (.bool (inW s.size z.pos z.len)) ∧ Below w.heap.size w w' := by
  have HI : Hid _ := fun u => isWithin_any s.size z.pos z.len u (by omega) hz
  rw [show ((s.size : Nat) : Int) = (n : Int) * 256 by omega] at HI
  obtain ⟨c0, c1, cf⟩ := h.cel
  have hlt := h.lt
  have hnb : (n : Int) ≤ 256 := by omega
  obtain ⟨zp, zl, zw⟩ := z
  simp only at HI
  unfold buA
  have HL : Hid _ := LBx.new w #[.int .i64 zp, .int .i64 zl, .bool zw] 53
  have d0 : (w.alloc (.cells #[.int .i64 zp, .int .i64 zl, .bool zw] 53)).cell? ⟨Bc, 0, none⟩ = some (.slice (some ⟨mb, 0, none⟩) n n) := (World.cell?_of_block ((bx1 w _).block _ hlt)).trans c0
  clear c1 cf c0 hn hs hz h
  go_enter Try.func141, Try.ntmps141
  go_wp2_with fail
  have hlt2 : Bc < (w.alloc (.cells #[.int .i64 zp, .int .i64 zl, .bool zw] 53)).heap.size := by simp; omega
  generalize (w.alloc (.cells #[.int .i64 zp, .int .i64 zl, .bool zw] 53)) = V at *
  have e0 := HL.out.cel 0 _ rfl
  have e1 := HL.out.cel 1 _ rfl
  go_quiet ((go_at_call 90; exact Calls.quiet_of_same (HI.out _)))
  go_wp2_with fail
  go_ret
  exact ⟨rfl, bdn HL.out.bel _⟩
/-- The last buffer has Write. -/
def lastW (zs : List BU) : Bool := match zs.getLast? with
  | some y => y.write
  | none => false
/-- What add tells, and the buffers behind it. -/
def adC (s : ByteArray) (zs : List BU) (z : BU) : Int := if inW s.size z.pos z.len = true then (if (lastW zs && !z.write) = true then 6 else 0) else 2
theorem last_cell {w : World} {B : Nat} {v : Value} {zs : List BU} (h : w.ownsRow B 53 3 v zs.length (buR zs)) (hz : zs ≠ []) : ∃ g cap, v = .slice (some ⟨g, 0, none⟩) zs.length cap ∧ w.cell? ⟨g, (zs.length - 1) * 3 + 2, none⟩ = some (.bool (lastW zs)) ∧ g < w.heap.size := by
  have hr := BUrow.of h
  obtain ⟨g, cap, cur, hv, _, hg, _⟩ := h.2.resolve_left (fun e => hz (List.eq_nil_of_length_eq_zero e.2))
  obtain ⟨g', o', cap', hv', _, hg', ha⟩ := hr.resolve_left (fun e => hz e.1)
  have e := hv.symm.trans hv'
  injection e with e1 e2 e3
  injection e1 with e1
  injection e1 with e1 e4
  subst e1 e4
  have hpos : 0 < zs.length := List.length_pos_iff.2 hz
  obtain ⟨_, _, a2⟩ := ha (zs.length - 1) (by omega)
  refine ⟨g, cap, hv, ?_, hg'⟩
  rw [Nat.zero_add] at a2
  rw [a2]
  unfold lastW
  rw [List.getLast?_eq_getElem?, List.getElem?_eq_getElem (by omega)]
end Go.Proofs.Ytdlodflinibaoaa
