import Derived.Test.YthhbfghbpapklabRc1
import Derived.Test.YthhbfghbpapklabHl
import Derived.Deep.DeepCutAuto
import Derived.Deep.LoopGhost
namespace Go.Proofs.Ythhbfghbpapklab
open Go.ChangeShapes Go.WideShapes Go.ChangeAt Go.RowKit

/-- A descriptor's buffer. -/
def bf (d : DV) : BU := ⟨d.pos, d.len, d.write⟩
/-- A table read on: so many more descriptors, from number a on, behind the buffers zs; K: what an indirect one leads to. -/
def rdT (s : ByteArray) (K : DV → List BU → Int × List BU) (T S : Nat) : Nat → Nat → List BU → Int × List BU
  | 0, a, _ => if S ≤ a then (5, []) else (9, [])
  | f + 1, a, zs => if S ≤ a then (5, []) else if (dAt s (T + a * 16)).indirect = true then K (dAt s (T + a * 16)) zs else if adC s zs (bf (dAt s (T + a * 16))) = 0 then (if (dAt s (T + a * 16)).next = true then rdT s K T S f (dAt s (T + a * 16)).number.toNat (zs ++ [bf (dAt s (T + a * 16))]) else (0, zs ++ [bf (dAt s (T + a * 16))])) else (adC s zs (bf (dAt s (T + a * 16))), [])
/-- Where an indirect descriptor leads. -/
def KK (s : ByteArray) (inn : Bool) (d : DV) (zs : List BU) : Int × List BU := if itC s.size inn d.next d.pos.toNat d.len.toNat = 0 then rdT s (fun _ _ => (3, [])) d.pos.toNat (d.len.toNat / 16) (d.len.toNat / 16) 0 zs else (itC s.size inn d.next d.pos.toNat d.len.toNat, [])
theorem KK_true (s : ByteArray) : KK s true = fun _ _ => (3, []) := by
  funext d zs
  simp [KK, itC]
/-- The chain that begins with a descriptor of a table. -/
def rcR (s : ByteArray) (T S a : Nat) : Int × List BU := rdT s (KK s false) T S S a []
theorem dAt_len (s : ByteArray) (k : Nat) : i64B (bf (dAt s k)).len := by
  have := wv_b s (k + 4)
  show i64B (wv s (k + 4))
  unfold i64B
  omega
theorem itC_ok {n : Nat} {inn nx : Bool} {P L : Nat} (h : itC n inn nx P L = 0) : inn = false ∧ nx = false ∧ P % 4 = 0 ∧ L % 16 = 0 ∧ L / 16 ≤ 16 ∧ P + L ≤ n := by
  unfold itC at h
  repeat' split at h
  all_goals first | (exact absurd h (by decide)) | skip
  rename_i h1 h2 h3 h4 h5 h6 h7
  have h8 := h7
  unfold inW at h8
  simp at h8 h3 h4
  refine ⟨by simpa using h1, by simpa using h2, by omega, by omega, by omega, by omega⟩
/-- A cell of a box put. -/
theorem CR.put {w u : World} {Bc mb n : Nat} {v : Value} {zs : List BU} {s : ByteArray} {B t : Nat} {cs : Array Value} (h : CR u Bc mb n v zs s) (hf : FrT w u Bc) (hb : u.heap[B]? = some (.cells cs t (0, 0))) (ht : t ≠ 153 ∧ t ≠ 279 ∧ t ≠ 158) (hw : w.heap.size ≤ B) (o : Nat) (x : Value) : CR (u.setCell ⟨B, o, none⟩ x) Bc mb n v zs s ∧ FrT w (u.setCell ⟨B, o, none⟩ x) Bc ∧ (u.setCell ⟨B, o, none⟩ x).heap[B]? = some (.cells (cs.setIfInBounds o x) t (0, 0)) ∧ ∀ k, k ≠ B → (u.setCell ⟨B, o, none⟩ x).heap[k]? = u.heap[k]? := by
  have hoth : ∀ k, k ≠ B → (u.setCell ⟨B, o, none⟩ x).heap[k]? = u.heap[k]? := fun k hk => Below.heap_setCell _ _ _ _ (by simp; omega)
  have hcB : Bc ≠ B := fun e => by
    have hm := h.box
    rw [e, hb] at hm
    injection hm with hm
    injection hm with _ hm
    exact ht.2.1 hm
  have hmb : mb ≠ B := fun e => by
    have hm := h.mem
    unfold MemAt at hm
    rw [e, hb] at hm
    injection hm with hm
    injection hm with _ hm
    exact ht.2.2 hm
  have hrow : v.ownBlock ≠ some B := fun e => by
    obtain ⟨_, hr | ⟨g, cap, cur, hv, _, hgg, _⟩⟩ := h.row
    · rw [hr.1] at e; cases e
    · rw [hv] at e
      have e2 : g = B := by simpa [Value.ownBlock] using e
      subst e2
      rw [hb] at hgg
      injection hgg with hgg
      injection hgg with _ hgg
      exact ht.1 hgg
  refine ⟨⟨(hoth _ hcB).trans h.box, ?_, (hoth _ hmb).trans h.mem⟩, ?_, ?_, hoth⟩
  · exact h.row.kept (row := some B) ⟨rfl, rfl, rfl, by simp [World.setCell], fun k _ hn => Below.heap_setCell _ _ _ _ (fun e => hn (congrArg some e))⟩ (.inr hrow)
  · exact ⟨hf.os, hf.tape, hf.output, by simp [World.setCell]; exact hf.size, fun k hk hn hc => (hoth k (by omega)).trans (hf.block k hk hn hc)⟩
  · simp [World.setCell, Array.getElem?_modify, hb]
/-- The state of read between two rounds. -/
structure RT (w u : World) (T S : Nat) (inn : Bool) (Bc mb n : Nat) (v : Value) (zs : List BU) (s : ByteArray) : Prop where
  b1 : u.heap[w.heap.size]? = some (.cells #[.int .i64 T, .int .i64 S, .bool inn] 282 (0, 0))
  cr : CR u Bc mb n v zs s
  fr : FrT w u Bc
  lt : Bc < w.heap.size
theorem RT.l1 {w u : World} {T S : Nat} {inn : Bool} {Bc mb n : Nat} {v : Value} {zs : List BU} {s : ByteArray} (h : RT w u T S inn Bc mb n v zs s) : w.heap.size < u.heap.size := (Array.getElem?_eq_some_iff.1 h.b1).1
theorem RT.step {w u u' : World} {T S : Nat} {inn : Bool} {Bc mb n : Nat} {v : Value} {zs : List BU} {s : ByteArray} (h : RT w u T S inn Bc mb n v zs s) (hb : Below u.heap.size u u') : RT w u' T S inn Bc mb n v zs s := ⟨(hb.block _ h.l1).trans h.b1, h.cr.below hb, h.fr.trans (FrT.of_below hb), h.lt⟩
theorem RT.add {w u u' : World} {T S : Nat} {inn : Bool} {Bc mb n : Nat} {v v' : Value} {zs zs' : List BU} {s : ByteArray} (h : RT w u T S inn Bc mb n v zs s) (hc : CR u' Bc mb n v' zs' s) (hf : FrT u u' Bc) : RT w u' T S inn Bc mb n v' zs' s := ⟨hf.box h.b1 (by have := h.lt; omega) (by decide), hc, h.fr.trans hf, h.lt⟩
theorem RT.cels {w u : World} {T S : Nat} {inn : Bool} {Bc mb n : Nat} {v : Value} {zs : List BU} {s : ByteArray} (h : RT w u T S inn Bc mb n v zs s) : u.cell? ⟨Bc, 0, none⟩ = some (.slice (some ⟨mb, 0, none⟩) n n) ∧ u.cell? ⟨w.heap.size, 0, none⟩ = some (.int .i64 T) ∧ u.cell? ⟨w.heap.size, 1, none⟩ = some (.int .i64 S) ∧ u.cell? ⟨w.heap.size, 2, none⟩ = some (.bool inn) := ⟨h.cr.cel.1, bC h.b1 0 _ rfl, bC h.b1 1 _ rfl, bC h.b1 2 _ rfl⟩
theorem RT.to {w u : World} {T S : Nat} {inn : Bool} {Bc mb n : Nat} {v : Value} {zs : List BU} {s : ByteArray} (h : RT w u T S inn Bc mb n v zs s) (T2 S2 : Nat) (i2 : Bool) : RT w (((u.setCell ⟨w.heap.size, 0, none⟩ (.int .i64 T2)).setCell ⟨w.heap.size, 1, none⟩ (.int .i64 S2)).setCell ⟨w.heap.size, 2, none⟩ (.bool i2)) T2 S2 i2 Bc mb n v zs s := by
  obtain ⟨a1, a2, a3, a4⟩ := h.cr.put h.fr h.b1 (by decide) (Nat.le_refl _) 0 (.int .i64 T2)
  obtain ⟨b1, b2, b3, b4⟩ := a1.put a2 a3 (by decide) (Nat.le_refl _) 1 (.int .i64 S2)
  obtain ⟨c1, c2, c3, c4⟩ := b1.put b2 b3 (by decide) (Nat.le_refl _) 2 (.bool i2)
  exact ⟨c3, c1, c2, h.lt⟩
/-- .. and the descriptor that was read, in its box. -/
structure RTD (w u : World) (T S : Nat) (inn : Bool) (Bc mb n : Nat) (v : Value) (zs : List BU) (s : ByteArray) (B3 : Nat) (cs : Array Value) : Prop where
  rt : RT w u T S inn Bc mb n v zs s
  box : u.heap[B3]? = some (.cells cs 287 (0, 0))
  ge : w.heap.size + 1 ≤ B3
theorem RTD.lt {w u : World} {T S : Nat} {inn : Bool} {Bc mb n : Nat} {v : Value} {zs : List BU} {s : ByteArray} {B3 : Nat} {cs : Array Value} (h : RTD w u T S inn Bc mb n v zs s B3 cs) : B3 < u.heap.size := (Array.getElem?_eq_some_iff.1 h.box).1
theorem RTD.new {w u : World} {T S : Nat} {inn : Bool} {Bc mb n : Nat} {v : Value} {zs : List BU} {s : ByteArray} (h : RT w u T S inn Bc mb n v zs s) (cs : Array Value) : RTD w (u.alloc (.cells cs 287)) T S inn Bc mb n v zs s u.heap.size cs := ⟨h.step (bx1 _ _), heap_new _ _, h.l1⟩
theorem RTD.step {w u u' : World} {T S : Nat} {inn : Bool} {Bc mb n : Nat} {v : Value} {zs : List BU} {s : ByteArray} {B3 : Nat} {cs : Array Value} (h : RTD w u T S inn Bc mb n v zs s B3 cs) (hb : Below u.heap.size u u') : RTD w u' T S inn Bc mb n v zs s B3 cs := ⟨h.rt.step hb, (hb.block _ h.lt).trans h.box, h.ge⟩
theorem RTD.add {w u u' : World} {T S : Nat} {inn : Bool} {Bc mb n : Nat} {v v' : Value} {zs zs' : List BU} {s : ByteArray} {B3 : Nat} {cs : Array Value} (h : RTD w u T S inn Bc mb n v zs s B3 cs) (hc : CR u' Bc mb n v' zs' s) (hf : FrT u u' Bc) : RTD w u' T S inn Bc mb n v' zs' s B3 cs := ⟨h.rt.add hc hf, hf.box h.box (by have := h.rt.lt; have := h.ge; omega) (by decide), h.ge⟩
theorem RTD.put {w u : World} {T S : Nat} {inn : Bool} {Bc mb n : Nat} {v : Value} {zs : List BU} {s : ByteArray} {B3 : Nat} {cs : Array Value} (h : RTD w u T S inn Bc mb n v zs s B3 cs) (o : Nat) (x : Value) : RTD w (u.setCell ⟨B3, o, none⟩ x) T S inn Bc mb n v zs s B3 (cs.setIfInBounds o x) := by
  have hge := h.ge
  obtain ⟨h1, h2, h3, h4⟩ := h.rt.cr.put h.rt.fr h.box (by decide) (by omega) o x
  exact ⟨⟨(h4 _ (by omega)).trans h.rt.b1, h1, h2, h.rt.lt⟩, h3, hge⟩
end Go.Proofs.Ythhbfghbpapklab
