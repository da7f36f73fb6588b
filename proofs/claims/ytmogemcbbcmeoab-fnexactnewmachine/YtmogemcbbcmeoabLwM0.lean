import Derived.Test.YtmogemcbbcmeoabLwN
import Derived.Test.YtmogemcbbcmeoabNewM3
namespace Go.Proofs.Ytmogemcbbcmeoab
open Go.ChangeShapes Go.WideShapes Go.ChangeAt Go.RowKit

theorem own_sl2 {w : World} {B n : Nat} {v : Value} {xs : List Value} (h : w.ownsRow B 2 1 v n xs) : ∃ ao cap, v = .slice ao n cap := by
  rcases h.2 with ⟨rfl, e⟩ | ⟨g, cap, cur, rfl, _⟩
  · exact ⟨none, 0, by rw [e]⟩
  · exact ⟨_, cap, rfl⟩
theorem R3.below {w u : World} {lo : Nat} {vr vc vv : Value} {rs cs vs : List Int} (h : R3 w lo vr vc vv rs cs vs) (hb : Below w.heap.size w u) : R3 u lo vr vc vv rs cs vs :=
  ⟨own_below h.o1 hb, own_below h.o2 hb, own_below h.o3 hb, h.d12, h.d13, h.d23⟩
set_option maxRecDepth 100000 in
set_option maxHeartbeats 4000000 in
theorem eqP_nil (w : World) : Calls Try.prog 59 #[.slice none 0 0, .slice none 0 0] w fun e w' => e = .returned (.bool true) ∧ w' = w := by
  go_enter Try.func59, Try.ntmps59
  go_wp2
  go_loopw [5] (fun i w5 => i = .int .i64 0 ∧ w5 = w) (fun _ _ => 0)
  case atStart => exact ⟨rfl, rfl⟩
  case round =>
    obtain ⟨rfl, rfl⟩ := hrel
    go_wp2
    go_ret
    exact ⟨rfl, rfl⟩
set_option maxRecDepth 100000 in
set_option maxHeartbeats 4000000 in
theorem markP_nil (k : Int) (w : World) : Calls Try.prog 61 #[.slice none 0 0, .int .i64 k] w fun e w' => e = .returned (.int .i64 k) ∧ w' = w := by
  go_enter Try.func61, Try.ntmps61
  go_wp2
  go_loopw [1, 5] (fun kv i w5 => kv = .int .i64 k ∧ i = .int .i64 0 ∧ w5 = w) (fun _ _ _ => 0)
  case atStart => exact ⟨rfl, rfl, rfl⟩
  case round =>
    obtain ⟨rfl, rfl, rfl⟩ := hrel
    go_wp2
    go_ret
    exact ⟨rfl, rfl⟩
set_option maxRecDepth 100000 in
set_option maxHeartbeats 4000000 in
theorem heldP_nil (k : Int) (w : World) : Calls Try.prog 63 #[.slice none 0 0, .int .i64 k] w fun e w' => e = .returned (.int .i64 k) ∧ w' = w := by
  go_enter Try.func63, Try.ntmps63
  go_wp2
  go_loopw [1, 5] (fun kv i w5 => kv = .int .i64 k ∧ i = .int .i64 0 ∧ w5 = w) (fun _ _ _ => 0)
  case atStart => exact ⟨rfl, rfl, rfl⟩
  case round =>
    obtain ⟨rfl, rfl, rfl⟩ := hrel
    go_wp2
    go_ret
    exact ⟨rfl, rfl⟩
/-- eqMachine under way. -/
structure EQ (w : World) (lo lo' : Nat) (md : Int) (mem : ByteArray) (vr vc vv ur uc uv : Value) (rs cs vs : List Int) (wr : World) : Prop where
  bel : Below w.heap.size w wr
  x1 : wr.heap[w.heap.size]? = some (.cells #[.int .i64 0, vr, .int .i64 md, vc, vv, .string mem, .int .i64 0, .int .i64 0, .int .i64 0, .slice none 0 0, .slice none 0 0, .int .i64 0] 48 (0, 0))
  x2 : wr.heap[w.heap.size + 1]? = some (.cells #[.int .i64 0, ur, .int .i64 md, uc, uv, .string mem, .int .i64 0, .int .i64 0, .int .i64 0, .slice none 0 0, .slice none 0 0, .int .i64 0] 48 (0, 0))
  r1 : R3 wr lo vr vc vv rs cs vs
  r2 : R3 wr lo' ur uc uv rs cs vs
theorem EQ.step {w : World} {lo lo' : Nat} {md : Int} {mem : ByteArray} {vr vc vv ur uc uv : Value} {rs cs vs : List Int} {wr u : World} (h : EQ w lo lo' md mem vr vc vv ur uc uv rs cs vs wr) (hb : Below wr.heap.size wr u) : EQ w lo lo' md mem vr vc vv ur uc uv rs cs vs u :=
  ⟨h.bel.trans (hb.mono h.bel.size), (hb.block _ (Array.getElem?_eq_some_iff.1 h.x1).1).trans h.x1, (hb.block _ (Array.getElem?_eq_some_iff.1 h.x2).1).trans h.x2, h.r1.below hb, h.r2.below hb⟩
theorem EQ.new {w : World} {lo lo' : Nat} {md : Int} {mem : ByteArray} {vr vc vv ur uc uv : Value} {rs cs vs : List Int} (h : R3 w lo vr vc vv rs cs vs) (h' : R3 w lo' ur uc uv rs cs vs) : EQ w lo lo' md mem vr vc vv ur uc uv rs cs vs ((w.alloc (.cells #[.int .i64 0, vr, .int .i64 md, vc, vv, .string mem, .int .i64 0, .int .i64 0, .int .i64 0, .slice none 0 0, .slice none 0 0, .int .i64 0] 48 (0, 0))).alloc (.cells #[.int .i64 0, ur, .int .i64 md, uc, uv, .string mem, .int .i64 0, .int .i64 0, .int .i64 0, .slice none 0 0, .slice none 0 0, .int .i64 0] 48 (0, 0))) := by
  have b1 : Below w.heap.size w (w.alloc (.cells #[.int .i64 0, vr, .int .i64 md, vc, vv, .string mem, .int .i64 0, .int .i64 0, .int .i64 0, .slice none 0 0, .slice none 0 0, .int .i64 0] 48 (0, 0))) := (Below.refl _ _).alloc (Nat.le_refl _) _
  have b2 : Below w.heap.size w ((w.alloc (.cells #[.int .i64 0, vr, .int .i64 md, vc, vv, .string mem, .int .i64 0, .int .i64 0, .int .i64 0, .slice none 0 0, .slice none 0 0, .int .i64 0] 48 (0, 0))).alloc (.cells #[.int .i64 0, ur, .int .i64 md, uc, uv, .string mem, .int .i64 0, .int .i64 0, .int .i64 0, .slice none 0 0, .slice none 0 0, .int .i64 0] 48 (0, 0))) := b1.alloc b1.size _
  refine ⟨b2, ?_, ?_, h.below b2, h'.below b2⟩
  · rw [Below.heap_alloc _ _ _ (by simp)]
    exact heap_new _ _
  · exact heap_new_eq _ _ _ (by simp)
/-- All below stays but the three rows. -/
structure Gr3 (w u : World) (vr vc vv : Value) : Prop where
  os : u.os = w.os
  tape : u.tape = w.tape
  output : u.output = w.output
  size : w.heap.size ≤ u.heap.size
  block : ∀ k, k < w.heap.size → vr.ownBlock ≠ some k → vc.ownBlock ≠ some k → vv.ownBlock ≠ some k → u.heap[k]? = w.heap[k]?
/-- Marks under way: the box of the machine, the rows. -/
structure MK (w : World) (lo : Nat) (md : Int) (mem : ByteArray) (vr vc vv : Value) (rs cs vs : List Int) (wr : World) : Prop where
  gr : Gr3 w wr vr vc vv
  x1 : wr.heap[w.heap.size]? = some (.cells #[.int .i64 0, vr, .int .i64 md, vc, vv, .string mem, .int .i64 0, .int .i64 0, .int .i64 0, .slice none 0 0, .slice none 0 0, .int .i64 0] 48 (0, 0))
  r : R3 wr lo vr vc vv rs cs vs
  n : ∀ k, (vr.ownBlock = some k ∨ vc.ownBlock = some k ∨ vv.ownBlock = some k) → k < w.heap.size
theorem own_lt {w : World} {B n : Nat} {v : Value} {xs : List Value} (h : w.ownsRow B 2 1 v n xs) (k : Nat) (e : v.ownBlock = some k) : k < w.heap.size := (h.lt k e).2
theorem MK.new {w : World} {lo : Nat} {md : Int} {mem : ByteArray} {vr vc vv : Value} {rs cs vs : List Int} (h : R3 w lo vr vc vv rs cs vs) : MK w lo md mem vr vc vv rs cs vs (w.alloc (.cells #[.int .i64 0, vr, .int .i64 md, vc, vv, .string mem, .int .i64 0, .int .i64 0, .int .i64 0, .slice none 0 0, .slice none 0 0, .int .i64 0] 48 (0, 0))) := by
  have b1 : Below w.heap.size w (w.alloc (.cells #[.int .i64 0, vr, .int .i64 md, vc, vv, .string mem, .int .i64 0, .int .i64 0, .int .i64 0, .slice none 0 0, .slice none 0 0, .int .i64 0] 48 (0, 0))) := (Below.refl _ _).alloc (Nat.le_refl _) _
  refine ⟨⟨b1.os, b1.tape, b1.output, b1.size, fun k hk _ _ _ => b1.block k hk⟩, heap_new _ _, h.below b1, ?_⟩
  rintro k (e | e | e)
  · exact own_lt h.o1 k e
  · exact own_lt h.o2 k e
  · exact own_lt h.o3 k e
theorem keep_own {w u : World} {B n : Nat} {v g : Value} {xs : List Value} (h : w.ownsRow B 2 1 v n xs) (hg : w.grownBy u g.ownBlock) (hne : ∀ k, g.ownBlock = some k → v.ownBlock ≠ some k) : u.ownsRow B 2 1 v n xs := by
  cases hv : v.ownBlock with
  | none => exact h.kept hg (.inl hv)
  | some k => exact h.kept hg (.inr (fun e => hne k (e.symm.trans hv) hv))
theorem MK.m1 {w : World} {lo : Nat} {md : Int} {mem : ByteArray} {vr vc vv : Value} {rs cs vs : List Int} {zs : List Int} {wr u : World} (h : MK w lo md mem vr vc vv rs cs vs wr) (hg : wr.grownBy u vr.ownBlock) (ho : u.ownsRow lo 2 1 vr zs.length (zs.map (Value.int .i64))) : MK w lo md mem vr vc vv zs cs vs u := by
  have hz := h.gr.size
  refine ⟨⟨hg.os.trans h.gr.os, hg.tape.trans h.gr.tape, hg.output.trans h.gr.output, Nat.le_trans h.gr.size hg.size, fun k hk e1 e2 e3 => (hg.block k (by omega) (fun e => e1 e.symm)).trans (h.gr.block k hk e1 e2 e3)⟩, (hg.block _ (Array.getElem?_eq_some_iff.1 h.x1).1 (fun e => by have := h.n _ (.inl e.symm); omega)).trans h.x1, ⟨ho, keep_own h.r.o2 hg h.r.d12, keep_own h.r.o3 hg h.r.d13, h.r.d12, h.r.d13, h.r.d23⟩, h.n⟩
theorem MK.m2 {w : World} {lo : Nat} {md : Int} {mem : ByteArray} {vr vc vv : Value} {rs cs vs : List Int} {zs : List Int} {wr u : World} (h : MK w lo md mem vr vc vv rs cs vs wr) (hg : wr.grownBy u vc.ownBlock) (ho : u.ownsRow lo 2 1 vc zs.length (zs.map (Value.int .i64))) : MK w lo md mem vr vc vv rs zs vs u := by
  have hz := h.gr.size
  refine ⟨⟨hg.os.trans h.gr.os, hg.tape.trans h.gr.tape, hg.output.trans h.gr.output, Nat.le_trans h.gr.size hg.size, fun k hk e1 e2 e3 => (hg.block k (by omega) (fun e => e2 e.symm)).trans (h.gr.block k hk e1 e2 e3)⟩, (hg.block _ (Array.getElem?_eq_some_iff.1 h.x1).1 (fun e => by have := h.n _ (.inr (.inl e.symm)); omega)).trans h.x1, ⟨keep_own h.r.o1 hg (fun k e1 e2 => h.r.d12 k e2 e1), ho, keep_own h.r.o3 hg h.r.d23, h.r.d12, h.r.d13, h.r.d23⟩, h.n⟩
theorem MK.m3 {w : World} {lo : Nat} {md : Int} {mem : ByteArray} {vr vc vv : Value} {rs cs vs : List Int} {zs : List Int} {wr u : World} (h : MK w lo md mem vr vc vv rs cs vs wr) (hg : wr.grownBy u vv.ownBlock) (ho : u.ownsRow lo 2 1 vv zs.length (zs.map (Value.int .i64))) : MK w lo md mem vr vc vv rs cs zs u := by
  have hz := h.gr.size
  refine ⟨⟨hg.os.trans h.gr.os, hg.tape.trans h.gr.tape, hg.output.trans h.gr.output, Nat.le_trans h.gr.size hg.size, fun k hk e1 e2 e3 => (hg.block k (by omega) (fun e => e3 e.symm)).trans (h.gr.block k hk e1 e2 e3)⟩, (hg.block _ (Array.getElem?_eq_some_iff.1 h.x1).1 (fun e => by have := h.n _ (.inr (.inr e.symm)); omega)).trans h.x1, ⟨keep_own h.r.o1 hg (fun k e1 e2 => h.r.d13 k e2 e1), keep_own h.r.o2 hg (fun k e1 e2 => h.r.d23 k e2 e1), ho, h.r.d12, h.r.d13, h.r.d23⟩, h.n⟩
/-- The marks of a machine of these lengths. -/
def mkR (nr nc nv : Nat) : List Int × List Int × List Int := (mkK 1 nr, mkK (1 + nr) nc, mkK (1 + nr + nc) nv)
theorem markK_ok2 {w : World} {B : Nat} {v : Value} {zs : List Int} (k0 : Int) (q0 : 0 ≤ k0) (q1 : k0 ≤ 100000) (h : w.ownsRow B 2 1 v zs.length (zs.map (Value.int .i64))) (hl : zs.length ≤ 100) :
    Calls Try.prog 60 #[v, .int .i64 k0] w fun e u => e = .returned (.int .i64 (k0 + (zs.length : Int))) ∧ u.ownsRow B 2 1 v (mkK k0 zs.length).length ((mkK k0 zs.length).map (Value.int .i64)) ∧ w.grownBy u v.ownBlock := by
  rw [mkK_len]
  exact markK_ok k0 q0 q1 h hl
end Go.Proofs.Ytmogemcbbcmeoab
