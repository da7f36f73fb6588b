import Derived.Test.YtmmodmanfoipiaaDoorTr3
import Derived.Test.YtmmodmanfoipiaaDoorRegE
namespace Go.Proofs.YtmmodmanfoipiaaDoor
open Go.ChangeShapes Go.WideShapes Go.ChangeAt Go.RowKit

def hdP : Nat → Nat
  | 0 => 1 | 1 => 2 | 2 => 3 | 3 => 4 | 4 => 5 | 5 => 6 | _ => 8
def hdZ : Nat → Nat
  | 0 => 3 | 1 => 4 | 2 => 4 | 3 => 6 | 4 => 6 | 5 => 2 | _ => 2
def hdA : Nat → Nat
  | 0 => 2 | 1 => 5 | 2 => 9 | 3 => 13 | 4 => 19 | 5 => 25 | 6 => 27 | _ => 29
def hdV (s : ByteArray) (k : Nat) : Int := pn (s.extract (hdA k) (hdA k + hdZ k)) (hdZ k)
/-- The head behind its first k numbers. -/
def hdK (s : ByteArray) (k : Nat) : WH := ⟨if 1 ≤ k then hdV s 0 else 0, if 2 ≤ k then hdV s 1 else 0, if 3 ≤ k then hdV s 2 else 0, if 4 ≤ k then hdV s 3 else 0, if 5 ≤ k then hdV s 4 else 0, if 6 ≤ k then hdV s 5 else 0, ⟨#[]⟩, if 7 ≤ k then hdV s 6 else 0⟩
def hd0 : WH := ⟨0, 0, 0, 0, 0, 0, ⟨#[]⟩, 0⟩
theorem stepK (s : ByteArray) (hb k : Nat) (hk : k < 7) : (nmC hb)[k * 2]? = some (.pointer (some ⟨hb, hdP k, none⟩)) ∧ (nmC hb)[k * 2 + 1]? = some (.int .i64 (hdZ k : Nat)) ∧ (∃ V0, (whC (hdK s k))[hdP k]? = some (.int .i64 V0)) ∧ (whC (hdK s k)).setIfInBounds (hdP k) (.int .i64 (hdV s k)) = whC (hdK s (k + 1)) ∧ hdA (k + 1) = hdA k + hdZ k ∧ hdZ k ≤ 6 ∧ hdA k ≤ 27 := by
  have : k = 0 ∨ k = 1 ∨ k = 2 ∨ k = 3 ∨ k = 4 ∨ k = 5 ∨ k = 6 := by omega
  rcases this with rfl | rfl | rfl | rfl | rfl | rfl | rfl <;> exact ⟨rfl, rfl, ⟨_, rfl⟩, rfl, rfl, by decide, by decide⟩
def whOk (s : ByteArray) : Bool := decide (29 ≤ s.size) && decide (hdV s 6 ≤ 1500)
/-- The head under way. -/
structure WS (w u : World) (b hb g : Nat) (s : ByteArray) (k : Nat) : Prop where
  tr : TR w u b s (hdA k)
  hd : u.heap[hb]? = some (.cells (whC (hdK s k)) 42 (0, 0))
  row : u.heap[g]? = some (.cells (nmC hb) 72 (0, 0))
  n1 : hb ≠ b
  n2 : g ≠ b
  n3 : g ≠ hb
  lo : w.heap.size ≤ hb
theorem WS.step {w u u' : World} {b hb g k : Nat} {s : ByteArray} (h : WS w u b hb g s k) (hb' : Below u.heap.size u u') : WS w u' b hb g s k :=
  ⟨h.tr.step hb', (hb'.block _ (Array.getElem?_eq_some_iff.1 h.hd).1).trans h.hd, (hb'.block _ (Array.getElem?_eq_some_iff.1 h.row).1).trans h.row, h.n1, h.n2, h.n3, h.lo⟩
theorem blk9 {u : World} {p o : Nat} {cs : Array Value} {t : TypeId} (h : u.heap[p]? = some (.cells cs t (0, 0))) (v : Value) : (u.setCell ⟨p, o, none⟩ v).heap[p]? = some (.cells (cs.setIfInBounds o v) t (0, 0)) := by
  simp [World.setCell, Array.getElem?_modify, h]
theorem cel9 {u : World} {p t : Nat} {cs : Array Value} (h : u.heap[p]? = some (.cells cs t (0, 0))) (k : Nat) (v : Value) (hv : cs[k]? = some v) : u.cell? ⟨p, k, none⟩ = some v := by simp [World.cell?, h, hv]
theorem frz9 {u : World} {p t : Nat} {cs : Array Value} (h : u.heap[p]? = some (.cells cs t (0, 0))) (k : Nat) : u.frozen? ⟨p, k, none⟩ = false := by simp [World.frozen?, h]
theorem TR.other {w u : World} {b a : Nat} {s : ByteArray} (h : TR w u b s a) {p : Nat} (hp : p ≠ b) (hlo : w.heap.size ≤ p) (o : Nat) (v : Value) : TR w (u.setCell ⟨p, o, none⟩ v) b s a :=
  ⟨(Below.heap_setCell _ _ _ _ (by simpa using fun e => hp e.symm)).trans h.box, h.gr.os, h.gr.tape, h.gr.output, by have := h.gr.size; simpa [World.setCell] using this, fun j hj hn => (Below.heap_setCell _ _ _ _ (by simp only; omega)).trans (h.gr.block j hj hn)⟩
/-- One number more. -/
theorem WS.put {w u : World} {b hb g k : Nat} {s : ByteArray} (hk : k < 7) (tr : TR w u b s (hdA (k + 1))) (hd : u.heap[hb]? = some (.cells (whC (hdK s k)) 42 (0, 0))) (row : u.heap[g]? = some (.cells (nmC hb) 72 (0, 0))) (n1 : hb ≠ b) (n2 : g ≠ b) (n3 : g ≠ hb) (lo : w.heap.size ≤ hb) : WS w (u.setCell ⟨hb, hdP k, none⟩ (.int .i64 (hdV s k))) b hb g s (k + 1) := by
  refine ⟨tr.other n1 lo _ _, ?_, (Below.heap_setCell _ _ _ _ (by simpa using n3)).trans row, n1, n2, n3, lo⟩
  rw [blk9 hd, (stepK s hb k hk).2.2.2.1]
theorem ex_other {u : World} {e p t : Nat} {c : Int} {cs : Array Value} (h : EX u e c) (hp : u.heap[p]? = some (.cells cs t (0, 0))) (hs : cs.size = 9) (o : Nat) (v : Value) : EX (u.setCell ⟨p, o, none⟩ v) e c := by
  obtain ⟨y, hy⟩ := h
  refine ⟨y, (Below.heap_setCell _ _ _ _ ?_).trans hy⟩
  intro e9
  simp only at e9
  subst e9
  rw [hy] at hp
  injection hp with hp
  injection hp with h1
  have := congrArg Array.size h1
  simp at this
  omega
theorem array9 {cs : Array Value} (h : cs.size = 9) : ∃ x0 x1 x2 x3 x4 x5 x6 x7 x8, cs = #[x0, x1, x2, x3, x4, x5, x6, x7, x8] := by
  obtain ⟨l⟩ := cs
  match l, h with
  | [x0, x1, x2, x3, x4, x5, x6, x7, x8], _ => exact ⟨x0, x1, x2, x3, x4, x5, x6, x7, x8, rfl⟩
def put9 (u : World) (p : Nat) (h : WH) : World := ((((((((u.setCell ⟨p, 0, none⟩ (.int .i64 0)).setCell ⟨p, 1, none⟩ (.int .i64 h.key)).setCell ⟨p, 2, none⟩ (.int .i64 h.hfrom)).setCell ⟨p, 3, none⟩ (.int .i64 h.hto)).setCell ⟨p, 4, none⟩ (.int .i64 h.src)).setCell ⟨p, 5, none⟩ (.int .i64 h.dst)).setCell ⟨p, 6, none⟩ (.int .i64 h.net)).setCell ⟨p, 7, none⟩ (.string h.text)).setCell ⟨p, 8, none⟩ (.int .i64 h.len)
theorem put9_box {u : World} {p t : Nat} {x0 x1 x2 x3 x4 x5 x6 x7 x8 : Value} (h : u.heap[p]? = some (.cells #[x0, x1, x2, x3, x4, x5, x6, x7, x8] t (0, 0))) (z : WH) : (put9 u p z).heap[p]? = some (.cells (whC z) t (0, 0)) := by
  have s0 : (u.setCell ⟨p, 0, none⟩ (.int .i64 0)).heap[p]? = some (.cells #[.int .i64 0, x1, x2, x3, x4, x5, x6, x7, x8] t (0, 0)) := blk9 h _
  have s1 : ((u.setCell ⟨p, 0, none⟩ (.int .i64 0)).setCell ⟨p, 1, none⟩ (.int .i64 z.key)).heap[p]? = some (.cells #[.int .i64 0, .int .i64 z.key, x2, x3, x4, x5, x6, x7, x8] t (0, 0)) := blk9 s0 _
  have s2 : (((u.setCell ⟨p, 0, none⟩ (.int .i64 0)).setCell ⟨p, 1, none⟩ (.int .i64 z.key)).setCell ⟨p, 2, none⟩ (.int .i64 z.hfrom)).heap[p]? = some (.cells #[.int .i64 0, .int .i64 z.key, .int .i64 z.hfrom, x3, x4, x5, x6, x7, x8] t (0, 0)) := blk9 s1 _
  have s3 : ((((u.setCell ⟨p, 0, none⟩ (.int .i64 0)).setCell ⟨p, 1, none⟩ (.int .i64 z.key)).setCell ⟨p, 2, none⟩ (.int .i64 z.hfrom)).setCell ⟨p, 3, none⟩ (.int .i64 z.hto)).heap[p]? = some (.cells #[.int .i64 0, .int .i64 z.key, .int .i64 z.hfrom, .int .i64 z.hto, x4, x5, x6, x7, x8] t (0, 0)) := blk9 s2 _
  have s4 : (((((u.setCell ⟨p, 0, none⟩ (.int .i64 0)).setCell ⟨p, 1, none⟩ (.int .i64 z.key)).setCell ⟨p, 2, none⟩ (.int .i64 z.hfrom)).setCell ⟨p, 3, none⟩ (.int .i64 z.hto)).setCell ⟨p, 4, none⟩ (.int .i64 z.src)).heap[p]? = some (.cells #[.int .i64 0, .int .i64 z.key, .int .i64 z.hfrom, .int .i64 z.hto, .int .i64 z.src, x5, x6, x7, x8] t (0, 0)) := blk9 s3 _
  have s5 : ((((((u.setCell ⟨p, 0, none⟩ (.int .i64 0)).setCell ⟨p, 1, none⟩ (.int .i64 z.key)).setCell ⟨p, 2, none⟩ (.int .i64 z.hfrom)).setCell ⟨p, 3, none⟩ (.int .i64 z.hto)).setCell ⟨p, 4, none⟩ (.int .i64 z.src)).setCell ⟨p, 5, none⟩ (.int .i64 z.dst)).heap[p]? = some (.cells #[.int .i64 0, .int .i64 z.key, .int .i64 z.hfrom, .int .i64 z.hto, .int .i64 z.src, .int .i64 z.dst, x6, x7, x8] t (0, 0)) := blk9 s4 _
  have s6 : (((((((u.setCell ⟨p, 0, none⟩ (.int .i64 0)).setCell ⟨p, 1, none⟩ (.int .i64 z.key)).setCell ⟨p, 2, none⟩ (.int .i64 z.hfrom)).setCell ⟨p, 3, none⟩ (.int .i64 z.hto)).setCell ⟨p, 4, none⟩ (.int .i64 z.src)).setCell ⟨p, 5, none⟩ (.int .i64 z.dst)).setCell ⟨p, 6, none⟩ (.int .i64 z.net)).heap[p]? = some (.cells #[.int .i64 0, .int .i64 z.key, .int .i64 z.hfrom, .int .i64 z.hto, .int .i64 z.src, .int .i64 z.dst, .int .i64 z.net, x7, x8] t (0, 0)) := blk9 s5 _
  have s7 : ((((((((u.setCell ⟨p, 0, none⟩ (.int .i64 0)).setCell ⟨p, 1, none⟩ (.int .i64 z.key)).setCell ⟨p, 2, none⟩ (.int .i64 z.hfrom)).setCell ⟨p, 3, none⟩ (.int .i64 z.hto)).setCell ⟨p, 4, none⟩ (.int .i64 z.src)).setCell ⟨p, 5, none⟩ (.int .i64 z.dst)).setCell ⟨p, 6, none⟩ (.int .i64 z.net)).setCell ⟨p, 7, none⟩ (.string z.text)).heap[p]? = some (.cells #[.int .i64 0, .int .i64 z.key, .int .i64 z.hfrom, .int .i64 z.hto, .int .i64 z.src, .int .i64 z.dst, .int .i64 z.net, .string z.text, x8] t (0, 0)) := blk9 s6 _
  have s8 : (((((((((u.setCell ⟨p, 0, none⟩ (.int .i64 0)).setCell ⟨p, 1, none⟩ (.int .i64 z.key)).setCell ⟨p, 2, none⟩ (.int .i64 z.hfrom)).setCell ⟨p, 3, none⟩ (.int .i64 z.hto)).setCell ⟨p, 4, none⟩ (.int .i64 z.src)).setCell ⟨p, 5, none⟩ (.int .i64 z.dst)).setCell ⟨p, 6, none⟩ (.int .i64 z.net)).setCell ⟨p, 7, none⟩ (.string z.text)).setCell ⟨p, 8, none⟩ (.int .i64 z.len)).heap[p]? = some (.cells #[.int .i64 0, .int .i64 z.key, .int .i64 z.hfrom, .int .i64 z.hto, .int .i64 z.src, .int .i64 z.dst, .int .i64 z.net, .string z.text, .int .i64 z.len] t (0, 0)) := blk9 s7 _
  exact s8
theorem put9_tr {w u : World} {b a p : Nat} {s : ByteArray} (h : TR w u b s a) (hp : p ≠ b) (hlo : w.heap.size ≤ p) (z : WH) : TR w (put9 u p z) b s a := by
  unfold put9
  repeat refine TR.other ?_ hp hlo _ _
  exact h
theorem EX.ne {u : World} {e p : Nat} {c : Int} (he : EX u e c) (hne : e ≠ p) (o : Nat) (v : Value) : EX (u.setCell ⟨p, o, none⟩ v) e c := by
  obtain ⟨y, hy⟩ := he
  exact ⟨y, (Below.heap_setCell _ _ _ _ (by simpa using hne)).trans hy⟩
theorem put9_ex {u : World} {e p t : Nat} {c : Int} {x0 x1 x2 x3 x4 x5 x6 x7 x8 : Value} (he : EX u e c) (h : u.heap[p]? = some (.cells #[x0, x1, x2, x3, x4, x5, x6, x7, x8] t (0, 0))) (z : WH) : EX (put9 u p z) e c := by
  have hne : e ≠ p := by
    intro e9
    subst e9
    obtain ⟨y, hy⟩ := he
    rw [hy] at h
    injection h with h
    injection h with h1
    have := congrArg Array.size h1
    simp at this
  unfold put9
  repeat refine EX.ne ?_ hne _ _
  exact he
theorem nine {u : World} {p t : Nat} {z : WH} (h : u.heap[p]? = some (.cells (whC z) t (0, 0))) : u.cell? ⟨p, 0, none⟩ = some (.int .i64 0) ∧ u.cell? ⟨p, 1, none⟩ = some (.int .i64 z.key) ∧ u.cell? ⟨p, 2, none⟩ = some (.int .i64 z.hfrom) ∧ u.cell? ⟨p, 3, none⟩ = some (.int .i64 z.hto) ∧ u.cell? ⟨p, 4, none⟩ = some (.int .i64 z.src) ∧ u.cell? ⟨p, 5, none⟩ = some (.int .i64 z.dst) ∧ u.cell? ⟨p, 6, none⟩ = some (.int .i64 z.net) ∧ u.cell? ⟨p, 7, none⟩ = some (.string z.text) ∧ u.cell? ⟨p, 8, none⟩ = some (.int .i64 z.len) :=
  by simp [World.cell?, h, whC]
theorem zero9 {w u : World} {b a p t e : Nat} {c : Int} {s : ByteArray} {x0 x1 x2 x3 x4 x5 x6 x7 x8 : Value} (h : u.heap[p]? = some (.cells #[x0, x1, x2, x3, x4, x5, x6, x7, x8] t (0, 0))) (ht : TR w u b s a) (he : EX u e c) (hp : p ≠ b) (hlo : w.heap.size ≤ p) : ((put9 u p hd0).cell? ⟨p, 0, none⟩ = some (.int .i64 0) ∧ (put9 u p hd0).cell? ⟨p, 1, none⟩ = some (.int .i64 0) ∧ (put9 u p hd0).cell? ⟨p, 2, none⟩ = some (.int .i64 0) ∧ (put9 u p hd0).cell? ⟨p, 3, none⟩ = some (.int .i64 0) ∧ (put9 u p hd0).cell? ⟨p, 4, none⟩ = some (.int .i64 0) ∧ (put9 u p hd0).cell? ⟨p, 5, none⟩ = some (.int .i64 0) ∧ (put9 u p hd0).cell? ⟨p, 6, none⟩ = some (.int .i64 0) ∧ (put9 u p hd0).cell? ⟨p, 7, none⟩ = some (.string ⟨#[]⟩) ∧ (put9 u p hd0).cell? ⟨p, 8, none⟩ = some (.int .i64 0)) ∧ TR w (put9 u p hd0) b s a ∧ EX (put9 u p hd0) e c :=
  by
  refine ⟨?_, put9_tr ht hp hlo _, put9_ex he h _⟩
  have h9 := nine (put9_box h hd0)
  simpa only [hd0] using h9
theorem hdA_le (k : Nat) : hdA k ≤ 29 := by
  unfold hdA
  split <;> omega
/-- The box of one number. -/
def LB5 (u : World) (q hb P Z : Nat) : Prop := u.heap[q]? = some (.cells #[.pointer (some ⟨hb, P, none⟩), .int .i64 (Z : Nat)] 72 (0, 0))
theorem LB5.cel {u : World} {q hb P Z : Nat} (h : LB5 u q hb P Z) : u.cell? ⟨q, 0, none⟩ = some (.pointer (some ⟨hb, P, none⟩)) ∧ u.cell? ⟨q, 1, none⟩ = some (.int .i64 (Z : Nat)) ∧ q < u.heap.size := by
  unfold LB5 at h
  exact ⟨by simp [World.cell?, h], by simp [World.cell?, h], (Array.getElem?_eq_some_iff.1 h).1⟩
set_option maxRecDepth 100000 in
set_option maxHeartbeats 16000000 in
theorem wrapHead_any {w : World} {b : Nat} {s : ByteArray} (h : TR w w b s 2) (hs : s.size ≤ 2000) (h2 : 2 ≤ s.size) : Calls Tryd.prog 44 #[.pointer (some ⟨b, 0, none⟩)] w fun e w' => (whOk s = true ∧ e = .returned (.tuple #[.agg (whC (hdK s 7)), .nilIface]) ∧ TR w w' b s 29) ∨ (whOk s = false ∧ ∃ q a', e = .returned (.tuple #[.agg (whC hd0), sTop q]) ∧ TR w w' b s a' ∧ EX w' q 3) := by
  have HL0 : Hid ((w.alloc (.cells (whC hd0) 42)).heap[w.heap.size]? = some (.cells (whC hd0) 42 (0, 0))) := heap_new _ _
  have HT0 : Hid (TR w (w.alloc (.cells (whC hd0) 42)) b s 2) := h.step (bx1 _ _)
  have HBL : Hid (b < w.heap.size) := h.lt
  clear h
  unfold sTop
  go_enter Tryd.func44, Tryd.ntmps44
  go_upto_region 1 with fail
  change Code.wp _ _ _ _ (w.alloc (.cells (whC hd0) 42))
  generalize (w.alloc (.cells (whC hd0) 42)) = u0 at *
  generalize hhb : w.heap.size = hb at HL0 HBL ⊢
  have HHB : Hid (w.heap.size = hb) := hhb
  clear hhb
  go_wp2_with (go_at_call 35; refine Calls.mono (numbers_any hb _) ?_; rintro e u1 ⟨g, rfl, hlg⟩; have HLG : Hid _ := hlg; clear hlg)
  have HWS : Hid (WS w u1 b hb g s 0) := ⟨HT0.out.step HLG.out.bel, (HLG.out.bel.block _ (Array.getElem?_eq_some_iff.1 HL0.out).1).trans HL0.out, HLG.out.box, by have := HBL.out; omega, by have := HLG.out.ge; have := HT0.out.lt; omega, by have := HLG.out.ge; have := (Array.getElem?_eq_some_iff.1 HL0.out).1; omega, by have := HHB.out; omega⟩
  clear HL0 HT0 HLG
  go_loopw [3, 8] (fun er i wr => ∃ k : Nat, k ≤ 7 ∧ er = .nilIface ∧ i = .int .i64 k ∧ hdA k ≤ s.size ∧ WS w wr b hb g s k) (fun _ i _ => 7 - (intOf i).toNat)
  case atStart => exact ⟨0, by omega, rfl, rfl, h2, HWS.out⟩
  case round =>
    obtain ⟨k, hk, rfl, rfl, hsz, hws⟩ := hrel
    have HR : Hid (WS w wr b hb g s k) := hws
    have HSZ : Hid (hdA k ≤ s.size) := hsz
    clear hws HWS hsz
    by_cases hlt : k < 7
    · obtain ⟨e1, e2, ⟨V0, e3⟩, _, e5, e6, e7⟩ := stepK s hb k hlt
      have d1 := cel9 HR.out.row _ _ e1
      have d2 := cel9 HR.out.row _ _ e2
      have gl := (Array.getElem?_eq_some_iff.1 HR.out.row).1
      have HCH : Hid ((whC (hdK s k))[hdP k]? = some (.int .i64 V0)) := e3
      have HAZ : Hid (hdA (k + 1) = hdA k + hdZ k) := e5
      have HZ6 : Hid (hdZ k ≤ 6) := e6
      have hk0 : (0 : Int) ≤ (k : Int) := by omega
      have hk1 : (k : Int) < 7 := by omega
      clear e1 e2 e3 e5 e6 e7
      have HVK : Hid (pn (s.extract (hdA k) (hdA k + hdZ k)) (hdZ k) = hdV s k) := rfl
      have HN : Hid (∀ u, TR w u b s (hdA k) → (hdA k + hdZ k ≤ s.size → Calls Tryd.prog 53 #[.pointer (some ⟨b, 0, none⟩), .int .i64 (hdZ k : Nat)] u fun e w' => e = .returned (.tuple #[.int .i64 (hdV s k), .nilIface]) ∧ TR u w' b s (hdA k + hdZ k)) ∧ (s.size < hdA k + hdZ k → Calls Tryd.prog 53 #[.pointer (some ⟨b, 0, none⟩), .int .i64 (hdZ k : Nat)] u fun e w' => ∃ q, e = .returned (.tuple #[.int .i64 0, sTop q]) ∧ TR u w' b s (hdA k) ∧ EX w' q 3)) := fun u hu => ⟨fun hh => number_yes hu.same (by omega) HZ6.out hh, fun hh => number_no hu.same (by omega) HZ6.out hh⟩
      have HPut : Hid (∀ u, TR w u b s (hdA k + hdZ k) → u.heap[hb]? = some (.cells (whC (hdK s k)) 42 (0, 0)) → u.heap[g]? = some (.cells (nmC hb) 72 (0, 0)) → WS w (u.setCell ⟨hb, hdP k, none⟩ (.int .i64 (hdV s k))) b hb g s (k + 1)) := fun u ht hh hr => WS.put hlt (HAZ.out ▸ ht) hh hr HR.out.n1 HR.out.n2 HR.out.n3 HR.out.lo
      have HHD : Hid (wr.heap[hb]? = some (.cells (whC (hdK s k)) 42 (0, 0))) := HR.out.hd
      have HNE : Hid (hb ≠ b ∧ g ≠ b ∧ g ≠ hb ∧ w.heap.size ≤ hb) := ⟨HR.out.n1, HR.out.n2, HR.out.n3, HR.out.lo⟩
      have HTR : Hid (TR w wr b s (hdA k)) := HR.out.tr
      have HRW : Hid (wr.heap[g]? = some (.cells (nmC hb) 72 (0, 0))) := HR.out.row
      have HC9 : Hid ((whC (hdK s k)).size = 9) := rfl
      clear HVK HR
      generalize hdV s k = V at *
      generalize whC (hdK s k) = hc at *
      obtain ⟨Z, hZ⟩ : ∃ Z, hdZ k = Z := ⟨_, rfl⟩
      obtain ⟨A, hA⟩ : ∃ A, hdA k = A := ⟨_, rfl⟩
      obtain ⟨P, hP⟩ : ∃ P, hdP k = P := ⟨_, rfl⟩
      rw [hZ] at d2 HAZ HZ6 HN HPut
      rw [hA] at HAZ HN HPut HSZ HTR
      rw [hP] at d1 HCH HPut
      clear hZ hA hP
      go_upto_region 4 with fail
      have HBX : Hid (LG wr (wr.alloc (.cells #[.pointer (some ⟨hb, P, none⟩), .int .i64 (Z : Nat)] 72)) wr.heap.size #[.pointer (some ⟨hb, P, none⟩), .int .i64 (Z : Nat)] 72) := LG.new _ _ _
      generalize (wr.alloc (.cells #[.pointer (some ⟨hb, P, none⟩), .int .i64 (Z : Nat)] 72)) = v0 at *
      generalize hq5 : wr.heap.size = q5 at HBX ⊢
      have HT1 : Hid (TR w v0.drew b s A) := (HTR.out.step (hq5 ▸ HBX.out.bel)).step (Below.refl _ _).drew
      have HH1 : Hid (v0.drew.heap[hb]? = some (.cells hc 42 (0, 0))) := ((hq5 ▸ HBX.out.bel : Below wr.heap.size wr v0).block _ (Array.getElem?_eq_some_iff.1 HHD.out).1).trans HHD.out
      have HW1 : Hid (v0.drew.heap[g]? = some (.cells (nmC hb) 72 (0, 0))) := ((hq5 ▸ HBX.out.bel : Below wr.heap.size wr v0).block _ (Array.getElem?_eq_some_iff.1 HRW.out).1).trans HRW.out
      have HQ : Hid (q5 ≠ b ∧ q5 ≠ hb) := ⟨by have := HTR.out.lt; omega, by have := (Array.getElem?_eq_some_iff.1 HHD.out).1; omega⟩
      have HS1 : Hid (LB5 v0.drew q5 hb P Z) := HBX.out.box
      clear HTR HHD HRW HBX d1 d2 gl hq5
      by_cases hfit : A + Z ≤ s.size
      · have HNY : Hid _ := (HN.out _ HT1.out).1 hfit
        refine wp_region_held (S := fun w9 => LB5 w9 q5 hb P Z) (by kernel_rfl) ?_
        change wpAnyH _ _ _ _ _ _ _ _ (World.drew _)
        generalize v0.drew = wd at *
        refine wpAnyH_take (i := 0) (v := .pointer (some ⟨q5, 0, none⟩)) rfl (by kernel_rfl) (by kernel_rfl) (by kernel_rfl) (fun _ _ _ h => h) (Or.inl ⟨by kernel_rfl, fun w9 h9 => ?_⟩) HS1.out ?_
        · go_simp
        refine wpAnyH_take (i := 1) (v := .pointer (some ⟨hb, P, none⟩)) rfl (by kernel_rfl) (by kernel_rfl) (by kernel_rfl) (fun _ _ _ h => h) (Or.inl ⟨by kernel_rfl, fun w9 h9 => ?_⟩) HS1.out ?_
        · obtain ⟨y0, y1, yl⟩ := h9.cel; go_simp
        refine wpAnyH_take (i := 2) (v := .pointer (some ⟨b, 0, none⟩)) rfl (by kernel_rfl) (by kernel_rfl) (by kernel_rfl) (fun _ _ _ h => h) (Or.inl ⟨by kernel_rfl, fun w9 h9 => ?_⟩) HS1.out ?_
        · go_simp
        refine wpAnyH_take (i := 3) (v := .pointer (some ⟨q5, 1, none⟩)) rfl (by kernel_rfl) (by kernel_rfl) (by kernel_rfl) (fun _ _ _ h => h) (Or.inl ⟨by kernel_rfl, fun w9 h9 => ?_⟩) HS1.out ?_
        · go_simp
        refine wpAnyH_take (i := 4) (v := .int .i64 (Z : Nat)) rfl (by kernel_rfl) (by kernel_rfl) (by kernel_rfl) (fun _ _ _ h => h) (Or.inl ⟨by kernel_rfl, fun w9 h9 => ?_⟩) HS1.out ?_
        · obtain ⟨y0, y1, yl⟩ := h9.cel; go_simp
        refine held_one 5 (by kernel_rfl) rfl (by kernel_rfl) fun K hK => ?_
        go_simp
        go_wp2_with (go_at_call 53; refine Calls.mono HNY.out ?_; rintro e v2 ⟨rfl, ht⟩; have HB2 : ∀ j o, j ≠ b → wd.heap[j]? = some o → v2.heap[j]? = some o := fun j o hj ho => (ht.gr.block j (Array.getElem?_eq_some_iff.1 ho).1 (by simpa using hj)).trans ho; have HS2 : Hid (LB5 v2 q5 hb P Z) := HB2 _ _ HQ.out.1 HS1.out; have HT2 : Hid (TR w v2 b s (A + Z)) := HT1.out.trans ht; have HH2 : Hid (v2.heap[hb]? = some (.cells hc 42 (0, 0))) := HB2 _ _ HNE.out.1 HH1.out; have HW2 : Hid (v2.heap[g]? = some (.cells (nmC hb) 72 (0, 0))) := HB2 _ _ HNE.out.2.1 HW1.out; clear ht HB2)
        refine hK _ _ HS2.out ?_
        clear hK K
        refine wpAnyH_take (i := 6) (v := .tuple #[.int .i64 V, .nilIface]) rfl (by kernel_rfl) (by kernel_rfl) (by kernel_rfl) (fun _ _ _ h => h) (Or.inl ⟨by kernel_rfl, fun w9 h9 => ?_⟩) HS2.out ?_
        · go_simp
        refine wpAnyH_take (i := 7) (v := .int .i64 V) rfl (by kernel_rfl) (by kernel_rfl) (by kernel_rfl) (fun _ _ _ h => h) (Or.inl ⟨by kernel_rfl, fun w9 h9 => ?_⟩) HS2.out ?_
        · go_simp
        refine wpAnyH_take (i := 8) (v := .nilIface) rfl (by kernel_rfl) (by kernel_rfl) (by kernel_rfl) (fun _ _ _ h => h) (Or.inl ⟨by kernel_rfl, fun w9 h9 => ?_⟩) HS2.out ?_
        · go_simp
        refine wpAnyH_take (i := 9) (v := .pointer (some ⟨hb, P, none⟩)) rfl (by kernel_rfl) (by kernel_rfl) (by kernel_rfl) (fun _ _ _ h => h) (Or.inl ⟨by kernel_rfl, fun w9 h9 => ?_⟩) HS2.out ?_
        · go_simp
        have xc := cel9 HH2.out _ _ HCH.out
        have xf := frz9 HH2.out P
        have xl := (Array.getElem?_eq_some_iff.1 HH2.out).1
        have HS3 : Hid (LB5 (v2.setCell ⟨hb, P, none⟩ (.int .i64 V)) q5 hb P Z) := (Below.heap_setCell _ _ _ _ (by simpa using HQ.out.2)).trans HS2.out
        have HPU : Hid (WS w (v2.setCell ⟨hb, P, none⟩ (.int .i64 V)) b hb g s (k + 1)) := HPut.out _ HT2.out HH2.out HW2.out
        refine held_one 10 (by kernel_rfl) rfl (by kernel_rfl) fun K hK => ?_
        go_simp
        go_wp2
        refine hK _ _ HS3.out ?_
        clear hK K
        refine wpAnyH_take (i := 11) (v := .nilIface) rfl (by kernel_rfl) (by kernel_rfl) (by kernel_rfl) (fun _ _ _ h => h) (Or.inl ⟨by kernel_rfl, fun w9 h9 => ?_⟩) HS3.out ?_
        · go_simp
        refine wpAnyH_done (by kernel_rfl) ?_ _
        go_simp
        clear xc xf xl
        go_wp2
        refine ⟨⟨k + 1, by omega, rfl, by go_num, ?_, HPU.out⟩, by simp [intOf]; omega⟩
        rw [HAZ.out]
        exact hfit
      · have HNO : Hid _ := (HN.out _ HT1.out).2 (by omega)
        have EOK : Hid (whOk s = false) := (show whOk s = false by
          have h9 : hdA (k + 1) ≤ 29 := hdA_le (k + 1)
          have h8 := HAZ.out
          unfold whOk
          rw [decide_eq_false (p := 29 ≤ s.size) (by omega)]
          rfl)
        unfold sTop at HNO
        refine wp_region_held (S := fun w9 => LB5 w9 q5 hb P Z) (by kernel_rfl) ?_
        change wpAnyH _ _ _ _ _ _ _ _ (World.drew _)
        generalize v0.drew = wd at *
        refine wpAnyH_take (i := 0) (v := .pointer (some ⟨q5, 0, none⟩)) rfl (by kernel_rfl) (by kernel_rfl) (by kernel_rfl) (fun _ _ _ h => h) (Or.inl ⟨by kernel_rfl, fun w9 h9 => ?_⟩) HS1.out ?_
        · go_simp
        refine wpAnyH_take (i := 1) (v := .pointer (some ⟨hb, P, none⟩)) rfl (by kernel_rfl) (by kernel_rfl) (by kernel_rfl) (fun _ _ _ h => h) (Or.inl ⟨by kernel_rfl, fun w9 h9 => ?_⟩) HS1.out ?_
        · obtain ⟨y0, y1, yl⟩ := h9.cel; go_simp
        refine wpAnyH_take (i := 2) (v := .pointer (some ⟨b, 0, none⟩)) rfl (by kernel_rfl) (by kernel_rfl) (by kernel_rfl) (fun _ _ _ h => h) (Or.inl ⟨by kernel_rfl, fun w9 h9 => ?_⟩) HS1.out ?_
        · go_simp
        refine wpAnyH_take (i := 3) (v := .pointer (some ⟨q5, 1, none⟩)) rfl (by kernel_rfl) (by kernel_rfl) (by kernel_rfl) (fun _ _ _ h => h) (Or.inl ⟨by kernel_rfl, fun w9 h9 => ?_⟩) HS1.out ?_
        · go_simp
        refine wpAnyH_take (i := 4) (v := .int .i64 (Z : Nat)) rfl (by kernel_rfl) (by kernel_rfl) (by kernel_rfl) (fun _ _ _ h => h) (Or.inl ⟨by kernel_rfl, fun w9 h9 => ?_⟩) HS1.out ?_
        · obtain ⟨y0, y1, yl⟩ := h9.cel; go_simp
        refine held_one 5 (by kernel_rfl) rfl (by kernel_rfl) fun K hK => ?_
        go_simp
        go_wp2_with (go_at_call 53; refine Calls.mono HNO.out ?_; rintro e v2 ⟨q, rfl, ht, he⟩; have HB2 : ∀ j o, j ≠ b → wd.heap[j]? = some o → v2.heap[j]? = some o := fun j o hj ho => (ht.gr.block j (Array.getElem?_eq_some_iff.1 ho).1 (by simpa using hj)).trans ho; have HS2 : Hid (LB5 v2 q5 hb P Z) := HB2 _ _ HQ.out.1 HS1.out; have HT2 : Hid (TR w v2 b s (A)) := HT1.out.trans ht; have HH2 : Hid (v2.heap[hb]? = some (.cells hc 42 (0, 0))) := HB2 _ _ HNE.out.1 HH1.out; have HW2 : Hid (v2.heap[g]? = some (.cells (nmC hb) 72 (0, 0))) := HB2 _ _ HNE.out.2.1 HW1.out; have HE2 : Hid (EX v2 q 3) := he; clear ht he HB2)
        refine hK _ _ HS2.out ?_
        clear hK K
        refine wpAnyH_take (i := 6) (v := .tuple #[.int .i64 0, .iface 53 (.pointer (some ⟨q, 0, none⟩))]) rfl (by kernel_rfl) (by kernel_rfl) (by kernel_rfl) (fun _ _ _ h => h) (Or.inl ⟨by kernel_rfl, fun w9 h9 => ?_⟩) HS2.out ?_
        · go_simp
        refine wpAnyH_take (i := 7) (v := .int .i64 0) rfl (by kernel_rfl) (by kernel_rfl) (by kernel_rfl) (fun _ _ _ h => h) (Or.inl ⟨by kernel_rfl, fun w9 h9 => ?_⟩) HS2.out ?_
        · go_simp
        refine wpAnyH_take (i := 8) (v := .iface 53 (.pointer (some ⟨q, 0, none⟩))) rfl (by kernel_rfl) (by kernel_rfl) (by kernel_rfl) (fun _ _ _ h => h) (Or.inl ⟨by kernel_rfl, fun w9 h9 => ?_⟩) HS2.out ?_
        · go_simp
        refine wpAnyH_take (i := 9) (v := .pointer (some ⟨hb, P, none⟩)) rfl (by kernel_rfl) (by kernel_rfl) (by kernel_rfl) (fun _ _ _ h => h) (Or.inl ⟨by kernel_rfl, fun w9 h9 => ?_⟩) HS2.out ?_
        · go_simp
        have xc := cel9 HH2.out _ _ HCH.out
        have xf := frz9 HH2.out P
        have xl := (Array.getElem?_eq_some_iff.1 HH2.out).1
        have HS3 : Hid (LB5 (v2.setCell ⟨hb, P, none⟩ (.int .i64 0)) q5 hb P Z) := (Below.heap_setCell _ _ _ _ (by simpa using HQ.out.2)).trans HS2.out
        have HT3 : Hid (TR w (v2.setCell ⟨hb, P, none⟩ (.int .i64 0)) b s A) := HT2.out.other HNE.out.1 HNE.out.2.2.2 _ _
        have HH3 : Hid ((v2.setCell ⟨hb, P, none⟩ (.int .i64 0)).heap[hb]? = some (.cells (hc.setIfInBounds P (.int .i64 0)) 42 (0, 0))) := blk9 HH2.out _
        have HE3 : Hid (EX (v2.setCell ⟨hb, P, none⟩ (.int .i64 0)) q 3) := ex_other HE2.out HH2.out HC9.out _ _
        refine held_one 10 (by kernel_rfl) rfl (by kernel_rfl) fun K hK => ?_
        go_simp
        go_wp2
        refine hK _ _ HS3.out ?_
        clear hK K
        refine wpAnyH_take (i := 11) (v := .iface 53 (.pointer (some ⟨q, 0, none⟩))) rfl (by kernel_rfl) (by kernel_rfl) (by kernel_rfl) (fun _ _ _ h => h) (Or.inl ⟨by kernel_rfl, fun w9 h9 => ?_⟩) HS3.out ?_
        · go_simp
        refine wpAnyH_done (by kernel_rfl) ?_ _
        go_simp
        clear xc xf xl
        have hcl := HH3.out
        obtain ⟨k0, hk0⟩ : ∃ v, (hc.setIfInBounds P (.int .i64 0))[0]? = some v := ⟨_, Array.getElem?_eq_getElem (by simp; have := HC9.out; omega)⟩
        have hs9 : (hc.setIfInBounds P (.int .i64 0)).size = 9 := by simp [HC9.out]
        obtain ⟨v0x, v1x, v2x, v3x, v4x, v5x, v6x, v7x, v8x, hv9⟩ := array9 hs9
        rw [hv9] at hcl
        have k0 := cel9 hcl 0 _ rfl
        have k1x := cel9 hcl 1 _ rfl
        have k2 := cel9 hcl 2 _ rfl
        have k3 := cel9 hcl 3 _ rfl
        have k4 := cel9 hcl 4 _ rfl
        have k5 := cel9 hcl 5 _ rfl
        have k6 := cel9 hcl 6 _ rfl
        have k7 := cel9 hcl 7 _ rfl
        have k8 := cel9 hcl 8 _ rfl
        have kf := frz9 hcl
        have hlh := (Array.getElem?_eq_some_iff.1 hcl).1
        have HCL : Hid _ := hcl
        clear hcl hv9 hs9
        generalize (v2.setCell ⟨hb, P, none⟩ (.int .i64 0)) = v3 at *
        go_wp2
        obtain ⟨hbf, htf, hef⟩ := zero9 HCL.out HT3.out HE3.out HNE.out.1 HNE.out.2.2.2
        refine bodyPost_ret (v := .tuple #[.agg (whC hd0), .iface 53 (.pointer (some ⟨q, 0, none⟩))]) ?_ rfl (Or.inr ⟨EOK.out, q, A, rfl, htf, hef⟩)
        obtain ⟨f0, f1, f2, f3, f4, f5, f6, f7, f8⟩ := hbf
        simp only [put9, hd0] at f0 f1 f2 f3 f4 f5 f6 f7 f8
        simp [results, Tryd.results44, go_sem, f0, f1, f2, f3, f4, f5, f6, f7, f8, whC, hd0]
    · obtain rfl : k = 7 := by omega
      have hcl := HR.out.hd
      have HTR : Hid (TR w wr b s 29) := HR.out.tr
      have hlh := (Array.getElem?_eq_some_iff.1 hcl).1
      have HSZ9 : Hid (29 ≤ s.size) := HSZ.out
      have HHD : Hid (wr.heap[hb]? = some (.cells (whC (hdK s 7)) 42 (0, 0))) := hcl
      obtain ⟨l0, l1, l2, l3, l4, l5, l6, l7, l8⟩ := nine hcl
      have k0 : wr.cell? ⟨hb, 0, none⟩ = some (.int .i64 0) := l0
      have k1x : wr.cell? ⟨hb, 1, none⟩ = some (.int .i64 (hdV s 0)) := l1
      have k2 : wr.cell? ⟨hb, 2, none⟩ = some (.int .i64 (hdV s 1)) := l2
      have k3 : wr.cell? ⟨hb, 3, none⟩ = some (.int .i64 (hdV s 2)) := l3
      have k4 : wr.cell? ⟨hb, 4, none⟩ = some (.int .i64 (hdV s 3)) := l4
      have k5 : wr.cell? ⟨hb, 5, none⟩ = some (.int .i64 (hdV s 4)) := l5
      have k6 : wr.cell? ⟨hb, 6, none⟩ = some (.int .i64 (hdV s 5)) := l6
      have k7 : wr.cell? ⟨hb, 7, none⟩ = some (.string ⟨#[]⟩) := l7
      have k8 : wr.cell? ⟨hb, 8, none⟩ = some (.int .i64 (hdV s 6)) := l8
      clear l0 l1 l2 l3 l4 l5 l6 l7 l8
      have kf := frz9 hcl
      have HN1 : Hid (hb ≠ b) := HR.out.n1
      obtain ⟨c0, c1y⟩ := HTR.out.cel
      have c1 : wr.cell? ⟨b, 1, none⟩ = some (.int .i64 29) := c1y
      clear c1y
      have hl := HTR.out.lt
      have EL : (hdK s 7).len = hdV s 6 := rfl
      have E0 : hdK s 7 = ⟨hdV s 0, hdV s 1, hdV s 2, hdV s 3, hdV s 4, hdV s 5, ⟨#[]⟩, hdV s 6⟩ := rfl
      have HOK : Hid (whOk s = decide (hdV s 6 ≤ 1500)) := (show whOk s = _ by unfold whOk; rw [decide_eq_true HSZ9.out]; rfl)
      clear hcl EL
      have E1 : Hid (whC (hdK s 7) = #[.int .i64 0, .int .i64 (hdV s 0), .int .i64 (hdV s 1), .int .i64 (hdV s 2), .int .i64 (hdV s 3), .int .i64 (hdV s 4), .int .i64 (hdV s 5), .string ⟨#[]⟩, .int .i64 (hdV s 6)]) := rfl
      by_cases h15 : 1500 < hdV s 6
      · have EN : Hid (whOk s = false) := (show whOk s = false by rw [HOK.out]; exact decide_eq_false (by omega))
        have HCL : Hid (wr.heap[hb]? = some (.cells #[.int .i64 0, .int .i64 (hdV s 0), .int .i64 (hdV s 1), .int .i64 (hdV s 2), .int .i64 (hdV s 3), .int .i64 (hdV s 4), .int .i64 (hdV s 5), .string ⟨#[]⟩, .int .i64 (hdV s 6)] 42 (0, 0))) := HHD.out
        have HLO : Hid (w.heap.size ≤ hb) := HR.out.lo
        clear HR HHD E1
        go_wp2
        have hsz : (put9 wr hb hd0).heap.size = wr.heap.size := by simp [put9, World.setCell]
        have hbx := put9_box HCL.out hd0
        have hbx2 := ((bx1 (put9 wr hb hd0) (.cells #[.int .i64 3, .int .i64 29] 57)).block _ (Array.getElem?_eq_some_iff.1 hbx).1).trans hbx
        have htf := (put9_tr HTR.out HN1.out HLO.out hd0).step (bx1 _ (.cells #[.int .i64 3, .int .i64 29] 57))
        have hef := EX.new (put9 wr hb hd0) 3 29
        rw [hsz] at hef
        refine bodyPost_ret (v := .tuple #[.agg (whC hd0), .iface 53 (.pointer (some ⟨wr.heap.size, 0, none⟩))]) ?_ rfl (Or.inr ⟨EN.out, wr.heap.size, 29, rfl, htf, hef⟩)
        obtain ⟨f0, f1, f2, f3, f4, f5, f6, f7, f8⟩ := nine hbx2
        simp only [put9, hd0] at f0 f1 f2 f3 f4 f5 f6 f7 f8
        simp [results, Tryd.results44, go_sem, f0, f1, f2, f3, f4, f5, f6, f7, f8, whC, hd0]
      · have EY : Hid (whOk s = true) := (show whOk s = true by rw [HOK.out]; exact decide_eq_true (by omega))
        have HLO : Hid (w.heap.size ≤ hb) := HR.out.lo
        clear HR
        go_wp2
        have hbx := put9_box HHD.out (hdK s 7)
        have htf := put9_tr HTR.out HN1.out HLO.out (hdK s 7)
        refine bodyPost_ret (v := .tuple #[.agg (whC (hdK s 7)), .nilIface]) ?_ rfl (Or.inl ⟨EY.out, rfl, htf⟩)
        obtain ⟨f0, f1, f2, f3, f4, f5, f6, f7, f8⟩ := nine hbx
        rw [E1.out]
        rw [E0] at f0 f1 f2 f3 f4 f5 f6 f7 f8
        simp only [put9] at f0 f1 f2 f3 f4 f5 f6 f7 f8
        simp [results, Tryd.results44, go_sem, f0, f1, f2, f3, f4, f5, f6, f7, f8]
end Go.Proofs.YtmmodmanfoipiaaDoor
