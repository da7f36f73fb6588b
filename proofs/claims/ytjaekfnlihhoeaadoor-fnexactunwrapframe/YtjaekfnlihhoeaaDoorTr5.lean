import Derived.Test.YtjaekfnlihhoeaaDoorTr4
import Derived.Test.YtjaekfnlihhoeaaDoorFr1
import Derived.Test.YtjaekfnlihhoeaaDoorEa4
namespace Go.Proofs.YtjaekfnlihhoeaaDoor
open Go.ChangeShapes Go.WideShapes Go.ChangeAt Go.RowKit

/-- How long the text is told to be. -/
def uwN (s : ByteArray) : Nat := (hdV s 6).toNat
def uwF (s : ByteArray) : FR := ⟨hdV s 3, hdV s 4, hdV s 5, s.extract 29 (29 + uwN s)⟩
/-- The code of a wrapped text. -/
def rwE (s : ByteArray) : Int := if nvB s = false then 3 else if whOk s = false then 3 else if s.size < 29 + uwN s then 3 else if endC s (29 + uwN s) 51 ≠ 0 then endC s (29 + uwN s) 51 else if frB (uwF s) = false then 1 else 0
/-- What is read, as a head. -/
def uwH (s : ByteArray) : WH := ⟨hdV s 0, hdV s 1, hdV s 2, hdV s 3, hdV s 4, hdV s 5, s.extract 29 (29 + uwN s), hdV s 6⟩
def frD (h : WH) : Array Value := #[.int .i64 0, .int .i64 h.key, .int .i64 h.hfrom, .int .i64 h.hto, .int .i64 h.src, .int .i64 h.dst, .int .i64 h.net, .string h.text]
theorem hdV_b (s : ByteArray) (k : Nat) : 0 ≤ hdV s k ∧ hdV s k < 281474976710656 := pn_b _ _
def put8 (u : World) (p : Nat) (h : WH) : World := (((((((u.setCell ⟨p, 0, none⟩ (.int .i64 0)).setCell ⟨p, 1, none⟩ (.int .i64 h.key)).setCell ⟨p, 2, none⟩ (.int .i64 h.hfrom)).setCell ⟨p, 3, none⟩ (.int .i64 h.hto)).setCell ⟨p, 4, none⟩ (.int .i64 h.src)).setCell ⟨p, 5, none⟩ (.int .i64 h.dst)).setCell ⟨p, 6, none⟩ (.int .i64 h.net)).setCell ⟨p, 7, none⟩ (.string h.text)
theorem put8_box {u : World} {p t : Nat} {x0 x1 x2 x3 x4 x5 x6 x7 : Value} (h : u.heap[p]? = some (.cells #[x0, x1, x2, x3, x4, x5, x6, x7] t (0, 0))) (z : WH) : (put8 u p z).heap[p]? = some (.cells (frD z) t (0, 0)) := by
  have s0 : (u.setCell ⟨p, 0, none⟩ (.int .i64 0)).heap[p]? = some (.cells #[.int .i64 0, x1, x2, x3, x4, x5, x6, x7] t (0, 0)) := blk9 h _
  have s1 : ((u.setCell ⟨p, 0, none⟩ (.int .i64 0)).setCell ⟨p, 1, none⟩ (.int .i64 z.key)).heap[p]? = some (.cells #[.int .i64 0, .int .i64 z.key, x2, x3, x4, x5, x6, x7] t (0, 0)) := blk9 s0 _
  have s2 : (((u.setCell ⟨p, 0, none⟩ (.int .i64 0)).setCell ⟨p, 1, none⟩ (.int .i64 z.key)).setCell ⟨p, 2, none⟩ (.int .i64 z.hfrom)).heap[p]? = some (.cells #[.int .i64 0, .int .i64 z.key, .int .i64 z.hfrom, x3, x4, x5, x6, x7] t (0, 0)) := blk9 s1 _
  have s3 : ((((u.setCell ⟨p, 0, none⟩ (.int .i64 0)).setCell ⟨p, 1, none⟩ (.int .i64 z.key)).setCell ⟨p, 2, none⟩ (.int .i64 z.hfrom)).setCell ⟨p, 3, none⟩ (.int .i64 z.hto)).heap[p]? = some (.cells #[.int .i64 0, .int .i64 z.key, .int .i64 z.hfrom, .int .i64 z.hto, x4, x5, x6, x7] t (0, 0)) := blk9 s2 _
  have s4 : (((((u.setCell ⟨p, 0, none⟩ (.int .i64 0)).setCell ⟨p, 1, none⟩ (.int .i64 z.key)).setCell ⟨p, 2, none⟩ (.int .i64 z.hfrom)).setCell ⟨p, 3, none⟩ (.int .i64 z.hto)).setCell ⟨p, 4, none⟩ (.int .i64 z.src)).heap[p]? = some (.cells #[.int .i64 0, .int .i64 z.key, .int .i64 z.hfrom, .int .i64 z.hto, .int .i64 z.src, x5, x6, x7] t (0, 0)) := blk9 s3 _
  have s5 : ((((((u.setCell ⟨p, 0, none⟩ (.int .i64 0)).setCell ⟨p, 1, none⟩ (.int .i64 z.key)).setCell ⟨p, 2, none⟩ (.int .i64 z.hfrom)).setCell ⟨p, 3, none⟩ (.int .i64 z.hto)).setCell ⟨p, 4, none⟩ (.int .i64 z.src)).setCell ⟨p, 5, none⟩ (.int .i64 z.dst)).heap[p]? = some (.cells #[.int .i64 0, .int .i64 z.key, .int .i64 z.hfrom, .int .i64 z.hto, .int .i64 z.src, .int .i64 z.dst, x6, x7] t (0, 0)) := blk9 s4 _
  have s6 : (((((((u.setCell ⟨p, 0, none⟩ (.int .i64 0)).setCell ⟨p, 1, none⟩ (.int .i64 z.key)).setCell ⟨p, 2, none⟩ (.int .i64 z.hfrom)).setCell ⟨p, 3, none⟩ (.int .i64 z.hto)).setCell ⟨p, 4, none⟩ (.int .i64 z.src)).setCell ⟨p, 5, none⟩ (.int .i64 z.dst)).setCell ⟨p, 6, none⟩ (.int .i64 z.net)).heap[p]? = some (.cells #[.int .i64 0, .int .i64 z.key, .int .i64 z.hfrom, .int .i64 z.hto, .int .i64 z.src, .int .i64 z.dst, .int .i64 z.net, x7] t (0, 0)) := blk9 s5 _
  have s7 : ((((((((u.setCell ⟨p, 0, none⟩ (.int .i64 0)).setCell ⟨p, 1, none⟩ (.int .i64 z.key)).setCell ⟨p, 2, none⟩ (.int .i64 z.hfrom)).setCell ⟨p, 3, none⟩ (.int .i64 z.hto)).setCell ⟨p, 4, none⟩ (.int .i64 z.src)).setCell ⟨p, 5, none⟩ (.int .i64 z.dst)).setCell ⟨p, 6, none⟩ (.int .i64 z.net)).setCell ⟨p, 7, none⟩ (.string z.text)).heap[p]? = some (.cells #[.int .i64 0, .int .i64 z.key, .int .i64 z.hfrom, .int .i64 z.hto, .int .i64 z.src, .int .i64 z.dst, .int .i64 z.net, .string z.text] t (0, 0)) := blk9 s6 _
  exact s7
theorem put8_bel {w u : World} {p : Nat} (h : Below w.heap.size w u) (hp : w.heap.size ≤ p) (z : WH) : Below w.heap.size w (put8 u p z) := by
  unfold put8
  exact (((((((h.setCell hp _).setCell hp _).setCell hp _).setCell hp _).setCell hp _).setCell hp _).setCell hp _).setCell hp _
theorem put8_ex {u : World} {e p t : Nat} {c : Int} {x0 x1 x2 x3 x4 x5 x6 x7 : Value} (he : EX u e c) (h : u.heap[p]? = some (.cells #[x0, x1, x2, x3, x4, x5, x6, x7] t (0, 0))) (z : WH) : EX (put8 u p z) e c := by
  have hne : e ≠ p := by
    intro e9
    subst e9
    obtain ⟨y, hy⟩ := he
    rw [hy] at h
    injection h with h
    injection h with h1
    have := congrArg Array.size h1
    simp at this
  unfold put8
  repeat refine EX.ne ?_ hne _ _
  exact he
theorem eight {u : World} {p t : Nat} {z : WH} (h : u.heap[p]? = some (.cells (frD z) t (0, 0))) : u.cell? ⟨p, 0, none⟩ = some (.int .i64 0) ∧ u.cell? ⟨p, 1, none⟩ = some (.int .i64 z.key) ∧ u.cell? ⟨p, 2, none⟩ = some (.int .i64 z.hfrom) ∧ u.cell? ⟨p, 3, none⟩ = some (.int .i64 z.hto) ∧ u.cell? ⟨p, 4, none⟩ = some (.int .i64 z.src) ∧ u.cell? ⟨p, 5, none⟩ = some (.int .i64 z.dst) ∧ u.cell? ⟨p, 6, none⟩ = some (.int .i64 z.net) ∧ u.cell? ⟨p, 7, none⟩ = some (.string z.text) := by
  simp [World.cell?, h, frD]
theorem rbk {u0 u : World} {b rb a : Nat} {s : ByteArray} {x : Obj} (h : TR u0 u b s a) (hr : u0.heap[rb]? = some x) (hne : rb ≠ b) : u.heap[rb]? = some x := (h.gr.block rb (Array.getElem?_eq_some_iff.1 hr).1 (by simpa using hne)).trans hr
theorem belT {w u0 u : World} {b a : Nat} {s : ByteArray} (h : TR u0 u b s a) (h0 : Below w.heap.size w u0) (hlo : w.heap.size ≤ b) : Below w.heap.size w u := h0.grown h.gr h0.size (fun j hj => by injection hj with hj; omega)
def RWok (s : ByteArray) (w : World) (e : Ending) (w' : World) : Prop := e = .returned (.tuple #[.agg (frD (uwH s)), .nilIface]) ∧ Below w.heap.size w w'
def RWno (c : Int) (w : World) (e : Ending) (w' : World) : Prop := ∃ q z, e = .returned (.tuple #[.agg (frD z), sTop q]) ∧ EX w' q c ∧ Below w.heap.size w w'
theorem nv_sz {s : ByteArray} (h : nvB s = true) : 2 ≤ s.size := by
  unfold nvB at h
  rw [Bool.and_eq_true] at h
  exact of_decide_eq_true h.1
end Go.Proofs.YtjaekfnlihhoeaaDoor
