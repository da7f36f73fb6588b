import Derived.Test.YtjaekfnlihhoeaaDoorTr7
namespace Go.Proofs.YtjaekfnlihhoeaaDoor
open Go.ChangeShapes Go.WideShapes Go.ChangeAt Go.RowKit

def sA (s : ByteArray) : Nat → Nat × Bool
  | 0 => cT s (0, false) 2
  | k + 1 => cT s (sA s k) (hdZ k)
def sX (s : ByteArray) (k : Nat) : ByteArray := cX s (sA s k) (hdZ k)
def nV (s : ByteArray) (k : Nat) : Int := pn (sX s k) (sX s k).size
def sN (s : ByteArray) : Nat := (nV s 6).toNat
def sT (s : ByteArray) : ByteArray := cX s (sA s 7) (sN s)
def sB (s : ByteArray) : Nat × Bool := cT s (sA s 7) (sN s)
def sW (s : ByteArray) : Int := cV s (sB s)
def sC (s : ByteArray) : Nat × Bool := cW s (sB s)
def swF (s : ByteArray) : FR := ⟨nV s 3, nV s 4, nV s 5, sT s⟩
def swH (s : ByteArray) : WH := ⟨nV s 0, nV s 1, nV s 2, nV s 3, nV s 4, nV s 5, sT s, nV s 6⟩
/-- What the specification answers. -/
def uwZ (s : ByteArray) : Array Value := if 2000 < s.size then frX 2 else if ((cX s (0, false) 2).toList == [78, 86]) = false then frX 3 else if (sC s).2 = true then frX 3 else if 1500 < nV s 6 then frX 3 else if (sC s).1 < s.size then frX 3 else if sW s ≠ mixv (s.extract 0 (sB s).1) 51 then frX 10 else if frV (swF s) ≠ 0 then frX 1 else frD (swH s)
theorem sA_le (s : ByteArray) : ∀ k, (sA s k).1 ≤ s.size
  | 0 => cT_le (Nat.zero_le _) 2
  | k + 1 => cT_le (sA_le s k) _
theorem sB_le (s : ByteArray) : (sB s).1 ≤ s.size := cT_le (sA_le s 7) _
theorem sC_le (s : ByteArray) : (sC s).1 ≤ s.size := cW_le (sB_le s)
theorem sN_eq (s : ByteArray) : ((sN s : Nat) : Int) = nV s 6 := by
  have := pn_b (sX s 6) (sX s 6).size
  unfold sN nV
  omega
theorem sX_le (s : ByteArray) (k : Nat) : (sX s k).size ≤ 6 := by
  have h1 := cX_size s (sA s k) (hdZ k)
  have h2 : hdZ k ≤ 6 := by unfold hdZ; split <;> omega
  unfold sX
  omega
theorem CX.other {w u : World} {b a : Nat} {s : ByteArray} {sh : Bool} (h : CX w u b s a sh) {p : Nat} (hp : p ≠ b) (hlo : w.heap.size ≤ p) (o : Nat) (v : Value) : CX w (u.setCell ⟨p, o, none⟩ v) b s a sh :=
  ⟨(Below.heap_setCell _ _ _ _ (by simpa using fun e => hp e.symm)).trans h.box, h.gr.os, h.gr.tape, h.gr.output, by have := h.gr.size; simpa [World.setCell] using this, fun j hj hn => (Below.heap_setCell _ _ _ _ (by simp only; omega)).trans (h.gr.block j hj hn)⟩
theorem CX.on9 {w u u' : World} {b a a' : Nat} {s : ByteArray} {sh sh' : Bool} (h : CX w u b s a sh) (h' : CX u u' b s a' sh') : CX w u' b s a' sh' := ⟨h'.box, gb_gr h.gr h'.gr⟩
theorem CX.keep {u u' : World} {b a' p : Nat} {s : ByteArray} {sh' : Bool} {x : Obj} (h' : CX u u' b s a' sh') (hp : u.heap[p]? = some x) (hn : p ≠ b) : u'.heap[p]? = some x := (h'.gr.block p (Array.getElem?_eq_some_iff.1 hp).1 (by simpa using hn)).trans hp
theorem sl_to (s : ByteArray) (a : Nat) (h : a ≤ s.size) (w : World) : Sem.run Tryd.prog (Instr.slice 9 (.string s) none (some (.int .i64 (a : Int))) none) w = .ok (.string (s.extract 0 a)) w := by
  rw [run_slice_string_to_if _ _ _ _ _ Tryd.underlying9, if_pos (by omega)]
  rfl
set_option maxRecDepth 100000 in
set_option maxHeartbeats 16000000 in
theorem sw_big {s : ByteArray} (w : World) (hs : 2000 < s.size) : Calls Tryd.prog 4 #[.string s] w fun e w' => e = .returned (.agg (uwZ s)) ∧ Below w.heap.size w w' := by
  have e : uwZ s = #[.int .i64 2, .int .i64 0, .int .i64 0, .int .i64 0, .int .i64 0, .int .i64 0, .int .i64 0, .string ⟨#[]⟩] := if_pos hs
  rw [e]
  have hq : (2000 : Int) < (s.size : Int) := by omega
  clear hs e
  have H0 : Hid (Below w.heap.size w (w.alloc (.cells #[.int .i64 0, .int .i64 0, .int .i64 0, .int .i64 0, .int .i64 0, .int .i64 0, .int .i64 0, .string ⟨#[]⟩] 25))) := bx1 _ _
  have HO0 : Hid ((w.alloc (.cells #[.int .i64 0, .int .i64 0, .int .i64 0, .int .i64 0, .int .i64 0, .int .i64 0, .int .i64 0, .string ⟨#[]⟩] 25)).heap[w.heap.size]? = some (.cells #[.int .i64 0, .int .i64 0, .int .i64 0, .int .i64 0, .int .i64 0, .int .i64 0, .int .i64 0, .string ⟨#[]⟩] 25 (0, 0))) := heap_new _ _
  go_enter Tryd.func4, Tryd.ntmps4
  go_upto_region 1 with fail
  generalize (w.alloc (.cells #[.int .i64 0, .int .i64 0, .int .i64 0, .int .i64 0, .int .i64 0, .int .i64 0, .int .i64 0, .string ⟨#[]⟩] 25)) = u0 at *
  generalize hrb : w.heap.size = rb at HO0 ⊢
  have HRB : Hid (w.heap.size = rb) := hrb
  clear hrb
  have HO9 : Hid _ := HO0.out
  obtain ⟨g0, g1, g2, g3, g4, g5, g6, g7⟩ := eightV HO9.out
  have gf := frz9 HO9.out
  have gl := (Array.getElem?_eq_some_iff.1 HO9.out).1
  go_wp2
  have hbx := putV_box HO9.out (.int .i64 2) (.int .i64 0) (.int .i64 0) (.int .i64 0) (.int .i64 0) (.int .i64 0) (.int .i64 0) (.string ⟨#[]⟩)
  have hbf := putV_bel (p := rb) H0.out (by have := HRB.out; omega) (.int .i64 2) (.int .i64 0) (.int .i64 0) (.int .i64 0) (.int .i64 0) (.int .i64 0) (.int .i64 0) (.string ⟨#[]⟩)
  refine bodyPost_ret (v := .agg #[.int .i64 2, .int .i64 0, .int .i64 0, .int .i64 0, .int .i64 0, .int .i64 0, .int .i64 0, .string ⟨#[]⟩]) ?_ rfl ⟨rfl, hbf⟩
  obtain ⟨f0, f1, f2, f3, f4, f5, f6, f7⟩ := eightV hbx
  simp only [putV] at f0 f1 f2 f3 f4 f5 f6 f7
  simp [results, Tryd.results4, go_sem, f0, f1, f2, f3, f4, f5, f6, f7]
end Go.Proofs.YtjaekfnlihhoeaaDoor
