import Derived.Test.YtmmodmanfoipiaaDoorTr7
namespace Go.Proofs.YtmmodmanfoipiaaDoor
open Go.ChangeShapes Go.WideShapes Go.ChangeAt Go.RowKit

def sA (s : ByteArray) : Nat → Nat × Bool
  | 0 => cT s (0, false) 2
  | k + 1 => cT s (sA s k) (hdZ k)
def sX (s : ByteArray) (k : Nat) : ByteArray := cX s (sA s k) (hdZ k)
def nV (s : ByteArray) (k : Nat) : Int := pn (sX s k) (sX s k).size
def sN (s : ByteArray) : Nat := (nV s 6).toNat
def sT (s : ByteArray) : ByteArray := cX s (sA s 7) (sN s)
def sB (s : ByteArray) : Nat × Bool := cT s (sA s 7) (sN s)
def sW (s : ByteArray) : Int := cV s (sB s)
def sC (s : ByteArray) : Nat × Bool := cW s (sB s)
def swF (s : ByteArray) : FR := ⟨nV s 3, nV s 4, nV s 5, sT s⟩
def swH (s : ByteArray) : WH := ⟨nV s 0, nV s 1, nV s 2, nV s 3, nV s 4, nV s 5, sT s, nV s 6⟩
/-- What the specification answers. -/
def uwZ (s : ByteArray) : Array Value := if 2000 < s.size then frX 2 else if ((cX s (0, false) 2).toList == [78, 86]) = false then frX 3 else if (sC s).2 = true then frX 3 else if 1500 < nV s 6 then frX 3 else if (sC s).1 < s.size then frX 3 else if sW s ≠ mixv (s.extract 0 (sB s).1) 51 then frX 10 else if frV (swF s) ≠ 0 then frX 1 else frD (swH s)
theorem sA_le (s : ByteArray) : ∀ k, (sA s k).1 ≤ s.size
  | 0 => cT_le (Nat.zero_le _) 2
  | k + 1 => cT_le (sA_le s k) _
theorem sB_le (s : ByteArray) : (sB s).1 ≤ s.size := cT_le (sA_le s 7) _
theorem sC_le (s : ByteArray) : (sC s).1 ≤ s.size := cW_le (sB_le s)
theorem sN_eq (s : ByteArray) : ((sN s : Nat) : Int) = nV s 6 := by
  have := pn_b (sX s 6) (sX s 6).size
  unfold sN nV
  omega
theorem sX_le (s : ByteArray) (k : Nat) : (sX s k).size ≤ 6 := by
  have h1 := cX_size s (sA s k) (hdZ k)
  have h2 : hdZ k ≤ 6 := by unfold hdZ; split <;> omega
  unfold sX
  omega
theorem CX.other {w u : World} {b a : Nat} {s : ByteArray} {sh : Bool} (h : CX w u b s a sh) {p : Nat} (hp : p ≠ b) (hlo : w.heap.size ≤ p) (o : Nat) (v : Value) : CX w (u.setCell ⟨p, o, none⟩ v) b s a sh :=
  ⟨(Below.heap_setCell _ _ _ _ (by simpa using fun e => hp e.symm)).trans h.box, h.gr.os, h.gr.tape, h.gr.output, by have := h.gr.size; simpa [World.setCell] using this, fun j hj hn => (Below.heap_setCell _ _ _ _ (by simp only; omega)).trans (h.gr.block j hj hn)⟩
theorem CX.on9 {w u u' : World} {b a a' : Nat} {s : ByteArray} {sh sh' : Bool} (h : CX w u b s a sh) (h' : CX u u' b s a' sh') : CX w u' b s a' sh' := ⟨h'.box, gb_gr h.gr h'.gr⟩
theorem CX.keep {u u' : World} {b a' p : Nat} {s : ByteArray} {sh' : Bool} {x : Obj} (h' : CX u u' b s a' sh') (hp : u.heap[p]? = some x) (hn : p ≠ b) : u'.heap[p]? = some x := (h'.gr.block p (Array.getElem?_eq_some_iff.1 hp).1 (by simpa using hn)).trans hp
theorem sl_to (s : ByteArray) (a : Nat) (h : a ≤ s.size) (w : World) : Sem.run Tryd.prog (Instr.slice 9 (.string s) none (some (.int .i64 (a : Int))) none) w = .ok (.string (s.extract 0 a)) w := by
  rw [run_slice_string_to_if _ _ _ _ _ Tryd.underlying9, if_pos (by omega)]
  rfl
set_option maxRecDepth 100000 in
set_option maxHeartbeats 16000000 in
theorem sw_big {s : ByteArray} (w : World) (hs : 2000 < s.size) : Calls Tryd.prog 9 #[.string s] w fun e w' => e = .returned (.agg (uwZ s)) ∧ Below w.heap.size w w' := by
  have e : uwZ s = #[.int .i64 2, .int .i64 0, .int .i64 0, .int .i64 0, .int .i64 0, .int .i64 0, .int .i64 0, .string ⟨#[]⟩] := if_pos hs
  rw [e]
  have hq : (2000 : Int) < (s.size : Int) := by omega
  clear hs e
  have H0 : Hid (Below w.heap.size w (w.alloc (.cells #[.int .i64 0, .int .i64 0, .int .i64 0, .int .i64 0, .int .i64 0, .int .i64 0, .int .i64 0, .string ⟨#[]⟩] 29))) := bx1 _ _
  have HO0 : Hid ((w.alloc (.cells #[.int .i64 0, .int .i64 0, .int .i64 0, .int .i64 0, .int .i64 0, .int .i64 0, .int .i64 0, .string ⟨#[]⟩] 29)).heap[w.heap.size]? = some (.cells #[.int .i64 0, .int .i64 0, .int .i64 0, .int .i64 0, .int .i64 0, .int .i64 0, .int .i64 0, .string ⟨#[]⟩] 29 (0, 0))) := heap_new _ _
  go_enter Tryd.func9, Tryd.ntmps9
  go_upto_region 1 with fail
  generalize (w.alloc (.cells #[.int .i64 0, .int .i64 0, .int .i64 0, .int .i64 0, .int .i64 0, .int .i64 0, .int .i64 0, .string ⟨#[]⟩] 29)) = u0 at *
  generalize hrb : w.heap.size = rb at HO0 ⊢
  have HRB : Hid (w.heap.size = rb) := hrb
  clear hrb
  have HO9 : Hid _ := HO0.out
  obtain ⟨g0, g1, g2, g3, g4, g5, g6, g7⟩ := eightV HO9.out
  have gf := frz9 HO9.out
  have gl := (Array.getElem?_eq_some_iff.1 HO9.out).1
  go_wp2
  have hbx := putV_box HO9.out (.int .i64 2) (.int .i64 0) (.int .i64 0) (.int .i64 0) (.int .i64 0) (.int .i64 0) (.int .i64 0) (.string ⟨#[]⟩)
  have hbf := putV_bel (p := rb) H0.out (by have := HRB.out; omega) (.int .i64 2) (.int .i64 0) (.int .i64 0) (.int .i64 0) (.int .i64 0) (.int .i64 0) (.int .i64 0) (.string ⟨#[]⟩)
  refine bodyPost_ret (v := .agg #[.int .i64 2, .int .i64 0, .int .i64 0, .int .i64 0, .int .i64 0, .int .i64 0, .int .i64 0, .string ⟨#[]⟩]) ?_ rfl ⟨rfl, hbf⟩
  obtain ⟨f0, f1, f2, f3, f4, f5, f6, f7⟩ := eightV hbx
  simp only [putV] at f0 f1 f2 f3 f4 f5 f6 f7
  simp [results, Tryd.results9, go_sem, f0, f1, f2, f3, f4, f5, f6, f7]
set_option maxRecDepth 100000 in
set_option maxHeartbeats 16000000 in
theorem sw_mark {s : ByteArray} (w : World) (hs : s.size ≤ 2000) (hm : ((cX s (0, false) 2).toList == [78, 86]) = false) : Calls Tryd.prog 9 #[.string s] w fun e w' => e = .returned (.agg (uwZ s)) ∧ Below w.heap.size w w' := by
  have e : uwZ s = #[.int .i64 3, .int .i64 0, .int .i64 0, .int .i64 0, .int .i64 0, .int .i64 0, .int .i64 0, .string ⟨#[]⟩] := by unfold uwZ; rw [if_neg (by omega), if_pos hm]; rfl
  rw [e]
  have hq : ¬ (2000 : Int) < (s.size : Int) := by omega
  have hsz : Hid (s.size ≤ 2000) := hs
  clear hs e
  have H0 : Hid (Below w.heap.size w (w.alloc (.cells #[.int .i64 0, .int .i64 0, .int .i64 0, .int .i64 0, .int .i64 0, .int .i64 0, .int .i64 0, .string ⟨#[]⟩] 29))) := bx1 _ _
  have HO0 : Hid ((w.alloc (.cells #[.int .i64 0, .int .i64 0, .int .i64 0, .int .i64 0, .int .i64 0, .int .i64 0, .int .i64 0, .string ⟨#[]⟩] 29)).heap[w.heap.size]? = some (.cells #[.int .i64 0, .int .i64 0, .int .i64 0, .int .i64 0, .int .i64 0, .int .i64 0, .int .i64 0, .string ⟨#[]⟩] 29 (0, 0))) := heap_new _ _
  go_enter Tryd.func9, Tryd.ntmps9
  go_upto_region 1 with fail
  generalize (w.alloc (.cells #[.int .i64 0, .int .i64 0, .int .i64 0, .int .i64 0, .int .i64 0, .int .i64 0, .int .i64 0, .string ⟨#[]⟩] 29)) = u0 at *
  generalize hrb : w.heap.size = rb at HO0 ⊢
  have HRB : Hid (w.heap.size = rb) := hrb
  clear hrb
  go_upto_region 3 with fail
  clear hq
  go_upto_region 4 with fail
  have HC1 : Hid (CX (u0.alloc (.cells #[.string s, .int .i64 0, .bool false] 60)) (u0.alloc (.cells #[.string s, .int .i64 0, .bool false] 60)) u0.heap.size s 0 false) := ⟨heap_new _ _, gb_rf _ _⟩
  have HB1 : Hid (Below w.heap.size w (u0.alloc (.cells #[.string s, .int .i64 0, .bool false] 60))) := H0.out.trans ((bx1 _ _).mono H0.out.size)
  have HO1 : Hid ((u0.alloc (.cells #[.string s, .int .i64 0, .bool false] 60)).heap[rb]? = some (.cells #[.int .i64 0, .int .i64 0, .int .i64 0, .int .i64 0, .int .i64 0, .int .i64 0, .int .i64 0, .string ⟨#[]⟩] 29 (0, 0))) := ((bx1 _ _).block _ (Array.getElem?_eq_some_iff.1 HO0.out).1).trans HO0.out
  have HN1 : Hid (rb ≠ u0.heap.size ∧ w.heap.size ≤ u0.heap.size) := ⟨by have := (Array.getElem?_eq_some_iff.1 HO0.out).1; omega, H0.out.size⟩
  clear H0 HO0
  generalize (u0.alloc (.cells #[.string s, .int .i64 0, .bool false] 60)) = u1 at *
  generalize u0.heap.size = b at *
  have HM : Hid (Calls Tryd.prog 27 #[.pointer (some ⟨b, 0, none⟩), .int .i64 2] u1 fun e w' => e = .returned (.string (cX s (0, false) 2)) ∧ CX u1 w' b s (sA s 0).1 (sA s 0).2) := take_any (st := (0, false)) HC1.out (Nat.zero_le _) (by have := hsz.out; omega) 2
  generalize cX s (0, false) 2 = x at *
  go_upto_region 5 with (go_at_call 27; refine Calls.mono HM.out ?_; rintro e u2 ⟨rfl, hc⟩; have HC2 : Hid (CX u1 u2 b s (sA s 0).1 (sA s 0).2) := hc; have HO2 : Hid (u2.heap[rb]? = some (.cells #[.int .i64 0, .int .i64 0, .int .i64 0, .int .i64 0, .int .i64 0, .int .i64 0, .int .i64 0, .string ⟨#[]⟩] 29 (0, 0))) := hc.keep HO1.out HN1.out.1; clear hc)
  have HO9 : Hid _ := HO2.out
  obtain ⟨g0, g1, g2, g3, g4, g5, g6, g7⟩ := eightV HO9.out
  have gf := frz9 HO9.out
  have gl := (Array.getElem?_eq_some_iff.1 HO9.out).1
  go_wp2
  have hbx := putV_box HO9.out (.int .i64 3) (.int .i64 0) (.int .i64 0) (.int .i64 0) (.int .i64 0) (.int .i64 0) (.int .i64 0) (.string ⟨#[]⟩)
  have hbf := putV_bel (p := rb) (HB1.out.grown HC2.out.gr HB1.out.size (fun j hj => by injection hj with hj; have := HN1.out.2; omega)) (by have := HRB.out; omega) (.int .i64 3) (.int .i64 0) (.int .i64 0) (.int .i64 0) (.int .i64 0) (.int .i64 0) (.int .i64 0) (.string ⟨#[]⟩)
  refine bodyPost_ret (v := .agg #[.int .i64 3, .int .i64 0, .int .i64 0, .int .i64 0, .int .i64 0, .int .i64 0, .int .i64 0, .string ⟨#[]⟩]) ?_ rfl ⟨rfl, hbf⟩
  obtain ⟨f0, f1, f2, f3, f4, f5, f6, f7⟩ := eightV hbx
  simp only [putV] at f0 f1 f2 f3 f4 f5 f6 f7
  simp [results, Tryd.results9, go_sem, f0, f1, f2, f3, f4, f5, f6, f7]
set_option maxRecDepth 100000 in
set_option maxHeartbeats 16000000 in
theorem sw_a {s : ByteArray} (w : World) (hs : s.size ≤ 2000) (hm : ((cX s (0, false) 2).toList == [78, 86]) = true) (h1 : (sC s).2 = true) : Calls Tryd.prog 9 #[.string s] w fun e w' => e = .returned (.agg (uwZ s)) ∧ Below w.heap.size w w' := by
  have e : uwZ s = #[.int .i64 3, .int .i64 0, .int .i64 0, .int .i64 0, .int .i64 0, .int .i64 0, .int .i64 0, .string ⟨#[]⟩] := by unfold uwZ; rw [if_neg (by omega), if_neg (by rw [hm]; simp), if_pos h1]; rfl
  rw [e]
  clear e
  have H1 : Hid ((sC s).2 = true) := h1
  clear h1
  have hq : ¬ (2000 : Int) < (s.size : Int) := by omega
  have hsz : Hid (s.size ≤ 2000) := hs
  have hmk : Hid (((cX s (0, false) 2).toList == [78, 86]) = true) := hm
  clear hs
  have H0 : Hid (Below w.heap.size w (w.alloc (.cells #[.int .i64 0, .int .i64 0, .int .i64 0, .int .i64 0, .int .i64 0, .int .i64 0, .int .i64 0, .string ⟨#[]⟩] 29))) := bx1 _ _
  have HO0 : Hid ((w.alloc (.cells #[.int .i64 0, .int .i64 0, .int .i64 0, .int .i64 0, .int .i64 0, .int .i64 0, .int .i64 0, .string ⟨#[]⟩] 29)).heap[w.heap.size]? = some (.cells #[.int .i64 0, .int .i64 0, .int .i64 0, .int .i64 0, .int .i64 0, .int .i64 0, .int .i64 0, .string ⟨#[]⟩] 29 (0, 0))) := heap_new _ _
  go_enter Tryd.func9, Tryd.ntmps9
  go_upto_region 1 with fail
  generalize (w.alloc (.cells #[.int .i64 0, .int .i64 0, .int .i64 0, .int .i64 0, .int .i64 0, .int .i64 0, .int .i64 0, .string ⟨#[]⟩] 29)) = u0 at *
  generalize hrb : w.heap.size = rb at HO0 ⊢
  have HRB : Hid (w.heap.size = rb) := hrb
  clear hrb
  go_upto_region 3 with fail
  clear hq
  go_upto_region 4 with fail
  have HC1 : Hid (CX (u0.alloc (.cells #[.string s, .int .i64 0, .bool false] 60)) (u0.alloc (.cells #[.string s, .int .i64 0, .bool false] 60)) u0.heap.size s 0 false) := ⟨heap_new _ _, gb_rf _ _⟩
  have HB1 : Hid (Below w.heap.size w (u0.alloc (.cells #[.string s, .int .i64 0, .bool false] 60))) := H0.out.trans ((bx1 _ _).mono H0.out.size)
  have HO1 : Hid ((u0.alloc (.cells #[.string s, .int .i64 0, .bool false] 60)).heap[rb]? = some (.cells #[.int .i64 0, .int .i64 0, .int .i64 0, .int .i64 0, .int .i64 0, .int .i64 0, .int .i64 0, .string ⟨#[]⟩] 29 (0, 0))) := ((bx1 _ _).block _ (Array.getElem?_eq_some_iff.1 HO0.out).1).trans HO0.out
  have HN1 : Hid (rb ≠ u0.heap.size ∧ w.heap.size ≤ u0.heap.size) := ⟨by have := (Array.getElem?_eq_some_iff.1 HO0.out).1; omega, H0.out.size⟩
  clear H0 HO0
  generalize (u0.alloc (.cells #[.string s, .int .i64 0, .bool false] 60)) = u1 at *
  generalize u0.heap.size = b at *
  have HM : Hid (Calls Tryd.prog 27 #[.pointer (some ⟨b, 0, none⟩), .int .i64 2] u1 fun e w' => e = .returned (.string (cX s (0, false) 2)) ∧ CX u1 w' b s (sA s 0).1 (sA s 0).2) := take_any (st := (0, false)) HC1.out (Nat.zero_le _) (by have := hsz.out; omega) 2
  clear hmk
  generalize cX s (0, false) 2 = x at *
  go_upto_region 6 with (go_at_call 27; refine Calls.mono HM.out ?_; rintro e u2 ⟨rfl, hc⟩; have HC2 : Hid (CX u1 u2 b s (sA s 0).1 (sA s 0).2) := hc; have HO2 : Hid (u2.heap[rb]? = some (.cells #[.int .i64 0, .int .i64 0, .int .i64 0, .int .i64 0, .int .i64 0, .int .i64 0, .int .i64 0, .string ⟨#[]⟩] 29 (0, 0))) := hc.keep HO1.out HN1.out.1; clear hc)
  clear hm
  go_upto_region 7 with fail
  have HN2 : Hid (u2.heap.size ≠ b ∧ u2.heap.size ≠ rb ∧ u1.heap.size ≤ u2.heap.size) := ⟨by have := HC2.out.lt; omega, by have := (Array.getElem?_eq_some_iff.1 HO2.out).1; omega, HC2.out.gr.size⟩
  have HC3 : Hid (CX u1 (u2.alloc (.cells #[.int .i64 0, .int .i64 0, .int .i64 0, .int .i64 0, .int .i64 0, .int .i64 0, .int .i64 0, .string ⟨#[]⟩] 29)) b s (sA s 0).1 (sA s 0).2) := HC2.out.below (bx1 _ _)
  have HO3 : Hid ((u2.alloc (.cells #[.int .i64 0, .int .i64 0, .int .i64 0, .int .i64 0, .int .i64 0, .int .i64 0, .int .i64 0, .string ⟨#[]⟩] 29)).heap[rb]? = some (.cells #[.int .i64 0, .int .i64 0, .int .i64 0, .int .i64 0, .int .i64 0, .int .i64 0, .int .i64 0, .string ⟨#[]⟩] 29 (0, 0))) := ((bx1 _ _).block _ (Array.getElem?_eq_some_iff.1 HO2.out).1).trans HO2.out
  have HR3 : Hid ((u2.alloc (.cells #[.int .i64 0, .int .i64 0, .int .i64 0, .int .i64 0, .int .i64 0, .int .i64 0, .int .i64 0, .string ⟨#[]⟩] 29)).heap[u2.heap.size]? = some (.cells #[.int .i64 0, .int .i64 0, .int .i64 0, .int .i64 0, .int .i64 0, .int .i64 0, .int .i64 0, .string ⟨#[]⟩] 29 (0, 0))) := heap_new _ _
  generalize (u2.alloc (.cells #[.int .i64 0, .int .i64 0, .int .i64 0, .int .i64 0, .int .i64 0, .int .i64 0, .int .i64 0, .string ⟨#[]⟩] 29)) = u3 at *
  generalize u2.heap.size = rr at *
  clear HC2 HO2 HO1
  have HT0 : Hid (∀ u, CX u1 u b s (sA s 0).1 (sA s 0).2 → Calls Tryd.prog 27 #[.pointer (some ⟨b, 0, none⟩), .int .i64 3] u fun e w' => e = .returned (.string (sX s 0)) ∧ CX u w' b s (sA s 1).1 (sA s 1).2) := fun u hu => take_any hu.same (sA_le s 0) (by have := hsz.out; omega) 3
  have HD0 : Hid (∀ u, Calls Tryd.prog 28 #[.string (sX s 0)] u fun e w' => e = .returned (.int .i64 (nV s 0)) ∧ w' = u) := fun u => num_any (sX s 0) u (sX_le s 0)
  go_upto_region 8 with (first | (go_at_call 27; refine Calls.mono (HT0.out _ HC3.out) ?_; rintro e t0 ⟨rfl, hc⟩; have HCx : Hid (CX u1 t0 b s (sA s 1).1 (sA s 1).2) := HC3.out.on9 hc; have HOx : Hid (t0.heap[rb]? = some (.cells #[.int .i64 0, .int .i64 0, .int .i64 0, .int .i64 0, .int .i64 0, .int .i64 0, .int .i64 0, .string ⟨#[]⟩] 29 (0, 0))) := hc.keep HO3.out HN1.out.1; have HRx : Hid (t0.heap[rr]? = some (.cells #[.int .i64 0, .int .i64 0, .int .i64 0, .int .i64 0, .int .i64 0, .int .i64 0, .int .i64 0, .string ⟨#[]⟩] 29 (0, 0))) := hc.keep HR3.out HN2.out.1; clear hc; have k0 : t0.cell? ⟨rr, 1, none⟩ = some (.int .i64 0) := cel9 HRx.out 1 _ rfl; have kl := (Array.getElem?_eq_some_iff.1 HRx.out).1; have kf := frz9 HRx.out) | (go_at_call 28; refine Calls.mono (HD0.out _) ?_; rintro e v0 ⟨rfl, h9⟩; subst h9))
  have HC4 : Hid (CX u1 (v0.setCell ⟨rr, 1, none⟩ (.int .i64 (nV s 0))) b s (sA s 1).1 (sA s 1).2) := HCx.out.other HN2.out.1 HN2.out.2.2 _ _
  have HO4 : Hid ((v0.setCell ⟨rr, 1, none⟩ (.int .i64 (nV s 0))).heap[rb]? = some (.cells #[.int .i64 0, .int .i64 0, .int .i64 0, .int .i64 0, .int .i64 0, .int .i64 0, .int .i64 0, .string ⟨#[]⟩] 29 (0, 0))) := (Below.heap_setCell _ _ _ _ (by simpa using fun e => HN2.out.2.1 e.symm)).trans HOx.out
  have HR4 : Hid ((v0.setCell ⟨rr, 1, none⟩ (.int .i64 (nV s 0))).heap[rr]? = some (.cells #[.int .i64 0, .int .i64 (nV s 0), .int .i64 0, .int .i64 0, .int .i64 0, .int .i64 0, .int .i64 0, .string ⟨#[]⟩] 29 (0, 0))) := blk9 HRx.out _
  generalize (v0.setCell ⟨rr, 1, none⟩ (.int .i64 (nV s 0))) = u4 at *
  clear HCx HOx HRx k0 kl kf HC3 HO3 HR3 HT0 HD0
  have HT1 : Hid (∀ u, CX u1 u b s (sA s 1).1 (sA s 1).2 → Calls Tryd.prog 27 #[.pointer (some ⟨b, 0, none⟩), .int .i64 4] u fun e w' => e = .returned (.string (sX s 1)) ∧ CX u w' b s (sA s 2).1 (sA s 2).2) := fun u hu => take_any hu.same (sA_le s 1) (by have := hsz.out; omega) 4
  have HD1 : Hid (∀ u, Calls Tryd.prog 28 #[.string (sX s 1)] u fun e w' => e = .returned (.int .i64 (nV s 1)) ∧ w' = u) := fun u => num_any (sX s 1) u (sX_le s 1)
  go_upto_region 9 with (first | (go_at_call 27; refine Calls.mono (HT1.out _ HC4.out) ?_; rintro e t1 ⟨rfl, hc⟩; have HCx : Hid (CX u1 t1 b s (sA s 2).1 (sA s 2).2) := HC4.out.on9 hc; have HOx : Hid (t1.heap[rb]? = some (.cells #[.int .i64 0, .int .i64 0, .int .i64 0, .int .i64 0, .int .i64 0, .int .i64 0, .int .i64 0, .string ⟨#[]⟩] 29 (0, 0))) := hc.keep HO4.out HN1.out.1; have HRx : Hid (t1.heap[rr]? = some (.cells #[.int .i64 0, .int .i64 (nV s 0), .int .i64 0, .int .i64 0, .int .i64 0, .int .i64 0, .int .i64 0, .string ⟨#[]⟩] 29 (0, 0))) := hc.keep HR4.out HN2.out.1; clear hc; have k0 : t1.cell? ⟨rr, 2, none⟩ = some (.int .i64 0) := cel9 HRx.out 2 _ rfl; have kl := (Array.getElem?_eq_some_iff.1 HRx.out).1; have kf := frz9 HRx.out) | (go_at_call 28; refine Calls.mono (HD1.out _) ?_; rintro e v1 ⟨rfl, h9⟩; subst h9))
  have HC5 : Hid (CX u1 (v1.setCell ⟨rr, 2, none⟩ (.int .i64 (nV s 1))) b s (sA s 2).1 (sA s 2).2) := HCx.out.other HN2.out.1 HN2.out.2.2 _ _
  have HO5 : Hid ((v1.setCell ⟨rr, 2, none⟩ (.int .i64 (nV s 1))).heap[rb]? = some (.cells #[.int .i64 0, .int .i64 0, .int .i64 0, .int .i64 0, .int .i64 0, .int .i64 0, .int .i64 0, .string ⟨#[]⟩] 29 (0, 0))) := (Below.heap_setCell _ _ _ _ (by simpa using fun e => HN2.out.2.1 e.symm)).trans HOx.out
  have HR5 : Hid ((v1.setCell ⟨rr, 2, none⟩ (.int .i64 (nV s 1))).heap[rr]? = some (.cells #[.int .i64 0, .int .i64 (nV s 0), .int .i64 (nV s 1), .int .i64 0, .int .i64 0, .int .i64 0, .int .i64 0, .string ⟨#[]⟩] 29 (0, 0))) := blk9 HRx.out _
  generalize (v1.setCell ⟨rr, 2, none⟩ (.int .i64 (nV s 1))) = u5 at *
  clear HCx HOx HRx k0 kl kf HC4 HO4 HR4 HT1 HD1
  have HT2 : Hid (∀ u, CX u1 u b s (sA s 2).1 (sA s 2).2 → Calls Tryd.prog 27 #[.pointer (some ⟨b, 0, none⟩), .int .i64 4] u fun e w' => e = .returned (.string (sX s 2)) ∧ CX u w' b s (sA s 3).1 (sA s 3).2) := fun u hu => take_any hu.same (sA_le s 2) (by have := hsz.out; omega) 4
  have HD2 : Hid (∀ u, Calls Tryd.prog 28 #[.string (sX s 2)] u fun e w' => e = .returned (.int .i64 (nV s 2)) ∧ w' = u) := fun u => num_any (sX s 2) u (sX_le s 2)
  go_upto_region 10 with (first | (go_at_call 27; refine Calls.mono (HT2.out _ HC5.out) ?_; rintro e t2 ⟨rfl, hc⟩; have HCx : Hid (CX u1 t2 b s (sA s 3).1 (sA s 3).2) := HC5.out.on9 hc; have HOx : Hid (t2.heap[rb]? = some (.cells #[.int .i64 0, .int .i64 0, .int .i64 0, .int .i64 0, .int .i64 0, .int .i64 0, .int .i64 0, .string ⟨#[]⟩] 29 (0, 0))) := hc.keep HO5.out HN1.out.1; have HRx : Hid (t2.heap[rr]? = some (.cells #[.int .i64 0, .int .i64 (nV s 0), .int .i64 (nV s 1), .int .i64 0, .int .i64 0, .int .i64 0, .int .i64 0, .string ⟨#[]⟩] 29 (0, 0))) := hc.keep HR5.out HN2.out.1; clear hc; have k0 : t2.cell? ⟨rr, 3, none⟩ = some (.int .i64 0) := cel9 HRx.out 3 _ rfl; have kl := (Array.getElem?_eq_some_iff.1 HRx.out).1; have kf := frz9 HRx.out) | (go_at_call 28; refine Calls.mono (HD2.out _) ?_; rintro e v2 ⟨rfl, h9⟩; subst h9))
  have HC6 : Hid (CX u1 (v2.setCell ⟨rr, 3, none⟩ (.int .i64 (nV s 2))) b s (sA s 3).1 (sA s 3).2) := HCx.out.other HN2.out.1 HN2.out.2.2 _ _
  have HO6 : Hid ((v2.setCell ⟨rr, 3, none⟩ (.int .i64 (nV s 2))).heap[rb]? = some (.cells #[.int .i64 0, .int .i64 0, .int .i64 0, .int .i64 0, .int .i64 0, .int .i64 0, .int .i64 0, .string ⟨#[]⟩] 29 (0, 0))) := (Below.heap_setCell _ _ _ _ (by simpa using fun e => HN2.out.2.1 e.symm)).trans HOx.out
  have HR6 : Hid ((v2.setCell ⟨rr, 3, none⟩ (.int .i64 (nV s 2))).heap[rr]? = some (.cells #[.int .i64 0, .int .i64 (nV s 0), .int .i64 (nV s 1), .int .i64 (nV s 2), .int .i64 0, .int .i64 0, .int .i64 0, .string ⟨#[]⟩] 29 (0, 0))) := blk9 HRx.out _
  generalize (v2.setCell ⟨rr, 3, none⟩ (.int .i64 (nV s 2))) = u6 at *
  clear HCx HOx HRx k0 kl kf HC5 HO5 HR5 HT2 HD2
  have HT3 : Hid (∀ u, CX u1 u b s (sA s 3).1 (sA s 3).2 → Calls Tryd.prog 27 #[.pointer (some ⟨b, 0, none⟩), .int .i64 6] u fun e w' => e = .returned (.string (sX s 3)) ∧ CX u w' b s (sA s 4).1 (sA s 4).2) := fun u hu => take_any hu.same (sA_le s 3) (by have := hsz.out; omega) 6
  have HD3 : Hid (∀ u, Calls Tryd.prog 28 #[.string (sX s 3)] u fun e w' => e = .returned (.int .i64 (nV s 3)) ∧ w' = u) := fun u => num_any (sX s 3) u (sX_le s 3)
  go_upto_region 11 with (first | (go_at_call 27; refine Calls.mono (HT3.out _ HC6.out) ?_; rintro e t3 ⟨rfl, hc⟩; have HCx : Hid (CX u1 t3 b s (sA s 4).1 (sA s 4).2) := HC6.out.on9 hc; have HOx : Hid (t3.heap[rb]? = some (.cells #[.int .i64 0, .int .i64 0, .int .i64 0, .int .i64 0, .int .i64 0, .int .i64 0, .int .i64 0, .string ⟨#[]⟩] 29 (0, 0))) := hc.keep HO6.out HN1.out.1; have HRx : Hid (t3.heap[rr]? = some (.cells #[.int .i64 0, .int .i64 (nV s 0), .int .i64 (nV s 1), .int .i64 (nV s 2), .int .i64 0, .int .i64 0, .int .i64 0, .string ⟨#[]⟩] 29 (0, 0))) := hc.keep HR6.out HN2.out.1; clear hc; have k0 : t3.cell? ⟨rr, 4, none⟩ = some (.int .i64 0) := cel9 HRx.out 4 _ rfl; have kl := (Array.getElem?_eq_some_iff.1 HRx.out).1; have kf := frz9 HRx.out) | (go_at_call 28; refine Calls.mono (HD3.out _) ?_; rintro e v3 ⟨rfl, h9⟩; subst h9))
  have HC7 : Hid (CX u1 (v3.setCell ⟨rr, 4, none⟩ (.int .i64 (nV s 3))) b s (sA s 4).1 (sA s 4).2) := HCx.out.other HN2.out.1 HN2.out.2.2 _ _
  have HO7 : Hid ((v3.setCell ⟨rr, 4, none⟩ (.int .i64 (nV s 3))).heap[rb]? = some (.cells #[.int .i64 0, .int .i64 0, .int .i64 0, .int .i64 0, .int .i64 0, .int .i64 0, .int .i64 0, .string ⟨#[]⟩] 29 (0, 0))) := (Below.heap_setCell _ _ _ _ (by simpa using fun e => HN2.out.2.1 e.symm)).trans HOx.out
  have HR7 : Hid ((v3.setCell ⟨rr, 4, none⟩ (.int .i64 (nV s 3))).heap[rr]? = some (.cells #[.int .i64 0, .int .i64 (nV s 0), .int .i64 (nV s 1), .int .i64 (nV s 2), .int .i64 (nV s 3), .int .i64 0, .int .i64 0, .string ⟨#[]⟩] 29 (0, 0))) := blk9 HRx.out _
  generalize (v3.setCell ⟨rr, 4, none⟩ (.int .i64 (nV s 3))) = u7 at *
  clear HCx HOx HRx k0 kl kf HC6 HO6 HR6 HT3 HD3
  have HT4 : Hid (∀ u, CX u1 u b s (sA s 4).1 (sA s 4).2 → Calls Tryd.prog 27 #[.pointer (some ⟨b, 0, none⟩), .int .i64 6] u fun e w' => e = .returned (.string (sX s 4)) ∧ CX u w' b s (sA s 5).1 (sA s 5).2) := fun u hu => take_any hu.same (sA_le s 4) (by have := hsz.out; omega) 6
  have HD4 : Hid (∀ u, Calls Tryd.prog 28 #[.string (sX s 4)] u fun e w' => e = .returned (.int .i64 (nV s 4)) ∧ w' = u) := fun u => num_any (sX s 4) u (sX_le s 4)
  go_upto_region 12 with (first | (go_at_call 27; refine Calls.mono (HT4.out _ HC7.out) ?_; rintro e t4 ⟨rfl, hc⟩; have HCx : Hid (CX u1 t4 b s (sA s 5).1 (sA s 5).2) := HC7.out.on9 hc; have HOx : Hid (t4.heap[rb]? = some (.cells #[.int .i64 0, .int .i64 0, .int .i64 0, .int .i64 0, .int .i64 0, .int .i64 0, .int .i64 0, .string ⟨#[]⟩] 29 (0, 0))) := hc.keep HO7.out HN1.out.1; have HRx : Hid (t4.heap[rr]? = some (.cells #[.int .i64 0, .int .i64 (nV s 0), .int .i64 (nV s 1), .int .i64 (nV s 2), .int .i64 (nV s 3), .int .i64 0, .int .i64 0, .string ⟨#[]⟩] 29 (0, 0))) := hc.keep HR7.out HN2.out.1; clear hc; have k0 : t4.cell? ⟨rr, 5, none⟩ = some (.int .i64 0) := cel9 HRx.out 5 _ rfl; have kl := (Array.getElem?_eq_some_iff.1 HRx.out).1; have kf := frz9 HRx.out) | (go_at_call 28; refine Calls.mono (HD4.out _) ?_; rintro e v4 ⟨rfl, h9⟩; subst h9))
  have HC8 : Hid (CX u1 (v4.setCell ⟨rr, 5, none⟩ (.int .i64 (nV s 4))) b s (sA s 5).1 (sA s 5).2) := HCx.out.other HN2.out.1 HN2.out.2.2 _ _
  have HO8 : Hid ((v4.setCell ⟨rr, 5, none⟩ (.int .i64 (nV s 4))).heap[rb]? = some (.cells #[.int .i64 0, .int .i64 0, .int .i64 0, .int .i64 0, .int .i64 0, .int .i64 0, .int .i64 0, .string ⟨#[]⟩] 29 (0, 0))) := (Below.heap_setCell _ _ _ _ (by simpa using fun e => HN2.out.2.1 e.symm)).trans HOx.out
  have HR8 : Hid ((v4.setCell ⟨rr, 5, none⟩ (.int .i64 (nV s 4))).heap[rr]? = some (.cells #[.int .i64 0, .int .i64 (nV s 0), .int .i64 (nV s 1), .int .i64 (nV s 2), .int .i64 (nV s 3), .int .i64 (nV s 4), .int .i64 0, .string ⟨#[]⟩] 29 (0, 0))) := blk9 HRx.out _
  generalize (v4.setCell ⟨rr, 5, none⟩ (.int .i64 (nV s 4))) = u8 at *
  clear HCx HOx HRx k0 kl kf HC7 HO7 HR7 HT4 HD4
  have HT5 : Hid (∀ u, CX u1 u b s (sA s 5).1 (sA s 5).2 → Calls Tryd.prog 27 #[.pointer (some ⟨b, 0, none⟩), .int .i64 2] u fun e w' => e = .returned (.string (sX s 5)) ∧ CX u w' b s (sA s 6).1 (sA s 6).2) := fun u hu => take_any hu.same (sA_le s 5) (by have := hsz.out; omega) 2
  have HD5 : Hid (∀ u, Calls Tryd.prog 28 #[.string (sX s 5)] u fun e w' => e = .returned (.int .i64 (nV s 5)) ∧ w' = u) := fun u => num_any (sX s 5) u (sX_le s 5)
  go_upto_region 13 with (first | (go_at_call 27; refine Calls.mono (HT5.out _ HC8.out) ?_; rintro e t5 ⟨rfl, hc⟩; have HCx : Hid (CX u1 t5 b s (sA s 6).1 (sA s 6).2) := HC8.out.on9 hc; have HOx : Hid (t5.heap[rb]? = some (.cells #[.int .i64 0, .int .i64 0, .int .i64 0, .int .i64 0, .int .i64 0, .int .i64 0, .int .i64 0, .string ⟨#[]⟩] 29 (0, 0))) := hc.keep HO8.out HN1.out.1; have HRx : Hid (t5.heap[rr]? = some (.cells #[.int .i64 0, .int .i64 (nV s 0), .int .i64 (nV s 1), .int .i64 (nV s 2), .int .i64 (nV s 3), .int .i64 (nV s 4), .int .i64 0, .string ⟨#[]⟩] 29 (0, 0))) := hc.keep HR8.out HN2.out.1; clear hc; have k0 : t5.cell? ⟨rr, 6, none⟩ = some (.int .i64 0) := cel9 HRx.out 6 _ rfl; have kl := (Array.getElem?_eq_some_iff.1 HRx.out).1; have kf := frz9 HRx.out) | (go_at_call 28; refine Calls.mono (HD5.out _) ?_; rintro e v5 ⟨rfl, h9⟩; subst h9))
  have HC9 : Hid (CX u1 (v5.setCell ⟨rr, 6, none⟩ (.int .i64 (nV s 5))) b s (sA s 6).1 (sA s 6).2) := HCx.out.other HN2.out.1 HN2.out.2.2 _ _
  have HO9 : Hid ((v5.setCell ⟨rr, 6, none⟩ (.int .i64 (nV s 5))).heap[rb]? = some (.cells #[.int .i64 0, .int .i64 0, .int .i64 0, .int .i64 0, .int .i64 0, .int .i64 0, .int .i64 0, .string ⟨#[]⟩] 29 (0, 0))) := (Below.heap_setCell _ _ _ _ (by simpa using fun e => HN2.out.2.1 e.symm)).trans HOx.out
  have HR9 : Hid ((v5.setCell ⟨rr, 6, none⟩ (.int .i64 (nV s 5))).heap[rr]? = some (.cells #[.int .i64 0, .int .i64 (nV s 0), .int .i64 (nV s 1), .int .i64 (nV s 2), .int .i64 (nV s 3), .int .i64 (nV s 4), .int .i64 (nV s 5), .string ⟨#[]⟩] 29 (0, 0))) := blk9 HRx.out _
  generalize (v5.setCell ⟨rr, 6, none⟩ (.int .i64 (nV s 5))) = u9 at *
  clear HCx HOx HRx k0 kl kf HC8 HO8 HR8 HT5 HD5
  have HT6 : Hid (∀ u, CX u1 u b s (sA s 6).1 (sA s 6).2 → Calls Tryd.prog 27 #[.pointer (some ⟨b, 0, none⟩), .int .i64 2] u fun e w' => e = .returned (.string (sX s 6)) ∧ CX u w' b s (sA s 7).1 (sA s 7).2) := fun u hu => take_any hu.same (sA_le s 6) (by have := hsz.out; omega) 2
  have HD6 : Hid (∀ u, Calls Tryd.prog 28 #[.string (sX s 6)] u fun e w' => e = .returned (.int .i64 (nV s 6)) ∧ w' = u) := fun u => num_any (sX s 6) u (sX_le s 6)
  go_upto_region 14 with (first | (go_at_call 27; refine Calls.mono (HT6.out _ HC9.out) ?_; rintro e t6 ⟨rfl, hc⟩; have HCx : Hid (CX u1 t6 b s (sA s 7).1 (sA s 7).2) := HC9.out.on9 hc; have HOx : Hid (t6.heap[rb]? = some (.cells #[.int .i64 0, .int .i64 0, .int .i64 0, .int .i64 0, .int .i64 0, .int .i64 0, .int .i64 0, .string ⟨#[]⟩] 29 (0, 0))) := hc.keep HO9.out HN1.out.1; have HRx : Hid (t6.heap[rr]? = some (.cells #[.int .i64 0, .int .i64 (nV s 0), .int .i64 (nV s 1), .int .i64 (nV s 2), .int .i64 (nV s 3), .int .i64 (nV s 4), .int .i64 (nV s 5), .string ⟨#[]⟩] 29 (0, 0))) := hc.keep HR9.out HN2.out.1; clear hc; have k0 : t6.cell? ⟨rr, 0, none⟩ = some (.int .i64 0) := cel9 HRx.out 0 _ rfl; have kl := (Array.getElem?_eq_some_iff.1 HRx.out).1; have kf := frz9 HRx.out) | (go_at_call 28; refine Calls.mono (HD6.out _) ?_; rintro e v6 ⟨rfl, h9⟩; subst h9))
  clear k0 kl kf HC9 HO9 HR9 HT6 HD6
  have HT7 : Hid (∀ u, CX u1 u b s (sA s 7).1 (sA s 7).2 → Calls Tryd.prog 27 #[.pointer (some ⟨b, 0, none⟩), .int .i64 (nV s 6)] u fun e w' => e = .returned (.string (sT s)) ∧ CX u w' b s (sB s).1 (sB s).2) := fun u hu => by rw [← sN_eq s]; exact take_any hu.same (sA_le s 7) (by have := hsz.out; omega) (sN s)
  go_upto_region 15 with (go_at_call 27; refine Calls.mono (HT7.out _ HCx.out) ?_; rintro e t7 ⟨rfl, hc⟩; have HCy : Hid (CX u1 t7 b s (sB s).1 (sB s).2) := HCx.out.on9 hc; have HOy : Hid (t7.heap[rb]? = some (.cells #[.int .i64 0, .int .i64 0, .int .i64 0, .int .i64 0, .int .i64 0, .int .i64 0, .int .i64 0, .string ⟨#[]⟩] 29 (0, 0))) := hc.keep HOx.out HN1.out.1; have HRy : Hid (t7.heap[rr]? = some (.cells #[.int .i64 0, .int .i64 (nV s 0), .int .i64 (nV s 1), .int .i64 (nV s 2), .int .i64 (nV s 3), .int .i64 (nV s 4), .int .i64 (nV s 5), .string ⟨#[]⟩] 29 (0, 0))) := hc.keep HRx.out HN2.out.1; clear hc; have k0 : t7.cell? ⟨rr, 7, none⟩ = some (.string ⟨#[]⟩) := cel9 HRy.out 7 _ rfl; have kl := (Array.getElem?_eq_some_iff.1 HRy.out).1; have kf := frz9 HRy.out)
  have HC10 : Hid (CX u1 (t7.setCell ⟨rr, 7, none⟩ (.string (sT s))) b s (sB s).1 (sB s).2) := HCy.out.other HN2.out.1 HN2.out.2.2 _ _
  have HO10 : Hid ((t7.setCell ⟨rr, 7, none⟩ (.string (sT s))).heap[rb]? = some (.cells #[.int .i64 0, .int .i64 0, .int .i64 0, .int .i64 0, .int .i64 0, .int .i64 0, .int .i64 0, .string ⟨#[]⟩] 29 (0, 0))) := (Below.heap_setCell _ _ _ _ (by simpa using fun e => HN2.out.2.1 e.symm)).trans HOy.out
  have HR10 : Hid ((t7.setCell ⟨rr, 7, none⟩ (.string (sT s))).heap[rr]? = some (.cells #[.int .i64 0, .int .i64 (nV s 0), .int .i64 (nV s 1), .int .i64 (nV s 2), .int .i64 (nV s 3), .int .i64 (nV s 4), .int .i64 (nV s 5), .string (sT s)] 29 (0, 0))) := blk9 HRy.out _
  generalize (t7.setCell ⟨rr, 7, none⟩ (.string (sT s))) = u10 at *
  clear HCx HOx HRx HCy HOy HRy k0 kl kf HT7
  obtain ⟨c0, c1, c2⟩ := HC10.out.cel
  have cl := HC10.out.lt
  go_upto_region 16 with fail
  clear c0 c1 c2 cl
  have HWD : Hid (Calls Tryd.prog 29 #[.pointer (some ⟨b, 0, none⟩)] u10 fun e w' => e = .returned (.int .i64 (sW s)) ∧ CX u10 w' b s (sC s).1 (sC s).2) := word_any HC10.out.same (sB_le s) (by have := hsz.out; omega)
  go_upto_region 17 with (go_at_call 29; refine Calls.mono HWD.out ?_; rintro e u11 ⟨rfl, hc⟩; have HC9 : Hid (CX u1 u11 b s (sC s).1 (sC s).2) := HC10.out.on9 hc; have HO9 : Hid (u11.heap[rb]? = some (.cells #[.int .i64 0, .int .i64 0, .int .i64 0, .int .i64 0, .int .i64 0, .int .i64 0, .int .i64 0, .string ⟨#[]⟩] 29 (0, 0))) := hc.keep HO10.out HN1.out.1; have HR9 : Hid (u11.heap[rr]? = some (.cells #[.int .i64 0, .int .i64 (nV s 0), .int .i64 (nV s 1), .int .i64 (nV s 2), .int .i64 (nV s 3), .int .i64 (nV s 4), .int .i64 (nV s 5), .string (sT s)] 29 (0, 0))) := hc.keep HR10.out HN2.out.1; clear hc)
  clear HWD HC10 HO10 HR10
  have HB9 : Hid (Below w.heap.size w u11) := HB1.out.grown HC9.out.gr HB1.out.size (fun j hj => by injection hj with hj; have := HN1.out.2; omega)
  obtain ⟨c0, c1, c2⟩ := HC9.out.cel
  have cl := HC9.out.lt
  obtain ⟨g0, g1, g2, g3, g4, g5, g6, g7⟩ := eightV HO9.out
  have gf := frz9 HO9.out
  have gl := (Array.getElem?_eq_some_iff.1 HO9.out).1
  obtain ⟨d0, d1, d2, d3, d4, d5, d6, d7⟩ := eightV HR9.out
  have df := frz9 HR9.out
  have dl := (Array.getElem?_eq_some_iff.1 HR9.out).1
  rw [H1.out] at c2
  go_wp2
  have hbx := putV_box HO9.out (.int .i64 3) (.int .i64 0) (.int .i64 0) (.int .i64 0) (.int .i64 0) (.int .i64 0) (.int .i64 0) (.string ⟨#[]⟩)
  have hbf := putV_bel (p := rb) HB9.out (by have := HRB.out; omega) (.int .i64 3) (.int .i64 0) (.int .i64 0) (.int .i64 0) (.int .i64 0) (.int .i64 0) (.int .i64 0) (.string ⟨#[]⟩)
  refine bodyPost_ret (v := .agg #[.int .i64 3, .int .i64 0, .int .i64 0, .int .i64 0, .int .i64 0, .int .i64 0, .int .i64 0, .string ⟨#[]⟩]) ?_ rfl ⟨rfl, hbf⟩
  obtain ⟨f0, f1, f2, f3, f4, f5, f6, f7⟩ := eightV hbx
  simp only [putV] at f0 f1 f2 f3 f4 f5 f6 f7
  simp [results, Tryd.results9, go_sem, f0, f1, f2, f3, f4, f5, f6, f7]
set_option maxRecDepth 100000 in
set_option maxHeartbeats 16000000 in
theorem sw_b {s : ByteArray} (w : World) (hs : s.size ≤ 2000) (hm : ((cX s (0, false) 2).toList == [78, 86]) = true) (h1 : (sC s).2 = false) (h2 : 1500 < nV s 6) : Calls Tryd.prog 9 #[.string s] w fun e w' => e = .returned (.agg (uwZ s)) ∧ Below w.heap.size w w' := by
  have e : uwZ s = #[.int .i64 3, .int .i64 0, .int .i64 0, .int .i64 0, .int .i64 0, .int .i64 0, .int .i64 0, .string ⟨#[]⟩] := by unfold uwZ; rw [if_neg (by omega), if_neg (by rw [hm]; simp), if_neg (by rw [h1]; simp), if_pos h2]; rfl
  rw [e]
  clear e
  have H1 : Hid ((sC s).2 = false) := h1
  clear h1
  have H2 : Hid (1500 < nV s 6) := h2
  clear h2
  have hq : ¬ (2000 : Int) < (s.size : Int) := by omega
  have hsz : Hid (s.size ≤ 2000) := hs
  have hmk : Hid (((cX s (0, false) 2).toList == [78, 86]) = true) := hm
  clear hs
  have H0 : Hid (Below w.heap.size w (w.alloc (.cells #[.int .i64 0, .int .i64 0, .int .i64 0, .int .i64 0, .int .i64 0, .int .i64 0, .int .i64 0, .string ⟨#[]⟩] 29))) := bx1 _ _
  have HO0 : Hid ((w.alloc (.cells #[.int .i64 0, .int .i64 0, .int .i64 0, .int .i64 0, .int .i64 0, .int .i64 0, .int .i64 0, .string ⟨#[]⟩] 29)).heap[w.heap.size]? = some (.cells #[.int .i64 0, .int .i64 0, .int .i64 0, .int .i64 0, .int .i64 0, .int .i64 0, .int .i64 0, .string ⟨#[]⟩] 29 (0, 0))) := heap_new _ _
  go_enter Tryd.func9, Tryd.ntmps9
  go_upto_region 1 with fail
  generalize (w.alloc (.cells #[.int .i64 0, .int .i64 0, .int .i64 0, .int .i64 0, .int .i64 0, .int .i64 0, .int .i64 0, .string ⟨#[]⟩] 29)) = u0 at *
  generalize hrb : w.heap.size = rb at HO0 ⊢
  have HRB : Hid (w.heap.size = rb) := hrb
  clear hrb
  go_upto_region 3 with fail
  clear hq
  go_upto_region 4 with fail
  have HC1 : Hid (CX (u0.alloc (.cells #[.string s, .int .i64 0, .bool false] 60)) (u0.alloc (.cells #[.string s, .int .i64 0, .bool false] 60)) u0.heap.size s 0 false) := ⟨heap_new _ _, gb_rf _ _⟩
  have HB1 : Hid (Below w.heap.size w (u0.alloc (.cells #[.string s, .int .i64 0, .bool false] 60))) := H0.out.trans ((bx1 _ _).mono H0.out.size)
  have HO1 : Hid ((u0.alloc (.cells #[.string s, .int .i64 0, .bool false] 60)).heap[rb]? = some (.cells #[.int .i64 0, .int .i64 0, .int .i64 0, .int .i64 0, .int .i64 0, .int .i64 0, .int .i64 0, .string ⟨#[]⟩] 29 (0, 0))) := ((bx1 _ _).block _ (Array.getElem?_eq_some_iff.1 HO0.out).1).trans HO0.out
  have HN1 : Hid (rb ≠ u0.heap.size ∧ w.heap.size ≤ u0.heap.size) := ⟨by have := (Array.getElem?_eq_some_iff.1 HO0.out).1; omega, H0.out.size⟩
  clear H0 HO0
  generalize (u0.alloc (.cells #[.string s, .int .i64 0, .bool false] 60)) = u1 at *
  generalize u0.heap.size = b at *
  have HM : Hid (Calls Tryd.prog 27 #[.pointer (some ⟨b, 0, none⟩), .int .i64 2] u1 fun e w' => e = .returned (.string (cX s (0, false) 2)) ∧ CX u1 w' b s (sA s 0).1 (sA s 0).2) := take_any (st := (0, false)) HC1.out (Nat.zero_le _) (by have := hsz.out; omega) 2
  clear hmk
  generalize cX s (0, false) 2 = x at *
  go_upto_region 6 with (go_at_call 27; refine Calls.mono HM.out ?_; rintro e u2 ⟨rfl, hc⟩; have HC2 : Hid (CX u1 u2 b s (sA s 0).1 (sA s 0).2) := hc; have HO2 : Hid (u2.heap[rb]? = some (.cells #[.int .i64 0, .int .i64 0, .int .i64 0, .int .i64 0, .int .i64 0, .int .i64 0, .int .i64 0, .string ⟨#[]⟩] 29 (0, 0))) := hc.keep HO1.out HN1.out.1; clear hc)
  clear hm
  go_upto_region 7 with fail
  have HN2 : Hid (u2.heap.size ≠ b ∧ u2.heap.size ≠ rb ∧ u1.heap.size ≤ u2.heap.size) := ⟨by have := HC2.out.lt; omega, by have := (Array.getElem?_eq_some_iff.1 HO2.out).1; omega, HC2.out.gr.size⟩
  have HC3 : Hid (CX u1 (u2.alloc (.cells #[.int .i64 0, .int .i64 0, .int .i64 0, .int .i64 0, .int .i64 0, .int .i64 0, .int .i64 0, .string ⟨#[]⟩] 29)) b s (sA s 0).1 (sA s 0).2) := HC2.out.below (bx1 _ _)
  have HO3 : Hid ((u2.alloc (.cells #[.int .i64 0, .int .i64 0, .int .i64 0, .int .i64 0, .int .i64 0, .int .i64 0, .int .i64 0, .string ⟨#[]⟩] 29)).heap[rb]? = some (.cells #[.int .i64 0, .int .i64 0, .int .i64 0, .int .i64 0, .int .i64 0, .int .i64 0, .int .i64 0, .string ⟨#[]⟩] 29 (0, 0))) := ((bx1 _ _).block _ (Array.getElem?_eq_some_iff.1 HO2.out).1).trans HO2.out
  have HR3 : Hid ((u2.alloc (.cells #[.int .i64 0, .int .i64 0, .int .i64 0, .int .i64 0, .int .i64 0, .int .i64 0, .int .i64 0, .string ⟨#[]⟩] 29)).heap[u2.heap.size]? = some (.cells #[.int .i64 0, .int .i64 0, .int .i64 0, .int .i64 0, .int .i64 0, .int .i64 0, .int .i64 0, .string ⟨#[]⟩] 29 (0, 0))) := heap_new _ _
  generalize (u2.alloc (.cells #[.int .i64 0, .int .i64 0, .int .i64 0, .int .i64 0, .int .i64 0, .int .i64 0, .int .i64 0, .string ⟨#[]⟩] 29)) = u3 at *
  generalize u2.heap.size = rr at *
  clear HC2 HO2 HO1
  have HT0 : Hid (∀ u, CX u1 u b s (sA s 0).1 (sA s 0).2 → Calls Tryd.prog 27 #[.pointer (some ⟨b, 0, none⟩), .int .i64 3] u fun e w' => e = .returned (.string (sX s 0)) ∧ CX u w' b s (sA s 1).1 (sA s 1).2) := fun u hu => take_any hu.same (sA_le s 0) (by have := hsz.out; omega) 3
  have HD0 : Hid (∀ u, Calls Tryd.prog 28 #[.string (sX s 0)] u fun e w' => e = .returned (.int .i64 (nV s 0)) ∧ w' = u) := fun u => num_any (sX s 0) u (sX_le s 0)
  go_upto_region 8 with (first | (go_at_call 27; refine Calls.mono (HT0.out _ HC3.out) ?_; rintro e t0 ⟨rfl, hc⟩; have HCx : Hid (CX u1 t0 b s (sA s 1).1 (sA s 1).2) := HC3.out.on9 hc; have HOx : Hid (t0.heap[rb]? = some (.cells #[.int .i64 0, .int .i64 0, .int .i64 0, .int .i64 0, .int .i64 0, .int .i64 0, .int .i64 0, .string ⟨#[]⟩] 29 (0, 0))) := hc.keep HO3.out HN1.out.1; have HRx : Hid (t0.heap[rr]? = some (.cells #[.int .i64 0, .int .i64 0, .int .i64 0, .int .i64 0, .int .i64 0, .int .i64 0, .int .i64 0, .string ⟨#[]⟩] 29 (0, 0))) := hc.keep HR3.out HN2.out.1; clear hc; have k0 : t0.cell? ⟨rr, 1, none⟩ = some (.int .i64 0) := cel9 HRx.out 1 _ rfl; have kl := (Array.getElem?_eq_some_iff.1 HRx.out).1; have kf := frz9 HRx.out) | (go_at_call 28; refine Calls.mono (HD0.out _) ?_; rintro e v0 ⟨rfl, h9⟩; subst h9))
  have HC4 : Hid (CX u1 (v0.setCell ⟨rr, 1, none⟩ (.int .i64 (nV s 0))) b s (sA s 1).1 (sA s 1).2) := HCx.out.other HN2.out.1 HN2.out.2.2 _ _
  have HO4 : Hid ((v0.setCell ⟨rr, 1, none⟩ (.int .i64 (nV s 0))).heap[rb]? = some (.cells #[.int .i64 0, .int .i64 0, .int .i64 0, .int .i64 0, .int .i64 0, .int .i64 0, .int .i64 0, .string ⟨#[]⟩] 29 (0, 0))) := (Below.heap_setCell _ _ _ _ (by simpa using fun e => HN2.out.2.1 e.symm)).trans HOx.out
  have HR4 : Hid ((v0.setCell ⟨rr, 1, none⟩ (.int .i64 (nV s 0))).heap[rr]? = some (.cells #[.int .i64 0, .int .i64 (nV s 0), .int .i64 0, .int .i64 0, .int .i64 0, .int .i64 0, .int .i64 0, .string ⟨#[]⟩] 29 (0, 0))) := blk9 HRx.out _
  generalize (v0.setCell ⟨rr, 1, none⟩ (.int .i64 (nV s 0))) = u4 at *
  clear HCx HOx HRx k0 kl kf HC3 HO3 HR3 HT0 HD0
  have HT1 : Hid (∀ u, CX u1 u b s (sA s 1).1 (sA s 1).2 → Calls Tryd.prog 27 #[.pointer (some ⟨b, 0, none⟩), .int .i64 4] u fun e w' => e = .returned (.string (sX s 1)) ∧ CX u w' b s (sA s 2).1 (sA s 2).2) := fun u hu => take_any hu.same (sA_le s 1) (by have := hsz.out; omega) 4
  have HD1 : Hid (∀ u, Calls Tryd.prog 28 #[.string (sX s 1)] u fun e w' => e = .returned (.int .i64 (nV s 1)) ∧ w' = u) := fun u => num_any (sX s 1) u (sX_le s 1)
  go_upto_region 9 with (first | (go_at_call 27; refine Calls.mono (HT1.out _ HC4.out) ?_; rintro e t1 ⟨rfl, hc⟩; have HCx : Hid (CX u1 t1 b s (sA s 2).1 (sA s 2).2) := HC4.out.on9 hc; have HOx : Hid (t1.heap[rb]? = some (.cells #[.int .i64 0, .int .i64 0, .int .i64 0, .int .i64 0, .int .i64 0, .int .i64 0, .int .i64 0, .string ⟨#[]⟩] 29 (0, 0))) := hc.keep HO4.out HN1.out.1; have HRx : Hid (t1.heap[rr]? = some (.cells #[.int .i64 0, .int .i64 (nV s 0), .int .i64 0, .int .i64 0, .int .i64 0, .int .i64 0, .int .i64 0, .string ⟨#[]⟩] 29 (0, 0))) := hc.keep HR4.out HN2.out.1; clear hc; have k0 : t1.cell? ⟨rr, 2, none⟩ = some (.int .i64 0) := cel9 HRx.out 2 _ rfl; have kl := (Array.getElem?_eq_some_iff.1 HRx.out).1; have kf := frz9 HRx.out) | (go_at_call 28; refine Calls.mono (HD1.out _) ?_; rintro e v1 ⟨rfl, h9⟩; subst h9))
  have HC5 : Hid (CX u1 (v1.setCell ⟨rr, 2, none⟩ (.int .i64 (nV s 1))) b s (sA s 2).1 (sA s 2).2) := HCx.out.other HN2.out.1 HN2.out.2.2 _ _
  have HO5 : Hid ((v1.setCell ⟨rr, 2, none⟩ (.int .i64 (nV s 1))).heap[rb]? = some (.cells #[.int .i64 0, .int .i64 0, .int .i64 0, .int .i64 0, .int .i64 0, .int .i64 0, .int .i64 0, .string ⟨#[]⟩] 29 (0, 0))) := (Below.heap_setCell _ _ _ _ (by simpa using fun e => HN2.out.2.1 e.symm)).trans HOx.out
  have HR5 : Hid ((v1.setCell ⟨rr, 2, none⟩ (.int .i64 (nV s 1))).heap[rr]? = some (.cells #[.int .i64 0, .int .i64 (nV s 0), .int .i64 (nV s 1), .int .i64 0, .int .i64 0, .int .i64 0, .int .i64 0, .string ⟨#[]⟩] 29 (0, 0))) := blk9 HRx.out _
  generalize (v1.setCell ⟨rr, 2, none⟩ (.int .i64 (nV s 1))) = u5 at *
  clear HCx HOx HRx k0 kl kf HC4 HO4 HR4 HT1 HD1
  have HT2 : Hid (∀ u, CX u1 u b s (sA s 2).1 (sA s 2).2 → Calls Tryd.prog 27 #[.pointer (some ⟨b, 0, none⟩), .int .i64 4] u fun e w' => e = .returned (.string (sX s 2)) ∧ CX u w' b s (sA s 3).1 (sA s 3).2) := fun u hu => take_any hu.same (sA_le s 2) (by have := hsz.out; omega) 4
  have HD2 : Hid (∀ u, Calls Tryd.prog 28 #[.string (sX s 2)] u fun e w' => e = .returned (.int .i64 (nV s 2)) ∧ w' = u) := fun u => num_any (sX s 2) u (sX_le s 2)
  go_upto_region 10 with (first | (go_at_call 27; refine Calls.mono (HT2.out _ HC5.out) ?_; rintro e t2 ⟨rfl, hc⟩; have HCx : Hid (CX u1 t2 b s (sA s 3).1 (sA s 3).2) := HC5.out.on9 hc; have HOx : Hid (t2.heap[rb]? = some (.cells #[.int .i64 0, .int .i64 0, .int .i64 0, .int .i64 0, .int .i64 0, .int .i64 0, .int .i64 0, .string ⟨#[]⟩] 29 (0, 0))) := hc.keep HO5.out HN1.out.1; have HRx : Hid (t2.heap[rr]? = some (.cells #[.int .i64 0, .int .i64 (nV s 0), .int .i64 (nV s 1), .int .i64 0, .int .i64 0, .int .i64 0, .int .i64 0, .string ⟨#[]⟩] 29 (0, 0))) := hc.keep HR5.out HN2.out.1; clear hc; have k0 : t2.cell? ⟨rr, 3, none⟩ = some (.int .i64 0) := cel9 HRx.out 3 _ rfl; have kl := (Array.getElem?_eq_some_iff.1 HRx.out).1; have kf := frz9 HRx.out) | (go_at_call 28; refine Calls.mono (HD2.out _) ?_; rintro e v2 ⟨rfl, h9⟩; subst h9))
  have HC6 : Hid (CX u1 (v2.setCell ⟨rr, 3, none⟩ (.int .i64 (nV s 2))) b s (sA s 3).1 (sA s 3).2) := HCx.out.other HN2.out.1 HN2.out.2.2 _ _
  have HO6 : Hid ((v2.setCell ⟨rr, 3, none⟩ (.int .i64 (nV s 2))).heap[rb]? = some (.cells #[.int .i64 0, .int .i64 0, .int .i64 0, .int .i64 0, .int .i64 0, .int .i64 0, .int .i64 0, .string ⟨#[]⟩] 29 (0, 0))) := (Below.heap_setCell _ _ _ _ (by simpa using fun e => HN2.out.2.1 e.symm)).trans HOx.out
  have HR6 : Hid ((v2.setCell ⟨rr, 3, none⟩ (.int .i64 (nV s 2))).heap[rr]? = some (.cells #[.int .i64 0, .int .i64 (nV s 0), .int .i64 (nV s 1), .int .i64 (nV s 2), .int .i64 0, .int .i64 0, .int .i64 0, .string ⟨#[]⟩] 29 (0, 0))) := blk9 HRx.out _
  generalize (v2.setCell ⟨rr, 3, none⟩ (.int .i64 (nV s 2))) = u6 at *
  clear HCx HOx HRx k0 kl kf HC5 HO5 HR5 HT2 HD2
  have HT3 : Hid (∀ u, CX u1 u b s (sA s 3).1 (sA s 3).2 → Calls Tryd.prog 27 #[.pointer (some ⟨b, 0, none⟩), .int .i64 6] u fun e w' => e = .returned (.string (sX s 3)) ∧ CX u w' b s (sA s 4).1 (sA s 4).2) := fun u hu => take_any hu.same (sA_le s 3) (by have := hsz.out; omega) 6
  have HD3 : Hid (∀ u, Calls Tryd.prog 28 #[.string (sX s 3)] u fun e w' => e = .returned (.int .i64 (nV s 3)) ∧ w' = u) := fun u => num_any (sX s 3) u (sX_le s 3)
  go_upto_region 11 with (first | (go_at_call 27; refine Calls.mono (HT3.out _ HC6.out) ?_; rintro e t3 ⟨rfl, hc⟩; have HCx : Hid (CX u1 t3 b s (sA s 4).1 (sA s 4).2) := HC6.out.on9 hc; have HOx : Hid (t3.heap[rb]? = some (.cells #[.int .i64 0, .int .i64 0, .int .i64 0, .int .i64 0, .int .i64 0, .int .i64 0, .int .i64 0, .string ⟨#[]⟩] 29 (0, 0))) := hc.keep HO6.out HN1.out.1; have HRx : Hid (t3.heap[rr]? = some (.cells #[.int .i64 0, .int .i64 (nV s 0), .int .i64 (nV s 1), .int .i64 (nV s 2), .int .i64 0, .int .i64 0, .int .i64 0, .string ⟨#[]⟩] 29 (0, 0))) := hc.keep HR6.out HN2.out.1; clear hc; have k0 : t3.cell? ⟨rr, 4, none⟩ = some (.int .i64 0) := cel9 HRx.out 4 _ rfl; have kl := (Array.getElem?_eq_some_iff.1 HRx.out).1; have kf := frz9 HRx.out) | (go_at_call 28; refine Calls.mono (HD3.out _) ?_; rintro e v3 ⟨rfl, h9⟩; subst h9))
  have HC7 : Hid (CX u1 (v3.setCell ⟨rr, 4, none⟩ (.int .i64 (nV s 3))) b s (sA s 4).1 (sA s 4).2) := HCx.out.other HN2.out.1 HN2.out.2.2 _ _
  have HO7 : Hid ((v3.setCell ⟨rr, 4, none⟩ (.int .i64 (nV s 3))).heap[rb]? = some (.cells #[.int .i64 0, .int .i64 0, .int .i64 0, .int .i64 0, .int .i64 0, .int .i64 0, .int .i64 0, .string ⟨#[]⟩] 29 (0, 0))) := (Below.heap_setCell _ _ _ _ (by simpa using fun e => HN2.out.2.1 e.symm)).trans HOx.out
  have HR7 : Hid ((v3.setCell ⟨rr, 4, none⟩ (.int .i64 (nV s 3))).heap[rr]? = some (.cells #[.int .i64 0, .int .i64 (nV s 0), .int .i64 (nV s 1), .int .i64 (nV s 2), .int .i64 (nV s 3), .int .i64 0, .int .i64 0, .string ⟨#[]⟩] 29 (0, 0))) := blk9 HRx.out _
  generalize (v3.setCell ⟨rr, 4, none⟩ (.int .i64 (nV s 3))) = u7 at *
  clear HCx HOx HRx k0 kl kf HC6 HO6 HR6 HT3 HD3
  have HT4 : Hid (∀ u, CX u1 u b s (sA s 4).1 (sA s 4).2 → Calls Tryd.prog 27 #[.pointer (some ⟨b, 0, none⟩), .int .i64 6] u fun e w' => e = .returned (.string (sX s 4)) ∧ CX u w' b s (sA s 5).1 (sA s 5).2) := fun u hu => take_any hu.same (sA_le s 4) (by have := hsz.out; omega) 6
  have HD4 : Hid (∀ u, Calls Tryd.prog 28 #[.string (sX s 4)] u fun e w' => e = .returned (.int .i64 (nV s 4)) ∧ w' = u) := fun u => num_any (sX s 4) u (sX_le s 4)
  go_upto_region 12 with (first | (go_at_call 27; refine Calls.mono (HT4.out _ HC7.out) ?_; rintro e t4 ⟨rfl, hc⟩; have HCx : Hid (CX u1 t4 b s (sA s 5).1 (sA s 5).2) := HC7.out.on9 hc; have HOx : Hid (t4.heap[rb]? = some (.cells #[.int .i64 0, .int .i64 0, .int .i64 0, .int .i64 0, .int .i64 0, .int .i64 0, .int .i64 0, .string ⟨#[]⟩] 29 (0, 0))) := hc.keep HO7.out HN1.out.1; have HRx : Hid (t4.heap[rr]? = some (.cells #[.int .i64 0, .int .i64 (nV s 0), .int .i64 (nV s 1), .int .i64 (nV s 2), .int .i64 (nV s 3), .int .i64 0, .int .i64 0, .string ⟨#[]⟩] 29 (0, 0))) := hc.keep HR7.out HN2.out.1; clear hc; have k0 : t4.cell? ⟨rr, 5, none⟩ = some (.int .i64 0) := cel9 HRx.out 5 _ rfl; have kl := (Array.getElem?_eq_some_iff.1 HRx.out).1; have kf := frz9 HRx.out) | (go_at_call 28; refine Calls.mono (HD4.out _) ?_; rintro e v4 ⟨rfl, h9⟩; subst h9))
  have HC8 : Hid (CX u1 (v4.setCell ⟨rr, 5, none⟩ (.int .i64 (nV s 4))) b s (sA s 5).1 (sA s 5).2) := HCx.out.other HN2.out.1 HN2.out.2.2 _ _
  have HO8 : Hid ((v4.setCell ⟨rr, 5, none⟩ (.int .i64 (nV s 4))).heap[rb]? = some (.cells #[.int .i64 0, .int .i64 0, .int .i64 0, .int .i64 0, .int .i64 0, .int .i64 0, .int .i64 0, .string ⟨#[]⟩] 29 (0, 0))) := (Below.heap_setCell _ _ _ _ (by simpa using fun e => HN2.out.2.1 e.symm)).trans HOx.out
  have HR8 : Hid ((v4.setCell ⟨rr, 5, none⟩ (.int .i64 (nV s 4))).heap[rr]? = some (.cells #[.int .i64 0, .int .i64 (nV s 0), .int .i64 (nV s 1), .int .i64 (nV s 2), .int .i64 (nV s 3), .int .i64 (nV s 4), .int .i64 0, .string ⟨#[]⟩] 29 (0, 0))) := blk9 HRx.out _
  generalize (v4.setCell ⟨rr, 5, none⟩ (.int .i64 (nV s 4))) = u8 at *
  clear HCx HOx HRx k0 kl kf HC7 HO7 HR7 HT4 HD4
  have HT5 : Hid (∀ u, CX u1 u b s (sA s 5).1 (sA s 5).2 → Calls Tryd.prog 27 #[.pointer (some ⟨b, 0, none⟩), .int .i64 2] u fun e w' => e = .returned (.string (sX s 5)) ∧ CX u w' b s (sA s 6).1 (sA s 6).2) := fun u hu => take_any hu.same (sA_le s 5) (by have := hsz.out; omega) 2
  have HD5 : Hid (∀ u, Calls Tryd.prog 28 #[.string (sX s 5)] u fun e w' => e = .returned (.int .i64 (nV s 5)) ∧ w' = u) := fun u => num_any (sX s 5) u (sX_le s 5)
  go_upto_region 13 with (first | (go_at_call 27; refine Calls.mono (HT5.out _ HC8.out) ?_; rintro e t5 ⟨rfl, hc⟩; have HCx : Hid (CX u1 t5 b s (sA s 6).1 (sA s 6).2) := HC8.out.on9 hc; have HOx : Hid (t5.heap[rb]? = some (.cells #[.int .i64 0, .int .i64 0, .int .i64 0, .int .i64 0, .int .i64 0, .int .i64 0, .int .i64 0, .string ⟨#[]⟩] 29 (0, 0))) := hc.keep HO8.out HN1.out.1; have HRx : Hid (t5.heap[rr]? = some (.cells #[.int .i64 0, .int .i64 (nV s 0), .int .i64 (nV s 1), .int .i64 (nV s 2), .int .i64 (nV s 3), .int .i64 (nV s 4), .int .i64 0, .string ⟨#[]⟩] 29 (0, 0))) := hc.keep HR8.out HN2.out.1; clear hc; have k0 : t5.cell? ⟨rr, 6, none⟩ = some (.int .i64 0) := cel9 HRx.out 6 _ rfl; have kl := (Array.getElem?_eq_some_iff.1 HRx.out).1; have kf := frz9 HRx.out) | (go_at_call 28; refine Calls.mono (HD5.out _) ?_; rintro e v5 ⟨rfl, h9⟩; subst h9))
  have HC9 : Hid (CX u1 (v5.setCell ⟨rr, 6, none⟩ (.int .i64 (nV s 5))) b s (sA s 6).1 (sA s 6).2) := HCx.out.other HN2.out.1 HN2.out.2.2 _ _
  have HO9 : Hid ((v5.setCell ⟨rr, 6, none⟩ (.int .i64 (nV s 5))).heap[rb]? = some (.cells #[.int .i64 0, .int .i64 0, .int .i64 0, .int .i64 0, .int .i64 0, .int .i64 0, .int .i64 0, .string ⟨#[]⟩] 29 (0, 0))) := (Below.heap_setCell _ _ _ _ (by simpa using fun e => HN2.out.2.1 e.symm)).trans HOx.out
  have HR9 : Hid ((v5.setCell ⟨rr, 6, none⟩ (.int .i64 (nV s 5))).heap[rr]? = some (.cells #[.int .i64 0, .int .i64 (nV s 0), .int .i64 (nV s 1), .int .i64 (nV s 2), .int .i64 (nV s 3), .int .i64 (nV s 4), .int .i64 (nV s 5), .string ⟨#[]⟩] 29 (0, 0))) := blk9 HRx.out _
  generalize (v5.setCell ⟨rr, 6, none⟩ (.int .i64 (nV s 5))) = u9 at *
  clear HCx HOx HRx k0 kl kf HC8 HO8 HR8 HT5 HD5
  have HT6 : Hid (∀ u, CX u1 u b s (sA s 6).1 (sA s 6).2 → Calls Tryd.prog 27 #[.pointer (some ⟨b, 0, none⟩), .int .i64 2] u fun e w' => e = .returned (.string (sX s 6)) ∧ CX u w' b s (sA s 7).1 (sA s 7).2) := fun u hu => take_any hu.same (sA_le s 6) (by have := hsz.out; omega) 2
  have HD6 : Hid (∀ u, Calls Tryd.prog 28 #[.string (sX s 6)] u fun e w' => e = .returned (.int .i64 (nV s 6)) ∧ w' = u) := fun u => num_any (sX s 6) u (sX_le s 6)
  go_upto_region 14 with (first | (go_at_call 27; refine Calls.mono (HT6.out _ HC9.out) ?_; rintro e t6 ⟨rfl, hc⟩; have HCx : Hid (CX u1 t6 b s (sA s 7).1 (sA s 7).2) := HC9.out.on9 hc; have HOx : Hid (t6.heap[rb]? = some (.cells #[.int .i64 0, .int .i64 0, .int .i64 0, .int .i64 0, .int .i64 0, .int .i64 0, .int .i64 0, .string ⟨#[]⟩] 29 (0, 0))) := hc.keep HO9.out HN1.out.1; have HRx : Hid (t6.heap[rr]? = some (.cells #[.int .i64 0, .int .i64 (nV s 0), .int .i64 (nV s 1), .int .i64 (nV s 2), .int .i64 (nV s 3), .int .i64 (nV s 4), .int .i64 (nV s 5), .string ⟨#[]⟩] 29 (0, 0))) := hc.keep HR9.out HN2.out.1; clear hc; have k0 : t6.cell? ⟨rr, 0, none⟩ = some (.int .i64 0) := cel9 HRx.out 0 _ rfl; have kl := (Array.getElem?_eq_some_iff.1 HRx.out).1; have kf := frz9 HRx.out) | (go_at_call 28; refine Calls.mono (HD6.out _) ?_; rintro e v6 ⟨rfl, h9⟩; subst h9))
  clear k0 kl kf HC9 HO9 HR9 HT6 HD6
  have HT7 : Hid (∀ u, CX u1 u b s (sA s 7).1 (sA s 7).2 → Calls Tryd.prog 27 #[.pointer (some ⟨b, 0, none⟩), .int .i64 (nV s 6)] u fun e w' => e = .returned (.string (sT s)) ∧ CX u w' b s (sB s).1 (sB s).2) := fun u hu => by rw [← sN_eq s]; exact take_any hu.same (sA_le s 7) (by have := hsz.out; omega) (sN s)
  go_upto_region 15 with (go_at_call 27; refine Calls.mono (HT7.out _ HCx.out) ?_; rintro e t7 ⟨rfl, hc⟩; have HCy : Hid (CX u1 t7 b s (sB s).1 (sB s).2) := HCx.out.on9 hc; have HOy : Hid (t7.heap[rb]? = some (.cells #[.int .i64 0, .int .i64 0, .int .i64 0, .int .i64 0, .int .i64 0, .int .i64 0, .int .i64 0, .string ⟨#[]⟩] 29 (0, 0))) := hc.keep HOx.out HN1.out.1; have HRy : Hid (t7.heap[rr]? = some (.cells #[.int .i64 0, .int .i64 (nV s 0), .int .i64 (nV s 1), .int .i64 (nV s 2), .int .i64 (nV s 3), .int .i64 (nV s 4), .int .i64 (nV s 5), .string ⟨#[]⟩] 29 (0, 0))) := hc.keep HRx.out HN2.out.1; clear hc; have k0 : t7.cell? ⟨rr, 7, none⟩ = some (.string ⟨#[]⟩) := cel9 HRy.out 7 _ rfl; have kl := (Array.getElem?_eq_some_iff.1 HRy.out).1; have kf := frz9 HRy.out)
  have HC10 : Hid (CX u1 (t7.setCell ⟨rr, 7, none⟩ (.string (sT s))) b s (sB s).1 (sB s).2) := HCy.out.other HN2.out.1 HN2.out.2.2 _ _
  have HO10 : Hid ((t7.setCell ⟨rr, 7, none⟩ (.string (sT s))).heap[rb]? = some (.cells #[.int .i64 0, .int .i64 0, .int .i64 0, .int .i64 0, .int .i64 0, .int .i64 0, .int .i64 0, .string ⟨#[]⟩] 29 (0, 0))) := (Below.heap_setCell _ _ _ _ (by simpa using fun e => HN2.out.2.1 e.symm)).trans HOy.out
  have HR10 : Hid ((t7.setCell ⟨rr, 7, none⟩ (.string (sT s))).heap[rr]? = some (.cells #[.int .i64 0, .int .i64 (nV s 0), .int .i64 (nV s 1), .int .i64 (nV s 2), .int .i64 (nV s 3), .int .i64 (nV s 4), .int .i64 (nV s 5), .string (sT s)] 29 (0, 0))) := blk9 HRy.out _
  generalize (t7.setCell ⟨rr, 7, none⟩ (.string (sT s))) = u10 at *
  clear HCx HOx HRx HCy HOy HRy k0 kl kf HT7
  obtain ⟨c0, c1, c2⟩ := HC10.out.cel
  have cl := HC10.out.lt
  go_upto_region 16 with fail
  clear c0 c1 c2 cl
  have HWD : Hid (Calls Tryd.prog 29 #[.pointer (some ⟨b, 0, none⟩)] u10 fun e w' => e = .returned (.int .i64 (sW s)) ∧ CX u10 w' b s (sC s).1 (sC s).2) := word_any HC10.out.same (sB_le s) (by have := hsz.out; omega)
  go_upto_region 17 with (go_at_call 29; refine Calls.mono HWD.out ?_; rintro e u11 ⟨rfl, hc⟩; have HC9 : Hid (CX u1 u11 b s (sC s).1 (sC s).2) := HC10.out.on9 hc; have HO9 : Hid (u11.heap[rb]? = some (.cells #[.int .i64 0, .int .i64 0, .int .i64 0, .int .i64 0, .int .i64 0, .int .i64 0, .int .i64 0, .string ⟨#[]⟩] 29 (0, 0))) := hc.keep HO10.out HN1.out.1; have HR9 : Hid (u11.heap[rr]? = some (.cells #[.int .i64 0, .int .i64 (nV s 0), .int .i64 (nV s 1), .int .i64 (nV s 2), .int .i64 (nV s 3), .int .i64 (nV s 4), .int .i64 (nV s 5), .string (sT s)] 29 (0, 0))) := hc.keep HR10.out HN2.out.1; clear hc)
  clear HWD HC10 HO10 HR10
  have HB9 : Hid (Below w.heap.size w u11) := HB1.out.grown HC9.out.gr HB1.out.size (fun j hj => by injection hj with hj; have := HN1.out.2; omega)
  obtain ⟨c0, c1, c2⟩ := HC9.out.cel
  have cl := HC9.out.lt
  obtain ⟨g0, g1, g2, g3, g4, g5, g6, g7⟩ := eightV HO9.out
  have gf := frz9 HO9.out
  have gl := (Array.getElem?_eq_some_iff.1 HO9.out).1
  obtain ⟨d0, d1, d2, d3, d4, d5, d6, d7⟩ := eightV HR9.out
  have df := frz9 HR9.out
  have dl := (Array.getElem?_eq_some_iff.1 HR9.out).1
  rw [H1.out] at c2
  have h2 := H2.out
  go_wp2
  have hbx := putV_box HO9.out (.int .i64 3) (.int .i64 0) (.int .i64 0) (.int .i64 0) (.int .i64 0) (.int .i64 0) (.int .i64 0) (.string ⟨#[]⟩)
  have hbf := putV_bel (p := rb) HB9.out (by have := HRB.out; omega) (.int .i64 3) (.int .i64 0) (.int .i64 0) (.int .i64 0) (.int .i64 0) (.int .i64 0) (.int .i64 0) (.string ⟨#[]⟩)
  refine bodyPost_ret (v := .agg #[.int .i64 3, .int .i64 0, .int .i64 0, .int .i64 0, .int .i64 0, .int .i64 0, .int .i64 0, .string ⟨#[]⟩]) ?_ rfl ⟨rfl, hbf⟩
  obtain ⟨f0, f1, f2, f3, f4, f5, f6, f7⟩ := eightV hbx
  simp only [putV] at f0 f1 f2 f3 f4 f5 f6 f7
  simp [results, Tryd.results9, go_sem, f0, f1, f2, f3, f4, f5, f6, f7]
set_option maxRecDepth 100000 in
set_option maxHeartbeats 16000000 in
theorem sw_c {s : ByteArray} (w : World) (hs : s.size ≤ 2000) (hm : ((cX s (0, false) 2).toList == [78, 86]) = true) (h1 : (sC s).2 = false) (h2 : ¬ 1500 < nV s 6) (h3 : (sC s).1 < s.size) : Calls Tryd.prog 9 #[.string s] w fun e w' => e = .returned (.agg (uwZ s)) ∧ Below w.heap.size w w' := by
  have e : uwZ s = #[.int .i64 3, .int .i64 0, .int .i64 0, .int .i64 0, .int .i64 0, .int .i64 0, .int .i64 0, .string ⟨#[]⟩] := by unfold uwZ; rw [if_neg (by omega), if_neg (by rw [hm]; simp), if_neg (by rw [h1]; simp), if_neg h2, if_pos h3]; rfl
  rw [e]
  clear e
  have H1 : Hid ((sC s).2 = false) := h1
  clear h1
  have H2 : Hid (¬ 1500 < nV s 6) := h2
  clear h2
  have H3 : Hid (((sC s).1 : Int) < (s.size : Int)) := (show ((sC s).1 : Int) < (s.size : Int) by omega)
  clear h3
  have hq : ¬ (2000 : Int) < (s.size : Int) := by omega
  have hsz : Hid (s.size ≤ 2000) := hs
  have hmk : Hid (((cX s (0, false) 2).toList == [78, 86]) = true) := hm
  clear hs
  have H0 : Hid (Below w.heap.size w (w.alloc (.cells #[.int .i64 0, .int .i64 0, .int .i64 0, .int .i64 0, .int .i64 0, .int .i64 0, .int .i64 0, .string ⟨#[]⟩] 29))) := bx1 _ _
  have HO0 : Hid ((w.alloc (.cells #[.int .i64 0, .int .i64 0, .int .i64 0, .int .i64 0, .int .i64 0, .int .i64 0, .int .i64 0, .string ⟨#[]⟩] 29)).heap[w.heap.size]? = some (.cells #[.int .i64 0, .int .i64 0, .int .i64 0, .int .i64 0, .int .i64 0, .int .i64 0, .int .i64 0, .string ⟨#[]⟩] 29 (0, 0))) := heap_new _ _
  go_enter Tryd.func9, Tryd.ntmps9
  go_upto_region 1 with fail
  generalize (w.alloc (.cells #[.int .i64 0, .int .i64 0, .int .i64 0, .int .i64 0, .int .i64 0, .int .i64 0, .int .i64 0, .string ⟨#[]⟩] 29)) = u0 at *
  generalize hrb : w.heap.size = rb at HO0 ⊢
  have HRB : Hid (w.heap.size = rb) := hrb
  clear hrb
  go_upto_region 3 with fail
  clear hq
  go_upto_region 4 with fail
  have HC1 : Hid (CX (u0.alloc (.cells #[.string s, .int .i64 0, .bool false] 60)) (u0.alloc (.cells #[.string s, .int .i64 0, .bool false] 60)) u0.heap.size s 0 false) := ⟨heap_new _ _, gb_rf _ _⟩
  have HB1 : Hid (Below w.heap.size w (u0.alloc (.cells #[.string s, .int .i64 0, .bool false] 60))) := H0.out.trans ((bx1 _ _).mono H0.out.size)
  have HO1 : Hid ((u0.alloc (.cells #[.string s, .int .i64 0, .bool false] 60)).heap[rb]? = some (.cells #[.int .i64 0, .int .i64 0, .int .i64 0, .int .i64 0, .int .i64 0, .int .i64 0, .int .i64 0, .string ⟨#[]⟩] 29 (0, 0))) := ((bx1 _ _).block _ (Array.getElem?_eq_some_iff.1 HO0.out).1).trans HO0.out
  have HN1 : Hid (rb ≠ u0.heap.size ∧ w.heap.size ≤ u0.heap.size) := ⟨by have := (Array.getElem?_eq_some_iff.1 HO0.out).1; omega, H0.out.size⟩
  clear H0 HO0
  generalize (u0.alloc (.cells #[.string s, .int .i64 0, .bool false] 60)) = u1 at *
  generalize u0.heap.size = b at *
  have HM : Hid (Calls Tryd.prog 27 #[.pointer (some ⟨b, 0, none⟩), .int .i64 2] u1 fun e w' => e = .returned (.string (cX s (0, false) 2)) ∧ CX u1 w' b s (sA s 0).1 (sA s 0).2) := take_any (st := (0, false)) HC1.out (Nat.zero_le _) (by have := hsz.out; omega) 2
  clear hmk
  generalize cX s (0, false) 2 = x at *
  go_upto_region 6 with (go_at_call 27; refine Calls.mono HM.out ?_; rintro e u2 ⟨rfl, hc⟩; have HC2 : Hid (CX u1 u2 b s (sA s 0).1 (sA s 0).2) := hc; have HO2 : Hid (u2.heap[rb]? = some (.cells #[.int .i64 0, .int .i64 0, .int .i64 0, .int .i64 0, .int .i64 0, .int .i64 0, .int .i64 0, .string ⟨#[]⟩] 29 (0, 0))) := hc.keep HO1.out HN1.out.1; clear hc)
  clear hm
  go_upto_region 7 with fail
  have HN2 : Hid (u2.heap.size ≠ b ∧ u2.heap.size ≠ rb ∧ u1.heap.size ≤ u2.heap.size) := ⟨by have := HC2.out.lt; omega, by have := (Array.getElem?_eq_some_iff.1 HO2.out).1; omega, HC2.out.gr.size⟩
  have HC3 : Hid (CX u1 (u2.alloc (.cells #[.int .i64 0, .int .i64 0, .int .i64 0, .int .i64 0, .int .i64 0, .int .i64 0, .int .i64 0, .string ⟨#[]⟩] 29)) b s (sA s 0).1 (sA s 0).2) := HC2.out.below (bx1 _ _)
  have HO3 : Hid ((u2.alloc (.cells #[.int .i64 0, .int .i64 0, .int .i64 0, .int .i64 0, .int .i64 0, .int .i64 0, .int .i64 0, .string ⟨#[]⟩] 29)).heap[rb]? = some (.cells #[.int .i64 0, .int .i64 0, .int .i64 0, .int .i64 0, .int .i64 0, .int .i64 0, .int .i64 0, .string ⟨#[]⟩] 29 (0, 0))) := ((bx1 _ _).block _ (Array.getElem?_eq_some_iff.1 HO2.out).1).trans HO2.out
  have HR3 : Hid ((u2.alloc (.cells #[.int .i64 0, .int .i64 0, .int .i64 0, .int .i64 0, .int .i64 0, .int .i64 0, .int .i64 0, .string ⟨#[]⟩] 29)).heap[u2.heap.size]? = some (.cells #[.int .i64 0, .int .i64 0, .int .i64 0, .int .i64 0, .int .i64 0, .int .i64 0, .int .i64 0, .string ⟨#[]⟩] 29 (0, 0))) := heap_new _ _
  generalize (u2.alloc (.cells #[.int .i64 0, .int .i64 0, .int .i64 0, .int .i64 0, .int .i64 0, .int .i64 0, .int .i64 0, .string ⟨#[]⟩] 29)) = u3 at *
  generalize u2.heap.size = rr at *
  clear HC2 HO2 HO1
  have HT0 : Hid (∀ u, CX u1 u b s (sA s 0).1 (sA s 0).2 → Calls Tryd.prog 27 #[.pointer (some ⟨b, 0, none⟩), .int .i64 3] u fun e w' => e = .returned (.string (sX s 0)) ∧ CX u w' b s (sA s 1).1 (sA s 1).2) := fun u hu => take_any hu.same (sA_le s 0) (by have := hsz.out; omega) 3
  have HD0 : Hid (∀ u, Calls Tryd.prog 28 #[.string (sX s 0)] u fun e w' => e = .returned (.int .i64 (nV s 0)) ∧ w' = u) := fun u => num_any (sX s 0) u (sX_le s 0)
  go_upto_region 8 with (first | (go_at_call 27; refine Calls.mono (HT0.out _ HC3.out) ?_; rintro e t0 ⟨rfl, hc⟩; have HCx : Hid (CX u1 t0 b s (sA s 1).1 (sA s 1).2) := HC3.out.on9 hc; have HOx : Hid (t0.heap[rb]? = some (.cells #[.int .i64 0, .int .i64 0, .int .i64 0, .int .i64 0, .int .i64 0, .int .i64 0, .int .i64 0, .string ⟨#[]⟩] 29 (0, 0))) := hc.keep HO3.out HN1.out.1; have HRx : Hid (t0.heap[rr]? = some (.cells #[.int .i64 0, .int .i64 0, .int .i64 0, .int .i64 0, .int .i64 0, .int .i64 0, .int .i64 0, .string ⟨#[]⟩] 29 (0, 0))) := hc.keep HR3.out HN2.out.1; clear hc; have k0 : t0.cell? ⟨rr, 1, none⟩ = some (.int .i64 0) := cel9 HRx.out 1 _ rfl; have kl := (Array.getElem?_eq_some_iff.1 HRx.out).1; have kf := frz9 HRx.out) | (go_at_call 28; refine Calls.mono (HD0.out _) ?_; rintro e v0 ⟨rfl, h9⟩; subst h9))
  have HC4 : Hid (CX u1 (v0.setCell ⟨rr, 1, none⟩ (.int .i64 (nV s 0))) b s (sA s 1).1 (sA s 1).2) := HCx.out.other HN2.out.1 HN2.out.2.2 _ _
  have HO4 : Hid ((v0.setCell ⟨rr, 1, none⟩ (.int .i64 (nV s 0))).heap[rb]? = some (.cells #[.int .i64 0, .int .i64 0, .int .i64 0, .int .i64 0, .int .i64 0, .int .i64 0, .int .i64 0, .string ⟨#[]⟩] 29 (0, 0))) := (Below.heap_setCell _ _ _ _ (by simpa using fun e => HN2.out.2.1 e.symm)).trans HOx.out
  have HR4 : Hid ((v0.setCell ⟨rr, 1, none⟩ (.int .i64 (nV s 0))).heap[rr]? = some (.cells #[.int .i64 0, .int .i64 (nV s 0), .int .i64 0, .int .i64 0, .int .i64 0, .int .i64 0, .int .i64 0, .string ⟨#[]⟩] 29 (0, 0))) := blk9 HRx.out _
  generalize (v0.setCell ⟨rr, 1, none⟩ (.int .i64 (nV s 0))) = u4 at *
  clear HCx HOx HRx k0 kl kf HC3 HO3 HR3 HT0 HD0
  have HT1 : Hid (∀ u, CX u1 u b s (sA s 1).1 (sA s 1).2 → Calls Tryd.prog 27 #[.pointer (some ⟨b, 0, none⟩), .int .i64 4] u fun e w' => e = .returned (.string (sX s 1)) ∧ CX u w' b s (sA s 2).1 (sA s 2).2) := fun u hu => take_any hu.same (sA_le s 1) (by have := hsz.out; omega) 4
  have HD1 : Hid (∀ u, Calls Tryd.prog 28 #[.string (sX s 1)] u fun e w' => e = .returned (.int .i64 (nV s 1)) ∧ w' = u) := fun u => num_any (sX s 1) u (sX_le s 1)
  go_upto_region 9 with (first | (go_at_call 27; refine Calls.mono (HT1.out _ HC4.out) ?_; rintro e t1 ⟨rfl, hc⟩; have HCx : Hid (CX u1 t1 b s (sA s 2).1 (sA s 2).2) := HC4.out.on9 hc; have HOx : Hid (t1.heap[rb]? = some (.cells #[.int .i64 0, .int .i64 0, .int .i64 0, .int .i64 0, .int .i64 0, .int .i64 0, .int .i64 0, .string ⟨#[]⟩] 29 (0, 0))) := hc.keep HO4.out HN1.out.1; have HRx : Hid (t1.heap[rr]? = some (.cells #[.int .i64 0, .int .i64 (nV s 0), .int .i64 0, .int .i64 0, .int .i64 0, .int .i64 0, .int .i64 0, .string ⟨#[]⟩] 29 (0, 0))) := hc.keep HR4.out HN2.out.1; clear hc; have k0 : t1.cell? ⟨rr, 2, none⟩ = some (.int .i64 0) := cel9 HRx.out 2 _ rfl; have kl := (Array.getElem?_eq_some_iff.1 HRx.out).1; have kf := frz9 HRx.out) | (go_at_call 28; refine Calls.mono (HD1.out _) ?_; rintro e v1 ⟨rfl, h9⟩; subst h9))
  have HC5 : Hid (CX u1 (v1.setCell ⟨rr, 2, none⟩ (.int .i64 (nV s 1))) b s (sA s 2).1 (sA s 2).2) := HCx.out.other HN2.out.1 HN2.out.2.2 _ _
  have HO5 : Hid ((v1.setCell ⟨rr, 2, none⟩ (.int .i64 (nV s 1))).heap[rb]? = some (.cells #[.int .i64 0, .int .i64 0, .int .i64 0, .int .i64 0, .int .i64 0, .int .i64 0, .int .i64 0, .string ⟨#[]⟩] 29 (0, 0))) := (Below.heap_setCell _ _ _ _ (by simpa using fun e => HN2.out.2.1 e.symm)).trans HOx.out
  have HR5 : Hid ((v1.setCell ⟨rr, 2, none⟩ (.int .i64 (nV s 1))).heap[rr]? = some (.cells #[.int .i64 0, .int .i64 (nV s 0), .int .i64 (nV s 1), .int .i64 0, .int .i64 0, .int .i64 0, .int .i64 0, .string ⟨#[]⟩] 29 (0, 0))) := blk9 HRx.out _
  generalize (v1.setCell ⟨rr, 2, none⟩ (.int .i64 (nV s 1))) = u5 at *
  clear HCx HOx HRx k0 kl kf HC4 HO4 HR4 HT1 HD1
  have HT2 : Hid (∀ u, CX u1 u b s (sA s 2).1 (sA s 2).2 → Calls Tryd.prog 27 #[.pointer (some ⟨b, 0, none⟩), .int .i64 4] u fun e w' => e = .returned (.string (sX s 2)) ∧ CX u w' b s (sA s 3).1 (sA s 3).2) := fun u hu => take_any hu.same (sA_le s 2) (by have := hsz.out; omega) 4
  have HD2 : Hid (∀ u, Calls Tryd.prog 28 #[.string (sX s 2)] u fun e w' => e = .returned (.int .i64 (nV s 2)) ∧ w' = u) := fun u => num_any (sX s 2) u (sX_le s 2)
  go_upto_region 10 with (first | (go_at_call 27; refine Calls.mono (HT2.out _ HC5.out) ?_; rintro e t2 ⟨rfl, hc⟩; have HCx : Hid (CX u1 t2 b s (sA s 3).1 (sA s 3).2) := HC5.out.on9 hc; have HOx : Hid (t2.heap[rb]? = some (.cells #[.int .i64 0, .int .i64 0, .int .i64 0, .int .i64 0, .int .i64 0, .int .i64 0, .int .i64 0, .string ⟨#[]⟩] 29 (0, 0))) := hc.keep HO5.out HN1.out.1; have HRx : Hid (t2.heap[rr]? = some (.cells #[.int .i64 0, .int .i64 (nV s 0), .int .i64 (nV s 1), .int .i64 0, .int .i64 0, .int .i64 0, .int .i64 0, .string ⟨#[]⟩] 29 (0, 0))) := hc.keep HR5.out HN2.out.1; clear hc; have k0 : t2.cell? ⟨rr, 3, none⟩ = some (.int .i64 0) := cel9 HRx.out 3 _ rfl; have kl := (Array.getElem?_eq_some_iff.1 HRx.out).1; have kf := frz9 HRx.out) | (go_at_call 28; refine Calls.mono (HD2.out _) ?_; rintro e v2 ⟨rfl, h9⟩; subst h9))
  have HC6 : Hid (CX u1 (v2.setCell ⟨rr, 3, none⟩ (.int .i64 (nV s 2))) b s (sA s 3).1 (sA s 3).2) := HCx.out.other HN2.out.1 HN2.out.2.2 _ _
  have HO6 : Hid ((v2.setCell ⟨rr, 3, none⟩ (.int .i64 (nV s 2))).heap[rb]? = some (.cells #[.int .i64 0, .int .i64 0, .int .i64 0, .int .i64 0, .int .i64 0, .int .i64 0, .int .i64 0, .string ⟨#[]⟩] 29 (0, 0))) := (Below.heap_setCell _ _ _ _ (by simpa using fun e => HN2.out.2.1 e.symm)).trans HOx.out
  have HR6 : Hid ((v2.setCell ⟨rr, 3, none⟩ (.int .i64 (nV s 2))).heap[rr]? = some (.cells #[.int .i64 0, .int .i64 (nV s 0), .int .i64 (nV s 1), .int .i64 (nV s 2), .int .i64 0, .int .i64 0, .int .i64 0, .string ⟨#[]⟩] 29 (0, 0))) := blk9 HRx.out _
  generalize (v2.setCell ⟨rr, 3, none⟩ (.int .i64 (nV s 2))) = u6 at *
  clear HCx HOx HRx k0 kl kf HC5 HO5 HR5 HT2 HD2
  have HT3 : Hid (∀ u, CX u1 u b s (sA s 3).1 (sA s 3).2 → Calls Tryd.prog 27 #[.pointer (some ⟨b, 0, none⟩), .int .i64 6] u fun e w' => e = .returned (.string (sX s 3)) ∧ CX u w' b s (sA s 4).1 (sA s 4).2) := fun u hu => take_any hu.same (sA_le s 3) (by have := hsz.out; omega) 6
  have HD3 : Hid (∀ u, Calls Tryd.prog 28 #[.string (sX s 3)] u fun e w' => e = .returned (.int .i64 (nV s 3)) ∧ w' = u) := fun u => num_any (sX s 3) u (sX_le s 3)
  go_upto_region 11 with (first | (go_at_call 27; refine Calls.mono (HT3.out _ HC6.out) ?_; rintro e t3 ⟨rfl, hc⟩; have HCx : Hid (CX u1 t3 b s (sA s 4).1 (sA s 4).2) := HC6.out.on9 hc; have HOx : Hid (t3.heap[rb]? = some (.cells #[.int .i64 0, .int .i64 0, .int .i64 0, .int .i64 0, .int .i64 0, .int .i64 0, .int .i64 0, .string ⟨#[]⟩] 29 (0, 0))) := hc.keep HO6.out HN1.out.1; have HRx : Hid (t3.heap[rr]? = some (.cells #[.int .i64 0, .int .i64 (nV s 0), .int .i64 (nV s 1), .int .i64 (nV s 2), .int .i64 0, .int .i64 0, .int .i64 0, .string ⟨#[]⟩] 29 (0, 0))) := hc.keep HR6.out HN2.out.1; clear hc; have k0 : t3.cell? ⟨rr, 4, none⟩ = some (.int .i64 0) := cel9 HRx.out 4 _ rfl; have kl := (Array.getElem?_eq_some_iff.1 HRx.out).1; have kf := frz9 HRx.out) | (go_at_call 28; refine Calls.mono (HD3.out _) ?_; rintro e v3 ⟨rfl, h9⟩; subst h9))
  have HC7 : Hid (CX u1 (v3.setCell ⟨rr, 4, none⟩ (.int .i64 (nV s 3))) b s (sA s 4).1 (sA s 4).2) := HCx.out.other HN2.out.1 HN2.out.2.2 _ _
  have HO7 : Hid ((v3.setCell ⟨rr, 4, none⟩ (.int .i64 (nV s 3))).heap[rb]? = some (.cells #[.int .i64 0, .int .i64 0, .int .i64 0, .int .i64 0, .int .i64 0, .int .i64 0, .int .i64 0, .string ⟨#[]⟩] 29 (0, 0))) := (Below.heap_setCell _ _ _ _ (by simpa using fun e => HN2.out.2.1 e.symm)).trans HOx.out
  have HR7 : Hid ((v3.setCell ⟨rr, 4, none⟩ (.int .i64 (nV s 3))).heap[rr]? = some (.cells #[.int .i64 0, .int .i64 (nV s 0), .int .i64 (nV s 1), .int .i64 (nV s 2), .int .i64 (nV s 3), .int .i64 0, .int .i64 0, .string ⟨#[]⟩] 29 (0, 0))) := blk9 HRx.out _
  generalize (v3.setCell ⟨rr, 4, none⟩ (.int .i64 (nV s 3))) = u7 at *
  clear HCx HOx HRx k0 kl kf HC6 HO6 HR6 HT3 HD3
  have HT4 : Hid (∀ u, CX u1 u b s (sA s 4).1 (sA s 4).2 → Calls Tryd.prog 27 #[.pointer (some ⟨b, 0, none⟩), .int .i64 6] u fun e w' => e = .returned (.string (sX s 4)) ∧ CX u w' b s (sA s 5).1 (sA s 5).2) := fun u hu => take_any hu.same (sA_le s 4) (by have := hsz.out; omega) 6
  have HD4 : Hid (∀ u, Calls Tryd.prog 28 #[.string (sX s 4)] u fun e w' => e = .returned (.int .i64 (nV s 4)) ∧ w' = u) := fun u => num_any (sX s 4) u (sX_le s 4)
  go_upto_region 12 with (first | (go_at_call 27; refine Calls.mono (HT4.out _ HC7.out) ?_; rintro e t4 ⟨rfl, hc⟩; have HCx : Hid (CX u1 t4 b s (sA s 5).1 (sA s 5).2) := HC7.out.on9 hc; have HOx : Hid (t4.heap[rb]? = some (.cells #[.int .i64 0, .int .i64 0, .int .i64 0, .int .i64 0, .int .i64 0, .int .i64 0, .int .i64 0, .string ⟨#[]⟩] 29 (0, 0))) := hc.keep HO7.out HN1.out.1; have HRx : Hid (t4.heap[rr]? = some (.cells #[.int .i64 0, .int .i64 (nV s 0), .int .i64 (nV s 1), .int .i64 (nV s 2), .int .i64 (nV s 3), .int .i64 0, .int .i64 0, .string ⟨#[]⟩] 29 (0, 0))) := hc.keep HR7.out HN2.out.1; clear hc; have k0 : t4.cell? ⟨rr, 5, none⟩ = some (.int .i64 0) := cel9 HRx.out 5 _ rfl; have kl := (Array.getElem?_eq_some_iff.1 HRx.out).1; have kf := frz9 HRx.out) | (go_at_call 28; refine Calls.mono (HD4.out _) ?_; rintro e v4 ⟨rfl, h9⟩; subst h9))
  have HC8 : Hid (CX u1 (v4.setCell ⟨rr, 5, none⟩ (.int .i64 (nV s 4))) b s (sA s 5).1 (sA s 5).2) := HCx.out.other HN2.out.1 HN2.out.2.2 _ _
  have HO8 : Hid ((v4.setCell ⟨rr, 5, none⟩ (.int .i64 (nV s 4))).heap[rb]? = some (.cells #[.int .i64 0, .int .i64 0, .int .i64 0, .int .i64 0, .int .i64 0, .int .i64 0, .int .i64 0, .string ⟨#[]⟩] 29 (0, 0))) := (Below.heap_setCell _ _ _ _ (by simpa using fun e => HN2.out.2.1 e.symm)).trans HOx.out
  have HR8 : Hid ((v4.setCell ⟨rr, 5, none⟩ (.int .i64 (nV s 4))).heap[rr]? = some (.cells #[.int .i64 0, .int .i64 (nV s 0), .int .i64 (nV s 1), .int .i64 (nV s 2), .int .i64 (nV s 3), .int .i64 (nV s 4), .int .i64 0, .string ⟨#[]⟩] 29 (0, 0))) := blk9 HRx.out _
  generalize (v4.setCell ⟨rr, 5, none⟩ (.int .i64 (nV s 4))) = u8 at *
  clear HCx HOx HRx k0 kl kf HC7 HO7 HR7 HT4 HD4
  have HT5 : Hid (∀ u, CX u1 u b s (sA s 5).1 (sA s 5).2 → Calls Tryd.prog 27 #[.pointer (some ⟨b, 0, none⟩), .int .i64 2] u fun e w' => e = .returned (.string (sX s 5)) ∧ CX u w' b s (sA s 6).1 (sA s 6).2) := fun u hu => take_any hu.same (sA_le s 5) (by have := hsz.out; omega) 2
  have HD5 : Hid (∀ u, Calls Tryd.prog 28 #[.string (sX s 5)] u fun e w' => e = .returned (.int .i64 (nV s 5)) ∧ w' = u) := fun u => num_any (sX s 5) u (sX_le s 5)
  go_upto_region 13 with (first | (go_at_call 27; refine Calls.mono (HT5.out _ HC8.out) ?_; rintro e t5 ⟨rfl, hc⟩; have HCx : Hid (CX u1 t5 b s (sA s 6).1 (sA s 6).2) := HC8.out.on9 hc; have HOx : Hid (t5.heap[rb]? = some (.cells #[.int .i64 0, .int .i64 0, .int .i64 0, .int .i64 0, .int .i64 0, .int .i64 0, .int .i64 0, .string ⟨#[]⟩] 29 (0, 0))) := hc.keep HO8.out HN1.out.1; have HRx : Hid (t5.heap[rr]? = some (.cells #[.int .i64 0, .int .i64 (nV s 0), .int .i64 (nV s 1), .int .i64 (nV s 2), .int .i64 (nV s 3), .int .i64 (nV s 4), .int .i64 0, .string ⟨#[]⟩] 29 (0, 0))) := hc.keep HR8.out HN2.out.1; clear hc; have k0 : t5.cell? ⟨rr, 6, none⟩ = some (.int .i64 0) := cel9 HRx.out 6 _ rfl; have kl := (Array.getElem?_eq_some_iff.1 HRx.out).1; have kf := frz9 HRx.out) | (go_at_call 28; refine Calls.mono (HD5.out _) ?_; rintro e v5 ⟨rfl, h9⟩; subst h9))
  have HC9 : Hid (CX u1 (v5.setCell ⟨rr, 6, none⟩ (.int .i64 (nV s 5))) b s (sA s 6).1 (sA s 6).2) := HCx.out.other HN2.out.1 HN2.out.2.2 _ _
  have HO9 : Hid ((v5.setCell ⟨rr, 6, none⟩ (.int .i64 (nV s 5))).heap[rb]? = some (.cells #[.int .i64 0, .int .i64 0, .int .i64 0, .int .i64 0, .int .i64 0, .int .i64 0, .int .i64 0, .string ⟨#[]⟩] 29 (0, 0))) := (Below.heap_setCell _ _ _ _ (by simpa using fun e => HN2.out.2.1 e.symm)).trans HOx.out
  have HR9 : Hid ((v5.setCell ⟨rr, 6, none⟩ (.int .i64 (nV s 5))).heap[rr]? = some (.cells #[.int .i64 0, .int .i64 (nV s 0), .int .i64 (nV s 1), .int .i64 (nV s 2), .int .i64 (nV s 3), .int .i64 (nV s 4), .int .i64 (nV s 5), .string ⟨#[]⟩] 29 (0, 0))) := blk9 HRx.out _
  generalize (v5.setCell ⟨rr, 6, none⟩ (.int .i64 (nV s 5))) = u9 at *
  clear HCx HOx HRx k0 kl kf HC8 HO8 HR8 HT5 HD5
  have HT6 : Hid (∀ u, CX u1 u b s (sA s 6).1 (sA s 6).2 → Calls Tryd.prog 27 #[.pointer (some ⟨b, 0, none⟩), .int .i64 2] u fun e w' => e = .returned (.string (sX s 6)) ∧ CX u w' b s (sA s 7).1 (sA s 7).2) := fun u hu => take_any hu.same (sA_le s 6) (by have := hsz.out; omega) 2
  have HD6 : Hid (∀ u, Calls Tryd.prog 28 #[.string (sX s 6)] u fun e w' => e = .returned (.int .i64 (nV s 6)) ∧ w' = u) := fun u => num_any (sX s 6) u (sX_le s 6)
  go_upto_region 14 with (first | (go_at_call 27; refine Calls.mono (HT6.out _ HC9.out) ?_; rintro e t6 ⟨rfl, hc⟩; have HCx : Hid (CX u1 t6 b s (sA s 7).1 (sA s 7).2) := HC9.out.on9 hc; have HOx : Hid (t6.heap[rb]? = some (.cells #[.int .i64 0, .int .i64 0, .int .i64 0, .int .i64 0, .int .i64 0, .int .i64 0, .int .i64 0, .string ⟨#[]⟩] 29 (0, 0))) := hc.keep HO9.out HN1.out.1; have HRx : Hid (t6.heap[rr]? = some (.cells #[.int .i64 0, .int .i64 (nV s 0), .int .i64 (nV s 1), .int .i64 (nV s 2), .int .i64 (nV s 3), .int .i64 (nV s 4), .int .i64 (nV s 5), .string ⟨#[]⟩] 29 (0, 0))) := hc.keep HR9.out HN2.out.1; clear hc; have k0 : t6.cell? ⟨rr, 0, none⟩ = some (.int .i64 0) := cel9 HRx.out 0 _ rfl; have kl := (Array.getElem?_eq_some_iff.1 HRx.out).1; have kf := frz9 HRx.out) | (go_at_call 28; refine Calls.mono (HD6.out _) ?_; rintro e v6 ⟨rfl, h9⟩; subst h9))
  clear k0 kl kf HC9 HO9 HR9 HT6 HD6
  have HT7 : Hid (∀ u, CX u1 u b s (sA s 7).1 (sA s 7).2 → Calls Tryd.prog 27 #[.pointer (some ⟨b, 0, none⟩), .int .i64 (nV s 6)] u fun e w' => e = .returned (.string (sT s)) ∧ CX u w' b s (sB s).1 (sB s).2) := fun u hu => by rw [← sN_eq s]; exact take_any hu.same (sA_le s 7) (by have := hsz.out; omega) (sN s)
  go_upto_region 15 with (go_at_call 27; refine Calls.mono (HT7.out _ HCx.out) ?_; rintro e t7 ⟨rfl, hc⟩; have HCy : Hid (CX u1 t7 b s (sB s).1 (sB s).2) := HCx.out.on9 hc; have HOy : Hid (t7.heap[rb]? = some (.cells #[.int .i64 0, .int .i64 0, .int .i64 0, .int .i64 0, .int .i64 0, .int .i64 0, .int .i64 0, .string ⟨#[]⟩] 29 (0, 0))) := hc.keep HOx.out HN1.out.1; have HRy : Hid (t7.heap[rr]? = some (.cells #[.int .i64 0, .int .i64 (nV s 0), .int .i64 (nV s 1), .int .i64 (nV s 2), .int .i64 (nV s 3), .int .i64 (nV s 4), .int .i64 (nV s 5), .string ⟨#[]⟩] 29 (0, 0))) := hc.keep HRx.out HN2.out.1; clear hc; have k0 : t7.cell? ⟨rr, 7, none⟩ = some (.string ⟨#[]⟩) := cel9 HRy.out 7 _ rfl; have kl := (Array.getElem?_eq_some_iff.1 HRy.out).1; have kf := frz9 HRy.out)
  have HC10 : Hid (CX u1 (t7.setCell ⟨rr, 7, none⟩ (.string (sT s))) b s (sB s).1 (sB s).2) := HCy.out.other HN2.out.1 HN2.out.2.2 _ _
  have HO10 : Hid ((t7.setCell ⟨rr, 7, none⟩ (.string (sT s))).heap[rb]? = some (.cells #[.int .i64 0, .int .i64 0, .int .i64 0, .int .i64 0, .int .i64 0, .int .i64 0, .int .i64 0, .string ⟨#[]⟩] 29 (0, 0))) := (Below.heap_setCell _ _ _ _ (by simpa using fun e => HN2.out.2.1 e.symm)).trans HOy.out
  have HR10 : Hid ((t7.setCell ⟨rr, 7, none⟩ (.string (sT s))).heap[rr]? = some (.cells #[.int .i64 0, .int .i64 (nV s 0), .int .i64 (nV s 1), .int .i64 (nV s 2), .int .i64 (nV s 3), .int .i64 (nV s 4), .int .i64 (nV s 5), .string (sT s)] 29 (0, 0))) := blk9 HRy.out _
  generalize (t7.setCell ⟨rr, 7, none⟩ (.string (sT s))) = u10 at *
  clear HCx HOx HRx HCy HOy HRy k0 kl kf HT7
  obtain ⟨c0, c1, c2⟩ := HC10.out.cel
  have cl := HC10.out.lt
  go_upto_region 16 with fail
  clear c0 c1 c2 cl
  have HWD : Hid (Calls Tryd.prog 29 #[.pointer (some ⟨b, 0, none⟩)] u10 fun e w' => e = .returned (.int .i64 (sW s)) ∧ CX u10 w' b s (sC s).1 (sC s).2) := word_any HC10.out.same (sB_le s) (by have := hsz.out; omega)
  go_upto_region 17 with (go_at_call 29; refine Calls.mono HWD.out ?_; rintro e u11 ⟨rfl, hc⟩; have HC9 : Hid (CX u1 u11 b s (sC s).1 (sC s).2) := HC10.out.on9 hc; have HO9 : Hid (u11.heap[rb]? = some (.cells #[.int .i64 0, .int .i64 0, .int .i64 0, .int .i64 0, .int .i64 0, .int .i64 0, .int .i64 0, .string ⟨#[]⟩] 29 (0, 0))) := hc.keep HO10.out HN1.out.1; have HR9 : Hid (u11.heap[rr]? = some (.cells #[.int .i64 0, .int .i64 (nV s 0), .int .i64 (nV s 1), .int .i64 (nV s 2), .int .i64 (nV s 3), .int .i64 (nV s 4), .int .i64 (nV s 5), .string (sT s)] 29 (0, 0))) := hc.keep HR10.out HN2.out.1; clear hc)
  clear HWD HC10 HO10 HR10
  have HB9 : Hid (Below w.heap.size w u11) := HB1.out.grown HC9.out.gr HB1.out.size (fun j hj => by injection hj with hj; have := HN1.out.2; omega)
  obtain ⟨c0, c1, c2⟩ := HC9.out.cel
  have cl := HC9.out.lt
  obtain ⟨g0, g1, g2, g3, g4, g5, g6, g7⟩ := eightV HO9.out
  have gf := frz9 HO9.out
  have gl := (Array.getElem?_eq_some_iff.1 HO9.out).1
  obtain ⟨d0, d1, d2, d3, d4, d5, d6, d7⟩ := eightV HR9.out
  have df := frz9 HR9.out
  have dl := (Array.getElem?_eq_some_iff.1 HR9.out).1
  rw [H1.out] at c2
  have h2 := H2.out
  have h3 := H3.out
  go_wp2
  have hbx := putV_box HO9.out (.int .i64 3) (.int .i64 0) (.int .i64 0) (.int .i64 0) (.int .i64 0) (.int .i64 0) (.int .i64 0) (.string ⟨#[]⟩)
  have hbf := putV_bel (p := rb) HB9.out (by have := HRB.out; omega) (.int .i64 3) (.int .i64 0) (.int .i64 0) (.int .i64 0) (.int .i64 0) (.int .i64 0) (.int .i64 0) (.string ⟨#[]⟩)
  refine bodyPost_ret (v := .agg #[.int .i64 3, .int .i64 0, .int .i64 0, .int .i64 0, .int .i64 0, .int .i64 0, .int .i64 0, .string ⟨#[]⟩]) ?_ rfl ⟨rfl, hbf⟩
  obtain ⟨f0, f1, f2, f3, f4, f5, f6, f7⟩ := eightV hbx
  simp only [putV] at f0 f1 f2 f3 f4 f5 f6 f7
  simp [results, Tryd.results9, go_sem, f0, f1, f2, f3, f4, f5, f6, f7]
set_option maxRecDepth 100000 in
set_option maxHeartbeats 16000000 in
theorem sw_d {s : ByteArray} (w : World) (hs : s.size ≤ 2000) (hm : ((cX s (0, false) 2).toList == [78, 86]) = true) (h1 : (sC s).2 = false) (h2 : ¬ 1500 < nV s 6) (h3 : ¬ (sC s).1 < s.size) (h4 : sW s ≠ mixv (s.extract 0 (sB s).1) 51) : Calls Tryd.prog 9 #[.string s] w fun e w' => e = .returned (.agg (uwZ s)) ∧ Below w.heap.size w w' := by
  have e : uwZ s = #[.int .i64 10, .int .i64 0, .int .i64 0, .int .i64 0, .int .i64 0, .int .i64 0, .int .i64 0, .string ⟨#[]⟩] := by unfold uwZ; rw [if_neg (by omega), if_neg (by rw [hm]; simp), if_neg (by rw [h1]; simp), if_neg h2, if_neg h3, if_pos h4]; rfl
  rw [e]
  clear e
  have H1 : Hid ((sC s).2 = false) := h1
  clear h1
  have H2 : Hid (¬ 1500 < nV s 6) := h2
  clear h2
  have H3 : Hid (¬ ((sC s).1 : Int) < (s.size : Int)) := (show ¬ ((sC s).1 : Int) < (s.size : Int) by omega)
  clear h3
  have H4 : Hid (sW s ≠ mixv (s.extract 0 (sB s).1) 51) := h4
  clear h4
  have hq : ¬ (2000 : Int) < (s.size : Int) := by omega
  have hsz : Hid (s.size ≤ 2000) := hs
  have hmk : Hid (((cX s (0, false) 2).toList == [78, 86]) = true) := hm
  clear hs
  have H0 : Hid (Below w.heap.size w (w.alloc (.cells #[.int .i64 0, .int .i64 0, .int .i64 0, .int .i64 0, .int .i64 0, .int .i64 0, .int .i64 0, .string ⟨#[]⟩] 29))) := bx1 _ _
  have HO0 : Hid ((w.alloc (.cells #[.int .i64 0, .int .i64 0, .int .i64 0, .int .i64 0, .int .i64 0, .int .i64 0, .int .i64 0, .string ⟨#[]⟩] 29)).heap[w.heap.size]? = some (.cells #[.int .i64 0, .int .i64 0, .int .i64 0, .int .i64 0, .int .i64 0, .int .i64 0, .int .i64 0, .string ⟨#[]⟩] 29 (0, 0))) := heap_new _ _
  go_enter Tryd.func9, Tryd.ntmps9
  go_upto_region 1 with fail
  generalize (w.alloc (.cells #[.int .i64 0, .int .i64 0, .int .i64 0, .int .i64 0, .int .i64 0, .int .i64 0, .int .i64 0, .string ⟨#[]⟩] 29)) = u0 at *
  generalize hrb : w.heap.size = rb at HO0 ⊢
  have HRB : Hid (w.heap.size = rb) := hrb
  clear hrb
  go_upto_region 3 with fail
  clear hq
  go_upto_region 4 with fail
  have HC1 : Hid (CX (u0.alloc (.cells #[.string s, .int .i64 0, .bool false] 60)) (u0.alloc (.cells #[.string s, .int .i64 0, .bool false] 60)) u0.heap.size s 0 false) := ⟨heap_new _ _, gb_rf _ _⟩
  have HB1 : Hid (Below w.heap.size w (u0.alloc (.cells #[.string s, .int .i64 0, .bool false] 60))) := H0.out.trans ((bx1 _ _).mono H0.out.size)
  have HO1 : Hid ((u0.alloc (.cells #[.string s, .int .i64 0, .bool false] 60)).heap[rb]? = some (.cells #[.int .i64 0, .int .i64 0, .int .i64 0, .int .i64 0, .int .i64 0, .int .i64 0, .int .i64 0, .string ⟨#[]⟩] 29 (0, 0))) := ((bx1 _ _).block _ (Array.getElem?_eq_some_iff.1 HO0.out).1).trans HO0.out
  have HN1 : Hid (rb ≠ u0.heap.size ∧ w.heap.size ≤ u0.heap.size) := ⟨by have := (Array.getElem?_eq_some_iff.1 HO0.out).1; omega, H0.out.size⟩
  clear H0 HO0
  generalize (u0.alloc (.cells #[.string s, .int .i64 0, .bool false] 60)) = u1 at *
  generalize u0.heap.size = b at *
  have HM : Hid (Calls Tryd.prog 27 #[.pointer (some ⟨b, 0, none⟩), .int .i64 2] u1 fun e w' => e = .returned (.string (cX s (0, false) 2)) ∧ CX u1 w' b s (sA s 0).1 (sA s 0).2) := take_any (st := (0, false)) HC1.out (Nat.zero_le _) (by have := hsz.out; omega) 2
  clear hmk
  generalize cX s (0, false) 2 = x at *
  go_upto_region 6 with (go_at_call 27; refine Calls.mono HM.out ?_; rintro e u2 ⟨rfl, hc⟩; have HC2 : Hid (CX u1 u2 b s (sA s 0).1 (sA s 0).2) := hc; have HO2 : Hid (u2.heap[rb]? = some (.cells #[.int .i64 0, .int .i64 0, .int .i64 0, .int .i64 0, .int .i64 0, .int .i64 0, .int .i64 0, .string ⟨#[]⟩] 29 (0, 0))) := hc.keep HO1.out HN1.out.1; clear hc)
  clear hm
  go_upto_region 7 with fail
  have HN2 : Hid (u2.heap.size ≠ b ∧ u2.heap.size ≠ rb ∧ u1.heap.size ≤ u2.heap.size) := ⟨by have := HC2.out.lt; omega, by have := (Array.getElem?_eq_some_iff.1 HO2.out).1; omega, HC2.out.gr.size⟩
  have HC3 : Hid (CX u1 (u2.alloc (.cells #[.int .i64 0, .int .i64 0, .int .i64 0, .int .i64 0, .int .i64 0, .int .i64 0, .int .i64 0, .string ⟨#[]⟩] 29)) b s (sA s 0).1 (sA s 0).2) := HC2.out.below (bx1 _ _)
  have HO3 : Hid ((u2.alloc (.cells #[.int .i64 0, .int .i64 0, .int .i64 0, .int .i64 0, .int .i64 0, .int .i64 0, .int .i64 0, .string ⟨#[]⟩] 29)).heap[rb]? = some (.cells #[.int .i64 0, .int .i64 0, .int .i64 0, .int .i64 0, .int .i64 0, .int .i64 0, .int .i64 0, .string ⟨#[]⟩] 29 (0, 0))) := ((bx1 _ _).block _ (Array.getElem?_eq_some_iff.1 HO2.out).1).trans HO2.out
  have HR3 : Hid ((u2.alloc (.cells #[.int .i64 0, .int .i64 0, .int .i64 0, .int .i64 0, .int .i64 0, .int .i64 0, .int .i64 0, .string ⟨#[]⟩] 29)).heap[u2.heap.size]? = some (.cells #[.int .i64 0, .int .i64 0, .int .i64 0, .int .i64 0, .int .i64 0, .int .i64 0, .int .i64 0, .string ⟨#[]⟩] 29 (0, 0))) := heap_new _ _
  generalize (u2.alloc (.cells #[.int .i64 0, .int .i64 0, .int .i64 0, .int .i64 0, .int .i64 0, .int .i64 0, .int .i64 0, .string ⟨#[]⟩] 29)) = u3 at *
  generalize u2.heap.size = rr at *
  clear HC2 HO2 HO1
  have HT0 : Hid (∀ u, CX u1 u b s (sA s 0).1 (sA s 0).2 → Calls Tryd.prog 27 #[.pointer (some ⟨b, 0, none⟩), .int .i64 3] u fun e w' => e = .returned (.string (sX s 0)) ∧ CX u w' b s (sA s 1).1 (sA s 1).2) := fun u hu => take_any hu.same (sA_le s 0) (by have := hsz.out; omega) 3
  have HD0 : Hid (∀ u, Calls Tryd.prog 28 #[.string (sX s 0)] u fun e w' => e = .returned (.int .i64 (nV s 0)) ∧ w' = u) := fun u => num_any (sX s 0) u (sX_le s 0)
  go_upto_region 8 with (first | (go_at_call 27; refine Calls.mono (HT0.out _ HC3.out) ?_; rintro e t0 ⟨rfl, hc⟩; have HCx : Hid (CX u1 t0 b s (sA s 1).1 (sA s 1).2) := HC3.out.on9 hc; have HOx : Hid (t0.heap[rb]? = some (.cells #[.int .i64 0, .int .i64 0, .int .i64 0, .int .i64 0, .int .i64 0, .int .i64 0, .int .i64 0, .string ⟨#[]⟩] 29 (0, 0))) := hc.keep HO3.out HN1.out.1; have HRx : Hid (t0.heap[rr]? = some (.cells #[.int .i64 0, .int .i64 0, .int .i64 0, .int .i64 0, .int .i64 0, .int .i64 0, .int .i64 0, .string ⟨#[]⟩] 29 (0, 0))) := hc.keep HR3.out HN2.out.1; clear hc; have k0 : t0.cell? ⟨rr, 1, none⟩ = some (.int .i64 0) := cel9 HRx.out 1 _ rfl; have kl := (Array.getElem?_eq_some_iff.1 HRx.out).1; have kf := frz9 HRx.out) | (go_at_call 28; refine Calls.mono (HD0.out _) ?_; rintro e v0 ⟨rfl, h9⟩; subst h9))
  have HC4 : Hid (CX u1 (v0.setCell ⟨rr, 1, none⟩ (.int .i64 (nV s 0))) b s (sA s 1).1 (sA s 1).2) := HCx.out.other HN2.out.1 HN2.out.2.2 _ _
  have HO4 : Hid ((v0.setCell ⟨rr, 1, none⟩ (.int .i64 (nV s 0))).heap[rb]? = some (.cells #[.int .i64 0, .int .i64 0, .int .i64 0, .int .i64 0, .int .i64 0, .int .i64 0, .int .i64 0, .string ⟨#[]⟩] 29 (0, 0))) := (Below.heap_setCell _ _ _ _ (by simpa using fun e => HN2.out.2.1 e.symm)).trans HOx.out
  have HR4 : Hid ((v0.setCell ⟨rr, 1, none⟩ (.int .i64 (nV s 0))).heap[rr]? = some (.cells #[.int .i64 0, .int .i64 (nV s 0), .int .i64 0, .int .i64 0, .int .i64 0, .int .i64 0, .int .i64 0, .string ⟨#[]⟩] 29 (0, 0))) := blk9 HRx.out _
  generalize (v0.setCell ⟨rr, 1, none⟩ (.int .i64 (nV s 0))) = u4 at *
  clear HCx HOx HRx k0 kl kf HC3 HO3 HR3 HT0 HD0
  have HT1 : Hid (∀ u, CX u1 u b s (sA s 1).1 (sA s 1).2 → Calls Tryd.prog 27 #[.pointer (some ⟨b, 0, none⟩), .int .i64 4] u fun e w' => e = .returned (.string (sX s 1)) ∧ CX u w' b s (sA s 2).1 (sA s 2).2) := fun u hu => take_any hu.same (sA_le s 1) (by have := hsz.out; omega) 4
  have HD1 : Hid (∀ u, Calls Tryd.prog 28 #[.string (sX s 1)] u fun e w' => e = .returned (.int .i64 (nV s 1)) ∧ w' = u) := fun u => num_any (sX s 1) u (sX_le s 1)
  go_upto_region 9 with (first | (go_at_call 27; refine Calls.mono (HT1.out _ HC4.out) ?_; rintro e t1 ⟨rfl, hc⟩; have HCx : Hid (CX u1 t1 b s (sA s 2).1 (sA s 2).2) := HC4.out.on9 hc; have HOx : Hid (t1.heap[rb]? = some (.cells #[.int .i64 0, .int .i64 0, .int .i64 0, .int .i64 0, .int .i64 0, .int .i64 0, .int .i64 0, .string ⟨#[]⟩] 29 (0, 0))) := hc.keep HO4.out HN1.out.1; have HRx : Hid (t1.heap[rr]? = some (.cells #[.int .i64 0, .int .i64 (nV s 0), .int .i64 0, .int .i64 0, .int .i64 0, .int .i64 0, .int .i64 0, .string ⟨#[]⟩] 29 (0, 0))) := hc.keep HR4.out HN2.out.1; clear hc; have k0 : t1.cell? ⟨rr, 2, none⟩ = some (.int .i64 0) := cel9 HRx.out 2 _ rfl; have kl := (Array.getElem?_eq_some_iff.1 HRx.out).1; have kf := frz9 HRx.out) | (go_at_call 28; refine Calls.mono (HD1.out _) ?_; rintro e v1 ⟨rfl, h9⟩; subst h9))
  have HC5 : Hid (CX u1 (v1.setCell ⟨rr, 2, none⟩ (.int .i64 (nV s 1))) b s (sA s 2).1 (sA s 2).2) := HCx.out.other HN2.out.1 HN2.out.2.2 _ _
  have HO5 : Hid ((v1.setCell ⟨rr, 2, none⟩ (.int .i64 (nV s 1))).heap[rb]? = some (.cells #[.int .i64 0, .int .i64 0, .int .i64 0, .int .i64 0, .int .i64 0, .int .i64 0, .int .i64 0, .string ⟨#[]⟩] 29 (0, 0))) := (Below.heap_setCell _ _ _ _ (by simpa using fun e => HN2.out.2.1 e.symm)).trans HOx.out
  have HR5 : Hid ((v1.setCell ⟨rr, 2, none⟩ (.int .i64 (nV s 1))).heap[rr]? = some (.cells #[.int .i64 0, .int .i64 (nV s 0), .int .i64 (nV s 1), .int .i64 0, .int .i64 0, .int .i64 0, .int .i64 0, .string ⟨#[]⟩] 29 (0, 0))) := blk9 HRx.out _
  generalize (v1.setCell ⟨rr, 2, none⟩ (.int .i64 (nV s 1))) = u5 at *
  clear HCx HOx HRx k0 kl kf HC4 HO4 HR4 HT1 HD1
  have HT2 : Hid (∀ u, CX u1 u b s (sA s 2).1 (sA s 2).2 → Calls Tryd.prog 27 #[.pointer (some ⟨b, 0, none⟩), .int .i64 4] u fun e w' => e = .returned (.string (sX s 2)) ∧ CX u w' b s (sA s 3).1 (sA s 3).2) := fun u hu => take_any hu.same (sA_le s 2) (by have := hsz.out; omega) 4
  have HD2 : Hid (∀ u, Calls Tryd.prog 28 #[.string (sX s 2)] u fun e w' => e = .returned (.int .i64 (nV s 2)) ∧ w' = u) := fun u => num_any (sX s 2) u (sX_le s 2)
  go_upto_region 10 with (first | (go_at_call 27; refine Calls.mono (HT2.out _ HC5.out) ?_; rintro e t2 ⟨rfl, hc⟩; have HCx : Hid (CX u1 t2 b s (sA s 3).1 (sA s 3).2) := HC5.out.on9 hc; have HOx : Hid (t2.heap[rb]? = some (.cells #[.int .i64 0, .int .i64 0, .int .i64 0, .int .i64 0, .int .i64 0, .int .i64 0, .int .i64 0, .string ⟨#[]⟩] 29 (0, 0))) := hc.keep HO5.out HN1.out.1; have HRx : Hid (t2.heap[rr]? = some (.cells #[.int .i64 0, .int .i64 (nV s 0), .int .i64 (nV s 1), .int .i64 0, .int .i64 0, .int .i64 0, .int .i64 0, .string ⟨#[]⟩] 29 (0, 0))) := hc.keep HR5.out HN2.out.1; clear hc; have k0 : t2.cell? ⟨rr, 3, none⟩ = some (.int .i64 0) := cel9 HRx.out 3 _ rfl; have kl := (Array.getElem?_eq_some_iff.1 HRx.out).1; have kf := frz9 HRx.out) | (go_at_call 28; refine Calls.mono (HD2.out _) ?_; rintro e v2 ⟨rfl, h9⟩; subst h9))
  have HC6 : Hid (CX u1 (v2.setCell ⟨rr, 3, none⟩ (.int .i64 (nV s 2))) b s (sA s 3).1 (sA s 3).2) := HCx.out.other HN2.out.1 HN2.out.2.2 _ _
  have HO6 : Hid ((v2.setCell ⟨rr, 3, none⟩ (.int .i64 (nV s 2))).heap[rb]? = some (.cells #[.int .i64 0, .int .i64 0, .int .i64 0, .int .i64 0, .int .i64 0, .int .i64 0, .int .i64 0, .string ⟨#[]⟩] 29 (0, 0))) := (Below.heap_setCell _ _ _ _ (by simpa using fun e => HN2.out.2.1 e.symm)).trans HOx.out
  have HR6 : Hid ((v2.setCell ⟨rr, 3, none⟩ (.int .i64 (nV s 2))).heap[rr]? = some (.cells #[.int .i64 0, .int .i64 (nV s 0), .int .i64 (nV s 1), .int .i64 (nV s 2), .int .i64 0, .int .i64 0, .int .i64 0, .string ⟨#[]⟩] 29 (0, 0))) := blk9 HRx.out _
  generalize (v2.setCell ⟨rr, 3, none⟩ (.int .i64 (nV s 2))) = u6 at *
  clear HCx HOx HRx k0 kl kf HC5 HO5 HR5 HT2 HD2
  have HT3 : Hid (∀ u, CX u1 u b s (sA s 3).1 (sA s 3).2 → Calls Tryd.prog 27 #[.pointer (some ⟨b, 0, none⟩), .int .i64 6] u fun e w' => e = .returned (.string (sX s 3)) ∧ CX u w' b s (sA s 4).1 (sA s 4).2) := fun u hu => take_any hu.same (sA_le s 3) (by have := hsz.out; omega) 6
  have HD3 : Hid (∀ u, Calls Tryd.prog 28 #[.string (sX s 3)] u fun e w' => e = .returned (.int .i64 (nV s 3)) ∧ w' = u) := fun u => num_any (sX s 3) u (sX_le s 3)
  go_upto_region 11 with (first | (go_at_call 27; refine Calls.mono (HT3.out _ HC6.out) ?_; rintro e t3 ⟨rfl, hc⟩; have HCx : Hid (CX u1 t3 b s (sA s 4).1 (sA s 4).2) := HC6.out.on9 hc; have HOx : Hid (t3.heap[rb]? = some (.cells #[.int .i64 0, .int .i64 0, .int .i64 0, .int .i64 0, .int .i64 0, .int .i64 0, .int .i64 0, .string ⟨#[]⟩] 29 (0, 0))) := hc.keep HO6.out HN1.out.1; have HRx : Hid (t3.heap[rr]? = some (.cells #[.int .i64 0, .int .i64 (nV s 0), .int .i64 (nV s 1), .int .i64 (nV s 2), .int .i64 0, .int .i64 0, .int .i64 0, .string ⟨#[]⟩] 29 (0, 0))) := hc.keep HR6.out HN2.out.1; clear hc; have k0 : t3.cell? ⟨rr, 4, none⟩ = some (.int .i64 0) := cel9 HRx.out 4 _ rfl; have kl := (Array.getElem?_eq_some_iff.1 HRx.out).1; have kf := frz9 HRx.out) | (go_at_call 28; refine Calls.mono (HD3.out _) ?_; rintro e v3 ⟨rfl, h9⟩; subst h9))
  have HC7 : Hid (CX u1 (v3.setCell ⟨rr, 4, none⟩ (.int .i64 (nV s 3))) b s (sA s 4).1 (sA s 4).2) := HCx.out.other HN2.out.1 HN2.out.2.2 _ _
  have HO7 : Hid ((v3.setCell ⟨rr, 4, none⟩ (.int .i64 (nV s 3))).heap[rb]? = some (.cells #[.int .i64 0, .int .i64 0, .int .i64 0, .int .i64 0, .int .i64 0, .int .i64 0, .int .i64 0, .string ⟨#[]⟩] 29 (0, 0))) := (Below.heap_setCell _ _ _ _ (by simpa using fun e => HN2.out.2.1 e.symm)).trans HOx.out
  have HR7 : Hid ((v3.setCell ⟨rr, 4, none⟩ (.int .i64 (nV s 3))).heap[rr]? = some (.cells #[.int .i64 0, .int .i64 (nV s 0), .int .i64 (nV s 1), .int .i64 (nV s 2), .int .i64 (nV s 3), .int .i64 0, .int .i64 0, .string ⟨#[]⟩] 29 (0, 0))) := blk9 HRx.out _
  generalize (v3.setCell ⟨rr, 4, none⟩ (.int .i64 (nV s 3))) = u7 at *
  clear HCx HOx HRx k0 kl kf HC6 HO6 HR6 HT3 HD3
  have HT4 : Hid (∀ u, CX u1 u b s (sA s 4).1 (sA s 4).2 → Calls Tryd.prog 27 #[.pointer (some ⟨b, 0, none⟩), .int .i64 6] u fun e w' => e = .returned (.string (sX s 4)) ∧ CX u w' b s (sA s 5).1 (sA s 5).2) := fun u hu => take_any hu.same (sA_le s 4) (by have := hsz.out; omega) 6
  have HD4 : Hid (∀ u, Calls Tryd.prog 28 #[.string (sX s 4)] u fun e w' => e = .returned (.int .i64 (nV s 4)) ∧ w' = u) := fun u => num_any (sX s 4) u (sX_le s 4)
  go_upto_region 12 with (first | (go_at_call 27; refine Calls.mono (HT4.out _ HC7.out) ?_; rintro e t4 ⟨rfl, hc⟩; have HCx : Hid (CX u1 t4 b s (sA s 5).1 (sA s 5).2) := HC7.out.on9 hc; have HOx : Hid (t4.heap[rb]? = some (.cells #[.int .i64 0, .int .i64 0, .int .i64 0, .int .i64 0, .int .i64 0, .int .i64 0, .int .i64 0, .string ⟨#[]⟩] 29 (0, 0))) := hc.keep HO7.out HN1.out.1; have HRx : Hid (t4.heap[rr]? = some (.cells #[.int .i64 0, .int .i64 (nV s 0), .int .i64 (nV s 1), .int .i64 (nV s 2), .int .i64 (nV s 3), .int .i64 0, .int .i64 0, .string ⟨#[]⟩] 29 (0, 0))) := hc.keep HR7.out HN2.out.1; clear hc; have k0 : t4.cell? ⟨rr, 5, none⟩ = some (.int .i64 0) := cel9 HRx.out 5 _ rfl; have kl := (Array.getElem?_eq_some_iff.1 HRx.out).1; have kf := frz9 HRx.out) | (go_at_call 28; refine Calls.mono (HD4.out _) ?_; rintro e v4 ⟨rfl, h9⟩; subst h9))
  have HC8 : Hid (CX u1 (v4.setCell ⟨rr, 5, none⟩ (.int .i64 (nV s 4))) b s (sA s 5).1 (sA s 5).2) := HCx.out.other HN2.out.1 HN2.out.2.2 _ _
  have HO8 : Hid ((v4.setCell ⟨rr, 5, none⟩ (.int .i64 (nV s 4))).heap[rb]? = some (.cells #[.int .i64 0, .int .i64 0, .int .i64 0, .int .i64 0, .int .i64 0, .int .i64 0, .int .i64 0, .string ⟨#[]⟩] 29 (0, 0))) := (Below.heap_setCell _ _ _ _ (by simpa using fun e => HN2.out.2.1 e.symm)).trans HOx.out
  have HR8 : Hid ((v4.setCell ⟨rr, 5, none⟩ (.int .i64 (nV s 4))).heap[rr]? = some (.cells #[.int .i64 0, .int .i64 (nV s 0), .int .i64 (nV s 1), .int .i64 (nV s 2), .int .i64 (nV s 3), .int .i64 (nV s 4), .int .i64 0, .string ⟨#[]⟩] 29 (0, 0))) := blk9 HRx.out _
  generalize (v4.setCell ⟨rr, 5, none⟩ (.int .i64 (nV s 4))) = u8 at *
  clear HCx HOx HRx k0 kl kf HC7 HO7 HR7 HT4 HD4
  have HT5 : Hid (∀ u, CX u1 u b s (sA s 5).1 (sA s 5).2 → Calls Tryd.prog 27 #[.pointer (some ⟨b, 0, none⟩), .int .i64 2] u fun e w' => e = .returned (.string (sX s 5)) ∧ CX u w' b s (sA s 6).1 (sA s 6).2) := fun u hu => take_any hu.same (sA_le s 5) (by have := hsz.out; omega) 2
  have HD5 : Hid (∀ u, Calls Tryd.prog 28 #[.string (sX s 5)] u fun e w' => e = .returned (.int .i64 (nV s 5)) ∧ w' = u) := fun u => num_any (sX s 5) u (sX_le s 5)
  go_upto_region 13 with (first | (go_at_call 27; refine Calls.mono (HT5.out _ HC8.out) ?_; rintro e t5 ⟨rfl, hc⟩; have HCx : Hid (CX u1 t5 b s (sA s 6).1 (sA s 6).2) := HC8.out.on9 hc; have HOx : Hid (t5.heap[rb]? = some (.cells #[.int .i64 0, .int .i64 0, .int .i64 0, .int .i64 0, .int .i64 0, .int .i64 0, .int .i64 0, .string ⟨#[]⟩] 29 (0, 0))) := hc.keep HO8.out HN1.out.1; have HRx : Hid (t5.heap[rr]? = some (.cells #[.int .i64 0, .int .i64 (nV s 0), .int .i64 (nV s 1), .int .i64 (nV s 2), .int .i64 (nV s 3), .int .i64 (nV s 4), .int .i64 0, .string ⟨#[]⟩] 29 (0, 0))) := hc.keep HR8.out HN2.out.1; clear hc; have k0 : t5.cell? ⟨rr, 6, none⟩ = some (.int .i64 0) := cel9 HRx.out 6 _ rfl; have kl := (Array.getElem?_eq_some_iff.1 HRx.out).1; have kf := frz9 HRx.out) | (go_at_call 28; refine Calls.mono (HD5.out _) ?_; rintro e v5 ⟨rfl, h9⟩; subst h9))
  have HC9 : Hid (CX u1 (v5.setCell ⟨rr, 6, none⟩ (.int .i64 (nV s 5))) b s (sA s 6).1 (sA s 6).2) := HCx.out.other HN2.out.1 HN2.out.2.2 _ _
  have HO9 : Hid ((v5.setCell ⟨rr, 6, none⟩ (.int .i64 (nV s 5))).heap[rb]? = some (.cells #[.int .i64 0, .int .i64 0, .int .i64 0, .int .i64 0, .int .i64 0, .int .i64 0, .int .i64 0, .string ⟨#[]⟩] 29 (0, 0))) := (Below.heap_setCell _ _ _ _ (by simpa using fun e => HN2.out.2.1 e.symm)).trans HOx.out
  have HR9 : Hid ((v5.setCell ⟨rr, 6, none⟩ (.int .i64 (nV s 5))).heap[rr]? = some (.cells #[.int .i64 0, .int .i64 (nV s 0), .int .i64 (nV s 1), .int .i64 (nV s 2), .int .i64 (nV s 3), .int .i64 (nV s 4), .int .i64 (nV s 5), .string ⟨#[]⟩] 29 (0, 0))) := blk9 HRx.out _
  generalize (v5.setCell ⟨rr, 6, none⟩ (.int .i64 (nV s 5))) = u9 at *
  clear HCx HOx HRx k0 kl kf HC8 HO8 HR8 HT5 HD5
  have HT6 : Hid (∀ u, CX u1 u b s (sA s 6).1 (sA s 6).2 → Calls Tryd.prog 27 #[.pointer (some ⟨b, 0, none⟩), .int .i64 2] u fun e w' => e = .returned (.string (sX s 6)) ∧ CX u w' b s (sA s 7).1 (sA s 7).2) := fun u hu => take_any hu.same (sA_le s 6) (by have := hsz.out; omega) 2
  have HD6 : Hid (∀ u, Calls Tryd.prog 28 #[.string (sX s 6)] u fun e w' => e = .returned (.int .i64 (nV s 6)) ∧ w' = u) := fun u => num_any (sX s 6) u (sX_le s 6)
  go_upto_region 14 with (first | (go_at_call 27; refine Calls.mono (HT6.out _ HC9.out) ?_; rintro e t6 ⟨rfl, hc⟩; have HCx : Hid (CX u1 t6 b s (sA s 7).1 (sA s 7).2) := HC9.out.on9 hc; have HOx : Hid (t6.heap[rb]? = some (.cells #[.int .i64 0, .int .i64 0, .int .i64 0, .int .i64 0, .int .i64 0, .int .i64 0, .int .i64 0, .string ⟨#[]⟩] 29 (0, 0))) := hc.keep HO9.out HN1.out.1; have HRx : Hid (t6.heap[rr]? = some (.cells #[.int .i64 0, .int .i64 (nV s 0), .int .i64 (nV s 1), .int .i64 (nV s 2), .int .i64 (nV s 3), .int .i64 (nV s 4), .int .i64 (nV s 5), .string ⟨#[]⟩] 29 (0, 0))) := hc.keep HR9.out HN2.out.1; clear hc; have k0 : t6.cell? ⟨rr, 0, none⟩ = some (.int .i64 0) := cel9 HRx.out 0 _ rfl; have kl := (Array.getElem?_eq_some_iff.1 HRx.out).1; have kf := frz9 HRx.out) | (go_at_call 28; refine Calls.mono (HD6.out _) ?_; rintro e v6 ⟨rfl, h9⟩; subst h9))
  clear k0 kl kf HC9 HO9 HR9 HT6 HD6
  have HT7 : Hid (∀ u, CX u1 u b s (sA s 7).1 (sA s 7).2 → Calls Tryd.prog 27 #[.pointer (some ⟨b, 0, none⟩), .int .i64 (nV s 6)] u fun e w' => e = .returned (.string (sT s)) ∧ CX u w' b s (sB s).1 (sB s).2) := fun u hu => by rw [← sN_eq s]; exact take_any hu.same (sA_le s 7) (by have := hsz.out; omega) (sN s)
  go_upto_region 15 with (go_at_call 27; refine Calls.mono (HT7.out _ HCx.out) ?_; rintro e t7 ⟨rfl, hc⟩; have HCy : Hid (CX u1 t7 b s (sB s).1 (sB s).2) := HCx.out.on9 hc; have HOy : Hid (t7.heap[rb]? = some (.cells #[.int .i64 0, .int .i64 0, .int .i64 0, .int .i64 0, .int .i64 0, .int .i64 0, .int .i64 0, .string ⟨#[]⟩] 29 (0, 0))) := hc.keep HOx.out HN1.out.1; have HRy : Hid (t7.heap[rr]? = some (.cells #[.int .i64 0, .int .i64 (nV s 0), .int .i64 (nV s 1), .int .i64 (nV s 2), .int .i64 (nV s 3), .int .i64 (nV s 4), .int .i64 (nV s 5), .string ⟨#[]⟩] 29 (0, 0))) := hc.keep HRx.out HN2.out.1; clear hc; have k0 : t7.cell? ⟨rr, 7, none⟩ = some (.string ⟨#[]⟩) := cel9 HRy.out 7 _ rfl; have kl := (Array.getElem?_eq_some_iff.1 HRy.out).1; have kf := frz9 HRy.out)
  have HC10 : Hid (CX u1 (t7.setCell ⟨rr, 7, none⟩ (.string (sT s))) b s (sB s).1 (sB s).2) := HCy.out.other HN2.out.1 HN2.out.2.2 _ _
  have HO10 : Hid ((t7.setCell ⟨rr, 7, none⟩ (.string (sT s))).heap[rb]? = some (.cells #[.int .i64 0, .int .i64 0, .int .i64 0, .int .i64 0, .int .i64 0, .int .i64 0, .int .i64 0, .string ⟨#[]⟩] 29 (0, 0))) := (Below.heap_setCell _ _ _ _ (by simpa using fun e => HN2.out.2.1 e.symm)).trans HOy.out
  have HR10 : Hid ((t7.setCell ⟨rr, 7, none⟩ (.string (sT s))).heap[rr]? = some (.cells #[.int .i64 0, .int .i64 (nV s 0), .int .i64 (nV s 1), .int .i64 (nV s 2), .int .i64 (nV s 3), .int .i64 (nV s 4), .int .i64 (nV s 5), .string (sT s)] 29 (0, 0))) := blk9 HRy.out _
  generalize (t7.setCell ⟨rr, 7, none⟩ (.string (sT s))) = u10 at *
  clear HCx HOx HRx HCy HOy HRy k0 kl kf HT7
  obtain ⟨c0, c1, c2⟩ := HC10.out.cel
  have cl := HC10.out.lt
  go_upto_region 16 with fail
  clear c0 c1 c2 cl
  have HWD : Hid (Calls Tryd.prog 29 #[.pointer (some ⟨b, 0, none⟩)] u10 fun e w' => e = .returned (.int .i64 (sW s)) ∧ CX u10 w' b s (sC s).1 (sC s).2) := word_any HC10.out.same (sB_le s) (by have := hsz.out; omega)
  go_upto_region 17 with (go_at_call 29; refine Calls.mono HWD.out ?_; rintro e u11 ⟨rfl, hc⟩; have HC9 : Hid (CX u1 u11 b s (sC s).1 (sC s).2) := HC10.out.on9 hc; have HO9 : Hid (u11.heap[rb]? = some (.cells #[.int .i64 0, .int .i64 0, .int .i64 0, .int .i64 0, .int .i64 0, .int .i64 0, .int .i64 0, .string ⟨#[]⟩] 29 (0, 0))) := hc.keep HO10.out HN1.out.1; have HR9 : Hid (u11.heap[rr]? = some (.cells #[.int .i64 0, .int .i64 (nV s 0), .int .i64 (nV s 1), .int .i64 (nV s 2), .int .i64 (nV s 3), .int .i64 (nV s 4), .int .i64 (nV s 5), .string (sT s)] 29 (0, 0))) := hc.keep HR10.out HN2.out.1; clear hc)
  clear HWD HC10 HO10 HR10
  have HB9 : Hid (Below w.heap.size w u11) := HB1.out.grown HC9.out.gr HB1.out.size (fun j hj => by injection hj with hj; have := HN1.out.2; omega)
  obtain ⟨c0, c1, c2⟩ := HC9.out.cel
  have cl := HC9.out.lt
  obtain ⟨g0, g1, g2, g3, g4, g5, g6, g7⟩ := eightV HO9.out
  have gf := frz9 HO9.out
  have gl := (Array.getElem?_eq_some_iff.1 HO9.out).1
  obtain ⟨d0, d1, d2, d3, d4, d5, d6, d7⟩ := eightV HR9.out
  have df := frz9 HR9.out
  have dl := (Array.getElem?_eq_some_iff.1 HR9.out).1
  rw [H1.out] at c2
  have h2 := H2.out
  have h3 := H3.out
  go_upto_region 19 with fail
  have hsl := sl_to s (sB s).1 (sB_le s)
  have hmx : Hid (∀ u, Calls Tryd.prog 24 #[.string (s.extract 0 (sB s).1), .int .i64 51] u fun e w' => e = .returned (.int .i64 (mixv (s.extract 0 (sB s).1) 51)) ∧ w' = u) := fun u => specMix_any _ 51 u (by rw [ByteArray.size_extract]; have := hsz.out; omega)
  go_upto_region 20 with (go_at_call 24; refine Calls.mono (hmx.out _) ?_; rintro e u12 ⟨rfl, h9⟩; subst h9; have h4 := H4.out)
  go_wp2
  have hbx := putV_box HO9.out (.int .i64 10) (.int .i64 0) (.int .i64 0) (.int .i64 0) (.int .i64 0) (.int .i64 0) (.int .i64 0) (.string ⟨#[]⟩)
  have hbf := putV_bel (p := rb) HB9.out (by have := HRB.out; omega) (.int .i64 10) (.int .i64 0) (.int .i64 0) (.int .i64 0) (.int .i64 0) (.int .i64 0) (.int .i64 0) (.string ⟨#[]⟩)
  refine bodyPost_ret (v := .agg #[.int .i64 10, .int .i64 0, .int .i64 0, .int .i64 0, .int .i64 0, .int .i64 0, .int .i64 0, .string ⟨#[]⟩]) ?_ rfl ⟨rfl, hbf⟩
  obtain ⟨f0, f1, f2, f3, f4, f5, f6, f7⟩ := eightV hbx
  simp only [putV] at f0 f1 f2 f3 f4 f5 f6 f7
  simp [results, Tryd.results9, go_sem, f0, f1, f2, f3, f4, f5, f6, f7]
set_option maxRecDepth 100000 in
set_option maxHeartbeats 16000000 in
theorem sw_e {s : ByteArray} (w : World) (hs : s.size ≤ 2000) (hm : ((cX s (0, false) 2).toList == [78, 86]) = true) (h1 : (sC s).2 = false) (h2 : ¬ 1500 < nV s 6) (h3 : ¬ (sC s).1 < s.size) (h4 : sW s = mixv (s.extract 0 (sB s).1) 51) (h5 : frV (swF s) ≠ 0) : Calls Tryd.prog 9 #[.string s] w fun e w' => e = .returned (.agg (uwZ s)) ∧ Below w.heap.size w w' := by
  have e : uwZ s = #[.int .i64 1, .int .i64 0, .int .i64 0, .int .i64 0, .int .i64 0, .int .i64 0, .int .i64 0, .string ⟨#[]⟩] := by unfold uwZ; rw [if_neg (by omega), if_neg (by rw [hm]; simp), if_neg (by rw [h1]; simp), if_neg h2, if_neg h3, if_neg (by simpa using h4), if_pos h5]; rfl
  rw [e]
  clear e
  have H1 : Hid ((sC s).2 = false) := h1
  clear h1
  have H2 : Hid (¬ 1500 < nV s 6) := h2
  clear h2
  have H3 : Hid (¬ ((sC s).1 : Int) < (s.size : Int)) := (show ¬ ((sC s).1 : Int) < (s.size : Int) by omega)
  clear h3
  have H4 : Hid (sW s = mixv (s.extract 0 (sB s).1) 51) := h4
  clear h4
  have H5 : Hid (frV (swF s) ≠ 0) := h5
  clear h5
  have hq : ¬ (2000 : Int) < (s.size : Int) := by omega
  have hsz : Hid (s.size ≤ 2000) := hs
  have hmk : Hid (((cX s (0, false) 2).toList == [78, 86]) = true) := hm
  clear hs
  have H0 : Hid (Below w.heap.size w (w.alloc (.cells #[.int .i64 0, .int .i64 0, .int .i64 0, .int .i64 0, .int .i64 0, .int .i64 0, .int .i64 0, .string ⟨#[]⟩] 29))) := bx1 _ _
  have HO0 : Hid ((w.alloc (.cells #[.int .i64 0, .int .i64 0, .int .i64 0, .int .i64 0, .int .i64 0, .int .i64 0, .int .i64 0, .string ⟨#[]⟩] 29)).heap[w.heap.size]? = some (.cells #[.int .i64 0, .int .i64 0, .int .i64 0, .int .i64 0, .int .i64 0, .int .i64 0, .int .i64 0, .string ⟨#[]⟩] 29 (0, 0))) := heap_new _ _
  go_enter Tryd.func9, Tryd.ntmps9
  go_upto_region 1 with fail
  generalize (w.alloc (.cells #[.int .i64 0, .int .i64 0, .int .i64 0, .int .i64 0, .int .i64 0, .int .i64 0, .int .i64 0, .string ⟨#[]⟩] 29)) = u0 at *
  generalize hrb : w.heap.size = rb at HO0 ⊢
  have HRB : Hid (w.heap.size = rb) := hrb
  clear hrb
  go_upto_region 3 with fail
  clear hq
  go_upto_region 4 with fail
  have HC1 : Hid (CX (u0.alloc (.cells #[.string s, .int .i64 0, .bool false] 60)) (u0.alloc (.cells #[.string s, .int .i64 0, .bool false] 60)) u0.heap.size s 0 false) := ⟨heap_new _ _, gb_rf _ _⟩
  have HB1 : Hid (Below w.heap.size w (u0.alloc (.cells #[.string s, .int .i64 0, .bool false] 60))) := H0.out.trans ((bx1 _ _).mono H0.out.size)
  have HO1 : Hid ((u0.alloc (.cells #[.string s, .int .i64 0, .bool false] 60)).heap[rb]? = some (.cells #[.int .i64 0, .int .i64 0, .int .i64 0, .int .i64 0, .int .i64 0, .int .i64 0, .int .i64 0, .string ⟨#[]⟩] 29 (0, 0))) := ((bx1 _ _).block _ (Array.getElem?_eq_some_iff.1 HO0.out).1).trans HO0.out
  have HN1 : Hid (rb ≠ u0.heap.size ∧ w.heap.size ≤ u0.heap.size) := ⟨by have := (Array.getElem?_eq_some_iff.1 HO0.out).1; omega, H0.out.size⟩
  clear H0 HO0
  generalize (u0.alloc (.cells #[.string s, .int .i64 0, .bool false] 60)) = u1 at *
  generalize u0.heap.size = b at *
  have HM : Hid (Calls Tryd.prog 27 #[.pointer (some ⟨b, 0, none⟩), .int .i64 2] u1 fun e w' => e = .returned (.string (cX s (0, false) 2)) ∧ CX u1 w' b s (sA s 0).1 (sA s 0).2) := take_any (st := (0, false)) HC1.out (Nat.zero_le _) (by have := hsz.out; omega) 2
  clear hmk
  generalize cX s (0, false) 2 = x at *
  go_upto_region 6 with (go_at_call 27; refine Calls.mono HM.out ?_; rintro e u2 ⟨rfl, hc⟩; have HC2 : Hid (CX u1 u2 b s (sA s 0).1 (sA s 0).2) := hc; have HO2 : Hid (u2.heap[rb]? = some (.cells #[.int .i64 0, .int .i64 0, .int .i64 0, .int .i64 0, .int .i64 0, .int .i64 0, .int .i64 0, .string ⟨#[]⟩] 29 (0, 0))) := hc.keep HO1.out HN1.out.1; clear hc)
  clear hm
  go_upto_region 7 with fail
  have HN2 : Hid (u2.heap.size ≠ b ∧ u2.heap.size ≠ rb ∧ u1.heap.size ≤ u2.heap.size) := ⟨by have := HC2.out.lt; omega, by have := (Array.getElem?_eq_some_iff.1 HO2.out).1; omega, HC2.out.gr.size⟩
  have HC3 : Hid (CX u1 (u2.alloc (.cells #[.int .i64 0, .int .i64 0, .int .i64 0, .int .i64 0, .int .i64 0, .int .i64 0, .int .i64 0, .string ⟨#[]⟩] 29)) b s (sA s 0).1 (sA s 0).2) := HC2.out.below (bx1 _ _)
  have HO3 : Hid ((u2.alloc (.cells #[.int .i64 0, .int .i64 0, .int .i64 0, .int .i64 0, .int .i64 0, .int .i64 0, .int .i64 0, .string ⟨#[]⟩] 29)).heap[rb]? = some (.cells #[.int .i64 0, .int .i64 0, .int .i64 0, .int .i64 0, .int .i64 0, .int .i64 0, .int .i64 0, .string ⟨#[]⟩] 29 (0, 0))) := ((bx1 _ _).block _ (Array.getElem?_eq_some_iff.1 HO2.out).1).trans HO2.out
  have HR3 : Hid ((u2.alloc (.cells #[.int .i64 0, .int .i64 0, .int .i64 0, .int .i64 0, .int .i64 0, .int .i64 0, .int .i64 0, .string ⟨#[]⟩] 29)).heap[u2.heap.size]? = some (.cells #[.int .i64 0, .int .i64 0, .int .i64 0, .int .i64 0, .int .i64 0, .int .i64 0, .int .i64 0, .string ⟨#[]⟩] 29 (0, 0))) := heap_new _ _
  generalize (u2.alloc (.cells #[.int .i64 0, .int .i64 0, .int .i64 0, .int .i64 0, .int .i64 0, .int .i64 0, .int .i64 0, .string ⟨#[]⟩] 29)) = u3 at *
  generalize u2.heap.size = rr at *
  clear HC2 HO2 HO1
  have HT0 : Hid (∀ u, CX u1 u b s (sA s 0).1 (sA s 0).2 → Calls Tryd.prog 27 #[.pointer (some ⟨b, 0, none⟩), .int .i64 3] u fun e w' => e = .returned (.string (sX s 0)) ∧ CX u w' b s (sA s 1).1 (sA s 1).2) := fun u hu => take_any hu.same (sA_le s 0) (by have := hsz.out; omega) 3
  have HD0 : Hid (∀ u, Calls Tryd.prog 28 #[.string (sX s 0)] u fun e w' => e = .returned (.int .i64 (nV s 0)) ∧ w' = u) := fun u => num_any (sX s 0) u (sX_le s 0)
  go_upto_region 8 with (first | (go_at_call 27; refine Calls.mono (HT0.out _ HC3.out) ?_; rintro e t0 ⟨rfl, hc⟩; have HCx : Hid (CX u1 t0 b s (sA s 1).1 (sA s 1).2) := HC3.out.on9 hc; have HOx : Hid (t0.heap[rb]? = some (.cells #[.int .i64 0, .int .i64 0, .int .i64 0, .int .i64 0, .int .i64 0, .int .i64 0, .int .i64 0, .string ⟨#[]⟩] 29 (0, 0))) := hc.keep HO3.out HN1.out.1; have HRx : Hid (t0.heap[rr]? = some (.cells #[.int .i64 0, .int .i64 0, .int .i64 0, .int .i64 0, .int .i64 0, .int .i64 0, .int .i64 0, .string ⟨#[]⟩] 29 (0, 0))) := hc.keep HR3.out HN2.out.1; clear hc; have k0 : t0.cell? ⟨rr, 1, none⟩ = some (.int .i64 0) := cel9 HRx.out 1 _ rfl; have kl := (Array.getElem?_eq_some_iff.1 HRx.out).1; have kf := frz9 HRx.out) | (go_at_call 28; refine Calls.mono (HD0.out _) ?_; rintro e v0 ⟨rfl, h9⟩; subst h9))
  have HC4 : Hid (CX u1 (v0.setCell ⟨rr, 1, none⟩ (.int .i64 (nV s 0))) b s (sA s 1).1 (sA s 1).2) := HCx.out.other HN2.out.1 HN2.out.2.2 _ _
  have HO4 : Hid ((v0.setCell ⟨rr, 1, none⟩ (.int .i64 (nV s 0))).heap[rb]? = some (.cells #[.int .i64 0, .int .i64 0, .int .i64 0, .int .i64 0, .int .i64 0, .int .i64 0, .int .i64 0, .string ⟨#[]⟩] 29 (0, 0))) := (Below.heap_setCell _ _ _ _ (by simpa using fun e => HN2.out.2.1 e.symm)).trans HOx.out
  have HR4 : Hid ((v0.setCell ⟨rr, 1, none⟩ (.int .i64 (nV s 0))).heap[rr]? = some (.cells #[.int .i64 0, .int .i64 (nV s 0), .int .i64 0, .int .i64 0, .int .i64 0, .int .i64 0, .int .i64 0, .string ⟨#[]⟩] 29 (0, 0))) := blk9 HRx.out _
  generalize (v0.setCell ⟨rr, 1, none⟩ (.int .i64 (nV s 0))) = u4 at *
  clear HCx HOx HRx k0 kl kf HC3 HO3 HR3 HT0 HD0
  have HT1 : Hid (∀ u, CX u1 u b s (sA s 1).1 (sA s 1).2 → Calls Tryd.prog 27 #[.pointer (some ⟨b, 0, none⟩), .int .i64 4] u fun e w' => e = .returned (.string (sX s 1)) ∧ CX u w' b s (sA s 2).1 (sA s 2).2) := fun u hu => take_any hu.same (sA_le s 1) (by have := hsz.out; omega) 4
  have HD1 : Hid (∀ u, Calls Tryd.prog 28 #[.string (sX s 1)] u fun e w' => e = .returned (.int .i64 (nV s 1)) ∧ w' = u) := fun u => num_any (sX s 1) u (sX_le s 1)
  go_upto_region 9 with (first | (go_at_call 27; refine Calls.mono (HT1.out _ HC4.out) ?_; rintro e t1 ⟨rfl, hc⟩; have HCx : Hid (CX u1 t1 b s (sA s 2).1 (sA s 2).2) := HC4.out.on9 hc; have HOx : Hid (t1.heap[rb]? = some (.cells #[.int .i64 0, .int .i64 0, .int .i64 0, .int .i64 0, .int .i64 0, .int .i64 0, .int .i64 0, .string ⟨#[]⟩] 29 (0, 0))) := hc.keep HO4.out HN1.out.1; have HRx : Hid (t1.heap[rr]? = some (.cells #[.int .i64 0, .int .i64 (nV s 0), .int .i64 0, .int .i64 0, .int .i64 0, .int .i64 0, .int .i64 0, .string ⟨#[]⟩] 29 (0, 0))) := hc.keep HR4.out HN2.out.1; clear hc; have k0 : t1.cell? ⟨rr, 2, none⟩ = some (.int .i64 0) := cel9 HRx.out 2 _ rfl; have kl := (Array.getElem?_eq_some_iff.1 HRx.out).1; have kf := frz9 HRx.out) | (go_at_call 28; refine Calls.mono (HD1.out _) ?_; rintro e v1 ⟨rfl, h9⟩; subst h9))
  have HC5 : Hid (CX u1 (v1.setCell ⟨rr, 2, none⟩ (.int .i64 (nV s 1))) b s (sA s 2).1 (sA s 2).2) := HCx.out.other HN2.out.1 HN2.out.2.2 _ _
  have HO5 : Hid ((v1.setCell ⟨rr, 2, none⟩ (.int .i64 (nV s 1))).heap[rb]? = some (.cells #[.int .i64 0, .int .i64 0, .int .i64 0, .int .i64 0, .int .i64 0, .int .i64 0, .int .i64 0, .string ⟨#[]⟩] 29 (0, 0))) := (Below.heap_setCell _ _ _ _ (by simpa using fun e => HN2.out.2.1 e.symm)).trans HOx.out
  have HR5 : Hid ((v1.setCell ⟨rr, 2, none⟩ (.int .i64 (nV s 1))).heap[rr]? = some (.cells #[.int .i64 0, .int .i64 (nV s 0), .int .i64 (nV s 1), .int .i64 0, .int .i64 0, .int .i64 0, .int .i64 0, .string ⟨#[]⟩] 29 (0, 0))) := blk9 HRx.out _
  generalize (v1.setCell ⟨rr, 2, none⟩ (.int .i64 (nV s 1))) = u5 at *
  clear HCx HOx HRx k0 kl kf HC4 HO4 HR4 HT1 HD1
  have HT2 : Hid (∀ u, CX u1 u b s (sA s 2).1 (sA s 2).2 → Calls Tryd.prog 27 #[.pointer (some ⟨b, 0, none⟩), .int .i64 4] u fun e w' => e = .returned (.string (sX s 2)) ∧ CX u w' b s (sA s 3).1 (sA s 3).2) := fun u hu => take_any hu.same (sA_le s 2) (by have := hsz.out; omega) 4
  have HD2 : Hid (∀ u, Calls Tryd.prog 28 #[.string (sX s 2)] u fun e w' => e = .returned (.int .i64 (nV s 2)) ∧ w' = u) := fun u => num_any (sX s 2) u (sX_le s 2)
  go_upto_region 10 with (first | (go_at_call 27; refine Calls.mono (HT2.out _ HC5.out) ?_; rintro e t2 ⟨rfl, hc⟩; have HCx : Hid (CX u1 t2 b s (sA s 3).1 (sA s 3).2) := HC5.out.on9 hc; have HOx : Hid (t2.heap[rb]? = some (.cells #[.int .i64 0, .int .i64 0, .int .i64 0, .int .i64 0, .int .i64 0, .int .i64 0, .int .i64 0, .string ⟨#[]⟩] 29 (0, 0))) := hc.keep HO5.out HN1.out.1; have HRx : Hid (t2.heap[rr]? = some (.cells #[.int .i64 0, .int .i64 (nV s 0), .int .i64 (nV s 1), .int .i64 0, .int .i64 0, .int .i64 0, .int .i64 0, .string ⟨#[]⟩] 29 (0, 0))) := hc.keep HR5.out HN2.out.1; clear hc; have k0 : t2.cell? ⟨rr, 3, none⟩ = some (.int .i64 0) := cel9 HRx.out 3 _ rfl; have kl := (Array.getElem?_eq_some_iff.1 HRx.out).1; have kf := frz9 HRx.out) | (go_at_call 28; refine Calls.mono (HD2.out _) ?_; rintro e v2 ⟨rfl, h9⟩; subst h9))
  have HC6 : Hid (CX u1 (v2.setCell ⟨rr, 3, none⟩ (.int .i64 (nV s 2))) b s (sA s 3).1 (sA s 3).2) := HCx.out.other HN2.out.1 HN2.out.2.2 _ _
  have HO6 : Hid ((v2.setCell ⟨rr, 3, none⟩ (.int .i64 (nV s 2))).heap[rb]? = some (.cells #[.int .i64 0, .int .i64 0, .int .i64 0, .int .i64 0, .int .i64 0, .int .i64 0, .int .i64 0, .string ⟨#[]⟩] 29 (0, 0))) := (Below.heap_setCell _ _ _ _ (by simpa using fun e => HN2.out.2.1 e.symm)).trans HOx.out
  have HR6 : Hid ((v2.setCell ⟨rr, 3, none⟩ (.int .i64 (nV s 2))).heap[rr]? = some (.cells #[.int .i64 0, .int .i64 (nV s 0), .int .i64 (nV s 1), .int .i64 (nV s 2), .int .i64 0, .int .i64 0, .int .i64 0, .string ⟨#[]⟩] 29 (0, 0))) := blk9 HRx.out _
  generalize (v2.setCell ⟨rr, 3, none⟩ (.int .i64 (nV s 2))) = u6 at *
  clear HCx HOx HRx k0 kl kf HC5 HO5 HR5 HT2 HD2
  have HT3 : Hid (∀ u, CX u1 u b s (sA s 3).1 (sA s 3).2 → Calls Tryd.prog 27 #[.pointer (some ⟨b, 0, none⟩), .int .i64 6] u fun e w' => e = .returned (.string (sX s 3)) ∧ CX u w' b s (sA s 4).1 (sA s 4).2) := fun u hu => take_any hu.same (sA_le s 3) (by have := hsz.out; omega) 6
  have HD3 : Hid (∀ u, Calls Tryd.prog 28 #[.string (sX s 3)] u fun e w' => e = .returned (.int .i64 (nV s 3)) ∧ w' = u) := fun u => num_any (sX s 3) u (sX_le s 3)
  go_upto_region 11 with (first | (go_at_call 27; refine Calls.mono (HT3.out _ HC6.out) ?_; rintro e t3 ⟨rfl, hc⟩; have HCx : Hid (CX u1 t3 b s (sA s 4).1 (sA s 4).2) := HC6.out.on9 hc; have HOx : Hid (t3.heap[rb]? = some (.cells #[.int .i64 0, .int .i64 0, .int .i64 0, .int .i64 0, .int .i64 0, .int .i64 0, .int .i64 0, .string ⟨#[]⟩] 29 (0, 0))) := hc.keep HO6.out HN1.out.1; have HRx : Hid (t3.heap[rr]? = some (.cells #[.int .i64 0, .int .i64 (nV s 0), .int .i64 (nV s 1), .int .i64 (nV s 2), .int .i64 0, .int .i64 0, .int .i64 0, .string ⟨#[]⟩] 29 (0, 0))) := hc.keep HR6.out HN2.out.1; clear hc; have k0 : t3.cell? ⟨rr, 4, none⟩ = some (.int .i64 0) := cel9 HRx.out 4 _ rfl; have kl := (Array.getElem?_eq_some_iff.1 HRx.out).1; have kf := frz9 HRx.out) | (go_at_call 28; refine Calls.mono (HD3.out _) ?_; rintro e v3 ⟨rfl, h9⟩; subst h9))
  have HC7 : Hid (CX u1 (v3.setCell ⟨rr, 4, none⟩ (.int .i64 (nV s 3))) b s (sA s 4).1 (sA s 4).2) := HCx.out.other HN2.out.1 HN2.out.2.2 _ _
  have HO7 : Hid ((v3.setCell ⟨rr, 4, none⟩ (.int .i64 (nV s 3))).heap[rb]? = some (.cells #[.int .i64 0, .int .i64 0, .int .i64 0, .int .i64 0, .int .i64 0, .int .i64 0, .int .i64 0, .string ⟨#[]⟩] 29 (0, 0))) := (Below.heap_setCell _ _ _ _ (by simpa using fun e => HN2.out.2.1 e.symm)).trans HOx.out
  have HR7 : Hid ((v3.setCell ⟨rr, 4, none⟩ (.int .i64 (nV s 3))).heap[rr]? = some (.cells #[.int .i64 0, .int .i64 (nV s 0), .int .i64 (nV s 1), .int .i64 (nV s 2), .int .i64 (nV s 3), .int .i64 0, .int .i64 0, .string ⟨#[]⟩] 29 (0, 0))) := blk9 HRx.out _
  generalize (v3.setCell ⟨rr, 4, none⟩ (.int .i64 (nV s 3))) = u7 at *
  clear HCx HOx HRx k0 kl kf HC6 HO6 HR6 HT3 HD3
  have HT4 : Hid (∀ u, CX u1 u b s (sA s 4).1 (sA s 4).2 → Calls Tryd.prog 27 #[.pointer (some ⟨b, 0, none⟩), .int .i64 6] u fun e w' => e = .returned (.string (sX s 4)) ∧ CX u w' b s (sA s 5).1 (sA s 5).2) := fun u hu => take_any hu.same (sA_le s 4) (by have := hsz.out; omega) 6
  have HD4 : Hid (∀ u, Calls Tryd.prog 28 #[.string (sX s 4)] u fun e w' => e = .returned (.int .i64 (nV s 4)) ∧ w' = u) := fun u => num_any (sX s 4) u (sX_le s 4)
  go_upto_region 12 with (first | (go_at_call 27; refine Calls.mono (HT4.out _ HC7.out) ?_; rintro e t4 ⟨rfl, hc⟩; have HCx : Hid (CX u1 t4 b s (sA s 5).1 (sA s 5).2) := HC7.out.on9 hc; have HOx : Hid (t4.heap[rb]? = some (.cells #[.int .i64 0, .int .i64 0, .int .i64 0, .int .i64 0, .int .i64 0, .int .i64 0, .int .i64 0, .string ⟨#[]⟩] 29 (0, 0))) := hc.keep HO7.out HN1.out.1; have HRx : Hid (t4.heap[rr]? = some (.cells #[.int .i64 0, .int .i64 (nV s 0), .int .i64 (nV s 1), .int .i64 (nV s 2), .int .i64 (nV s 3), .int .i64 0, .int .i64 0, .string ⟨#[]⟩] 29 (0, 0))) := hc.keep HR7.out HN2.out.1; clear hc; have k0 : t4.cell? ⟨rr, 5, none⟩ = some (.int .i64 0) := cel9 HRx.out 5 _ rfl; have kl := (Array.getElem?_eq_some_iff.1 HRx.out).1; have kf := frz9 HRx.out) | (go_at_call 28; refine Calls.mono (HD4.out _) ?_; rintro e v4 ⟨rfl, h9⟩; subst h9))
  have HC8 : Hid (CX u1 (v4.setCell ⟨rr, 5, none⟩ (.int .i64 (nV s 4))) b s (sA s 5).1 (sA s 5).2) := HCx.out.other HN2.out.1 HN2.out.2.2 _ _
  have HO8 : Hid ((v4.setCell ⟨rr, 5, none⟩ (.int .i64 (nV s 4))).heap[rb]? = some (.cells #[.int .i64 0, .int .i64 0, .int .i64 0, .int .i64 0, .int .i64 0, .int .i64 0, .int .i64 0, .string ⟨#[]⟩] 29 (0, 0))) := (Below.heap_setCell _ _ _ _ (by simpa using fun e => HN2.out.2.1 e.symm)).trans HOx.out
  have HR8 : Hid ((v4.setCell ⟨rr, 5, none⟩ (.int .i64 (nV s 4))).heap[rr]? = some (.cells #[.int .i64 0, .int .i64 (nV s 0), .int .i64 (nV s 1), .int .i64 (nV s 2), .int .i64 (nV s 3), .int .i64 (nV s 4), .int .i64 0, .string ⟨#[]⟩] 29 (0, 0))) := blk9 HRx.out _
  generalize (v4.setCell ⟨rr, 5, none⟩ (.int .i64 (nV s 4))) = u8 at *
  clear HCx HOx HRx k0 kl kf HC7 HO7 HR7 HT4 HD4
  have HT5 : Hid (∀ u, CX u1 u b s (sA s 5).1 (sA s 5).2 → Calls Tryd.prog 27 #[.pointer (some ⟨b, 0, none⟩), .int .i64 2] u fun e w' => e = .returned (.string (sX s 5)) ∧ CX u w' b s (sA s 6).1 (sA s 6).2) := fun u hu => take_any hu.same (sA_le s 5) (by have := hsz.out; omega) 2
  have HD5 : Hid (∀ u, Calls Tryd.prog 28 #[.string (sX s 5)] u fun e w' => e = .returned (.int .i64 (nV s 5)) ∧ w' = u) := fun u => num_any (sX s 5) u (sX_le s 5)
  go_upto_region 13 with (first | (go_at_call 27; refine Calls.mono (HT5.out _ HC8.out) ?_; rintro e t5 ⟨rfl, hc⟩; have HCx : Hid (CX u1 t5 b s (sA s 6).1 (sA s 6).2) := HC8.out.on9 hc; have HOx : Hid (t5.heap[rb]? = some (.cells #[.int .i64 0, .int .i64 0, .int .i64 0, .int .i64 0, .int .i64 0, .int .i64 0, .int .i64 0, .string ⟨#[]⟩] 29 (0, 0))) := hc.keep HO8.out HN1.out.1; have HRx : Hid (t5.heap[rr]? = some (.cells #[.int .i64 0, .int .i64 (nV s 0), .int .i64 (nV s 1), .int .i64 (nV s 2), .int .i64 (nV s 3), .int .i64 (nV s 4), .int .i64 0, .string ⟨#[]⟩] 29 (0, 0))) := hc.keep HR8.out HN2.out.1; clear hc; have k0 : t5.cell? ⟨rr, 6, none⟩ = some (.int .i64 0) := cel9 HRx.out 6 _ rfl; have kl := (Array.getElem?_eq_some_iff.1 HRx.out).1; have kf := frz9 HRx.out) | (go_at_call 28; refine Calls.mono (HD5.out _) ?_; rintro e v5 ⟨rfl, h9⟩; subst h9))
  have HC9 : Hid (CX u1 (v5.setCell ⟨rr, 6, none⟩ (.int .i64 (nV s 5))) b s (sA s 6).1 (sA s 6).2) := HCx.out.other HN2.out.1 HN2.out.2.2 _ _
  have HO9 : Hid ((v5.setCell ⟨rr, 6, none⟩ (.int .i64 (nV s 5))).heap[rb]? = some (.cells #[.int .i64 0, .int .i64 0, .int .i64 0, .int .i64 0, .int .i64 0, .int .i64 0, .int .i64 0, .string ⟨#[]⟩] 29 (0, 0))) := (Below.heap_setCell _ _ _ _ (by simpa using fun e => HN2.out.2.1 e.symm)).trans HOx.out
  have HR9 : Hid ((v5.setCell ⟨rr, 6, none⟩ (.int .i64 (nV s 5))).heap[rr]? = some (.cells #[.int .i64 0, .int .i64 (nV s 0), .int .i64 (nV s 1), .int .i64 (nV s 2), .int .i64 (nV s 3), .int .i64 (nV s 4), .int .i64 (nV s 5), .string ⟨#[]⟩] 29 (0, 0))) := blk9 HRx.out _
  generalize (v5.setCell ⟨rr, 6, none⟩ (.int .i64 (nV s 5))) = u9 at *
  clear HCx HOx HRx k0 kl kf HC8 HO8 HR8 HT5 HD5
  have HT6 : Hid (∀ u, CX u1 u b s (sA s 6).1 (sA s 6).2 → Calls Tryd.prog 27 #[.pointer (some ⟨b, 0, none⟩), .int .i64 2] u fun e w' => e = .returned (.string (sX s 6)) ∧ CX u w' b s (sA s 7).1 (sA s 7).2) := fun u hu => take_any hu.same (sA_le s 6) (by have := hsz.out; omega) 2
  have HD6 : Hid (∀ u, Calls Tryd.prog 28 #[.string (sX s 6)] u fun e w' => e = .returned (.int .i64 (nV s 6)) ∧ w' = u) := fun u => num_any (sX s 6) u (sX_le s 6)
  go_upto_region 14 with (first | (go_at_call 27; refine Calls.mono (HT6.out _ HC9.out) ?_; rintro e t6 ⟨rfl, hc⟩; have HCx : Hid (CX u1 t6 b s (sA s 7).1 (sA s 7).2) := HC9.out.on9 hc; have HOx : Hid (t6.heap[rb]? = some (.cells #[.int .i64 0, .int .i64 0, .int .i64 0, .int .i64 0, .int .i64 0, .int .i64 0, .int .i64 0, .string ⟨#[]⟩] 29 (0, 0))) := hc.keep HO9.out HN1.out.1; have HRx : Hid (t6.heap[rr]? = some (.cells #[.int .i64 0, .int .i64 (nV s 0), .int .i64 (nV s 1), .int .i64 (nV s 2), .int .i64 (nV s 3), .int .i64 (nV s 4), .int .i64 (nV s 5), .string ⟨#[]⟩] 29 (0, 0))) := hc.keep HR9.out HN2.out.1; clear hc; have k0 : t6.cell? ⟨rr, 0, none⟩ = some (.int .i64 0) := cel9 HRx.out 0 _ rfl; have kl := (Array.getElem?_eq_some_iff.1 HRx.out).1; have kf := frz9 HRx.out) | (go_at_call 28; refine Calls.mono (HD6.out _) ?_; rintro e v6 ⟨rfl, h9⟩; subst h9))
  clear k0 kl kf HC9 HO9 HR9 HT6 HD6
  have HT7 : Hid (∀ u, CX u1 u b s (sA s 7).1 (sA s 7).2 → Calls Tryd.prog 27 #[.pointer (some ⟨b, 0, none⟩), .int .i64 (nV s 6)] u fun e w' => e = .returned (.string (sT s)) ∧ CX u w' b s (sB s).1 (sB s).2) := fun u hu => by rw [← sN_eq s]; exact take_any hu.same (sA_le s 7) (by have := hsz.out; omega) (sN s)
  go_upto_region 15 with (go_at_call 27; refine Calls.mono (HT7.out _ HCx.out) ?_; rintro e t7 ⟨rfl, hc⟩; have HCy : Hid (CX u1 t7 b s (sB s).1 (sB s).2) := HCx.out.on9 hc; have HOy : Hid (t7.heap[rb]? = some (.cells #[.int .i64 0, .int .i64 0, .int .i64 0, .int .i64 0, .int .i64 0, .int .i64 0, .int .i64 0, .string ⟨#[]⟩] 29 (0, 0))) := hc.keep HOx.out HN1.out.1; have HRy : Hid (t7.heap[rr]? = some (.cells #[.int .i64 0, .int .i64 (nV s 0), .int .i64 (nV s 1), .int .i64 (nV s 2), .int .i64 (nV s 3), .int .i64 (nV s 4), .int .i64 (nV s 5), .string ⟨#[]⟩] 29 (0, 0))) := hc.keep HRx.out HN2.out.1; clear hc; have k0 : t7.cell? ⟨rr, 7, none⟩ = some (.string ⟨#[]⟩) := cel9 HRy.out 7 _ rfl; have kl := (Array.getElem?_eq_some_iff.1 HRy.out).1; have kf := frz9 HRy.out)
  have HC10 : Hid (CX u1 (t7.setCell ⟨rr, 7, none⟩ (.string (sT s))) b s (sB s).1 (sB s).2) := HCy.out.other HN2.out.1 HN2.out.2.2 _ _
  have HO10 : Hid ((t7.setCell ⟨rr, 7, none⟩ (.string (sT s))).heap[rb]? = some (.cells #[.int .i64 0, .int .i64 0, .int .i64 0, .int .i64 0, .int .i64 0, .int .i64 0, .int .i64 0, .string ⟨#[]⟩] 29 (0, 0))) := (Below.heap_setCell _ _ _ _ (by simpa using fun e => HN2.out.2.1 e.symm)).trans HOy.out
  have HR10 : Hid ((t7.setCell ⟨rr, 7, none⟩ (.string (sT s))).heap[rr]? = some (.cells #[.int .i64 0, .int .i64 (nV s 0), .int .i64 (nV s 1), .int .i64 (nV s 2), .int .i64 (nV s 3), .int .i64 (nV s 4), .int .i64 (nV s 5), .string (sT s)] 29 (0, 0))) := blk9 HRy.out _
  generalize (t7.setCell ⟨rr, 7, none⟩ (.string (sT s))) = u10 at *
  clear HCx HOx HRx HCy HOy HRy k0 kl kf HT7
  obtain ⟨c0, c1, c2⟩ := HC10.out.cel
  have cl := HC10.out.lt
  go_upto_region 16 with fail
  clear c0 c1 c2 cl
  have HWD : Hid (Calls Tryd.prog 29 #[.pointer (some ⟨b, 0, none⟩)] u10 fun e w' => e = .returned (.int .i64 (sW s)) ∧ CX u10 w' b s (sC s).1 (sC s).2) := word_any HC10.out.same (sB_le s) (by have := hsz.out; omega)
  go_upto_region 17 with (go_at_call 29; refine Calls.mono HWD.out ?_; rintro e u11 ⟨rfl, hc⟩; have HC9 : Hid (CX u1 u11 b s (sC s).1 (sC s).2) := HC10.out.on9 hc; have HO9 : Hid (u11.heap[rb]? = some (.cells #[.int .i64 0, .int .i64 0, .int .i64 0, .int .i64 0, .int .i64 0, .int .i64 0, .int .i64 0, .string ⟨#[]⟩] 29 (0, 0))) := hc.keep HO10.out HN1.out.1; have HR9 : Hid (u11.heap[rr]? = some (.cells #[.int .i64 0, .int .i64 (nV s 0), .int .i64 (nV s 1), .int .i64 (nV s 2), .int .i64 (nV s 3), .int .i64 (nV s 4), .int .i64 (nV s 5), .string (sT s)] 29 (0, 0))) := hc.keep HR10.out HN2.out.1; clear hc)
  clear HWD HC10 HO10 HR10
  have HB9 : Hid (Below w.heap.size w u11) := HB1.out.grown HC9.out.gr HB1.out.size (fun j hj => by injection hj with hj; have := HN1.out.2; omega)
  obtain ⟨c0, c1, c2⟩ := HC9.out.cel
  have cl := HC9.out.lt
  obtain ⟨g0, g1, g2, g3, g4, g5, g6, g7⟩ := eightV HO9.out
  have gf := frz9 HO9.out
  have gl := (Array.getElem?_eq_some_iff.1 HO9.out).1
  obtain ⟨d0, d1, d2, d3, d4, d5, d6, d7⟩ := eightV HR9.out
  have df := frz9 HR9.out
  have dl := (Array.getElem?_eq_some_iff.1 HR9.out).1
  rw [H1.out] at c2
  have h2 := H2.out
  have h3 := H3.out
  go_upto_region 19 with fail
  have hsl := sl_to s (sB s).1 (sB_le s)
  have hmx : Hid (∀ u, Calls Tryd.prog 24 #[.string (s.extract 0 (sB s).1), .int .i64 51] u fun e w' => e = .returned (.int .i64 (mixv (s.extract 0 (sB s).1) 51)) ∧ w' = u) := fun u => specMix_any _ 51 u (by rw [ByteArray.size_extract]; have := hsz.out; omega)
  go_upto_region 21 with (go_at_call 24; refine Calls.mono (hmx.out _) ?_; rintro e u12 ⟨rfl, h9⟩; subst h9; have h4 := H4.out)
  have hff : Hid (∀ u, Calls Tryd.prog 20 #[frA (swF s)] u fun e w' => e = .returned (.int .i64 (frV (swF s))) ∧ Below u.heap.size u w') := fun u => specFF_any (swF s) u
  unfold frA swF at hff
  go_upto_region 22 with (go_at_call 20; refine Calls.mono (hff.out _) ?_; rintro e u13 ⟨rfl, hb⟩; have HB8 : Hid (Below w.heap.size w u13) := HB9.out.trans (hb.mono HB9.out.size); have HO8 : Hid (u13.heap[rb]? = some (.cells #[.int .i64 0, .int .i64 0, .int .i64 0, .int .i64 0, .int .i64 0, .int .i64 0, .int .i64 0, .string ⟨#[]⟩] 29 (0, 0))) := (hb.block _ (Array.getElem?_eq_some_iff.1 HO9.out).1).trans HO9.out; have HR8 : Hid (u13.heap[rr]? = some (.cells #[.int .i64 0, .int .i64 (nV s 0), .int .i64 (nV s 1), .int .i64 (nV s 2), .int .i64 (nV s 3), .int .i64 (nV s 4), .int .i64 (nV s 5), .string (sT s)] 29 (0, 0))) := (hb.block _ (Array.getElem?_eq_some_iff.1 HR9.out).1).trans HR9.out; clear hb; have h5 := H5.out; unfold swF at h5)
  clear g0 g1 g2 g3 g4 g5 g6 g7 gf gl d0 d1 d2 d3 d4 d5 d6 d7 df dl c0 c1 c2 cl HB9 HO9 HR9 HC9
  have HB9 : Hid _ := HB8.out
  have HO9 : Hid _ := HO8.out
  obtain ⟨g0, g1, g2, g3, g4, g5, g6, g7⟩ := eightV HO9.out
  have gf := frz9 HO9.out
  have gl := (Array.getElem?_eq_some_iff.1 HO9.out).1
  obtain ⟨d0, d1, d2, d3, d4, d5, d6, d7⟩ := eightV HR8.out
  have df := frz9 HR8.out
  have dl := (Array.getElem?_eq_some_iff.1 HR8.out).1
  go_wp2
  have hbx := putV_box HO9.out (.int .i64 1) (.int .i64 0) (.int .i64 0) (.int .i64 0) (.int .i64 0) (.int .i64 0) (.int .i64 0) (.string ⟨#[]⟩)
  have hbf := putV_bel (p := rb) HB9.out (by have := HRB.out; omega) (.int .i64 1) (.int .i64 0) (.int .i64 0) (.int .i64 0) (.int .i64 0) (.int .i64 0) (.int .i64 0) (.string ⟨#[]⟩)
  refine bodyPost_ret (v := .agg #[.int .i64 1, .int .i64 0, .int .i64 0, .int .i64 0, .int .i64 0, .int .i64 0, .int .i64 0, .string ⟨#[]⟩]) ?_ rfl ⟨rfl, hbf⟩
  obtain ⟨f0, f1, f2, f3, f4, f5, f6, f7⟩ := eightV hbx
  simp only [putV] at f0 f1 f2 f3 f4 f5 f6 f7
  simp [results, Tryd.results9, go_sem, f0, f1, f2, f3, f4, f5, f6, f7]
set_option maxRecDepth 100000 in
set_option maxHeartbeats 16000000 in
theorem sw_f {s : ByteArray} (w : World) (hs : s.size ≤ 2000) (hm : ((cX s (0, false) 2).toList == [78, 86]) = true) (h1 : (sC s).2 = false) (h2 : ¬ 1500 < nV s 6) (h3 : ¬ (sC s).1 < s.size) (h4 : sW s = mixv (s.extract 0 (sB s).1) 51) (h5 : frV (swF s) = 0) : Calls Tryd.prog 9 #[.string s] w fun e w' => e = .returned (.agg (uwZ s)) ∧ Below w.heap.size w w' := by
  have e : uwZ s = #[.int .i64 0, .int .i64 (nV s 0), .int .i64 (nV s 1), .int .i64 (nV s 2), .int .i64 (nV s 3), .int .i64 (nV s 4), .int .i64 (nV s 5), .string (sT s)] := by unfold uwZ; rw [if_neg (by omega), if_neg (by rw [hm]; simp), if_neg (by rw [h1]; simp), if_neg h2, if_neg h3, if_neg (by simpa using h4), if_neg (by simpa using h5)]; rfl
  rw [e]
  clear e
  have H1 : Hid ((sC s).2 = false) := h1
  clear h1
  have H2 : Hid (¬ 1500 < nV s 6) := h2
  clear h2
  have H3 : Hid (¬ ((sC s).1 : Int) < (s.size : Int)) := (show ¬ ((sC s).1 : Int) < (s.size : Int) by omega)
  clear h3
  have H4 : Hid (sW s = mixv (s.extract 0 (sB s).1) 51) := h4
  clear h4
  have H5 : Hid (frV (swF s) = 0) := h5
  clear h5
  have hq : ¬ (2000 : Int) < (s.size : Int) := by omega
  have hsz : Hid (s.size ≤ 2000) := hs
  have hmk : Hid (((cX s (0, false) 2).toList == [78, 86]) = true) := hm
  clear hs
  have H0 : Hid (Below w.heap.size w (w.alloc (.cells #[.int .i64 0, .int .i64 0, .int .i64 0, .int .i64 0, .int .i64 0, .int .i64 0, .int .i64 0, .string ⟨#[]⟩] 29))) := bx1 _ _
  have HO0 : Hid ((w.alloc (.cells #[.int .i64 0, .int .i64 0, .int .i64 0, .int .i64 0, .int .i64 0, .int .i64 0, .int .i64 0, .string ⟨#[]⟩] 29)).heap[w.heap.size]? = some (.cells #[.int .i64 0, .int .i64 0, .int .i64 0, .int .i64 0, .int .i64 0, .int .i64 0, .int .i64 0, .string ⟨#[]⟩] 29 (0, 0))) := heap_new _ _
  go_enter Tryd.func9, Tryd.ntmps9
  go_upto_region 1 with fail
  generalize (w.alloc (.cells #[.int .i64 0, .int .i64 0, .int .i64 0, .int .i64 0, .int .i64 0, .int .i64 0, .int .i64 0, .string ⟨#[]⟩] 29)) = u0 at *
  generalize hrb : w.heap.size = rb at HO0 ⊢
  have HRB : Hid (w.heap.size = rb) := hrb
  clear hrb
  go_upto_region 3 with fail
  clear hq
  go_upto_region 4 with fail
  have HC1 : Hid (CX (u0.alloc (.cells #[.string s, .int .i64 0, .bool false] 60)) (u0.alloc (.cells #[.string s, .int .i64 0, .bool false] 60)) u0.heap.size s 0 false) := ⟨heap_new _ _, gb_rf _ _⟩
  have HB1 : Hid (Below w.heap.size w (u0.alloc (.cells #[.string s, .int .i64 0, .bool false] 60))) := H0.out.trans ((bx1 _ _).mono H0.out.size)
  have HO1 : Hid ((u0.alloc (.cells #[.string s, .int .i64 0, .bool false] 60)).heap[rb]? = some (.cells #[.int .i64 0, .int .i64 0, .int .i64 0, .int .i64 0, .int .i64 0, .int .i64 0, .int .i64 0, .string ⟨#[]⟩] 29 (0, 0))) := ((bx1 _ _).block _ (Array.getElem?_eq_some_iff.1 HO0.out).1).trans HO0.out
  have HN1 : Hid (rb ≠ u0.heap.size ∧ w.heap.size ≤ u0.heap.size) := ⟨by have := (Array.getElem?_eq_some_iff.1 HO0.out).1; omega, H0.out.size⟩
  clear H0 HO0
  generalize (u0.alloc (.cells #[.string s, .int .i64 0, .bool false] 60)) = u1 at *
  generalize u0.heap.size = b at *
  have HM : Hid (Calls Tryd.prog 27 #[.pointer (some ⟨b, 0, none⟩), .int .i64 2] u1 fun e w' => e = .returned (.string (cX s (0, false) 2)) ∧ CX u1 w' b s (sA s 0).1 (sA s 0).2) := take_any (st := (0, false)) HC1.out (Nat.zero_le _) (by have := hsz.out; omega) 2
  clear hmk
  generalize cX s (0, false) 2 = x at *
  go_upto_region 6 with (go_at_call 27; refine Calls.mono HM.out ?_; rintro e u2 ⟨rfl, hc⟩; have HC2 : Hid (CX u1 u2 b s (sA s 0).1 (sA s 0).2) := hc; have HO2 : Hid (u2.heap[rb]? = some (.cells #[.int .i64 0, .int .i64 0, .int .i64 0, .int .i64 0, .int .i64 0, .int .i64 0, .int .i64 0, .string ⟨#[]⟩] 29 (0, 0))) := hc.keep HO1.out HN1.out.1; clear hc)
  clear hm
  go_upto_region 7 with fail
  have HN2 : Hid (u2.heap.size ≠ b ∧ u2.heap.size ≠ rb ∧ u1.heap.size ≤ u2.heap.size) := ⟨by have := HC2.out.lt; omega, by have := (Array.getElem?_eq_some_iff.1 HO2.out).1; omega, HC2.out.gr.size⟩
  have HC3 : Hid (CX u1 (u2.alloc (.cells #[.int .i64 0, .int .i64 0, .int .i64 0, .int .i64 0, .int .i64 0, .int .i64 0, .int .i64 0, .string ⟨#[]⟩] 29)) b s (sA s 0).1 (sA s 0).2) := HC2.out.below (bx1 _ _)
  have HO3 : Hid ((u2.alloc (.cells #[.int .i64 0, .int .i64 0, .int .i64 0, .int .i64 0, .int .i64 0, .int .i64 0, .int .i64 0, .string ⟨#[]⟩] 29)).heap[rb]? = some (.cells #[.int .i64 0, .int .i64 0, .int .i64 0, .int .i64 0, .int .i64 0, .int .i64 0, .int .i64 0, .string ⟨#[]⟩] 29 (0, 0))) := ((bx1 _ _).block _ (Array.getElem?_eq_some_iff.1 HO2.out).1).trans HO2.out
  have HR3 : Hid ((u2.alloc (.cells #[.int .i64 0, .int .i64 0, .int .i64 0, .int .i64 0, .int .i64 0, .int .i64 0, .int .i64 0, .string ⟨#[]⟩] 29)).heap[u2.heap.size]? = some (.cells #[.int .i64 0, .int .i64 0, .int .i64 0, .int .i64 0, .int .i64 0, .int .i64 0, .int .i64 0, .string ⟨#[]⟩] 29 (0, 0))) := heap_new _ _
  generalize (u2.alloc (.cells #[.int .i64 0, .int .i64 0, .int .i64 0, .int .i64 0, .int .i64 0, .int .i64 0, .int .i64 0, .string ⟨#[]⟩] 29)) = u3 at *
  generalize u2.heap.size = rr at *
  clear HC2 HO2 HO1
  have HT0 : Hid (∀ u, CX u1 u b s (sA s 0).1 (sA s 0).2 → Calls Tryd.prog 27 #[.pointer (some ⟨b, 0, none⟩), .int .i64 3] u fun e w' => e = .returned (.string (sX s 0)) ∧ CX u w' b s (sA s 1).1 (sA s 1).2) := fun u hu => take_any hu.same (sA_le s 0) (by have := hsz.out; omega) 3
  have HD0 : Hid (∀ u, Calls Tryd.prog 28 #[.string (sX s 0)] u fun e w' => e = .returned (.int .i64 (nV s 0)) ∧ w' = u) := fun u => num_any (sX s 0) u (sX_le s 0)
  go_upto_region 8 with (first | (go_at_call 27; refine Calls.mono (HT0.out _ HC3.out) ?_; rintro e t0 ⟨rfl, hc⟩; have HCx : Hid (CX u1 t0 b s (sA s 1).1 (sA s 1).2) := HC3.out.on9 hc; have HOx : Hid (t0.heap[rb]? = some (.cells #[.int .i64 0, .int .i64 0, .int .i64 0, .int .i64 0, .int .i64 0, .int .i64 0, .int .i64 0, .string ⟨#[]⟩] 29 (0, 0))) := hc.keep HO3.out HN1.out.1; have HRx : Hid (t0.heap[rr]? = some (.cells #[.int .i64 0, .int .i64 0, .int .i64 0, .int .i64 0, .int .i64 0, .int .i64 0, .int .i64 0, .string ⟨#[]⟩] 29 (0, 0))) := hc.keep HR3.out HN2.out.1; clear hc; have k0 : t0.cell? ⟨rr, 1, none⟩ = some (.int .i64 0) := cel9 HRx.out 1 _ rfl; have kl := (Array.getElem?_eq_some_iff.1 HRx.out).1; have kf := frz9 HRx.out) | (go_at_call 28; refine Calls.mono (HD0.out _) ?_; rintro e v0 ⟨rfl, h9⟩; subst h9))
  have HC4 : Hid (CX u1 (v0.setCell ⟨rr, 1, none⟩ (.int .i64 (nV s 0))) b s (sA s 1).1 (sA s 1).2) := HCx.out.other HN2.out.1 HN2.out.2.2 _ _
  have HO4 : Hid ((v0.setCell ⟨rr, 1, none⟩ (.int .i64 (nV s 0))).heap[rb]? = some (.cells #[.int .i64 0, .int .i64 0, .int .i64 0, .int .i64 0, .int .i64 0, .int .i64 0, .int .i64 0, .string ⟨#[]⟩] 29 (0, 0))) := (Below.heap_setCell _ _ _ _ (by simpa using fun e => HN2.out.2.1 e.symm)).trans HOx.out
  have HR4 : Hid ((v0.setCell ⟨rr, 1, none⟩ (.int .i64 (nV s 0))).heap[rr]? = some (.cells #[.int .i64 0, .int .i64 (nV s 0), .int .i64 0, .int .i64 0, .int .i64 0, .int .i64 0, .int .i64 0, .string ⟨#[]⟩] 29 (0, 0))) := blk9 HRx.out _
  generalize (v0.setCell ⟨rr, 1, none⟩ (.int .i64 (nV s 0))) = u4 at *
  clear HCx HOx HRx k0 kl kf HC3 HO3 HR3 HT0 HD0
  have HT1 : Hid (∀ u, CX u1 u b s (sA s 1).1 (sA s 1).2 → Calls Tryd.prog 27 #[.pointer (some ⟨b, 0, none⟩), .int .i64 4] u fun e w' => e = .returned (.string (sX s 1)) ∧ CX u w' b s (sA s 2).1 (sA s 2).2) := fun u hu => take_any hu.same (sA_le s 1) (by have := hsz.out; omega) 4
  have HD1 : Hid (∀ u, Calls Tryd.prog 28 #[.string (sX s 1)] u fun e w' => e = .returned (.int .i64 (nV s 1)) ∧ w' = u) := fun u => num_any (sX s 1) u (sX_le s 1)
  go_upto_region 9 with (first | (go_at_call 27; refine Calls.mono (HT1.out _ HC4.out) ?_; rintro e t1 ⟨rfl, hc⟩; have HCx : Hid (CX u1 t1 b s (sA s 2).1 (sA s 2).2) := HC4.out.on9 hc; have HOx : Hid (t1.heap[rb]? = some (.cells #[.int .i64 0, .int .i64 0, .int .i64 0, .int .i64 0, .int .i64 0, .int .i64 0, .int .i64 0, .string ⟨#[]⟩] 29 (0, 0))) := hc.keep HO4.out HN1.out.1; have HRx : Hid (t1.heap[rr]? = some (.cells #[.int .i64 0, .int .i64 (nV s 0), .int .i64 0, .int .i64 0, .int .i64 0, .int .i64 0, .int .i64 0, .string ⟨#[]⟩] 29 (0, 0))) := hc.keep HR4.out HN2.out.1; clear hc; have k0 : t1.cell? ⟨rr, 2, none⟩ = some (.int .i64 0) := cel9 HRx.out 2 _ rfl; have kl := (Array.getElem?_eq_some_iff.1 HRx.out).1; have kf := frz9 HRx.out) | (go_at_call 28; refine Calls.mono (HD1.out _) ?_; rintro e v1 ⟨rfl, h9⟩; subst h9))
  have HC5 : Hid (CX u1 (v1.setCell ⟨rr, 2, none⟩ (.int .i64 (nV s 1))) b s (sA s 2).1 (sA s 2).2) := HCx.out.other HN2.out.1 HN2.out.2.2 _ _
  have HO5 : Hid ((v1.setCell ⟨rr, 2, none⟩ (.int .i64 (nV s 1))).heap[rb]? = some (.cells #[.int .i64 0, .int .i64 0, .int .i64 0, .int .i64 0, .int .i64 0, .int .i64 0, .int .i64 0, .string ⟨#[]⟩] 29 (0, 0))) := (Below.heap_setCell _ _ _ _ (by simpa using fun e => HN2.out.2.1 e.symm)).trans HOx.out
  have HR5 : Hid ((v1.setCell ⟨rr, 2, none⟩ (.int .i64 (nV s 1))).heap[rr]? = some (.cells #[.int .i64 0, .int .i64 (nV s 0), .int .i64 (nV s 1), .int .i64 0, .int .i64 0, .int .i64 0, .int .i64 0, .string ⟨#[]⟩] 29 (0, 0))) := blk9 HRx.out _
  generalize (v1.setCell ⟨rr, 2, none⟩ (.int .i64 (nV s 1))) = u5 at *
  clear HCx HOx HRx k0 kl kf HC4 HO4 HR4 HT1 HD1
  have HT2 : Hid (∀ u, CX u1 u b s (sA s 2).1 (sA s 2).2 → Calls Tryd.prog 27 #[.pointer (some ⟨b, 0, none⟩), .int .i64 4] u fun e w' => e = .returned (.string (sX s 2)) ∧ CX u w' b s (sA s 3).1 (sA s 3).2) := fun u hu => take_any hu.same (sA_le s 2) (by have := hsz.out; omega) 4
  have HD2 : Hid (∀ u, Calls Tryd.prog 28 #[.string (sX s 2)] u fun e w' => e = .returned (.int .i64 (nV s 2)) ∧ w' = u) := fun u => num_any (sX s 2) u (sX_le s 2)
  go_upto_region 10 with (first | (go_at_call 27; refine Calls.mono (HT2.out _ HC5.out) ?_; rintro e t2 ⟨rfl, hc⟩; have HCx : Hid (CX u1 t2 b s (sA s 3).1 (sA s 3).2) := HC5.out.on9 hc; have HOx : Hid (t2.heap[rb]? = some (.cells #[.int .i64 0, .int .i64 0, .int .i64 0, .int .i64 0, .int .i64 0, .int .i64 0, .int .i64 0, .string ⟨#[]⟩] 29 (0, 0))) := hc.keep HO5.out HN1.out.1; have HRx : Hid (t2.heap[rr]? = some (.cells #[.int .i64 0, .int .i64 (nV s 0), .int .i64 (nV s 1), .int .i64 0, .int .i64 0, .int .i64 0, .int .i64 0, .string ⟨#[]⟩] 29 (0, 0))) := hc.keep HR5.out HN2.out.1; clear hc; have k0 : t2.cell? ⟨rr, 3, none⟩ = some (.int .i64 0) := cel9 HRx.out 3 _ rfl; have kl := (Array.getElem?_eq_some_iff.1 HRx.out).1; have kf := frz9 HRx.out) | (go_at_call 28; refine Calls.mono (HD2.out _) ?_; rintro e v2 ⟨rfl, h9⟩; subst h9))
  have HC6 : Hid (CX u1 (v2.setCell ⟨rr, 3, none⟩ (.int .i64 (nV s 2))) b s (sA s 3).1 (sA s 3).2) := HCx.out.other HN2.out.1 HN2.out.2.2 _ _
  have HO6 : Hid ((v2.setCell ⟨rr, 3, none⟩ (.int .i64 (nV s 2))).heap[rb]? = some (.cells #[.int .i64 0, .int .i64 0, .int .i64 0, .int .i64 0, .int .i64 0, .int .i64 0, .int .i64 0, .string ⟨#[]⟩] 29 (0, 0))) := (Below.heap_setCell _ _ _ _ (by simpa using fun e => HN2.out.2.1 e.symm)).trans HOx.out
  have HR6 : Hid ((v2.setCell ⟨rr, 3, none⟩ (.int .i64 (nV s 2))).heap[rr]? = some (.cells #[.int .i64 0, .int .i64 (nV s 0), .int .i64 (nV s 1), .int .i64 (nV s 2), .int .i64 0, .int .i64 0, .int .i64 0, .string ⟨#[]⟩] 29 (0, 0))) := blk9 HRx.out _
  generalize (v2.setCell ⟨rr, 3, none⟩ (.int .i64 (nV s 2))) = u6 at *
  clear HCx HOx HRx k0 kl kf HC5 HO5 HR5 HT2 HD2
  have HT3 : Hid (∀ u, CX u1 u b s (sA s 3).1 (sA s 3).2 → Calls Tryd.prog 27 #[.pointer (some ⟨b, 0, none⟩), .int .i64 6] u fun e w' => e = .returned (.string (sX s 3)) ∧ CX u w' b s (sA s 4).1 (sA s 4).2) := fun u hu => take_any hu.same (sA_le s 3) (by have := hsz.out; omega) 6
  have HD3 : Hid (∀ u, Calls Tryd.prog 28 #[.string (sX s 3)] u fun e w' => e = .returned (.int .i64 (nV s 3)) ∧ w' = u) := fun u => num_any (sX s 3) u (sX_le s 3)
  go_upto_region 11 with (first | (go_at_call 27; refine Calls.mono (HT3.out _ HC6.out) ?_; rintro e t3 ⟨rfl, hc⟩; have HCx : Hid (CX u1 t3 b s (sA s 4).1 (sA s 4).2) := HC6.out.on9 hc; have HOx : Hid (t3.heap[rb]? = some (.cells #[.int .i64 0, .int .i64 0, .int .i64 0, .int .i64 0, .int .i64 0, .int .i64 0, .int .i64 0, .string ⟨#[]⟩] 29 (0, 0))) := hc.keep HO6.out HN1.out.1; have HRx : Hid (t3.heap[rr]? = some (.cells #[.int .i64 0, .int .i64 (nV s 0), .int .i64 (nV s 1), .int .i64 (nV s 2), .int .i64 0, .int .i64 0, .int .i64 0, .string ⟨#[]⟩] 29 (0, 0))) := hc.keep HR6.out HN2.out.1; clear hc; have k0 : t3.cell? ⟨rr, 4, none⟩ = some (.int .i64 0) := cel9 HRx.out 4 _ rfl; have kl := (Array.getElem?_eq_some_iff.1 HRx.out).1; have kf := frz9 HRx.out) | (go_at_call 28; refine Calls.mono (HD3.out _) ?_; rintro e v3 ⟨rfl, h9⟩; subst h9))
  have HC7 : Hid (CX u1 (v3.setCell ⟨rr, 4, none⟩ (.int .i64 (nV s 3))) b s (sA s 4).1 (sA s 4).2) := HCx.out.other HN2.out.1 HN2.out.2.2 _ _
  have HO7 : Hid ((v3.setCell ⟨rr, 4, none⟩ (.int .i64 (nV s 3))).heap[rb]? = some (.cells #[.int .i64 0, .int .i64 0, .int .i64 0, .int .i64 0, .int .i64 0, .int .i64 0, .int .i64 0, .string ⟨#[]⟩] 29 (0, 0))) := (Below.heap_setCell _ _ _ _ (by simpa using fun e => HN2.out.2.1 e.symm)).trans HOx.out
  have HR7 : Hid ((v3.setCell ⟨rr, 4, none⟩ (.int .i64 (nV s 3))).heap[rr]? = some (.cells #[.int .i64 0, .int .i64 (nV s 0), .int .i64 (nV s 1), .int .i64 (nV s 2), .int .i64 (nV s 3), .int .i64 0, .int .i64 0, .string ⟨#[]⟩] 29 (0, 0))) := blk9 HRx.out _
  generalize (v3.setCell ⟨rr, 4, none⟩ (.int .i64 (nV s 3))) = u7 at *
  clear HCx HOx HRx k0 kl kf HC6 HO6 HR6 HT3 HD3
  have HT4 : Hid (∀ u, CX u1 u b s (sA s 4).1 (sA s 4).2 → Calls Tryd.prog 27 #[.pointer (some ⟨b, 0, none⟩), .int .i64 6] u fun e w' => e = .returned (.string (sX s 4)) ∧ CX u w' b s (sA s 5).1 (sA s 5).2) := fun u hu => take_any hu.same (sA_le s 4) (by have := hsz.out; omega) 6
  have HD4 : Hid (∀ u, Calls Tryd.prog 28 #[.string (sX s 4)] u fun e w' => e = .returned (.int .i64 (nV s 4)) ∧ w' = u) := fun u => num_any (sX s 4) u (sX_le s 4)
  go_upto_region 12 with (first | (go_at_call 27; refine Calls.mono (HT4.out _ HC7.out) ?_; rintro e t4 ⟨rfl, hc⟩; have HCx : Hid (CX u1 t4 b s (sA s 5).1 (sA s 5).2) := HC7.out.on9 hc; have HOx : Hid (t4.heap[rb]? = some (.cells #[.int .i64 0, .int .i64 0, .int .i64 0, .int .i64 0, .int .i64 0, .int .i64 0, .int .i64 0, .string ⟨#[]⟩] 29 (0, 0))) := hc.keep HO7.out HN1.out.1; have HRx : Hid (t4.heap[rr]? = some (.cells #[.int .i64 0, .int .i64 (nV s 0), .int .i64 (nV s 1), .int .i64 (nV s 2), .int .i64 (nV s 3), .int .i64 0, .int .i64 0, .string ⟨#[]⟩] 29 (0, 0))) := hc.keep HR7.out HN2.out.1; clear hc; have k0 : t4.cell? ⟨rr, 5, none⟩ = some (.int .i64 0) := cel9 HRx.out 5 _ rfl; have kl := (Array.getElem?_eq_some_iff.1 HRx.out).1; have kf := frz9 HRx.out) | (go_at_call 28; refine Calls.mono (HD4.out _) ?_; rintro e v4 ⟨rfl, h9⟩; subst h9))
  have HC8 : Hid (CX u1 (v4.setCell ⟨rr, 5, none⟩ (.int .i64 (nV s 4))) b s (sA s 5).1 (sA s 5).2) := HCx.out.other HN2.out.1 HN2.out.2.2 _ _
  have HO8 : Hid ((v4.setCell ⟨rr, 5, none⟩ (.int .i64 (nV s 4))).heap[rb]? = some (.cells #[.int .i64 0, .int .i64 0, .int .i64 0, .int .i64 0, .int .i64 0, .int .i64 0, .int .i64 0, .string ⟨#[]⟩] 29 (0, 0))) := (Below.heap_setCell _ _ _ _ (by simpa using fun e => HN2.out.2.1 e.symm)).trans HOx.out
  have HR8 : Hid ((v4.setCell ⟨rr, 5, none⟩ (.int .i64 (nV s 4))).heap[rr]? = some (.cells #[.int .i64 0, .int .i64 (nV s 0), .int .i64 (nV s 1), .int .i64 (nV s 2), .int .i64 (nV s 3), .int .i64 (nV s 4), .int .i64 0, .string ⟨#[]⟩] 29 (0, 0))) := blk9 HRx.out _
  generalize (v4.setCell ⟨rr, 5, none⟩ (.int .i64 (nV s 4))) = u8 at *
  clear HCx HOx HRx k0 kl kf HC7 HO7 HR7 HT4 HD4
  have HT5 : Hid (∀ u, CX u1 u b s (sA s 5).1 (sA s 5).2 → Calls Tryd.prog 27 #[.pointer (some ⟨b, 0, none⟩), .int .i64 2] u fun e w' => e = .returned (.string (sX s 5)) ∧ CX u w' b s (sA s 6).1 (sA s 6).2) := fun u hu => take_any hu.same (sA_le s 5) (by have := hsz.out; omega) 2
  have HD5 : Hid (∀ u, Calls Tryd.prog 28 #[.string (sX s 5)] u fun e w' => e = .returned (.int .i64 (nV s 5)) ∧ w' = u) := fun u => num_any (sX s 5) u (sX_le s 5)
  go_upto_region 13 with (first | (go_at_call 27; refine Calls.mono (HT5.out _ HC8.out) ?_; rintro e t5 ⟨rfl, hc⟩; have HCx : Hid (CX u1 t5 b s (sA s 6).1 (sA s 6).2) := HC8.out.on9 hc; have HOx : Hid (t5.heap[rb]? = some (.cells #[.int .i64 0, .int .i64 0, .int .i64 0, .int .i64 0, .int .i64 0, .int .i64 0, .int .i64 0, .string ⟨#[]⟩] 29 (0, 0))) := hc.keep HO8.out HN1.out.1; have HRx : Hid (t5.heap[rr]? = some (.cells #[.int .i64 0, .int .i64 (nV s 0), .int .i64 (nV s 1), .int .i64 (nV s 2), .int .i64 (nV s 3), .int .i64 (nV s 4), .int .i64 0, .string ⟨#[]⟩] 29 (0, 0))) := hc.keep HR8.out HN2.out.1; clear hc; have k0 : t5.cell? ⟨rr, 6, none⟩ = some (.int .i64 0) := cel9 HRx.out 6 _ rfl; have kl := (Array.getElem?_eq_some_iff.1 HRx.out).1; have kf := frz9 HRx.out) | (go_at_call 28; refine Calls.mono (HD5.out _) ?_; rintro e v5 ⟨rfl, h9⟩; subst h9))
  have HC9 : Hid (CX u1 (v5.setCell ⟨rr, 6, none⟩ (.int .i64 (nV s 5))) b s (sA s 6).1 (sA s 6).2) := HCx.out.other HN2.out.1 HN2.out.2.2 _ _
  have HO9 : Hid ((v5.setCell ⟨rr, 6, none⟩ (.int .i64 (nV s 5))).heap[rb]? = some (.cells #[.int .i64 0, .int .i64 0, .int .i64 0, .int .i64 0, .int .i64 0, .int .i64 0, .int .i64 0, .string ⟨#[]⟩] 29 (0, 0))) := (Below.heap_setCell _ _ _ _ (by simpa using fun e => HN2.out.2.1 e.symm)).trans HOx.out
  have HR9 : Hid ((v5.setCell ⟨rr, 6, none⟩ (.int .i64 (nV s 5))).heap[rr]? = some (.cells #[.int .i64 0, .int .i64 (nV s 0), .int .i64 (nV s 1), .int .i64 (nV s 2), .int .i64 (nV s 3), .int .i64 (nV s 4), .int .i64 (nV s 5), .string ⟨#[]⟩] 29 (0, 0))) := blk9 HRx.out _
  generalize (v5.setCell ⟨rr, 6, none⟩ (.int .i64 (nV s 5))) = u9 at *
  clear HCx HOx HRx k0 kl kf HC8 HO8 HR8 HT5 HD5
  have HT6 : Hid (∀ u, CX u1 u b s (sA s 6).1 (sA s 6).2 → Calls Tryd.prog 27 #[.pointer (some ⟨b, 0, none⟩), .int .i64 2] u fun e w' => e = .returned (.string (sX s 6)) ∧ CX u w' b s (sA s 7).1 (sA s 7).2) := fun u hu => take_any hu.same (sA_le s 6) (by have := hsz.out; omega) 2
  have HD6 : Hid (∀ u, Calls Tryd.prog 28 #[.string (sX s 6)] u fun e w' => e = .returned (.int .i64 (nV s 6)) ∧ w' = u) := fun u => num_any (sX s 6) u (sX_le s 6)
  go_upto_region 14 with (first | (go_at_call 27; refine Calls.mono (HT6.out _ HC9.out) ?_; rintro e t6 ⟨rfl, hc⟩; have HCx : Hid (CX u1 t6 b s (sA s 7).1 (sA s 7).2) := HC9.out.on9 hc; have HOx : Hid (t6.heap[rb]? = some (.cells #[.int .i64 0, .int .i64 0, .int .i64 0, .int .i64 0, .int .i64 0, .int .i64 0, .int .i64 0, .string ⟨#[]⟩] 29 (0, 0))) := hc.keep HO9.out HN1.out.1; have HRx : Hid (t6.heap[rr]? = some (.cells #[.int .i64 0, .int .i64 (nV s 0), .int .i64 (nV s 1), .int .i64 (nV s 2), .int .i64 (nV s 3), .int .i64 (nV s 4), .int .i64 (nV s 5), .string ⟨#[]⟩] 29 (0, 0))) := hc.keep HR9.out HN2.out.1; clear hc; have k0 : t6.cell? ⟨rr, 0, none⟩ = some (.int .i64 0) := cel9 HRx.out 0 _ rfl; have kl := (Array.getElem?_eq_some_iff.1 HRx.out).1; have kf := frz9 HRx.out) | (go_at_call 28; refine Calls.mono (HD6.out _) ?_; rintro e v6 ⟨rfl, h9⟩; subst h9))
  clear k0 kl kf HC9 HO9 HR9 HT6 HD6
  have HT7 : Hid (∀ u, CX u1 u b s (sA s 7).1 (sA s 7).2 → Calls Tryd.prog 27 #[.pointer (some ⟨b, 0, none⟩), .int .i64 (nV s 6)] u fun e w' => e = .returned (.string (sT s)) ∧ CX u w' b s (sB s).1 (sB s).2) := fun u hu => by rw [← sN_eq s]; exact take_any hu.same (sA_le s 7) (by have := hsz.out; omega) (sN s)
  go_upto_region 15 with (go_at_call 27; refine Calls.mono (HT7.out _ HCx.out) ?_; rintro e t7 ⟨rfl, hc⟩; have HCy : Hid (CX u1 t7 b s (sB s).1 (sB s).2) := HCx.out.on9 hc; have HOy : Hid (t7.heap[rb]? = some (.cells #[.int .i64 0, .int .i64 0, .int .i64 0, .int .i64 0, .int .i64 0, .int .i64 0, .int .i64 0, .string ⟨#[]⟩] 29 (0, 0))) := hc.keep HOx.out HN1.out.1; have HRy : Hid (t7.heap[rr]? = some (.cells #[.int .i64 0, .int .i64 (nV s 0), .int .i64 (nV s 1), .int .i64 (nV s 2), .int .i64 (nV s 3), .int .i64 (nV s 4), .int .i64 (nV s 5), .string ⟨#[]⟩] 29 (0, 0))) := hc.keep HRx.out HN2.out.1; clear hc; have k0 : t7.cell? ⟨rr, 7, none⟩ = some (.string ⟨#[]⟩) := cel9 HRy.out 7 _ rfl; have kl := (Array.getElem?_eq_some_iff.1 HRy.out).1; have kf := frz9 HRy.out)
  have HC10 : Hid (CX u1 (t7.setCell ⟨rr, 7, none⟩ (.string (sT s))) b s (sB s).1 (sB s).2) := HCy.out.other HN2.out.1 HN2.out.2.2 _ _
  have HO10 : Hid ((t7.setCell ⟨rr, 7, none⟩ (.string (sT s))).heap[rb]? = some (.cells #[.int .i64 0, .int .i64 0, .int .i64 0, .int .i64 0, .int .i64 0, .int .i64 0, .int .i64 0, .string ⟨#[]⟩] 29 (0, 0))) := (Below.heap_setCell _ _ _ _ (by simpa using fun e => HN2.out.2.1 e.symm)).trans HOy.out
  have HR10 : Hid ((t7.setCell ⟨rr, 7, none⟩ (.string (sT s))).heap[rr]? = some (.cells #[.int .i64 0, .int .i64 (nV s 0), .int .i64 (nV s 1), .int .i64 (nV s 2), .int .i64 (nV s 3), .int .i64 (nV s 4), .int .i64 (nV s 5), .string (sT s)] 29 (0, 0))) := blk9 HRy.out _
  generalize (t7.setCell ⟨rr, 7, none⟩ (.string (sT s))) = u10 at *
  clear HCx HOx HRx HCy HOy HRy k0 kl kf HT7
  obtain ⟨c0, c1, c2⟩ := HC10.out.cel
  have cl := HC10.out.lt
  go_upto_region 16 with fail
  clear c0 c1 c2 cl
  have HWD : Hid (Calls Tryd.prog 29 #[.pointer (some ⟨b, 0, none⟩)] u10 fun e w' => e = .returned (.int .i64 (sW s)) ∧ CX u10 w' b s (sC s).1 (sC s).2) := word_any HC10.out.same (sB_le s) (by have := hsz.out; omega)
  go_upto_region 17 with (go_at_call 29; refine Calls.mono HWD.out ?_; rintro e u11 ⟨rfl, hc⟩; have HC9 : Hid (CX u1 u11 b s (sC s).1 (sC s).2) := HC10.out.on9 hc; have HO9 : Hid (u11.heap[rb]? = some (.cells #[.int .i64 0, .int .i64 0, .int .i64 0, .int .i64 0, .int .i64 0, .int .i64 0, .int .i64 0, .string ⟨#[]⟩] 29 (0, 0))) := hc.keep HO10.out HN1.out.1; have HR9 : Hid (u11.heap[rr]? = some (.cells #[.int .i64 0, .int .i64 (nV s 0), .int .i64 (nV s 1), .int .i64 (nV s 2), .int .i64 (nV s 3), .int .i64 (nV s 4), .int .i64 (nV s 5), .string (sT s)] 29 (0, 0))) := hc.keep HR10.out HN2.out.1; clear hc)
  clear HWD HC10 HO10 HR10
  have HB9 : Hid (Below w.heap.size w u11) := HB1.out.grown HC9.out.gr HB1.out.size (fun j hj => by injection hj with hj; have := HN1.out.2; omega)
  obtain ⟨c0, c1, c2⟩ := HC9.out.cel
  have cl := HC9.out.lt
  obtain ⟨g0, g1, g2, g3, g4, g5, g6, g7⟩ := eightV HO9.out
  have gf := frz9 HO9.out
  have gl := (Array.getElem?_eq_some_iff.1 HO9.out).1
  obtain ⟨d0, d1, d2, d3, d4, d5, d6, d7⟩ := eightV HR9.out
  have df := frz9 HR9.out
  have dl := (Array.getElem?_eq_some_iff.1 HR9.out).1
  rw [H1.out] at c2
  have h2 := H2.out
  have h3 := H3.out
  go_upto_region 19 with fail
  have hsl := sl_to s (sB s).1 (sB_le s)
  have hmx : Hid (∀ u, Calls Tryd.prog 24 #[.string (s.extract 0 (sB s).1), .int .i64 51] u fun e w' => e = .returned (.int .i64 (mixv (s.extract 0 (sB s).1) 51)) ∧ w' = u) := fun u => specMix_any _ 51 u (by rw [ByteArray.size_extract]; have := hsz.out; omega)
  go_upto_region 21 with (go_at_call 24; refine Calls.mono (hmx.out _) ?_; rintro e u12 ⟨rfl, h9⟩; subst h9; have h4 := H4.out)
  have hff : Hid (∀ u, Calls Tryd.prog 20 #[frA (swF s)] u fun e w' => e = .returned (.int .i64 (frV (swF s))) ∧ Below u.heap.size u w') := fun u => specFF_any (swF s) u
  unfold frA swF at hff
  go_upto_region 23 with (go_at_call 20; refine Calls.mono (hff.out _) ?_; rintro e u13 ⟨rfl, hb⟩; have HB8 : Hid (Below w.heap.size w u13) := HB9.out.trans (hb.mono HB9.out.size); have HO8 : Hid (u13.heap[rb]? = some (.cells #[.int .i64 0, .int .i64 0, .int .i64 0, .int .i64 0, .int .i64 0, .int .i64 0, .int .i64 0, .string ⟨#[]⟩] 29 (0, 0))) := (hb.block _ (Array.getElem?_eq_some_iff.1 HO9.out).1).trans HO9.out; have HR8 : Hid (u13.heap[rr]? = some (.cells #[.int .i64 0, .int .i64 (nV s 0), .int .i64 (nV s 1), .int .i64 (nV s 2), .int .i64 (nV s 3), .int .i64 (nV s 4), .int .i64 (nV s 5), .string (sT s)] 29 (0, 0))) := (hb.block _ (Array.getElem?_eq_some_iff.1 HR9.out).1).trans HR9.out; clear hb; have h5 := H5.out; unfold swF at h5)
  clear g0 g1 g2 g3 g4 g5 g6 g7 gf gl d0 d1 d2 d3 d4 d5 d6 d7 df dl c0 c1 c2 cl HB9 HO9 HR9 HC9
  have HB9 : Hid _ := HB8.out
  have HO9 : Hid _ := HO8.out
  obtain ⟨g0, g1, g2, g3, g4, g5, g6, g7⟩ := eightV HO9.out
  have gf := frz9 HO9.out
  have gl := (Array.getElem?_eq_some_iff.1 HO9.out).1
  obtain ⟨d0, d1, d2, d3, d4, d5, d6, d7⟩ := eightV HR8.out
  have df := frz9 HR8.out
  have dl := (Array.getElem?_eq_some_iff.1 HR8.out).1
  go_wp2
  have hbx := putV_box HO9.out (.int .i64 0) (.int .i64 (nV s 0)) (.int .i64 (nV s 1)) (.int .i64 (nV s 2)) (.int .i64 (nV s 3)) (.int .i64 (nV s 4)) (.int .i64 (nV s 5)) (.string (sT s))
  have hbf := putV_bel (p := rb) HB9.out (by have := HRB.out; omega) (.int .i64 0) (.int .i64 (nV s 0)) (.int .i64 (nV s 1)) (.int .i64 (nV s 2)) (.int .i64 (nV s 3)) (.int .i64 (nV s 4)) (.int .i64 (nV s 5)) (.string (sT s))
  refine bodyPost_ret (v := .agg #[.int .i64 0, .int .i64 (nV s 0), .int .i64 (nV s 1), .int .i64 (nV s 2), .int .i64 (nV s 3), .int .i64 (nV s 4), .int .i64 (nV s 5), .string (sT s)]) ?_ rfl ⟨rfl, hbf⟩
  obtain ⟨f0, f1, f2, f3, f4, f5, f6, f7⟩ := eightV hbx
  simp only [putV] at f0 f1 f2 f3 f4 f5 f6 f7
  simp [results, Tryd.results9, go_sem, f0, f1, f2, f3, f4, f5, f6, f7]
end Go.Proofs.YtmmodmanfoipiaaDoor
