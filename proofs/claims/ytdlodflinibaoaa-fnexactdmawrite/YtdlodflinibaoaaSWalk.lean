import Derived.Test.YtdlodflinibaoaaSWalkP
import Derived.Laws.AppendOwn
import Derived.Laws.OwnMore
namespace Go.Proofs.Ytdlodflinibaoaa
open Go.ChangeShapes Go.WideShapes Go.ChangeAt Go.RowKit

def wkA (r : WV) (v : Value) : Value := .agg #[.int .i64 r.fault, .int .i64 r.pa, .int .i64 r.entry, .bool r.large, v, .string r.mem]
theorem memC_ok {s : ByteArray} (h : memOk s = true) : memC s = 0 := by simp [memC, h]
theorem memC_no {s : ByteArray} (h : memOk s = false) : memC s = 1 := by simp [memC, h]
theorem memOk_b {s : ByteArray} (h : memOk s = true) : s.size ≠ 0 ∧ s.size ≤ 65536 ∧ s.size % 256 = 0 := by simpa [memOk] using h
theorem Try.info2 : (Try.prog.info? 2).map (fun i => (i.zero, i.size, i.bytes)) = some (some (.int .i64 0), 1, 8) := by kernel_rfl
theorem drewN_alloc (w : World) (o : Obj) (n : Nat) : (w.alloc o).drewN n = (w.drewN n).alloc o := rfl
theorem own_below {w w' : World} {B e size n : Nat} {v : Value} {xs : List Value} (h : w.ownsRow B e size v n xs) (hb : Below w.heap.size w w') : w'.ownsRow B e size v n xs :=
  h.kept (row := none) ⟨hb.os, hb.tape, hb.output, hb.size, fun k hk _ => hb.block k hk⟩ (by cases v.ownBlock <;> simp)
theorem own_set {w : World} {B e size n : Nat} {v x : Value} {xs : List Value} {p : Addr} (h : w.ownsRow B e size v n xs) (hp : v.ownBlock ≠ some p.block) : (w.setCell p x).ownsRow B e size v n xs :=
  h.kept (row := some p.block) ⟨rfl, rfl, rfl, by simp [World.setCell], fun k _ hn => Below.heap_setCell _ _ _ _ (fun e => hn (congrArg some e))⟩ (.inr hp)
theorem own3 (w0 : World) (B : Nat) (c1 c2 : Array Value) (t1 t2 : Nat) (x : Value) (hB : B ≤ w0.heap.size) : (((w0.alloc (.cells c1 t1)).alloc (.cells #[x] 2)).alloc (.cells c2 t2)).ownsRow B 2 1 (.slice (some ⟨w0.heap.size + 1, 0, none⟩) 1 1) 1 [x] := by
  have h := World.ownsRow_lit (base := B) (e := 2) (size := 1) (w0.alloc (.cells c1 t1)) #[x] 1 (by simp; omega) (by decide) rfl
  have h2 := h.alloc (.cells c2 t2)
  simpa using h2
theorem bel3 (w : World) (q : Nat) (a b c : Obj) : Below w.heap.size w ((((w.drewN q).alloc a).alloc b).alloc c) := by
  have h0 : Below w.heap.size w (w.drewN q) := bdn (Below.refl _ _) q
  exact ((h0.alloc h0.size a).alloc (by simp) b).alloc (by simp; omega) c
theorem heap_new (w : World) (o : Obj) : (w.alloc o).heap[w.heap.size]? = some o := (MapKept.heap_alloc w o).1
theorem bx3 {w0 u : World} {c1 c2 : Array Value} {t1 t2 : Nat} {o : Obj} (hu : Below (((w0.alloc (.cells c1 t1)).alloc o).alloc (.cells c2 t2)).heap.size (((w0.alloc (.cells c1 t1)).alloc o).alloc (.cells c2 t2)) u) :
    u.heap[w0.heap.size]? = some (.cells c1 t1 (0, 0)) ∧ u.heap[w0.heap.size + 1 + 1]? = some (.cells c2 t2 (0, 0)) := by
  constructor
  · rw [hu.block _ (by simp; omega)]
    have h1 : (w0.alloc (.cells c1 t1)).heap[w0.heap.size]? = some (.cells c1 t1 (0, 0)) := heap_new _ _
    rw [Below.heap_alloc _ _ _ (by simp; omega), Below.heap_alloc _ _ _ (by simp)]
    exact h1
  · rw [hu.block _ (by simp)]
    have h1 := heap_new ((w0.alloc (.cells c1 t1)).alloc o) (.cells c2 t2)
    simpa using h1
theorem cel6 {u : World} {b t : Nat} {a0 a1 a2 a3 a4 a5 : Value} (h : u.heap[b]? = some (.cells #[a0, a1, a2, a3, a4, a5] t (0, 0))) : u.cell? ⟨b, 0, none⟩ = some a0 ∧ u.cell? ⟨b, 1, none⟩ = some a1 ∧ u.cell? ⟨b, 2, none⟩ = some a2 ∧
    u.cell? ⟨b, 3, none⟩ = some a3 ∧ u.cell? ⟨b, 4, none⟩ = some a4 ∧ u.cell? ⟨b, 5, none⟩ = some a5 ∧ ∀ o, u.frozen? ⟨b, o, none⟩ = false := by
  simp [World.cell?, World.frozen?, h]
theorem own5 (w1 : World) (B : Nat) (c1 c2 : Array Value) (t1 t2 : Nat) (r x : Value) (hB : B ≤ w1.heap.size) :
    ((((((w1.alloc (.cells c1 t1)).alloc (.cells #[r] 2)).alloc (.cells c2 t2)).alloc (.cells #[x] 2)).alloc (.cells (#[r, x] ++ Builtin.zeroCells #[.int .i64 0] ((Question.appendCap 2 1 2).cut (w1.tape w1.drawn (Question.appendCap 2 1 2)) - 2)) 2)).drew).ownsRow B 2 1 (.slice (some ⟨w1.heap.size + 1 + 1 + 1 + 1, 0, none⟩) 2 (grownCap w1 2 1 2)) 2 [r, x] := by
  have hge := grownCap_ge w1 2 1 2
  have hcm := grownCap_le_maxLen w1 2 1 2 (by decide)
  have hs : (Builtin.zeroCells #[.int .i64 0] (grownCap w1 2 1 2 - 2)).size = grownCap w1 2 1 2 - 2 := by simp [Builtin.zeroCells]
  refine ⟨rfl, .inr ⟨_, _, #[r, x] ++ Builtin.zeroCells #[.int .i64 0] (grownCap w1 2 1 2 - 2), rfl, ?_, ?_, hge, hcm, ?_, ?_⟩⟩
  · show B ≤ w1.heap.size + 1 + 1 + 1 + 1
    omega
  · have h := heap_new ((((w1.alloc (.cells c1 t1)).alloc (.cells #[r] 2)).alloc (.cells c2 t2)).alloc (.cells #[x] 2)) (.cells (#[r, x] ++ Builtin.zeroCells #[.int .i64 0] (grownCap w1 2 1 2 - 2)) 2)
    have e : ((((w1.alloc (.cells c1 t1)).alloc (.cells #[r] 2)).alloc (.cells c2 t2)).alloc (.cells #[x] 2)).heap.size = w1.heap.size + 1 + 1 + 1 + 1 := by simp
    rw [e] at h
    exact h
  · rw [Array.size_append, hs]
    simp
    omega
  · simp
theorem bel5 (w : World) (q q' : Nat) (a b c d e : Obj) : Below w.heap.size w ((((((((w.drewN q).drewN q').alloc a).alloc b).alloc c).alloc d).alloc e).drew) := by
  have h0 : Below w.heap.size w ((w.drewN q).drewN q') := bdn (bdn (Below.refl _ _) q) q'
  have h1 := ((((h0.alloc h0.size a).alloc (by simp) b).alloc (by simp; omega) c).alloc (by simp; omega) d).alloc (by simp; omega) e
  exact ⟨h1.os, h1.tape, h1.output, h1.size, h1.block⟩
theorem bx5 {w0 u : World} {c1 c2 : Array Value} {t1 t2 : Nat} {o p q : Obj} (hu : Below (((((w0.alloc (.cells c1 t1)).alloc o).alloc (.cells c2 t2)).alloc p).alloc q).drew.heap.size (((((w0.alloc (.cells c1 t1)).alloc o).alloc (.cells c2 t2)).alloc p).alloc q).drew u) :
    u.heap[w0.heap.size]? = some (.cells c1 t1 (0, 0)) ∧ u.heap[w0.heap.size + 1 + 1]? = some (.cells c2 t2 (0, 0)) := by
  have h := bx3 (w0 := w0) (c1 := c1) (c2 := c2) (t1 := t1) (t2 := t2) (o := o) (Below.refl _ _)
  constructor
  · rw [hu.block _ (by simp <;> omega)]
    show (((((w0.alloc (.cells c1 t1)).alloc o).alloc (.cells c2 t2)).alloc p).alloc q).heap[w0.heap.size]? = _
    rw [Below.heap_alloc _ _ _ (by simp <;> omega), Below.heap_alloc _ _ _ (by simp <;> omega)]
    exact h.1
  · rw [hu.block _ (by simp <;> omega)]
    show (((((w0.alloc (.cells c1 t1)).alloc o).alloc (.cells c2 t2)).alloc p).alloc q).heap[w0.heap.size + 1 + 1]? = _
    rw [Below.heap_alloc _ _ _ (by simp <;> omega), Below.heap_alloc _ _ _ (by simp <;> omega)]
    exact h.2
theorem l03Entry_at (s : ByteArray) (t k : Nat) (x y : Int) (w : World) (hx : x = t) (hy : y = k) (h : (t + 1) * 256 ≤ s.size) (hk : k ≤ 31) (hs : s.size ≤ 65536) :
    Calls Try.prog 109 #[.string s, .int .i64 x, .int .i64 y] w fun e w' => e = .returned (.tuple #[.int .i64 (wv s (t * 256 + 4 * k)), .bool true]) ∧ ∃ q, w' = w.drewN q := by
  subst hx
  subst hy
  exact l03Entry_yes s t k w h hk hs
set_option maxRecDepth 100000 in
set_option maxHeartbeats 1000000 in
/-- The root is not in memory. -/
theorem specWalk_A (s : ByteArray) (root va : Nat) (acc : Int) (user : Bool) (w : World) (hm : memOk s = true) (r1 : root ≤ 255) (v1 : va ≤ 262143) (a1 : 1 ≤ acc) (a2 : acc ≤ 3) (hr : s.size < (root + 1) * 256) :
    Calls Try.prog 82 #[.string s, .int .i64 root, .int .i64 va, .int .i64 acc, .bool user] w fun e w' => ∃ v, e = .returned (wkA ⟨2, 0, 0, false, [], s⟩ v) ∧ w'.ownsRow w.heap.size 2 1 v 0 [] ∧ Below w.heap.size w w' := by
  have hc : Hid _ := memC_ok hm
  obtain ⟨_, hs, _⟩ := memOk_b hm
  have hv : (decide (262144 ≤ (va : Int))) = false := by
    simp
    omega
  have i1 : (va : Int) / 8192 ≤ 31 := by omega
  have V1 : Hid (va ≤ 262143) := v1
  clear hm v1
  go_enter Try.func82, Try.ntmps82
  go_wp2_with (first | (go_at_call 81; refine (specMemFault_any _ _ (by omega)).mono ?_; rintro e u1 ⟨rfl, hu1⟩; subst hu1; rw [hc.out]) | (go_at_call 108; refine (l03Acc_yes _ _ (by omega) (by omega)).mono ?_; rintro e u2 ⟨rfl, hu2⟩; subst hu2) | (go_at_call 109; refine (l03Entry_no _ _ _ _ (by omega) (by omega) (by omega)).mono ?_; rintro e u3 ⟨rfl, hu3⟩; subst hu3))
  refine bodyPost_ret (v := wkA ⟨2, 0, 0, false, [], s⟩ (.slice (some ⟨w.heap.size + 1 + 1 + 1, 0, none⟩) 0 0)) (by simp [results, Try.results82, go_sem, wkA]) rfl ⟨_, rfl, ?_, ?_⟩
  · have hw := World.ownsRow_lit (base := w.heap.size) (e := 2) (size := 1) (((w.alloc (.cells #[.int .i64 2, .int .i64 0, .int .i64 0, .bool false, .slice (some ⟨w.heap.size + 1 + 1 + 1, 0, none⟩) 0 0, .string s] 133)).alloc (.cells #[.int .i64 root] 2)).alloc (.cells #[.int .i64 2, .int .i64 0, .int .i64 0, .bool false, .slice (some ⟨w.heap.size + 1 + 1 + 1, 0, none⟩) 0 0, .string s] 133)) #[] 0 (by simp; omega) (by decide) rfl
    simpa using hw
  · exact ((((Below.refl _ _).alloc (Nat.le_refl _) _).alloc (by simp) _).alloc (by simp; omega) _).alloc (by simp; omega) _
end Go.Proofs.Ytdlodflinibaoaa
