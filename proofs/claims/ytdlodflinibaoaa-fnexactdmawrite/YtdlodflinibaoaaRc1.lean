import Derived.Test.YtdlodflinibaoaaCr2
import Derived.Test.YtdlodflinibaoaaRd2
import Derived.Deep.DeepCutAuto
namespace Go.Proofs.Ytdlodflinibaoaa
open Go.ChangeShapes Go.WideShapes Go.ChangeAt Go.RowKit

/-- What indirectTable tells. -/
def itC (n : Nat) (inn nx : Bool) (P L : Nat) : Int := if inn = true then 3 else if nx = true then 3 else if P % 4 ≠ 0 then 3 else if L % 16 ≠ 0 then 3 else if L < 16 then 3 else if 256 < L then 3 else if inW n P L = true then 0 else 2
def itA (c : Int) (P L : Nat) : Value := if c = 0 then .agg #[.int .i64 P, .int .i64 ((L / 16 : Nat) : Int), .bool true] else .agg #[.int .i64 0, .int .i64 0, .bool false]
/-- Three boxes behind one another. -/
structure ThBx (w u : World) (cs : Array Value) (t : Nat) (ds : Array Value) (t2 : Nat) (es : Array Value) (t3 : Nat) : Prop where
  bel : Below w.heap.size w u
  b1 : u.heap[w.heap.size]? = some (.cells cs t (0, 0))
  b2 : u.heap[w.heap.size + 1]? = some (.cells ds t2 (0, 0))
  b3 : u.heap[w.heap.size + 2]? = some (.cells es t3 (0, 0))
theorem ThBx.new (w : World) (cs : Array Value) (t : Nat) (ds : Array Value) (t2 : Nat) (es : Array Value) (t3 : Nat) : ThBx w (((w.alloc (.cells cs t)).alloc (.cells ds t2)).alloc (.cells es t3)) cs t ds t2 es t3 := by
  refine ⟨((bx1 _ _).alloc (by simp) _).alloc (by simp; omega) _, ?_, ?_, ?_⟩
  · have h1 := heap_new w (.cells cs t)
    have h2 := ((bx1 (w.alloc (.cells cs t)) (.cells ds t2)).block w.heap.size (by simp)).trans h1
    exact ((bx1 _ (.cells es t3)).block w.heap.size (by simp; omega)).trans h2
  · have h1 := heap_new (w.alloc (.cells cs t)) (.cells ds t2)
    rw [show (w.alloc (.cells cs t)).heap.size = w.heap.size + 1 by simp] at h1
    exact ((bx1 _ (.cells es t3)).block (w.heap.size + 1) (by simp)).trans h1
  · have h1 := heap_new ((w.alloc (.cells cs t)).alloc (.cells ds t2)) (.cells es t3)
    rw [show ((w.alloc (.cells cs t)).alloc (.cells ds t2)).heap.size = w.heap.size + 2 by simp] at h1
    exact h1
theorem ThBx.lt {w u : World} {cs ds es : Array Value} {t t2 t3 : Nat} (h : ThBx w u cs t ds t2 es t3) : w.heap.size + 2 < u.heap.size := (Array.getElem?_eq_some_iff.1 h.b3).1
theorem ThBx.step {w u u' : World} {cs ds es : Array Value} {t t2 t3 : Nat} (h : ThBx w u cs t ds t2 es t3) (hb : Below u.heap.size u u') : ThBx w u' cs t ds t2 es t3 := by
  have hl := h.lt
  exact ⟨h.bel.trans (hb.mono h.bel.size), (hb.block _ (by omega)).trans h.b1, (hb.block _ (by omega)).trans h.b2, (hb.block _ hl).trans h.b3⟩
theorem bC {u : World} {b t : Nat} {cs : Array Value} (h : u.heap[b]? = some (.cells cs t (0, 0))) (k : Nat) (v : Value) (hv : cs[k]? = some v) : u.cell? ⟨b, k, none⟩ = some v := by simp [World.cell?, h, hv]
theorem bF {u : World} {b t : Nat} {cs : Array Value} (h : u.heap[b]? = some (.cells cs t (0, 0))) (k : Nat) : u.frozen? ⟨b, k, none⟩ = false := by simp [World.frozen?, h]
set_option maxRecDepth 100000 in
set_option maxHeartbeats 4000000 in
theorem indirect_any {w : World} {Bc mb n : Nat} {v : Value} {zs : List BU} {s : ByteArray} (h : CR w Bc mb n v zs s) (T S num : Int) (inn wr nx id av us : Bool) (P L : Nat) (hn : s.size = n * 256) (hs : s.size ≤ 65536) (hP : P ≤ 4294967295) (hL : L ≤ 4294967295) :
    Calls Try.prog 136 #[.pointer (some ⟨Bc, 0, none⟩), .agg #[.int .i64 T, .int .i64 S, .bool inn], .agg #[.int .i64 P, .int .i64 L, .bool wr, .bool nx, .bool id, .bool av, .bool us, .int .i64 num]] w fun e w' => e = .returned (.tuple #[itA (itC s.size inn nx P L) P L, .int .i64 (itC s.size inn nx P L)]) ∧ Below w.heap.size w w' := by
  have HT0 : Hid _ := ThBx.new w #[.int .i64 T, .int .i64 S, .bool inn] 176 #[.int .i64 P, .int .i64 L, .bool wr, .bool nx, .bool id, .bool av, .bool us, .int .i64 num] 154 #[.int .i64 0, .int .i64 0, .bool false] 176
  have HH : Hid (∀ u, Below w.heap.size w u → Calls Try.prog 141 #[.pointer (some ⟨Bc, 0, none⟩), .agg #[.int .i64 P, .int .i64 L, .bool wr]] u fun e w' => e = .returned (.bool (inW s.size P L)) ∧ Below u.heap.size u w') := fun u hu => crHolds_any (h.below hu) ⟨P, L, wr⟩ hn hs (by unfold i64B; simp; omega)
  have hPb : (P : Int) ≤ 4294967295 := by omega
  have hLb : (L : Int) ≤ 4294967295 := by omega
  clear h hn hs hP hL
  cases inn
  case true =>
    have E : Hid (itC s.size true nx P L = 3) := rfl
    go_enter Try.func136, Try.ntmps136
    go_wp2_with fail
    generalize (((w.alloc (.cells #[.int .i64 T, .int .i64 S, .bool true] 176)).alloc (.cells #[.int .i64 P, .int .i64 L, .bool wr, .bool nx, .bool id, .bool av, .bool us, .int .i64 num] 154)).alloc (.cells #[.int .i64 0, .int .i64 0, .bool false] 176)) = y0 at *
    have k0 := bC HT0.out.b1 2 _ rfl
    have d0 := bC HT0.out.b2 0 _ rfl
    have d1 := bC HT0.out.b2 1 _ rfl
    have d2 := bC HT0.out.b2 2 _ rfl
    have d3 := bC HT0.out.b2 3 _ rfl
    have lt0 := HT0.out.lt
    have r0 := bC HT0.out.b3 0 _ rfl
    have r1 := bC HT0.out.b3 1 _ rfl
    have r2 := bC HT0.out.b3 2 _ rfl
    have rf := fun k => bF HT0.out.b3 k
    go_quiet (fail)
    go_wp2_with fail
    rw [E.out]
    refine bodyPost_ret (v := .tuple #[.agg #[.int .i64 0, .int .i64 0, .bool false], .int .i64 3]) ?_ rfl ⟨rfl, ?_⟩
    · simp [results, Try.results136, go_sem, r0, r1, r2]
    · exact (((bdn HT0.out.bel _).setCell (by simp; omega) _).setCell (by simp; omega) _).setCell (by simp; omega) _
  cases nx
  case true =>
    have E : Hid (itC s.size false true P L = 3) := rfl
    go_enter Try.func136, Try.ntmps136
    go_wp2_with fail
    generalize (((w.alloc (.cells #[.int .i64 T, .int .i64 S, .bool false] 176)).alloc (.cells #[.int .i64 P, .int .i64 L, .bool wr, .bool true, .bool id, .bool av, .bool us, .int .i64 num] 154)).alloc (.cells #[.int .i64 0, .int .i64 0, .bool false] 176)) = y0 at *
    have k0 := bC HT0.out.b1 2 _ rfl
    have d0 := bC HT0.out.b2 0 _ rfl
    have d1 := bC HT0.out.b2 1 _ rfl
    have d2 := bC HT0.out.b2 2 _ rfl
    have d3 := bC HT0.out.b2 3 _ rfl
    have lt0 := HT0.out.lt
    have r0 := bC HT0.out.b3 0 _ rfl
    have r1 := bC HT0.out.b3 1 _ rfl
    have r2 := bC HT0.out.b3 2 _ rfl
    have rf := fun k => bF HT0.out.b3 k
    go_quiet (fail)
    go_wp2_with fail
    rw [E.out]
    refine bodyPost_ret (v := .tuple #[.agg #[.int .i64 0, .int .i64 0, .bool false], .int .i64 3]) ?_ rfl ⟨rfl, ?_⟩
    · simp [results, Try.results136, go_sem, r0, r1, r2]
    · exact (((bdn HT0.out.bel _).setCell (by simp; omega) _).setCell (by simp; omega) _).setCell (by simp; omega) _
  by_cases h1 : P % 4 = 0
  case neg =>
    have E : Hid (itC s.size false false P L = 3) := (show itC s.size false false P L = 3 by unfold itC; simp [h1])
    have g1 : (((P : Int) % 4) == 0) = false := by simp; omega
    have g1' : ¬ (P : Int) % 4 = 0 := by omega
    go_enter Try.func136, Try.ntmps136
    go_wp2_with fail
    generalize (((w.alloc (.cells #[.int .i64 T, .int .i64 S, .bool false] 176)).alloc (.cells #[.int .i64 P, .int .i64 L, .bool wr, .bool false, .bool id, .bool av, .bool us, .int .i64 num] 154)).alloc (.cells #[.int .i64 0, .int .i64 0, .bool false] 176)) = y0 at *
    have k0 := bC HT0.out.b1 2 _ rfl
    have d0 := bC HT0.out.b2 0 _ rfl
    have d1 := bC HT0.out.b2 1 _ rfl
    have d2 := bC HT0.out.b2 2 _ rfl
    have d3 := bC HT0.out.b2 3 _ rfl
    have lt0 := HT0.out.lt
    have r0 := bC HT0.out.b3 0 _ rfl
    have r1 := bC HT0.out.b3 1 _ rfl
    have r2 := bC HT0.out.b3 2 _ rfl
    have rf := fun k => bF HT0.out.b3 k
    go_quiet (fail)
    go_wp2_with fail
    rw [E.out]
    refine bodyPost_ret (v := .tuple #[.agg #[.int .i64 0, .int .i64 0, .bool false], .int .i64 3]) ?_ rfl ⟨rfl, ?_⟩
    · simp [results, Try.results136, go_sem, r0, r1, r2]
    · exact (((bdn HT0.out.bel _).setCell (by simp; omega) _).setCell (by simp; omega) _).setCell (by simp; omega) _
  by_cases h2 : L % 16 = 0
  case neg =>
    have E : Hid (itC s.size false false P L = 3) := (show itC s.size false false P L = 3 by unfold itC; simp [h1, h2])
    have g1 : (P : Int) % 4 = 0 := by omega
    have g2 : ¬ (L : Int) % 16 = 0 := by omega
    go_enter Try.func136, Try.ntmps136
    go_wp2_with fail
    generalize (((w.alloc (.cells #[.int .i64 T, .int .i64 S, .bool false] 176)).alloc (.cells #[.int .i64 P, .int .i64 L, .bool wr, .bool false, .bool id, .bool av, .bool us, .int .i64 num] 154)).alloc (.cells #[.int .i64 0, .int .i64 0, .bool false] 176)) = y0 at *
    have k0 := bC HT0.out.b1 2 _ rfl
    have d0 := bC HT0.out.b2 0 _ rfl
    have d1 := bC HT0.out.b2 1 _ rfl
    have d2 := bC HT0.out.b2 2 _ rfl
    have d3 := bC HT0.out.b2 3 _ rfl
    have lt0 := HT0.out.lt
    have r0 := bC HT0.out.b3 0 _ rfl
    have r1 := bC HT0.out.b3 1 _ rfl
    have r2 := bC HT0.out.b3 2 _ rfl
    have rf := fun k => bF HT0.out.b3 k
    go_quiet (fail)
    go_wp2_with fail
    rw [E.out]
    refine bodyPost_ret (v := .tuple #[.agg #[.int .i64 0, .int .i64 0, .bool false], .int .i64 3]) ?_ rfl ⟨rfl, ?_⟩
    · simp [results, Try.results136, go_sem, r0, r1, r2]
    · exact (((bdn HT0.out.bel _).setCell (by simp; omega) _).setCell (by simp; omega) _).setCell (by simp; omega) _
  have g1 : (P : Int) % 4 = 0 := by omega
  have g2 : (L : Int) % 16 = 0 := by omega
  by_cases h3 : L < 16
  case pos =>
    have E : Hid (itC s.size false false P L = 3) := (show itC s.size false false P L = 3 by unfold itC; simp [h1, h2, h3])
    have g3 : (L : Int) < 16 := by omega
    go_enter Try.func136, Try.ntmps136
    go_wp2_with fail
    generalize (((w.alloc (.cells #[.int .i64 T, .int .i64 S, .bool false] 176)).alloc (.cells #[.int .i64 P, .int .i64 L, .bool wr, .bool false, .bool id, .bool av, .bool us, .int .i64 num] 154)).alloc (.cells #[.int .i64 0, .int .i64 0, .bool false] 176)) = y0 at *
    have k0 := bC HT0.out.b1 2 _ rfl
    have d0 := bC HT0.out.b2 0 _ rfl
    have d1 := bC HT0.out.b2 1 _ rfl
    have d2 := bC HT0.out.b2 2 _ rfl
    have d3 := bC HT0.out.b2 3 _ rfl
    have lt0 := HT0.out.lt
    have r0 := bC HT0.out.b3 0 _ rfl
    have r1 := bC HT0.out.b3 1 _ rfl
    have r2 := bC HT0.out.b3 2 _ rfl
    have rf := fun k => bF HT0.out.b3 k
    go_quiet (fail)
    go_wp2_with fail
    rw [E.out]
    refine bodyPost_ret (v := .tuple #[.agg #[.int .i64 0, .int .i64 0, .bool false], .int .i64 3]) ?_ rfl ⟨rfl, ?_⟩
    · simp [results, Try.results136, go_sem, r0, r1, r2]
    · exact (((bdn HT0.out.bel _).setCell (by simp; omega) _).setCell (by simp; omega) _).setCell (by simp; omega) _
  have g3 : ¬ (L : Int) < 16 := by omega
  by_cases h4 : 256 < L
  case pos =>
    have E : Hid (itC s.size false false P L = 3) := (show itC s.size false false P L = 3 by unfold itC; simp [h1, h2, h3, h4])
    have g4 : (256 : Int) < (L : Int) := by omega
    go_enter Try.func136, Try.ntmps136
    go_wp2_with fail
    generalize (((w.alloc (.cells #[.int .i64 T, .int .i64 S, .bool false] 176)).alloc (.cells #[.int .i64 P, .int .i64 L, .bool wr, .bool false, .bool id, .bool av, .bool us, .int .i64 num] 154)).alloc (.cells #[.int .i64 0, .int .i64 0, .bool false] 176)) = y0 at *
    have k0 := bC HT0.out.b1 2 _ rfl
    have d0 := bC HT0.out.b2 0 _ rfl
    have d1 := bC HT0.out.b2 1 _ rfl
    have d2 := bC HT0.out.b2 2 _ rfl
    have d3 := bC HT0.out.b2 3 _ rfl
    have lt0 := HT0.out.lt
    have r0 := bC HT0.out.b3 0 _ rfl
    have r1 := bC HT0.out.b3 1 _ rfl
    have r2 := bC HT0.out.b3 2 _ rfl
    have rf := fun k => bF HT0.out.b3 k
    go_quiet (fail)
    go_wp2_with fail
    rw [E.out]
    refine bodyPost_ret (v := .tuple #[.agg #[.int .i64 0, .int .i64 0, .bool false], .int .i64 3]) ?_ rfl ⟨rfl, ?_⟩
    · simp [results, Try.results136, go_sem, r0, r1, r2]
    · exact (((bdn HT0.out.bel _).setCell (by simp; omega) _).setCell (by simp; omega) _).setCell (by simp; omega) _
  have g4 : ¬ (256 : Int) < (L : Int) := by omega
  cases hi : inW s.size P L
  case false =>
    have E : Hid (itC s.size false false P L = 2) := (show itC s.size false false P L = 2 by unfold itC; simp [h1, h2, h3, h4, hi])
    rw [hi] at HH
    go_enter Try.func136, Try.ntmps136
    go_wp2_with fail
    generalize (((w.alloc (.cells #[.int .i64 T, .int .i64 S, .bool false] 176)).alloc (.cells #[.int .i64 P, .int .i64 L, .bool wr, .bool false, .bool id, .bool av, .bool us, .int .i64 num] 154)).alloc (.cells #[.int .i64 0, .int .i64 0, .bool false] 176)) = y0 at *
    have k0 := bC HT0.out.b1 2 _ rfl
    have d0 := bC HT0.out.b2 0 _ rfl
    have d1 := bC HT0.out.b2 1 _ rfl
    have d2 := bC HT0.out.b2 2 _ rfl
    have d3 := bC HT0.out.b2 3 _ rfl
    have lt0 := HT0.out.lt
    have r0 := bC HT0.out.b3 0 _ rfl
    have r1 := bC HT0.out.b3 1 _ rfl
    have r2 := bC HT0.out.b3 2 _ rfl
    have rf := fun k => bF HT0.out.b3 k
    go_quiet (fail)
    go_wp2_with (go_at_call 141; refine Calls.mono (HH.out _ (bdn HT0.out.bel _)) ?_; rintro e y1 ⟨rfl, hb⟩; have HT1 : Hid _ := (HT0.out.step (bdn (Below.refl _ _) _)).step hb; clear hb HH k0 d0 d1 d2 d3 lt0 r0 r1 r2 rf; have lt0 := HT1.out.lt; have r0 := bC HT1.out.b3 0 _ rfl; have r1 := bC HT1.out.b3 1 _ rfl; have r2 := bC HT1.out.b3 2 _ rfl; have rf := fun k => bF HT1.out.b3 k)
    rw [E.out]
    refine bodyPost_ret (v := .tuple #[.agg #[.int .i64 0, .int .i64 0, .bool false], .int .i64 2]) ?_ rfl ⟨rfl, ?_⟩
    · simp [results, Try.results136, go_sem, r0, r1, r2]
    · exact ((HT1.out.bel.setCell (by simp; omega) _).setCell (by simp; omega) _).setCell (by simp; omega) _
  case true =>
    have E : Hid (itC s.size false false P L = 0) := (show itC s.size false false P L = 0 by unfold itC; simp [h1, h2, h3, h4, hi])
    rw [hi] at HH
    go_enter Try.func136, Try.ntmps136
    go_wp2_with fail
    generalize (((w.alloc (.cells #[.int .i64 T, .int .i64 S, .bool false] 176)).alloc (.cells #[.int .i64 P, .int .i64 L, .bool wr, .bool false, .bool id, .bool av, .bool us, .int .i64 num] 154)).alloc (.cells #[.int .i64 0, .int .i64 0, .bool false] 176)) = y0 at *
    have k0 := bC HT0.out.b1 2 _ rfl
    have d0 := bC HT0.out.b2 0 _ rfl
    have d1 := bC HT0.out.b2 1 _ rfl
    have d2 := bC HT0.out.b2 2 _ rfl
    have d3 := bC HT0.out.b2 3 _ rfl
    have lt0 := HT0.out.lt
    have r0 := bC HT0.out.b3 0 _ rfl
    have r1 := bC HT0.out.b3 1 _ rfl
    have r2 := bC HT0.out.b3 2 _ rfl
    have rf := fun k => bF HT0.out.b3 k
    go_quiet (fail)
    go_wp2_with (go_at_call 141; refine Calls.mono (HH.out _ (bdn HT0.out.bel _)) ?_; rintro e y1 ⟨rfl, hb⟩; have HT1 : Hid _ := (HT0.out.step (bdn (Below.refl _ _) _)).step hb; clear hb HH k0 d0 d1 d2 d3 lt0 r0 r1 r2 rf; have lt0 := HT1.out.lt; have r0 := bC HT1.out.b3 0 _ rfl; have r1 := bC HT1.out.b3 1 _ rfl; have r2 := bC HT1.out.b3 2 _ rfl; have rf := fun k => bF HT1.out.b3 k)
    rw [E.out]
    refine bodyPost_ret (v := .tuple #[.agg #[.int .i64 P, .int .i64 ((L / 16 : Nat) : Int), .bool true], .int .i64 0]) ?_ rfl ⟨rfl, ?_⟩
    · simp [results, Try.results136, go_sem, r0, r1, r2]
    · exact ((HT1.out.bel.setCell (by simp; omega) _).setCell (by simp; omega) _).setCell (by simp; omega) _
end Go.Proofs.Ytdlodflinibaoaa
