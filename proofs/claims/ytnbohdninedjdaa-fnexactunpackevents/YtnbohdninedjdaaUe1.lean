import Derived.Test.YtnbohdninedjdaaPe1
import Derived.Test.YtnbohdninedjdaaUe0
import Derived.Test.YtnbohdninedjdaaGetWordI
import Derived.Deep.DeepCutAuto
namespace Go.Proofs.Ytnbohdninedjdaa
open Go.ChangeShapes Go.WideShapes Go.ChangeAt Go.RowKit

/-- A number of two words, the greater one first. -/
def tW (a b : Int) : Int := wrap64 (wrap64 (a * 4294967296) + b)
/-- The event whose text stands at k. -/
def evE (s : ByteArray) (k : Nat) : EV := ⟨tW (wv s (k + 4)) (wv s k), wv s (k + 8) / 65536, wv s (k + 8) % 65536, wv s (k + 12)⟩
theorem wv_b (s : ByteArray) (k : Nat) : 0 ≤ wv s k ∧ wv s k < 4294967296 := by
  have h0 := bt_b s k
  have h1 := bt_b s (k + 1)
  have h2 := bt_b s (k + 2)
  have h3 := bt_b s (k + 3)
  unfold wv
  omega
/-- So many words are read. -/
def wsA (s : ByteArray) (k : Nat) : Nat → Array Value
  | 0 => #[.int .i64 0, .int .i64 0, .int .i64 0, .int .i64 0]
  | 1 => #[.int .i64 (wv s k), .int .i64 0, .int .i64 0, .int .i64 0]
  | 2 => #[.int .i64 (wv s k), .int .i64 (wv s (k + 4)), .int .i64 0, .int .i64 0]
  | 3 => #[.int .i64 (wv s k), .int .i64 (wv s (k + 4)), .int .i64 (wv s (k + 8)), .int .i64 0]
  | _ => #[.int .i64 (wv s k), .int .i64 (wv s (k + 4)), .int .i64 (wv s (k + 8)), .int .i64 (wv s (k + 12))]
/-- The answer's box, and the words' behind it. -/
structure EW (w u : World) (b T : Nat) (xs : Array Value) : Prop where
  bel : Below w.heap.size w u
  b1 : u.heap[b]? = some (.cells #[.int .i64 0, .int .i64 0, .int .i64 0, .int .i64 0] 46 (0, 0))
  b2 : u.heap[b + 1]? = some (.cells xs T (0, 0))
  ge : w.heap.size ≤ b
theorem EW.step {w u u' : World} {b T : Nat} {xs : Array Value} (h : EW w u b T xs) (hb : Below u.heap.size u u') : EW w u' b T xs :=
  ⟨h.bel.trans (hb.mono h.bel.size), (hb.block _ (Array.getElem?_eq_some_iff.1 h.b1).1).trans h.b1, (hb.block _ (Array.getElem?_eq_some_iff.1 h.b2).1).trans h.b2, h.ge⟩
theorem EW.set {w u : World} {b T : Nat} {xs : Array Value} (h : EW w u b T xs) (j : Nat) (v : Value) : EW w (u.setCell ⟨b + 1, j, none⟩ v) b T (xs.setIfInBounds j v) := by
  have hge := h.ge
  refine ⟨h.bel.setCell (by simp only; omega) _, (Below.heap_setCell _ _ _ _ (by simp only; omega)).trans h.b1, ?_, h.ge⟩
  simp [World.setCell, Array.getElem?_modify, h.b2]
theorem EW.c1 {w u : World} {b T : Nat} {xs : Array Value} (h : EW w u b T xs) (k : Nat) (v : Value) (hv : (#[.int .i64 0, .int .i64 0, .int .i64 0, .int .i64 0] : Array Value)[k]? = some v) : u.cell? ⟨b, k, none⟩ = some v := by
  simp [World.cell?, h.b1, hv]
theorem EW.c2 {w u : World} {b T : Nat} {xs : Array Value} (h : EW w u b T xs) (k : Nat) (v : Value) (hv : xs[k]? = some v) : u.cell? ⟨b + 1, k, none⟩ = some v := by
  simp [World.cell?, h.b2, hv]
theorem EW.f1 {w u : World} {b T : Nat} {xs : Array Value} (h : EW w u b T xs) (k : Nat) : u.frozen? ⟨b, k, none⟩ = false := by simp [World.frozen?, h.b1]
theorem EW.f2 {w u : World} {b T : Nat} {xs : Array Value} (h : EW w u b T xs) (k : Nat) : u.frozen? ⟨b + 1, k, none⟩ = false := by simp [World.frozen?, h.b2]
theorem EW.lt {w u : World} {b T : Nat} {xs : Array Value} (h : EW w u b T xs) : b + 1 < u.heap.size := (Array.getElem?_eq_some_iff.1 h.b2).1
theorem fldW (x : Int) (w : World) : Sem.run Try.prog (Instr.field 86 (.agg #[.bool true, .int .i64 x]) 1) w = .ok (.int .i64 x) w := by kernel_rfl
theorem EW.new (w : World) (T : Nat) : EW w ((w.alloc (.cells #[.int .i64 0, .int .i64 0, .int .i64 0, .int .i64 0] 46)).alloc (.cells #[.int .i64 0, .int .i64 0, .int .i64 0, .int .i64 0] T)) w.heap.size T #[.int .i64 0, .int .i64 0, .int .i64 0, .int .i64 0] := by
  have h := heap_new (w.alloc (.cells #[.int .i64 0, .int .i64 0, .int .i64 0, .int .i64 0] 46)) (.cells #[.int .i64 0, .int .i64 0, .int .i64 0, .int .i64 0] T)
  rw [World.size_alloc] at h
  exact ⟨(bx1 _ _).trans ((bx1 _ _).mono (by simp)), ((bx1 _ _).block _ (by simp)).trans (heap_new _ _), h, Nat.le_refl _⟩
set_option maxRecDepth 100000 in
set_option maxHeartbeats 4000000 in
theorem eventAt_any (s : ByteArray) (k : Nat) (w : World) (h : k + 16 ≤ s.size) (hs : s.size ≤ 65536) :
    Calls Try.prog 33 #[.string s, .int .i64 k] w fun e w' => e = .returned (evA (evE s k)) ∧ Below w.heap.size w w' := by
  have HG : Hid (∀ (j : Nat) (u : World) (y : Int), j < 4 → y = ((k + 4 * j : Nat) : Int) → Calls Try.prog 57 #[.string s, .int .i64 y] u fun e w' => e = .returned (.agg #[.bool true, .int .i64 (wv s (k + 4 * j))]) ∧ Below u.heap.size u w') := fun j u y hj hy => by
    subst hy
    exact implGetWord_yes s (k + 4 * j) u (by simp [hwd]; omega) (by omega) hs
  have hk : (k : Int) + 16 ≤ 65536 := by omega
  clear h hs
  go_enter Try.func33, Try.ntmps33
  go_upto_region 2 with fail
  have HX0 : Hid (EW w ((w.alloc (.cells #[.int .i64 0, .int .i64 0, .int .i64 0, .int .i64 0] 46)).alloc (.cells #[.int .i64 0, .int .i64 0, .int .i64 0, .int .i64 0] 84)) w.heap.size 84 (wsA s k 0)) := EW.new w _
  generalize ((w.alloc (.cells #[.int .i64 0, .int .i64 0, .int .i64 0, .int .i64 0] 46)).alloc (.cells #[.int .i64 0, .int .i64 0, .int .i64 0, .int .i64 0] 84)) = u0 at *
  have HLB : Hid (w.heap.size ≤ w.heap.size) := Nat.le_refl _
  generalize hb0 : w.heap.size = b0 at HX0 ⊢
  go_wp2
  go_loopw [7] (fun i wr => ∃ j : Nat, j ≤ 4 ∧ i = .int .i64 j ∧ EW w wr b0 84 (wsA s k j)) (fun i _ => 4 - (intOf i).toNat)
  case atStart => exact ⟨0, by omega, rfl, HX0.out⟩
  case round =>
    obtain ⟨j, hj, rfl, hx⟩ := hrel
    clear HX0
    have HX : Hid (EW w wr b0 84 (wsA s k j)) := hx
    clear hx
    by_cases hlt : j < 4
    · have hj4 : j = 0 ∨ j = 1 ∨ j = 2 ∨ j = 3 := by omega
      rcases hj4 with rfl | rfl | rfl | rfl
      · have HGJ : Hid (∀ u, Calls Try.prog 57 #[.string s, .int .i64 ((k : Int))] u fun e w' => e = .returned (.agg #[.bool true, .int .i64 (wv s (k))]) ∧ Below u.heap.size u w') := fun u => HG.out 0 u _ (by omega) (by omega)
        have hf := fldW (wv s (k))
        have hlw := HX.out.lt
        go_wp2_with (go_at_call 57; refine Calls.mono (HGJ.out _) ?_; rintro e u1 ⟨rfl, hb1⟩; have HX1 : Hid (EW w u1 b0 84 (wsA s k 0)) := HX.out.step hb1; clear hb1; have c2 := HX1.out.c2 0 (.int .i64 0) rfl; have f2 := HX1.out.f2 0; have hlw1 := HX1.out.lt)
        go_roundw
        case rel => exact ⟨1, by omega, rfl, HX1.out.set 0 _⟩
        case measure => simp [intOf]
      · have HGJ : Hid (∀ u, Calls Try.prog 57 #[.string s, .int .i64 ((k : Int) + 4)] u fun e w' => e = .returned (.agg #[.bool true, .int .i64 (wv s (k + 4))]) ∧ Below u.heap.size u w') := fun u => HG.out 1 u _ (by omega) (by omega)
        have hf := fldW (wv s (k + 4))
        have hlw := HX.out.lt
        go_wp2_with (go_at_call 57; refine Calls.mono (HGJ.out _) ?_; rintro e u1 ⟨rfl, hb1⟩; have HX1 : Hid (EW w u1 b0 84 (wsA s k 1)) := HX.out.step hb1; clear hb1; have c2 := HX1.out.c2 1 (.int .i64 0) rfl; have f2 := HX1.out.f2 1; have hlw1 := HX1.out.lt)
        go_roundw
        case rel => exact ⟨2, by omega, rfl, HX1.out.set 1 _⟩
        case measure => simp [intOf]
      · have HGJ : Hid (∀ u, Calls Try.prog 57 #[.string s, .int .i64 ((k : Int) + 8)] u fun e w' => e = .returned (.agg #[.bool true, .int .i64 (wv s (k + 8))]) ∧ Below u.heap.size u w') := fun u => HG.out 2 u _ (by omega) (by omega)
        have hf := fldW (wv s (k + 8))
        have hlw := HX.out.lt
        go_wp2_with (go_at_call 57; refine Calls.mono (HGJ.out _) ?_; rintro e u1 ⟨rfl, hb1⟩; have HX1 : Hid (EW w u1 b0 84 (wsA s k 2)) := HX.out.step hb1; clear hb1; have c2 := HX1.out.c2 2 (.int .i64 0) rfl; have f2 := HX1.out.f2 2; have hlw1 := HX1.out.lt)
        go_roundw
        case rel => exact ⟨3, by omega, rfl, HX1.out.set 2 _⟩
        case measure => simp [intOf]
      · have HGJ : Hid (∀ u, Calls Try.prog 57 #[.string s, .int .i64 ((k : Int) + 12)] u fun e w' => e = .returned (.agg #[.bool true, .int .i64 (wv s (k + 12))]) ∧ Below u.heap.size u w') := fun u => HG.out 3 u _ (by omega) (by omega)
        have hf := fldW (wv s (k + 12))
        have hlw := HX.out.lt
        go_wp2_with (go_at_call 57; refine Calls.mono (HGJ.out _) ?_; rintro e u1 ⟨rfl, hb1⟩; have HX1 : Hid (EW w u1 b0 84 (wsA s k 3)) := HX.out.step hb1; clear hb1; have c2 := HX1.out.c2 3 (.int .i64 0) rfl; have f2 := HX1.out.f2 3; have hlw1 := HX1.out.lt)
        go_roundw
        case rel => exact ⟨4, by omega, rfl, HX1.out.set 3 _⟩
        case measure => simp [intOf]
    · obtain rfl : j = 4 := by omega
      have f0 := HX.out.c2 0 (.int .i64 (wv s (k))) rfl
      have f1 := HX.out.c2 1 (.int .i64 (wv s (k + 4))) rfl
      have f2 := HX.out.c2 2 (.int .i64 (wv s (k + 8))) rfl
      have f3 := HX.out.c2 3 (.int .i64 (wv s (k + 12))) rfl
      have g0 := HX.out.c1 0 (.int .i64 0) rfl
      have g1 := HX.out.c1 1 (.int .i64 0) rfl
      have g2 := HX.out.c1 2 (.int .i64 0) rfl
      have g3 := HX.out.c1 3 (.int .i64 0) rfl
      have gf := HX.out.f1
      have hlw := HX.out.lt
      obtain ⟨a0, a1⟩ := wv_b s k
      obtain ⟨a2, a3⟩ := wv_b s (k + 4)
      obtain ⟨a4, a5⟩ := wv_b s (k + 8)
      have hq : (wv s (k + 8)).tdiv 65536 = wv s (k + 8) / 65536 := Int.tdiv_eq_ediv_of_nonneg a4
      have hr : (wv s (k + 8)).tmod 65536 = wv s (k + 8) % 65536 := Int.tmod_eq_emod_of_nonneg a4
      have HE : Hid (evE s k = ⟨wrap64 (wrap64 (wv s (k + 4) * 4294967296) + wv s k), wv s (k + 8) / 65536, wv s (k + 8) % 65536, wv s (k + 12)⟩) := (show evE s k = _ from rfl)
      generalize wv s k = x0 at *
      generalize wv s (k + 4) = x1 at *
      generalize wv s (k + 8) = x2 at *
      generalize wv s (k + 12) = x3 at *
      go_wp2
      refine bodyPost_ret (v := evA (evE s k)) ?_ rfl ⟨rfl, (((HX.out.bel.setCell (by simp; have := HX.out.ge; omega) _).setCell (by simp; have := HX.out.ge; omega) _).setCell (by simp; have := HX.out.ge; omega) _).setCell (by simp; have := HX.out.ge; omega) _⟩
      rw [HE.out]
      simp [results, Try.results33, go_sem, g0, g1, g2, g3, evA]
end Go.Proofs.Ytnbohdninedjdaa
