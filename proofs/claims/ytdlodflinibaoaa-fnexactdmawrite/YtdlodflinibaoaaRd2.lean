import Derived.Test.YtdlodflinibaoaaRd1
namespace Go.Proofs.Ytdlodflinibaoaa
open Go.ChangeShapes Go.WideShapes Go.ChangeAt Go.RowKit

/-- The descriptor that stands at a place. -/
def dAt (s : ByteArray) (k : Nat) : DV := dOf (wv s k) (wv s (k + 4)) (wv s (k + 8)) (wv s (k + 12))
/-- So many of four words are read. -/
def wN (a b c d : Int) : Nat → Array Value
  | 0 => #[.int .i64 0, .int .i64 0, .int .i64 0, .int .i64 0]
  | 1 => #[.int .i64 a, .int .i64 0, .int .i64 0, .int .i64 0]
  | 2 => #[.int .i64 a, .int .i64 b, .int .i64 0, .int .i64 0]
  | 3 => #[.int .i64 a, .int .i64 b, .int .i64 c, .int .i64 0]
  | _ => #[.int .i64 a, .int .i64 b, .int .i64 c, .int .i64 d]
def dZ : Array Value := #[.int .i64 0, .int .i64 0, .bool false, .bool false, .bool false, .bool false, .bool false, .int .i64 0]
theorem TwoBx.set2 {w u : World} {cs ds : Array Value} {t t2 : Nat} (h : TwoBx w u cs t ds t2) (o : Nat) (v : Value) : TwoBx w (u.setCell ⟨w.heap.size + 1, o, none⟩ v) cs t (ds.setIfInBounds o v) t2 := by
  refine ⟨h.bel.setCell (Nat.le_add_right _ _) _, (Below.heap_setCell _ _ _ _ (by simp)).trans h.b1, ?_⟩
  simp [World.setCell, Array.getElem?_modify, h.b2]
theorem fr4 : Try.prog.arrayLen 156 = 4 := by kernel_rfl
set_option maxRecDepth 100000 in
set_option maxHeartbeats 4000000 in
theorem readDesc_any (b n : Nat) (s : ByteArray) (k : Nat) (w : World) (h : MemAt w b s) (hn : s.size = n * 256) (hs : s.size ≤ 65536) (hk : k + 16 ≤ s.size) (h4 : k % 4 = 0) :
    Calls Try.prog 135 #[mv b n, .int .i64 k] w fun e w' => e = .returned (dA (dAt s k)) ∧ Below w.heap.size w w' := by
  have HW : ∀ (j : Nat) (u : World) (y : Int), y = ((k + 4 * j : Nat) : Int) → j < 4 → MemAt u b s → Calls Try.prog 99 #[.slice (some ⟨b, 0, none⟩) n n, .int .i64 y] u fun e w' => e = .returned (.int .i64 (wv s (k + 4 * j))) ∧ ∃ q, w' = u.drewN q := fun j u y hy hj hm => hy ▸ memWord_any b n s (k + 4 * j) u hm hn hs (by omega) (by omega)
  have HW0 : Hid _ := fun (u : World) => HW 0 u (k : Int) (by omega) (by omega)
  have HW1 : Hid _ := fun (u : World) => HW 1 u ((k : Int) + 4) (by omega) (by omega)
  have HW2 : Hid _ := fun (u : World) => HW 2 u ((k : Int) + 8) (by omega) (by omega)
  have HW3 : Hid _ := fun (u : World) => HW 3 u ((k : Int) + 12) (by omega) (by omega)
  have HD : Hid _ := fun u => descOf_any (wv s k) (wv s (k + 4)) (wv s (k + 8)) (wv s (k + 12)) u
  have hbl := h.lt
  have HM : Hid (∀ u, Below w.heap.size w u → MemAt u b s) := fun u hu => h.below hu hbl
  have hkb : (k : Int) ≤ 65536 := by omega
  simp only [Nat.mul_zero, Nat.mul_one, Nat.add_zero, show 4 * 2 = 8 from rfl, show 4 * 3 = 12 from rfl] at HW0 HW1 HW2 HW3
  have E : Hid (dAt s k = dOf (wv s k) (wv s (k + 4)) (wv s (k + 8)) (wv s (k + 12))) := rfl
  rw [E.out]
  generalize wv s k = A at *
  generalize wv s (k + 4) = B at *
  generalize wv s (k + 8) = C at *
  generalize wv s (k + 12) = D at *
  generalize dOf A B C D = dd at *
  obtain ⟨p1, p2, p3, p4, p5, p6, p7, p8⟩ := dd
  clear HW h hn hs hk h4 E hbl
  unfold wA dA at HD
  unfold dA mv
  have HX : Hid (TwoBx w ((w.alloc (.cells dZ 154)).alloc (.cells (wN A B C D 0) 156)) dZ 154 (wN A B C D 0) 156) := TwoBx.of _ _ _ _ _ (Below.refl _ _)
  unfold dZ at HX
  go_enter Try.func135, Try.ntmps135
  go_wp2_with fail
  go_loopw [7] (fun i wr => ∃ j : Nat, j ≤ 4 ∧ i = .int .i64 j ∧ TwoBx w wr #[.int .i64 0, .int .i64 0, .bool false, .bool false, .bool false, .bool false, .bool false, .int .i64 0] 154 (wN A B C D j) 156) (fun i _ => 4 - (intOf i).toNat)
  case atStart => exact ⟨0, by omega, rfl, HX.out⟩
  case round =>
    obtain ⟨j, hj, rfl, hx⟩ := hrel
    have HX1 : Hid _ := hx
    clear hx HX
    have h5 : j = 0 ∨ j = 1 ∨ j = 2 ∨ j = 3 ∨ j = 4 := by omega
    clear hj
    have gf := fun k => HX1.out.f2 k
    have glt := HX1.out.lt
    have gl2 : w.heap.size + 1 < wr.heap.size := glt
    rcases h5 with rfl | rfl | rfl | rfl | rfl
    · have c0 := HX1.out.c2 0 (.int .i64 0) rfl
      go_wp2_with (go_at_call 99; refine Calls.mono (HW0.out _ (HM.out _ HX1.out.bel)) ?_; rintro e u1 ⟨rfl, q, hu⟩; have HX2 : Hid (TwoBx w u1 _ _ _ _) := (hu ▸ HX1.out.dn q); clear hu c0 gf glt gl2 HX1; have c0 := HX2.out.c2 0 (.int .i64 0) rfl; have gf := fun k => HX2.out.f2 k; have glt := HX2.out.lt)
      refine ⟨⟨1, by omega, by simp, HX2.out.set2 0 (.int .i64 A)⟩, ?_⟩
      simp [intOf]
    · have c0 := HX1.out.c2 1 (.int .i64 0) rfl
      go_wp2_with (go_at_call 99; refine Calls.mono (HW1.out _ (HM.out _ HX1.out.bel)) ?_; rintro e u1 ⟨rfl, q, hu⟩; have HX2 : Hid (TwoBx w u1 _ _ _ _) := (hu ▸ HX1.out.dn q); clear hu c0 gf glt gl2 HX1; have c0 := HX2.out.c2 1 (.int .i64 0) rfl; have gf := fun k => HX2.out.f2 k; have glt := HX2.out.lt)
      refine ⟨⟨2, by omega, by simp, HX2.out.set2 1 (.int .i64 B)⟩, ?_⟩
      simp [intOf]
    · have c0 := HX1.out.c2 2 (.int .i64 0) rfl
      go_wp2_with (go_at_call 99; refine Calls.mono (HW2.out _ (HM.out _ HX1.out.bel)) ?_; rintro e u1 ⟨rfl, q, hu⟩; have HX2 : Hid (TwoBx w u1 _ _ _ _) := (hu ▸ HX1.out.dn q); clear hu c0 gf glt gl2 HX1; have c0 := HX2.out.c2 2 (.int .i64 0) rfl; have gf := fun k => HX2.out.f2 k; have glt := HX2.out.lt)
      refine ⟨⟨3, by omega, by simp, HX2.out.set2 2 (.int .i64 C)⟩, ?_⟩
      simp [intOf]
    · have c0 := HX1.out.c2 3 (.int .i64 0) rfl
      go_wp2_with (go_at_call 99; refine Calls.mono (HW3.out _ (HM.out _ HX1.out.bel)) ?_; rintro e u1 ⟨rfl, q, hu⟩; have HX2 : Hid (TwoBx w u1 _ _ _ _) := (hu ▸ HX1.out.dn q); clear hu c0 gf glt gl2 HX1; have c0 := HX2.out.c2 3 (.int .i64 0) rfl; have gf := fun k => HX2.out.f2 k; have glt := HX2.out.lt)
      refine ⟨⟨4, by omega, by simp, HX2.out.set2 3 (.int .i64 D)⟩, ?_⟩
      simp [intOf]
    · have c0 := HX1.out.c2 0 (.int .i64 A) rfl
      have c1 := HX1.out.c2 1 (.int .i64 B) rfl
      have c2 := HX1.out.c2 2 (.int .i64 C) rfl
      have c3 := HX1.out.c2 3 (.int .i64 D) rfl
      go_wp2_with fail
      refine Calls.mono (HD.out _) ?_
      rintro e u1 ⟨rfl, hb⟩
      have HX2 : Hid _ := HX1.out.step hb
      clear hb HX1 c0 c1 c2 c3 gf glt gl2
      have r0 := HX2.out.c1 0 _ rfl
      have r1 := HX2.out.c1 1 _ rfl
      have r2 := HX2.out.c1 2 _ rfl
      have r3 := HX2.out.c1 3 _ rfl
      have r4 := HX2.out.c1 4 _ rfl
      have r5 := HX2.out.c1 5 _ rfl
      have r6 := HX2.out.c1 6 _ rfl
      have r7 := HX2.out.c1 7 _ rfl
      have rf := fun k => HX2.out.f1 k
      have glt := HX2.out.lt
      have gl3 : w.heap.size < u1.heap.size := by omega
      go_wp2_with fail
      refine bodyPost_ret (v := .agg #[.int .i64 p1, .int .i64 p2, .bool p3, .bool p4, .bool p5, .bool p6, .bool p7, .int .i64 p8]) ?_ rfl ⟨rfl, ?_⟩
      · simp [results, Try.results135, go_sem, r0, r1, r2, r3, r4, r5, r6, r7]
      · exact (((((((HX2.out.bel.setCell (by simp) _).setCell (by simp) _).setCell (by simp) _).setCell (by simp) _).setCell (by simp) _).setCell (by simp) _).setCell (by simp) _).setCell (by simp) _
end Go.Proofs.Ytdlodflinibaoaa
