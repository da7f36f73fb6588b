import Derived.Test.YtlpkkclmcgnapaaRowDV3
import Derived.Test.YtlpkkclmcgnapaaRowDV4
import Derived.Test.YtlpkkclmcgnapaaNe0
import Derived.Test.YtlpkkclmcgnapaaLG
namespace Go.Proofs.Ytlpkkclmcgnapaa
open Go.ChangeShapes Go.WideShapes Go.ChangeAt Go.RowKit

structure BD where
  frames : Int
  cpus : Int
  ds : List DV
structure BDA where
  vds : Value
def bdC (s : BD) (a : BDA) : Array Value := #[.int .i64 s.frames, .int .i64 s.cpus, a.vds]
def bdA (s : BD) (a : BDA) : Value := .agg (bdC s a)
structure BDRows (w : World) (s : BD) (a : BDA) : Prop where
  rds : DVrow w a.vds s.ds
theorem BDRows.below {w w' : World} {s : BD} {a : BDA} (h : BDRows w s a) (hb : Below w.heap.size w w') : BDRows w' s a := ⟨h.rds.below hb⟩
theorem BDRows.sl {w : World} {s : BD} {a : BDA} (h : BDRows w s a) : ∃ ads kds, a = ⟨.slice ads s.ds.length kds⟩ := by
  obtain ⟨ads, kds, eds⟩ := h.rds.sl
  refine ⟨ads, kds, ?_⟩
  rw [← eds]
structure BDlen (s : BD) : Prop where
  lds : s.ds.length ≤ 1048576
structure BDmax (s : BD) : Prop where
  lds : s.ds.length ≤ maxLen
set_option maxRecDepth 100000 in
set_option maxHeartbeats 8000000 in
theorem toBD_any {w : World} {s : BD} {a : BDA} (h : BDRows w s a) (hl : BDlen s) : Calls Try.prog 8 #[bdA s a] w fun e w' => ∃ a2 : BDA, e = .returned (bdA s a2) ∧ BDRows w' s a2 ∧ Below w.heap.size w w' := by
  have HR : Hid (BDRows w s a) := h
  obtain ⟨ads, kds, e⟩ := h.sl
  have HL : Hid (BDlen s) := hl
  subst e
  clear h hl
  unfold bdA bdC
  simp only
  go_enter Try.func8, Try.ntmps8
  go_wp2_with fail
  have HT0 : Hid (T3 w (((w.alloc (.cells #[.int .i64 s.frames, .int .i64 s.cpus, .slice ads s.ds.length kds] 24)).alloc (.cells #[.int .i64 0, .int .i64 0, .slice none 0 0] 29)).alloc (.cells #[.int .i64 s.frames, .int .i64 s.cpus, .slice none 0 0] 29)) 24 29 #[.int .i64 s.frames, .int .i64 s.cpus, .slice ads s.ds.length kds] #[.int .i64 0, .int .i64 0, .slice none 0 0] #[.int .i64 s.frames, .int .i64 s.cpus, .slice none 0 0]) := T3.new _ _ _ _ _ _
  generalize (((w.alloc (.cells #[.int .i64 s.frames, .int .i64 s.cpus, .slice ads s.ds.length kds] 24)).alloc (.cells #[.int .i64 0, .int .i64 0, .slice none 0 0] 29)).alloc (.cells #[.int .i64 s.frames, .int .i64 s.cpus, .slice none 0 0] 29)) = V0 at *
  refine Calls.mono (toDVS_any (HR.out.rds.below HT0.out.bel) HL.out.lds) ?_
  rintro e u0 ⟨vds, rfl, o1, hb1⟩
  obtain ⟨ads2, kds2, rfl⟩ := dv_sl o1
  have HT1 : Hid (T3 w u0 24 29 #[.int .i64 s.frames, .int .i64 s.cpus, .slice ads s.ds.length kds] #[.int .i64 0, .int .i64 0, .slice none 0 0] #[.int .i64 s.frames, .int .i64 s.cpus, .slice none 0 0]) := HT0.out.step hb1
  have HOds_0 : Hid (u0.ownsRow (w.heap.size + 3) 49 3 (.slice ads2 s.ds.length kds2) s.ds.length (dvR s.ds)) := own_weakN o1 (by have := HT0.out.lt; omega)
  clear o1 hb1 HT0
  have d0 := celN HT1.out.b2 0 _ rfl
  have d1 := celN HT1.out.b2 1 _ rfl
  have d2 := celN HT1.out.b2 2 _ rfl
  have df := frzN HT1.out.b2
  have lt1 := HT1.out.lt
  have g0 : w.heap.size < u0.heap.size := by omega
  have k0 := celN HT1.out.b1 0 _ rfl
  have k1 := celN HT1.out.b1 1 _ rfl
  have k2 := celN HT1.out.b1 2 _ rfl
  have kf := frzN HT1.out.b1
  have g1 : w.heap.size + 1 < u0.heap.size := by omega
  have g2 : w.heap.size + 1 + 1 < u0.heap.size := by omega
  go_wp2
  have hk : ∀ (x : World) (k o : Nat) (y : Value) (a : Nat), k ≠ a → (x.setCell ⟨a, o, none⟩ y).heap[k]? = x.heap[k]? := fun x k o y a h => Below.heap_setCell _ _ _ _ (by simpa using h)
  refine bodyPost_ret (v := .agg #[.int .i64 s.frames, .int .i64 s.cpus, .slice ads2 s.ds.length kds2]) ?_ rfl ⟨⟨.slice ads2 s.ds.length kds2⟩, rfl, ⟨DVrow.of (B := w.heap.size + 3) (own_heapN HOds_0.out (fun k hk2 => by repeat rw [hk _ _ _ _ _ (by omega)]) (Nat.le_refl _))⟩, ?_⟩
  · simp only [results, Try.results8, go_sem]
    simp [go_sem, k0, k1, k2]
  · have hB := HT1.out.bel
    repeat refine Below.setCell ?_ (by simp only; omega) _
    exact hB
set_option maxRecDepth 100000 in
set_option maxHeartbeats 8000000 in
theorem eqBD_ok {w : World} {s : BD} {a a2 : BDA} (h : BDRows w s a) (h' : BDRows w s a2) (hl : BDlen s) : Calls Try.prog 10 #[bdA s a, bdA s a2] w fun e w' => e = .returned (.bool true) ∧ Below w.heap.size w w' := by
  have H1 : Hid (BDRows w s a) := h
  have H2 : Hid (BDRows w s a2) := h'
  have HL : Hid (BDlen s) := hl
  obtain ⟨ads, kds, e⟩ := h.sl
  obtain ⟨adsx, kdsx, e'⟩ := h'.sl
  subst e e'
  clear h h' hl
  have n0 : (s.frames != s.frames) = false := by simp
  have n1 : (s.cpus != s.cpus) = false := by simp
  have HE0 : Hid (E2 w ((w.alloc (.cells #[.int .i64 s.frames, .int .i64 s.cpus, .slice ads s.ds.length kds] 29)).alloc (.cells #[.int .i64 s.frames, .int .i64 s.cpus, .slice adsx s.ds.length kdsx] 29)) 29 #[.int .i64 s.frames, .int .i64 s.cpus, .slice ads s.ds.length kds] #[.int .i64 s.frames, .int .i64 s.cpus, .slice adsx s.ds.length kdsx]) := E2.new _ _ _ _
  unfold bdA bdC
  simp only
  go_enter Try.func10, Try.ntmps10
  go_wp2_with fail
  generalize ((w.alloc (.cells #[.int .i64 s.frames, .int .i64 s.cpus, .slice ads s.ds.length kds] 29)).alloc (.cells #[.int .i64 s.frames, .int .i64 s.cpus, .slice adsx s.ds.length kdsx] 29)) = u0 at *
  refine Calls.mono (eqDVS_ok (H1.out.rds.below HE0.out.bel) (H2.out.rds.below HE0.out.bel) HL.out.lds) ?_
  rintro e u1 ⟨rfl, hb1⟩
  have HE1 : Hid (E2 w u1 29 #[.int .i64 s.frames, .int .i64 s.cpus, .slice ads s.ds.length kds] #[.int .i64 s.frames, .int .i64 s.cpus, .slice adsx s.ds.length kdsx]) := HE0.out.step hb1
  clear hb1 HE0
  have lt := HE1.out.lt
  have lt0 : w.heap.size < u1.heap.size := by omega
  go_wp2
  go_ret
  exact ⟨rfl, HE1.out.bel⟩
set_option maxRecDepth 100000 in
set_option maxHeartbeats 8000000 in
theorem szBD_w {w : World} {s : BD} {a : BDA} (h : BDRows w s a) (hm : BDmax s) : Calls Try.prog 6 #[bdA s a, .int .i64 1048576] w fun e w' => ∃ q, e = .returned (.int .i64 q) ∧ -1 ≤ q ∧ q ≤ 1048576 ∧ (0 ≤ q → BDlen s) ∧ Below w.heap.size w w' := by
  have H1 : Hid (BDRows w s a) := h
  have HM : Hid (BDmax s) := hm
  obtain ⟨ads, kds, e⟩ := h.sl
  subst e
  clear h hm
  have HL0 : Hid (LG w (w.alloc (.cells #[.int .i64 s.frames, .int .i64 s.cpus, .slice ads s.ds.length kds] 24)) w.heap.size #[.int .i64 s.frames, .int .i64 s.cpus, .slice ads s.ds.length kds] 24) := LG.new w _ _
  unfold bdA bdC
  simp only
  go_enter Try.func6, Try.ntmps6
  go_wp2_with fail
  generalize (w.alloc (.cells #[.int .i64 s.frames, .int .i64 s.cpus, .slice ads s.ds.length kds] 24)) = u0 at *
  generalize w.heap.size = b0 at *
  have q0a : (0 : Int) ≤ 1048576 := by decide
  have q0b : (1048576 : Int) ≤ 1048576 := by decide
  have hs0 := szDVS_any ads s.ds.length kds 1048576 u0 (by omega) (by omega) HM.out.lds
  obtain ⟨q1, hr, q1a, q1b, hq⟩ : ∃ r : Int, (if (1048576 : Int) < (s.ds.length : Int) then -1 else (1048576 : Int) - s.ds.length) = r ∧ -1 ≤ r ∧ r ≤ 1048576 ∧ (0 ≤ r → s.ds.length ≤ 1048576) := (by refine ⟨_, rfl, ?_⟩; split <;> omega)
  rw [hr] at hs0
  have HS0 : Hid _ := hs0
  have HQds : Hid (0 ≤ q1 → s.ds.length ≤ 1048576) := hq
  clear hr hs0 hq
  refine Calls.mono HS0.out ?_
  rintro e u1 ⟨rfl, hw2⟩
  have HL1 : Hid (LG w u1 b0 #[.int .i64 s.frames, .int .i64 s.cpus, .slice ads s.ds.length kds] 24) := (show LG w u1 b0 #[.int .i64 s.frames, .int .i64 s.cpus, .slice ads s.ds.length kds] 24 by rw [hw2]; exact HL0.out)
  clear hw2 HL0 HS0
  cases h0 : decide (q1 < 0)
  · have g0 := of_decide_eq_false h0
    go_wp2
    go_ret
    exact ⟨q1, rfl, q1a, q1b, fun hh => ⟨HQds.out (by omega)⟩, HL1.out.bel⟩
  · go_wp2
    go_ret
    exact ⟨-1, rfl, by omega, by omega, fun hh => absurd hh (by omega), HL1.out.bel⟩
end Go.Proofs.Ytlpkkclmcgnapaa
