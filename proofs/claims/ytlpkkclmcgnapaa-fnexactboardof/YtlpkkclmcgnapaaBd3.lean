import Derived.Test.YtlpkkclmcgnapaaBd1
import Derived.Test.YtlpkkclmcgnapaaMkDV
namespace Go.Proofs.Ytlpkkclmcgnapaa
open Go.ChangeShapes Go.WideShapes Go.ChangeAt Go.RowKit

theorem LG.growD {w u u' : World} {b t : Nat} {cs : Array Value} {r : Option Nat} (h : LG w u b cs t) (hg : u.grownBy u' r) (hne : r ≠ some b) (hr : ∀ k, r = some k → w.heap.size ≤ k) : LG w u' b cs t :=
  ⟨h.bel.grown hg h.bel.size hr, (hg.block b h.lt (fun e => hne e.symm)).trans h.box, h.ge⟩
theorem gtr21 {u v w : World} {r : Option Nat} (h : u.grownBy v r) (h2 : v.grownBy w r) : u.grownBy w r := ⟨h2.os.trans h.os, h2.tape.trans h.tape, h2.output.trans h.output, Nat.le_trans h.size h2.size, fun k hk hn => (h2.block k (Nat.lt_of_lt_of_le hk h.size) hn).trans (h.block k hk hn)⟩
theorem gal21 (u : World) (o : Obj) (r : Option Nat) : u.grownBy (u.alloc o) r := by
  have h := bx1 u o
  exact ⟨h.os, h.tape, h.output, h.size, fun k hk _ => h.block k hk⟩
set_option maxRecDepth 100000 in
set_option maxHeartbeats 8000000 in
theorem toBD_own {w : World} {s : BD} {a : BDA} (h : BDRows w s a) (hl : BDlen s) : Calls Try.prog 8 #[bdA s a] w fun e w' => ∃ a2 : BDA, e = .returned (bdA s a2) ∧ w'.ownsRow w.heap.size 49 3 a2.vds s.ds.length (dvR s.ds) ∧ Below w.heap.size w w' := by
  have HR : Hid (BDRows w s a) := h
  obtain ⟨ads, kds, e⟩ := h.sl
  have HL : Hid (BDlen s) := hl
  subst e
  clear h hl
  unfold bdA bdC
  simp only
  go_enter Try.func8, Try.ntmps8
  go_wp2_with fail
  have HT0 : Hid (T3 w (((w.alloc (.cells #[.int .i64 s.frames, .int .i64 s.cpus, .slice ads s.ds.length kds] 24)).alloc (.cells #[.int .i64 0, .int .i64 0, .slice none 0 0] 29)).alloc (.cells #[.int .i64 s.frames, .int .i64 s.cpus, .slice none 0 0] 29)) 24 29 #[.int .i64 s.frames, .int .i64 s.cpus, .slice ads s.ds.length kds] #[.int .i64 0, .int .i64 0, .slice none 0 0] #[.int .i64 s.frames, .int .i64 s.cpus, .slice none 0 0]) := T3.new _ _ _ _ _ _
  generalize (((w.alloc (.cells #[.int .i64 s.frames, .int .i64 s.cpus, .slice ads s.ds.length kds] 24)).alloc (.cells #[.int .i64 0, .int .i64 0, .slice none 0 0] 29)).alloc (.cells #[.int .i64 s.frames, .int .i64 s.cpus, .slice none 0 0] 29)) = V0 at *
  refine Calls.mono (toDVS_any (HR.out.rds.below HT0.out.bel) HL.out.lds) ?_
  rintro e u0 ⟨vds, rfl, o1, hb1⟩
  obtain ⟨ads2, kds2, rfl⟩ := dv_sl o1
  have HT1 : Hid (T3 w u0 24 29 #[.int .i64 s.frames, .int .i64 s.cpus, .slice ads s.ds.length kds] #[.int .i64 0, .int .i64 0, .slice none 0 0] #[.int .i64 s.frames, .int .i64 s.cpus, .slice none 0 0]) := HT0.out.step hb1
  have HOds_0 : Hid (u0.ownsRow (w.heap.size + 3) 49 3 (.slice ads2 s.ds.length kds2) s.ds.length (dvR s.ds)) := own_weakN o1 (by have := HT0.out.lt; omega)
  clear o1 hb1 HT0
  have d0 := celN HT1.out.b2 0 _ rfl
  have d1 := celN HT1.out.b2 1 _ rfl
  have d2 := celN HT1.out.b2 2 _ rfl
  have df := frzN HT1.out.b2
  have lt1 := HT1.out.lt
  have g0 : w.heap.size < u0.heap.size := by omega
  have k0 := celN HT1.out.b1 0 _ rfl
  have k1 := celN HT1.out.b1 1 _ rfl
  have k2 := celN HT1.out.b1 2 _ rfl
  have kf := frzN HT1.out.b1
  have g1 : w.heap.size + 1 < u0.heap.size := by omega
  have g2 : w.heap.size + 1 + 1 < u0.heap.size := by omega
  go_wp2
  have hk : ∀ (x : World) (k o : Nat) (y : Value) (a : Nat), k ≠ a → (x.setCell ⟨a, o, none⟩ y).heap[k]? = x.heap[k]? := fun x k o y a h => Below.heap_setCell _ _ _ _ (by simpa using h)
  refine bodyPost_ret (v := .agg #[.int .i64 s.frames, .int .i64 s.cpus, .slice ads2 s.ds.length kds2]) ?_ rfl ⟨⟨.slice ads2 s.ds.length kds2⟩, rfl, own_weakN (B := w.heap.size + 3) (own_heapN HOds_0.out (fun k hk2 => by repeat rw [hk _ _ _ _ _ (by omega)]) (Nat.le_refl _)) (by omega), ?_⟩
  · simp only [results, Try.results8, go_sem]
    simp [go_sem, k0, k1, k2]
  · have hB := HT1.out.bel
    repeat refine Below.setCell ?_ (by simp only; omega) _
    exact hB
set_option maxRecDepth 100000 in
set_option maxHeartbeats 8000000 in
theorem markBD_ok {w : World} {B : Nat} {v : Value} {zs : List DV} (k0 : Nat) (h : w.ownsRow B 49 3 v zs.length (dvR zs)) (hn : zs.length ≤ 1048576) (hk1 : 1 ≤ k0) (hk2 : k0 ≤ 140737488355328) (f c : Int) :
    Calls Try.prog 14 #[.agg #[.int .i64 f, .int .i64 c, v], .int .i64 (k0 : Nat)] w fun e w' => e = .returned (.int .i64 ((k0 + 3 * zs.length : Nat) : Int)) ∧ w'.ownsRow B 49 3 v zs.length (dvR (mdK k0 zs.length)) ∧ w.grownBy w' v.ownBlock := by
  have HM : Hid (∀ x, Below w.heap.size w x → Calls Try.prog 32 #[v, .int .i64 (k0 : Nat)] x fun e w' => e = .returned (.int .i64 ((k0 + 3 * zs.length : Nat) : Int)) ∧ w'.ownsRow B 49 3 v zs.length (dvR (mdK k0 zs.length)) ∧ x.grownBy w' v.ownBlock) := fun x hx => markDV_ok k0 (dv_below h hx) hn hk1 hk2
  obtain ⟨a1, c1, rfl⟩ := dv_sl h
  generalize (Value.slice a1 zs.length c1).ownBlock = ob at *
  generalize k0 + 3 * zs.length = N at *
  clear h
  go_enter Try.func14, Try.ntmps14
  go_wp2_with fail
  refine Calls.mono (HM.out _ (bx1 _ _)) ?_
  rintro e u1 ⟨rfl, ho, hg⟩
  have HO : Hid _ := ho
  have HG : Hid (w.grownBy u1 ob) := gtr21 (gal21 _ _ _) hg
  clear ho hg
  go_wp2
  go_ret
  exact ⟨rfl, HO.out, HG.out⟩
end Go.Proofs.Ytlpkkclmcgnapaa
