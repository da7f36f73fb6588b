import Derived.Test.YthhbfghbpapklabRv5
import Derived.Test.YthhbfghbpapklabGc4
namespace Go.Proofs.Ythhbfghbpapklab
open Go.ChangeShapes Go.WideShapes Go.ChangeAt Go.RowKit

set_option maxRecDepth 100000
theorem blkS {u : World} {b : Nat} {cs : Array Value} {t : TypeId} {z : Nat × Nat} (h : u.heap[b]? = some (.cells cs t z)) (o : Nat) (v : Value) : (u.setCell ⟨b, o, none⟩ v).heap[b]? = some (.cells (cs.setIfInBounds o v) t z) := by
  simp [World.setCell, Array.getElem?_modify, h]
theorem nineS {w u : World} {B : Nat} {t : TypeId} {z0 z1 z2 z3 z4 z5 z6 z7 z8 : Value} (hB : w.heap.size ≤ B) (hb : Below w.heap.size w u) (h : u.heap[B]? = some (.cells #[z0, z1, z2, z3, z4, z5, z6, z7, z8] t (0, 0))) (x0 x1 x2 x3 x4 x5 x6 x7 x8 : Value) : ((((((((((u.setCell ⟨B, 0, none⟩ (x0)).setCell ⟨B, 1, none⟩ (x1)).setCell ⟨B, 2, none⟩ (x2)).setCell ⟨B, 3, none⟩ (x3)).setCell ⟨B, 4, none⟩ (x4)).setCell ⟨B, 5, none⟩ (x5)).setCell ⟨B, 6, none⟩ (x6)).setCell ⟨B, 7, none⟩ (x7)).setCell ⟨B, 8, none⟩ (x8))).heap[B]? = some (.cells #[x0, x1, x2, x3, x4, x5, x6, x7, x8] t (0, 0)) ∧ Below w.heap.size w (((((((((u.setCell ⟨B, 0, none⟩ (x0)).setCell ⟨B, 1, none⟩ (x1)).setCell ⟨B, 2, none⟩ (x2)).setCell ⟨B, 3, none⟩ (x3)).setCell ⟨B, 4, none⟩ (x4)).setCell ⟨B, 5, none⟩ (x5)).setCell ⟨B, 6, none⟩ (x6)).setCell ⟨B, 7, none⟩ (x7)).setCell ⟨B, 8, none⟩ (x8)) := by
  have h0 := blkS h 0 x0
  have h1 := blkS h0 1 x1
  have h2 := blkS h1 2 x2
  have h3 := blkS h2 3 x3
  have h4 := blkS h3 4 x4
  have h5 := blkS h4 5 x5
  have h6 := blkS h5 6 x6
  have h7 := blkS h6 7 x7
  have h8 := blkS h7 8 x8
  exact ⟨by simpa using h8, (((((((((hb.setCell (by exact hB) _).setCell (by exact hB) _).setCell (by exact hB) _).setCell (by exact hB) _).setCell (by exact hB) _).setCell (by exact hB) _).setCell (by exact hB) _).setCell (by exact hB) _).setCell (by exact hB) _)⟩
/-- The specification's boxes: the queue's, the answer's, the chain's. -/
structure S3 (w u : World) (S D A U T G : Int) (B3 : Nat) (cs : Array Value) : Prop where
  tb : TwoBx w u #[.int .i64 S, .int .i64 D, .int .i64 A, .int .i64 U, .int .i64 T, .int .i64 G] 24 #[.int .i64 0, .string ⟨#[]⟩, .int .i64 0, .int .i64 0, .int .i64 0, .int .i64 0, .int .i64 0, .int .i64 0, .string ⟨#[]⟩, .int .i64 0, .bool false] 26
  bx : u.heap[B3]? = some (.cells cs 76 (0, 0))
  ge : w.heap.size + 1 < B3
theorem S3.lt {w u : World} {S D A U T G : Int} {B3 : Nat} {cs : Array Value} (h : S3 w u S D A U T G B3 cs) : B3 < u.heap.size := (Array.getElem?_eq_some_iff.1 h.bx).1
theorem S3.step {w u u' : World} {S D A U T G : Int} {B3 : Nat} {cs : Array Value} (h : S3 w u S D A U T G B3 cs) (hb : Below u.heap.size u u') : S3 w u' S D A U T G B3 cs := ⟨h.tb.step hb, (hb.block _ h.lt).trans h.bx, h.ge⟩
theorem S3.nine {w u : World} {S D A U T G : Int} {B3 : Nat} {x0 x1 x2 x3 x4 x5 x6 x7 x8 : Value} (h : S3 w u S D A U T G B3 #[x0, x1, x2, x3, x4, x5, x6, x7, x8]) : u.cell? ⟨B3, 0, none⟩ = some x0 ∧ u.cell? ⟨B3, 1, none⟩ = some x1 ∧ u.cell? ⟨B3, 2, none⟩ = some x2 ∧ u.cell? ⟨B3, 3, none⟩ = some x3 ∧ u.cell? ⟨B3, 4, none⟩ = some x4 ∧ u.cell? ⟨B3, 5, none⟩ = some x5 ∧ u.cell? ⟨B3, 6, none⟩ = some x6 ∧ u.cell? ⟨B3, 7, none⟩ = some x7 ∧ u.cell? ⟨B3, 8, none⟩ = some x8 := ⟨bC h.bx 0 _ rfl, bC h.bx 1 _ rfl, bC h.bx 2 _ rfl, bC h.bx 3 _ rfl, bC h.bx 4 _ rfl, bC h.bx 5 _ rfl, bC h.bx 6 _ rfl, bC h.bx 7 _ rfl, bC h.bx 8 _ rfl⟩
theorem qOk_sz {s s' : ByteArray} {S D A U T G : Nat} {T2 : Nat} (h : qOk s ⟨S, D, A, U, T, G⟩ = true) (hs : s'.size = s.size) (hT : T2 ≤ 65535) : qOk s' ⟨S, D, A, U, T2, G⟩ = true := by
  unfold qOk at h ⊢
  unfold memOk at h ⊢
  rw [hs]
  simp only [Bool.and_eq_true] at h ⊢
  obtain ⟨⟨⟨⟨⟨⟨h1, h2⟩, h3⟩, h4⟩, h5⟩, h6⟩, h7⟩ := h
  refine ⟨⟨⟨⟨⟨⟨h1, h2⟩, ?_⟩, h4⟩, h5⟩, h6⟩, h7⟩
  unfold cnB
  simp
  omega
theorem bsB_of {s : ByteArray} {zs : List BU} (hm : memOk s = true) (hl : zs.length ≤ 1000) (hz : ∀ z ∈ zs, inW s.size z.pos z.len = true) : bsB s zs = true := by
  unfold bsB
  rw [hm, decide_eq_true hl, Bool.and_true, Bool.true_and, List.all_eq_true]
  intro z h9
  exact hz z h9
set_option maxHeartbeats 4000000 in
theorem specRV_long1 (s f : ByteArray) (q : QV) (_hs : s.size ≤ 1048576) (h : 65536 < f.size) : AnsV 9 s q f (svC 2) := by
  intro w
  have hd1 : decide (65536 < (f.size : Int)) = true := decide_eq_true (by omega)
  obtain ⟨S, D, A, U, T, G⟩ := q
  unfold qA
  unfold svV svC svA q00
  simp only
  have HX0 : Hid (TwoBx w ((w.alloc (.cells #[.int .i64 S, .int .i64 D, .int .i64 A, .int .i64 U, .int .i64 T, .int .i64 G] 24)).alloc (.cells #[.int .i64 0, .string ⟨#[]⟩, .int .i64 0, .int .i64 0, .int .i64 0, .int .i64 0, .int .i64 0, .int .i64 0, .string ⟨#[]⟩, .int .i64 0, .bool false] 26)) #[.int .i64 S, .int .i64 D, .int .i64 A, .int .i64 U, .int .i64 T, .int .i64 G] 24 #[.int .i64 0, .string ⟨#[]⟩, .int .i64 0, .int .i64 0, .int .i64 0, .int .i64 0, .int .i64 0, .int .i64 0, .string ⟨#[]⟩, .int .i64 0, .bool false] 26) := TwoBx.of _ _ _ _ _ (Below.refl _ _)
  go_enter Try.func9, Try.ntmps9
  go_upto_region 1 with fail
  generalize ((w.alloc (.cells #[.int .i64 S, .int .i64 D, .int .i64 A, .int .i64 U, .int .i64 T, .int .i64 G] 24)).alloc (.cells #[.int .i64 0, .string ⟨#[]⟩, .int .i64 0, .int .i64 0, .int .i64 0, .int .i64 0, .int .i64 0, .int .i64 0, .string ⟨#[]⟩, .int .i64 0, .bool false] 26)) = W0 at *
  have r0 := HX0.out.c2 0 _ rfl
  have r1 := HX0.out.c2 1 _ rfl
  have r2 := HX0.out.c2 2 _ rfl
  have r3 := HX0.out.c2 3 _ rfl
  have r4 := HX0.out.c2 4 _ rfl
  have r5 := HX0.out.c2 5 _ rfl
  have r6 := HX0.out.c2 6 _ rfl
  have r7 := HX0.out.c2 7 _ rfl
  have r8 := HX0.out.c2 8 _ rfl
  have r9 := HX0.out.c2 9 _ rfl
  have r10 := HX0.out.c2 10 _ rfl
  have rf := fun k => HX0.out.f2 k
  go_wp2_with fail
  refine bodyPost_ret (v := .agg #[.int .i64 2, .string ⟨#[]⟩, .int .i64 0, .int .i64 0, .int .i64 0, .int .i64 0, .int .i64 0, .int .i64 0, .string ⟨#[]⟩, .int .i64 0, .bool false]) ?_ rfl ⟨rfl, ?_⟩
  · simp [results, Try.results9, go_sem, r0, r1, r2, r3, r4, r5, r6, r7, r8, r9, r10]
  · exact (((((((((((HX0.out.bel.setCell (by simp) _).setCell (by simp) _).setCell (by simp) _).setCell (by simp) _).setCell (by simp) _).setCell (by simp) _).setCell (by simp) _).setCell (by simp) _).setCell (by simp) _).setCell (by simp) _).setCell (by simp) _)
set_option maxHeartbeats 4000000 in
theorem specRV_long2 (s f : ByteArray) (q : QV) (hs : s.size ≤ 1048576) (h : ¬ 65536 < f.size) (h2 : 65536 < s.size) : AnsV 9 s q f (svC 2) := by
  intro w
  have hd1 : decide (65536 < (f.size : Int)) = false := decide_eq_false (by omega)
  have hd2 : decide (65536 < (s.size : Int)) = true := decide_eq_true (by omega)
  obtain ⟨S, D, A, U, T, G⟩ := q
  unfold qA
  unfold svV svC svA q00
  simp only
  have HX0 : Hid (TwoBx w ((w.alloc (.cells #[.int .i64 S, .int .i64 D, .int .i64 A, .int .i64 U, .int .i64 T, .int .i64 G] 24)).alloc (.cells #[.int .i64 0, .string ⟨#[]⟩, .int .i64 0, .int .i64 0, .int .i64 0, .int .i64 0, .int .i64 0, .int .i64 0, .string ⟨#[]⟩, .int .i64 0, .bool false] 26)) #[.int .i64 S, .int .i64 D, .int .i64 A, .int .i64 U, .int .i64 T, .int .i64 G] 24 #[.int .i64 0, .string ⟨#[]⟩, .int .i64 0, .int .i64 0, .int .i64 0, .int .i64 0, .int .i64 0, .int .i64 0, .string ⟨#[]⟩, .int .i64 0, .bool false] 26) := TwoBx.of _ _ _ _ _ (Below.refl _ _)
  go_enter Try.func9, Try.ntmps9
  go_upto_region 1 with fail
  generalize ((w.alloc (.cells #[.int .i64 S, .int .i64 D, .int .i64 A, .int .i64 U, .int .i64 T, .int .i64 G] 24)).alloc (.cells #[.int .i64 0, .string ⟨#[]⟩, .int .i64 0, .int .i64 0, .int .i64 0, .int .i64 0, .int .i64 0, .int .i64 0, .string ⟨#[]⟩, .int .i64 0, .bool false] 26)) = W0 at *
  have r0 := HX0.out.c2 0 _ rfl
  have r1 := HX0.out.c2 1 _ rfl
  have r2 := HX0.out.c2 2 _ rfl
  have r3 := HX0.out.c2 3 _ rfl
  have r4 := HX0.out.c2 4 _ rfl
  have r5 := HX0.out.c2 5 _ rfl
  have r6 := HX0.out.c2 6 _ rfl
  have r7 := HX0.out.c2 7 _ rfl
  have r8 := HX0.out.c2 8 _ rfl
  have r9 := HX0.out.c2 9 _ rfl
  have r10 := HX0.out.c2 10 _ rfl
  have rf := fun k => HX0.out.f2 k
  clear hs
  go_wp2_with fail
  refine bodyPost_ret (v := .agg #[.int .i64 2, .string ⟨#[]⟩, .int .i64 0, .int .i64 0, .int .i64 0, .int .i64 0, .int .i64 0, .int .i64 0, .string ⟨#[]⟩, .int .i64 0, .bool false]) ?_ rfl ⟨rfl, ?_⟩
  · simp [results, Try.results9, go_sem, r0, r1, r2, r3, r4, r5, r6, r7, r8, r9, r10]
  · exact (((((((((((HX0.out.bel.setCell (by simp) _).setCell (by simp) _).setCell (by simp) _).setCell (by simp) _).setCell (by simp) _).setCell (by simp) _).setCell (by simp) _).setCell (by simp) _).setCell (by simp) _).setCell (by simp) _).setCell (by simp) _)
set_option maxHeartbeats 4000000 in
theorem specRV_form1 (s f : ByteArray) (q : QV) (hs : s.size ≤ 1048576) (h : ¬ 65536 < f.size) (h2 : ¬ 65536 < s.size) (hp : qOk s q = false) : AnsV 9 s q f (svC 1) := by
  intro w
  have hd1 : decide (65536 < (f.size : Int)) = false := decide_eq_false (by omega)
  have hd2 : decide (65536 < (s.size : Int)) = false := decide_eq_false (by omega)
  have HQ : Hid _ := fun u => specQueueFault_any s q u hs
  rw [qF_no hp] at HQ
  unfold qA at HQ
  obtain ⟨S, D, A, U, T, G⟩ := q
  unfold qA
  unfold svV svC svA q00
  simp only
  have HX0 : Hid (TwoBx w ((w.alloc (.cells #[.int .i64 S, .int .i64 D, .int .i64 A, .int .i64 U, .int .i64 T, .int .i64 G] 24)).alloc (.cells #[.int .i64 0, .string ⟨#[]⟩, .int .i64 0, .int .i64 0, .int .i64 0, .int .i64 0, .int .i64 0, .int .i64 0, .string ⟨#[]⟩, .int .i64 0, .bool false] 26)) #[.int .i64 S, .int .i64 D, .int .i64 A, .int .i64 U, .int .i64 T, .int .i64 G] 24 #[.int .i64 0, .string ⟨#[]⟩, .int .i64 0, .int .i64 0, .int .i64 0, .int .i64 0, .int .i64 0, .int .i64 0, .string ⟨#[]⟩, .int .i64 0, .bool false] 26) := TwoBx.of _ _ _ _ _ (Below.refl _ _)
  go_enter Try.func9, Try.ntmps9
  go_upto_region 1 with fail
  generalize ((w.alloc (.cells #[.int .i64 S, .int .i64 D, .int .i64 A, .int .i64 U, .int .i64 T, .int .i64 G] 24)).alloc (.cells #[.int .i64 0, .string ⟨#[]⟩, .int .i64 0, .int .i64 0, .int .i64 0, .int .i64 0, .int .i64 0, .int .i64 0, .string ⟨#[]⟩, .int .i64 0, .bool false] 26)) = W0 at *
  have k0 := HX0.out.c1 0 _ rfl
  have k1 := HX0.out.c1 1 _ rfl
  have k2 := HX0.out.c1 2 _ rfl
  have k3 := HX0.out.c1 3 _ rfl
  have k4 := HX0.out.c1 4 _ rfl
  have k5 := HX0.out.c1 5 _ rfl
  clear hs
  go_wp2_with (go_at_call 40; refine Calls.mono (HQ.out _) ?_; rintro e u1 ⟨rfl, hu1⟩; have HX1 : Hid _ := HX0.out.step hu1; clear hu1; have r0 := HX1.out.c2 0 _ rfl; have r1 := HX1.out.c2 1 _ rfl; have r2 := HX1.out.c2 2 _ rfl; have r3 := HX1.out.c2 3 _ rfl; have r4 := HX1.out.c2 4 _ rfl; have r5 := HX1.out.c2 5 _ rfl; have r6 := HX1.out.c2 6 _ rfl; have r7 := HX1.out.c2 7 _ rfl; have r8 := HX1.out.c2 8 _ rfl; have r9 := HX1.out.c2 9 _ rfl; have r10 := HX1.out.c2 10 _ rfl; have rf := fun k => HX1.out.f2 k)
  refine bodyPost_ret (v := .agg #[.int .i64 1, .string ⟨#[]⟩, .int .i64 0, .int .i64 0, .int .i64 0, .int .i64 0, .int .i64 0, .int .i64 0, .string ⟨#[]⟩, .int .i64 0, .bool false]) ?_ rfl ⟨rfl, ?_⟩
  · simp [results, Try.results9, go_sem, r0, r1, r2, r3, r4, r5, r6, r7, r8, r9, r10]
  · exact (((((((((((HX1.out.bel.setCell (by simp) _).setCell (by simp) _).setCell (by simp) _).setCell (by simp) _).setCell (by simp) _).setCell (by simp) _).setCell (by simp) _).setCell (by simp) _).setCell (by simp) _).setCell (by simp) _).setCell (by simp) _)
set_option maxHeartbeats 4000000 in
theorem specRV_form2 (s f : ByteArray) (q : QV) (hs : s.size ≤ 1048576) (h : ¬ 65536 < f.size) (h2 : ¬ 65536 < s.size) (hp : qOk s q = true) (h3 : 1500 < f.size) : AnsV 9 s q f (svC 1) := by
  intro w
  have hd1 : decide (65536 < (f.size : Int)) = false := decide_eq_false (by omega)
  have hd2 : decide (65536 < (s.size : Int)) = false := decide_eq_false (by omega)
  have HQ : Hid _ := fun u => specQueueFault_any s q u hs
  rw [qF_ok hp] at HQ
  unfold qA at HQ
  have h4 : decide ((1500 : Int) < (f.size : Int)) = true := decide_eq_true (by omega)
  obtain ⟨S, D, A, U, T, G⟩ := q
  unfold qA
  unfold svV svC svA q00
  simp only
  have HX0 : Hid (TwoBx w ((w.alloc (.cells #[.int .i64 S, .int .i64 D, .int .i64 A, .int .i64 U, .int .i64 T, .int .i64 G] 24)).alloc (.cells #[.int .i64 0, .string ⟨#[]⟩, .int .i64 0, .int .i64 0, .int .i64 0, .int .i64 0, .int .i64 0, .int .i64 0, .string ⟨#[]⟩, .int .i64 0, .bool false] 26)) #[.int .i64 S, .int .i64 D, .int .i64 A, .int .i64 U, .int .i64 T, .int .i64 G] 24 #[.int .i64 0, .string ⟨#[]⟩, .int .i64 0, .int .i64 0, .int .i64 0, .int .i64 0, .int .i64 0, .int .i64 0, .string ⟨#[]⟩, .int .i64 0, .bool false] 26) := TwoBx.of _ _ _ _ _ (Below.refl _ _)
  go_enter Try.func9, Try.ntmps9
  go_upto_region 1 with fail
  generalize ((w.alloc (.cells #[.int .i64 S, .int .i64 D, .int .i64 A, .int .i64 U, .int .i64 T, .int .i64 G] 24)).alloc (.cells #[.int .i64 0, .string ⟨#[]⟩, .int .i64 0, .int .i64 0, .int .i64 0, .int .i64 0, .int .i64 0, .int .i64 0, .string ⟨#[]⟩, .int .i64 0, .bool false] 26)) = W0 at *
  have k0 := HX0.out.c1 0 _ rfl
  have k1 := HX0.out.c1 1 _ rfl
  have k2 := HX0.out.c1 2 _ rfl
  have k3 := HX0.out.c1 3 _ rfl
  have k4 := HX0.out.c1 4 _ rfl
  have k5 := HX0.out.c1 5 _ rfl
  clear hs
  go_wp2_with (go_at_call 40; refine Calls.mono (HQ.out _) ?_; rintro e u1 ⟨rfl, hu1⟩; have HX1 : Hid _ := HX0.out.step hu1; clear hu1; have r0 := HX1.out.c2 0 _ rfl; have r1 := HX1.out.c2 1 _ rfl; have r2 := HX1.out.c2 2 _ rfl; have r3 := HX1.out.c2 3 _ rfl; have r4 := HX1.out.c2 4 _ rfl; have r5 := HX1.out.c2 5 _ rfl; have r6 := HX1.out.c2 6 _ rfl; have r7 := HX1.out.c2 7 _ rfl; have r8 := HX1.out.c2 8 _ rfl; have r9 := HX1.out.c2 9 _ rfl; have r10 := HX1.out.c2 10 _ rfl; have rf := fun k => HX1.out.f2 k)
  refine bodyPost_ret (v := .agg #[.int .i64 1, .string ⟨#[]⟩, .int .i64 0, .int .i64 0, .int .i64 0, .int .i64 0, .int .i64 0, .int .i64 0, .string ⟨#[]⟩, .int .i64 0, .bool false]) ?_ rfl ⟨rfl, ?_⟩
  · simp [results, Try.results9, go_sem, r0, r1, r2, r3, r4, r5, r6, r7, r8, r9, r10]
  · exact (((((((((((HX1.out.bel.setCell (by simp) _).setCell (by simp) _).setCell (by simp) _).setCell (by simp) _).setCell (by simp) _).setCell (by simp) _).setCell (by simp) _).setCell (by simp) _).setCell (by simp) _).setCell (by simp) _).setCell (by simp) _)
end Go.Proofs.Ythhbfghbpapklab
