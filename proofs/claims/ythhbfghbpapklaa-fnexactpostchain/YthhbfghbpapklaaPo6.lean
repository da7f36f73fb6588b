import Derived.Test.YthhbfghbpapklaaPo5
import Derived.Test.YthhbfghbpapklaaGc4
namespace Go.Proofs.Ythhbfghbpapklaa
open Go.ChangeShapes Go.WideShapes Go.ChangeAt Go.RowKit

set_option maxRecDepth 100000
theorem l01BoolP (b : Bool) (w : World) : Calls Try.prog 23 #[.bool b] w fun e w' => e = .returned (.int .i64 (if b then 1 else 0)) ∧ w' = w := by
  cases b
  · go_enter Try.func23, Try.ntmps23
    go_wp2
    go_ret
    exact ⟨rfl, rfl⟩
  · go_enter Try.func23, Try.ntmps23
    go_wp2
    go_ret
    exact ⟨rfl, rfl⟩
set_option maxHeartbeats 4000000 in
theorem specPO_many {w : World} {v : Value} {zs : List BU} (s : ByteArray) (q : QV) (i : Int) (h : BUrow w v zs) (hl : 1000 < zs.length) : Calls Try.prog 8 #[.string s, qA q, .int .i64 i, v] w fun e w' => e = .returned (gcA 2 ⟨#[]⟩ q0 false) ∧ Below w.heap.size w w' := by
  obtain ⟨a1, c1, rfl⟩ := h.sl
  have hd : decide (1000 < (zs.length : Int)) = true := decide_eq_true (by omega)
  clear h
  obtain ⟨S, D, A, U, T, G⟩ := q
  unfold qA gcA q0
  simp only
  have HX0 : Hid (TwoBx w ((w.alloc (.cells #[.int .i64 S, .int .i64 D, .int .i64 A, .int .i64 U, .int .i64 T, .int .i64 G] 26)).alloc (.cells #[.int .i64 0, .string ⟨#[]⟩, .int .i64 0, .int .i64 0, .int .i64 0, .int .i64 0, .int .i64 0, .int .i64 0, .bool false] 28)) #[.int .i64 S, .int .i64 D, .int .i64 A, .int .i64 U, .int .i64 T, .int .i64 G] 26 #[.int .i64 0, .string ⟨#[]⟩, .int .i64 0, .int .i64 0, .int .i64 0, .int .i64 0, .int .i64 0, .int .i64 0, .bool false] 28) := TwoBx.of _ _ _ _ _ (Below.refl _ _)
  go_enter Try.func8, Try.ntmps8
  go_upto_region 1 with fail
  generalize ((w.alloc (.cells #[.int .i64 S, .int .i64 D, .int .i64 A, .int .i64 U, .int .i64 T, .int .i64 G] 26)).alloc (.cells #[.int .i64 0, .string ⟨#[]⟩, .int .i64 0, .int .i64 0, .int .i64 0, .int .i64 0, .int .i64 0, .int .i64 0, .bool false] 28)) = W0 at *
  have k0 := HX0.out.c1 0 _ rfl
  have k1 := HX0.out.c1 1 _ rfl
  have k2 := HX0.out.c1 2 _ rfl
  have k3 := HX0.out.c1 3 _ rfl
  have k4 := HX0.out.c1 4 _ rfl
  have k5 := HX0.out.c1 5 _ rfl
  have r0 := HX0.out.c2 0 _ rfl
  have r1 := HX0.out.c2 1 _ rfl
  have r2 := HX0.out.c2 2 _ rfl
  have r3 := HX0.out.c2 3 _ rfl
  have r4 := HX0.out.c2 4 _ rfl
  have r5 := HX0.out.c2 5 _ rfl
  have r6 := HX0.out.c2 6 _ rfl
  have r7 := HX0.out.c2 7 _ rfl
  have r8 := HX0.out.c2 8 _ rfl
  have rf := fun k => HX0.out.f2 k
  go_wp2_with fail
  refine bodyPost_ret (v := .agg #[.int .i64 2, .string ⟨#[]⟩, .int .i64 0, .int .i64 0, .int .i64 0, .int .i64 0, .int .i64 0, .int .i64 0, .bool false]) ?_ rfl ⟨rfl, ?_⟩
  · simp [results, Try.results8, go_sem, r0, r1, r2, r3, r4, r5, r6, r7, r8]
  · exact (((((((((HX0.out.bel.setCell (by simp) _).setCell (by simp) _).setCell (by simp) _).setCell (by simp) _).setCell (by simp) _).setCell (by simp) _).setCell (by simp) _).setCell (by simp) _).setCell (by simp) _)
set_option maxHeartbeats 4000000 in
theorem specPO_big {w : World} {v : Value} {zs : List BU} (s : ByteArray) (q : QV) (i : Int) (h : BUrow w v zs) (hl : ¬ 1000 < zs.length) (hs : 65536 < s.size) : Calls Try.prog 8 #[.string s, qA q, .int .i64 i, v] w fun e w' => e = .returned (gcA 2 ⟨#[]⟩ q0 false) ∧ Below w.heap.size w w' := by
  obtain ⟨a1, c1, rfl⟩ := h.sl
  have hd : decide (1000 < (zs.length : Int)) = false := decide_eq_false (by omega)
  have hd2 : decide (65536 < (s.size : Int)) = true := decide_eq_true (by omega)
  clear h
  obtain ⟨S, D, A, U, T, G⟩ := q
  unfold qA gcA q0
  simp only
  have HX0 : Hid (TwoBx w ((w.alloc (.cells #[.int .i64 S, .int .i64 D, .int .i64 A, .int .i64 U, .int .i64 T, .int .i64 G] 26)).alloc (.cells #[.int .i64 0, .string ⟨#[]⟩, .int .i64 0, .int .i64 0, .int .i64 0, .int .i64 0, .int .i64 0, .int .i64 0, .bool false] 28)) #[.int .i64 S, .int .i64 D, .int .i64 A, .int .i64 U, .int .i64 T, .int .i64 G] 26 #[.int .i64 0, .string ⟨#[]⟩, .int .i64 0, .int .i64 0, .int .i64 0, .int .i64 0, .int .i64 0, .int .i64 0, .bool false] 28) := TwoBx.of _ _ _ _ _ (Below.refl _ _)
  go_enter Try.func8, Try.ntmps8
  go_upto_region 1 with fail
  generalize ((w.alloc (.cells #[.int .i64 S, .int .i64 D, .int .i64 A, .int .i64 U, .int .i64 T, .int .i64 G] 26)).alloc (.cells #[.int .i64 0, .string ⟨#[]⟩, .int .i64 0, .int .i64 0, .int .i64 0, .int .i64 0, .int .i64 0, .int .i64 0, .bool false] 28)) = W0 at *
  have k0 := HX0.out.c1 0 _ rfl
  have k1 := HX0.out.c1 1 _ rfl
  have k2 := HX0.out.c1 2 _ rfl
  have k3 := HX0.out.c1 3 _ rfl
  have k4 := HX0.out.c1 4 _ rfl
  have k5 := HX0.out.c1 5 _ rfl
  have r0 := HX0.out.c2 0 _ rfl
  have r1 := HX0.out.c2 1 _ rfl
  have r2 := HX0.out.c2 2 _ rfl
  have r3 := HX0.out.c2 3 _ rfl
  have r4 := HX0.out.c2 4 _ rfl
  have r5 := HX0.out.c2 5 _ rfl
  have r6 := HX0.out.c2 6 _ rfl
  have r7 := HX0.out.c2 7 _ rfl
  have r8 := HX0.out.c2 8 _ rfl
  have rf := fun k => HX0.out.f2 k
  go_wp2_with fail
  refine bodyPost_ret (v := .agg #[.int .i64 2, .string ⟨#[]⟩, .int .i64 0, .int .i64 0, .int .i64 0, .int .i64 0, .int .i64 0, .int .i64 0, .bool false]) ?_ rfl ⟨rfl, ?_⟩
  · simp [results, Try.results8, go_sem, r0, r1, r2, r3, r4, r5, r6, r7, r8]
  · exact (((((((((HX0.out.bel.setCell (by simp) _).setCell (by simp) _).setCell (by simp) _).setCell (by simp) _).setCell (by simp) _).setCell (by simp) _).setCell (by simp) _).setCell (by simp) _).setCell (by simp) _)
set_option maxHeartbeats 4000000 in
theorem specPO_q {w : World} {v : Value} {zs : List BU} (s : ByteArray) (q : QV) (i : Int) (h : BUrow w v zs) (hl : ¬ 1000 < zs.length) (hs : ¬ 65536 < s.size) (hp : qOk s q = false) : Calls Try.prog 8 #[.string s, qA q, .int .i64 i, v] w fun e w' => e = .returned (gcA 1 ⟨#[]⟩ q0 false) ∧ Below w.heap.size w w' := by
  obtain ⟨a1, c1, rfl⟩ := h.sl
  have hd : decide (1000 < (zs.length : Int)) = false := decide_eq_false (by omega)
  have hd2 : decide (65536 < (s.size : Int)) = false := decide_eq_false (by omega)
  have HC : Hid _ := fun u => specQueueFault_any s q u (by omega)
  rw [qF_no hp] at HC
  clear h
  obtain ⟨S, D, A, U, T, G⟩ := q
  unfold qA gcA q0
  simp only
  have HX0 : Hid (TwoBx w ((w.alloc (.cells #[.int .i64 S, .int .i64 D, .int .i64 A, .int .i64 U, .int .i64 T, .int .i64 G] 26)).alloc (.cells #[.int .i64 0, .string ⟨#[]⟩, .int .i64 0, .int .i64 0, .int .i64 0, .int .i64 0, .int .i64 0, .int .i64 0, .bool false] 28)) #[.int .i64 S, .int .i64 D, .int .i64 A, .int .i64 U, .int .i64 T, .int .i64 G] 26 #[.int .i64 0, .string ⟨#[]⟩, .int .i64 0, .int .i64 0, .int .i64 0, .int .i64 0, .int .i64 0, .int .i64 0, .bool false] 28) := TwoBx.of _ _ _ _ _ (Below.refl _ _)
  unfold qA at HC
  simp only at HC
  go_enter Try.func8, Try.ntmps8
  go_upto_region 1 with fail
  generalize ((w.alloc (.cells #[.int .i64 S, .int .i64 D, .int .i64 A, .int .i64 U, .int .i64 T, .int .i64 G] 26)).alloc (.cells #[.int .i64 0, .string ⟨#[]⟩, .int .i64 0, .int .i64 0, .int .i64 0, .int .i64 0, .int .i64 0, .int .i64 0, .bool false] 28)) = W0 at *
  have k0 := HX0.out.c1 0 _ rfl
  have k1 := HX0.out.c1 1 _ rfl
  have k2 := HX0.out.c1 2 _ rfl
  have k3 := HX0.out.c1 3 _ rfl
  have k4 := HX0.out.c1 4 _ rfl
  have k5 := HX0.out.c1 5 _ rfl
  skip
  go_wp2_with (go_at_call 21; refine Calls.mono (HC.out _) ?_; rintro e u1 ⟨rfl, hu1⟩; have HX1 : Hid _ := HX0.out.step hu1; clear hu1 k0 k1 k2 k3 k4 k5; have k0 := HX1.out.c1 0 _ rfl; have k1 := HX1.out.c1 1 _ rfl; have k2 := HX1.out.c1 2 _ rfl; have k3 := HX1.out.c1 3 _ rfl; have k4 := HX1.out.c1 4 _ rfl; have k5 := HX1.out.c1 5 _ rfl; have r0 := HX1.out.c2 0 _ rfl; have r1 := HX1.out.c2 1 _ rfl; have r2 := HX1.out.c2 2 _ rfl; have r3 := HX1.out.c2 3 _ rfl; have r4 := HX1.out.c2 4 _ rfl; have r5 := HX1.out.c2 5 _ rfl; have r6 := HX1.out.c2 6 _ rfl; have r7 := HX1.out.c2 7 _ rfl; have r8 := HX1.out.c2 8 _ rfl; have rf := fun k => HX1.out.f2 k)
  refine bodyPost_ret (v := .agg #[.int .i64 1, .string ⟨#[]⟩, .int .i64 0, .int .i64 0, .int .i64 0, .int .i64 0, .int .i64 0, .int .i64 0, .bool false]) ?_ rfl ⟨rfl, ?_⟩
  · simp [results, Try.results8, go_sem, r0, r1, r2, r3, r4, r5, r6, r7, r8]
  · exact (((((((((HX1.out.bel.setCell (by simp) _).setCell (by simp) _).setCell (by simp) _).setCell (by simp) _).setCell (by simp) _).setCell (by simp) _).setCell (by simp) _).setCell (by simp) _).setCell (by simp) _)
set_option maxHeartbeats 4000000 in
theorem specPO_neg {w : World} {v : Value} {zs : List BU} (s : ByteArray) (q : QV) (i : Int) (h : BUrow w v zs) (hl : ¬ 1000 < zs.length) (hs : ¬ 65536 < s.size) (hp : qOk s q = true) (h1 : i < 0) : Calls Try.prog 8 #[.string s, qA q, .int .i64 i, v] w fun e w' => e = .returned (gcA 1 ⟨#[]⟩ q0 false) ∧ Below w.heap.size w w' := by
  obtain ⟨a1, c1, rfl⟩ := h.sl
  have hd : decide (1000 < (zs.length : Int)) = false := decide_eq_false (by omega)
  have hd2 : decide (65536 < (s.size : Int)) = false := decide_eq_false (by omega)
  have HC : Hid _ := fun u => specQueueFault_any s q u (by omega)
  rw [qF_ok hp] at HC
  clear h
  have h1d : decide (i < 0) = true := decide_eq_true h1
  obtain ⟨S, D, A, U, T, G⟩ := q
  unfold qA gcA q0
  simp only
  have HX0 : Hid (TwoBx w ((w.alloc (.cells #[.int .i64 S, .int .i64 D, .int .i64 A, .int .i64 U, .int .i64 T, .int .i64 G] 26)).alloc (.cells #[.int .i64 0, .string ⟨#[]⟩, .int .i64 0, .int .i64 0, .int .i64 0, .int .i64 0, .int .i64 0, .int .i64 0, .bool false] 28)) #[.int .i64 S, .int .i64 D, .int .i64 A, .int .i64 U, .int .i64 T, .int .i64 G] 26 #[.int .i64 0, .string ⟨#[]⟩, .int .i64 0, .int .i64 0, .int .i64 0, .int .i64 0, .int .i64 0, .int .i64 0, .bool false] 28) := TwoBx.of _ _ _ _ _ (Below.refl _ _)
  unfold qA at HC
  simp only at HC
  go_enter Try.func8, Try.ntmps8
  go_upto_region 1 with fail
  generalize ((w.alloc (.cells #[.int .i64 S, .int .i64 D, .int .i64 A, .int .i64 U, .int .i64 T, .int .i64 G] 26)).alloc (.cells #[.int .i64 0, .string ⟨#[]⟩, .int .i64 0, .int .i64 0, .int .i64 0, .int .i64 0, .int .i64 0, .int .i64 0, .bool false] 28)) = W0 at *
  have k0 := HX0.out.c1 0 _ rfl
  have k1 := HX0.out.c1 1 _ rfl
  have k2 := HX0.out.c1 2 _ rfl
  have k3 := HX0.out.c1 3 _ rfl
  have k4 := HX0.out.c1 4 _ rfl
  have k5 := HX0.out.c1 5 _ rfl
  skip
  go_wp2_with (go_at_call 21; refine Calls.mono (HC.out _) ?_; rintro e u1 ⟨rfl, hu1⟩; have HX1 : Hid _ := HX0.out.step hu1; clear hu1 k0 k1 k2 k3 k4 k5; have k0 := HX1.out.c1 0 _ rfl; have k1 := HX1.out.c1 1 _ rfl; have k2 := HX1.out.c1 2 _ rfl; have k3 := HX1.out.c1 3 _ rfl; have k4 := HX1.out.c1 4 _ rfl; have k5 := HX1.out.c1 5 _ rfl; have r0 := HX1.out.c2 0 _ rfl; have r1 := HX1.out.c2 1 _ rfl; have r2 := HX1.out.c2 2 _ rfl; have r3 := HX1.out.c2 3 _ rfl; have r4 := HX1.out.c2 4 _ rfl; have r5 := HX1.out.c2 5 _ rfl; have r6 := HX1.out.c2 6 _ rfl; have r7 := HX1.out.c2 7 _ rfl; have r8 := HX1.out.c2 8 _ rfl; have rf := fun k => HX1.out.f2 k)
  refine bodyPost_ret (v := .agg #[.int .i64 1, .string ⟨#[]⟩, .int .i64 0, .int .i64 0, .int .i64 0, .int .i64 0, .int .i64 0, .int .i64 0, .bool false]) ?_ rfl ⟨rfl, ?_⟩
  · simp [results, Try.results8, go_sem, r0, r1, r2, r3, r4, r5, r6, r7, r8]
  · exact (((((((((HX1.out.bel.setCell (by simp) _).setCell (by simp) _).setCell (by simp) _).setCell (by simp) _).setCell (by simp) _).setCell (by simp) _).setCell (by simp) _).setCell (by simp) _).setCell (by simp) _)
set_option maxHeartbeats 4000000 in
theorem specPO_ge {w : World} {v : Value} {zs : List BU} (s : ByteArray) (q : QV) (i : Int) (h : BUrow w v zs) (hl : ¬ 1000 < zs.length) (hs : ¬ 65536 < s.size) (hp : qOk s q = true) (h1 : ¬ i < 0) (h2 : q.size ≤ i) : Calls Try.prog 8 #[.string s, qA q, .int .i64 i, v] w fun e w' => e = .returned (gcA 1 ⟨#[]⟩ q0 false) ∧ Below w.heap.size w w' := by
  obtain ⟨a1, c1, rfl⟩ := h.sl
  have hd : decide (1000 < (zs.length : Int)) = false := decide_eq_false (by omega)
  have hd2 : decide (65536 < (s.size : Int)) = false := decide_eq_false (by omega)
  have HC : Hid _ := fun u => specQueueFault_any s q u (by omega)
  rw [qF_ok hp] at HC
  clear h
  have h1d : decide (i < 0) = false := decide_eq_false h1
  obtain ⟨S, D, A, U, T, G⟩ := q
  unfold qA gcA q0
  simp only
  have HX0 : Hid (TwoBx w ((w.alloc (.cells #[.int .i64 S, .int .i64 D, .int .i64 A, .int .i64 U, .int .i64 T, .int .i64 G] 26)).alloc (.cells #[.int .i64 0, .string ⟨#[]⟩, .int .i64 0, .int .i64 0, .int .i64 0, .int .i64 0, .int .i64 0, .int .i64 0, .bool false] 28)) #[.int .i64 S, .int .i64 D, .int .i64 A, .int .i64 U, .int .i64 T, .int .i64 G] 26 #[.int .i64 0, .string ⟨#[]⟩, .int .i64 0, .int .i64 0, .int .i64 0, .int .i64 0, .int .i64 0, .int .i64 0, .bool false] 28) := TwoBx.of _ _ _ _ _ (Below.refl _ _)
  unfold qA at HC
  simp only at HC
  simp only at h2
  have h2d : decide (S ≤ i) = true := decide_eq_true h2
  go_enter Try.func8, Try.ntmps8
  go_upto_region 1 with fail
  generalize ((w.alloc (.cells #[.int .i64 S, .int .i64 D, .int .i64 A, .int .i64 U, .int .i64 T, .int .i64 G] 26)).alloc (.cells #[.int .i64 0, .string ⟨#[]⟩, .int .i64 0, .int .i64 0, .int .i64 0, .int .i64 0, .int .i64 0, .int .i64 0, .bool false] 28)) = W0 at *
  have k0 := HX0.out.c1 0 _ rfl
  have k1 := HX0.out.c1 1 _ rfl
  have k2 := HX0.out.c1 2 _ rfl
  have k3 := HX0.out.c1 3 _ rfl
  have k4 := HX0.out.c1 4 _ rfl
  have k5 := HX0.out.c1 5 _ rfl
  skip
  go_wp2_with (go_at_call 21; refine Calls.mono (HC.out _) ?_; rintro e u1 ⟨rfl, hu1⟩; have HX1 : Hid _ := HX0.out.step hu1; clear hu1 k0 k1 k2 k3 k4 k5; have k0 := HX1.out.c1 0 _ rfl; have k1 := HX1.out.c1 1 _ rfl; have k2 := HX1.out.c1 2 _ rfl; have k3 := HX1.out.c1 3 _ rfl; have k4 := HX1.out.c1 4 _ rfl; have k5 := HX1.out.c1 5 _ rfl; have r0 := HX1.out.c2 0 _ rfl; have r1 := HX1.out.c2 1 _ rfl; have r2 := HX1.out.c2 2 _ rfl; have r3 := HX1.out.c2 3 _ rfl; have r4 := HX1.out.c2 4 _ rfl; have r5 := HX1.out.c2 5 _ rfl; have r6 := HX1.out.c2 6 _ rfl; have r7 := HX1.out.c2 7 _ rfl; have r8 := HX1.out.c2 8 _ rfl; have rf := fun k => HX1.out.f2 k)
  refine bodyPost_ret (v := .agg #[.int .i64 1, .string ⟨#[]⟩, .int .i64 0, .int .i64 0, .int .i64 0, .int .i64 0, .int .i64 0, .int .i64 0, .bool false]) ?_ rfl ⟨rfl, ?_⟩
  · simp [results, Try.results8, go_sem, r0, r1, r2, r3, r4, r5, r6, r7, r8]
  · exact (((((((((HX1.out.bel.setCell (by simp) _).setCell (by simp) _).setCell (by simp) _).setCell (by simp) _).setCell (by simp) _).setCell (by simp) _).setCell (by simp) _).setCell (by simp) _).setCell (by simp) _)
set_option maxHeartbeats 4000000 in
theorem specPO_none {w : World} {v : Value} {zs : List BU} (s : ByteArray) (q : QV) (i : Int) (h : BUrow w v zs) (_hl : ¬ 1000 < zs.length) (hs : ¬ 65536 < s.size) (hp : qOk s q = true) (h1 : ¬ i < 0) (h2 : ¬ q.size ≤ i) (h3 : zs.length = 0) : Calls Try.prog 8 #[.string s, qA q, .int .i64 i, v] w fun e w' => e = .returned (gcA 1 ⟨#[]⟩ q0 false) ∧ Below w.heap.size w w' := by
  obtain ⟨a1, c1, rfl⟩ := h.sl
  have hd : decide (1000 < (zs.length : Int)) = false := decide_eq_false (by omega)
  have hd2 : decide (65536 < (s.size : Int)) = false := decide_eq_false (by omega)
  have HC : Hid _ := fun u => specQueueFault_any s q u (by omega)
  rw [qF_ok hp] at HC
  clear h
  have h1d : decide (i < 0) = false := decide_eq_false h1
  have h3d : decide ((zs.length : Int) < 1) = true := decide_eq_true (by omega)
  clear h3
  obtain ⟨S, D, A, U, T, G⟩ := q
  unfold qA gcA q0
  simp only
  have HX0 : Hid (TwoBx w ((w.alloc (.cells #[.int .i64 S, .int .i64 D, .int .i64 A, .int .i64 U, .int .i64 T, .int .i64 G] 26)).alloc (.cells #[.int .i64 0, .string ⟨#[]⟩, .int .i64 0, .int .i64 0, .int .i64 0, .int .i64 0, .int .i64 0, .int .i64 0, .bool false] 28)) #[.int .i64 S, .int .i64 D, .int .i64 A, .int .i64 U, .int .i64 T, .int .i64 G] 26 #[.int .i64 0, .string ⟨#[]⟩, .int .i64 0, .int .i64 0, .int .i64 0, .int .i64 0, .int .i64 0, .int .i64 0, .bool false] 28) := TwoBx.of _ _ _ _ _ (Below.refl _ _)
  unfold qA at HC
  simp only at HC
  simp only at h2
  have h2d : decide (S ≤ i) = false := decide_eq_false h2
  go_enter Try.func8, Try.ntmps8
  go_upto_region 1 with fail
  generalize ((w.alloc (.cells #[.int .i64 S, .int .i64 D, .int .i64 A, .int .i64 U, .int .i64 T, .int .i64 G] 26)).alloc (.cells #[.int .i64 0, .string ⟨#[]⟩, .int .i64 0, .int .i64 0, .int .i64 0, .int .i64 0, .int .i64 0, .int .i64 0, .bool false] 28)) = W0 at *
  have k0 := HX0.out.c1 0 _ rfl
  have k1 := HX0.out.c1 1 _ rfl
  have k2 := HX0.out.c1 2 _ rfl
  have k3 := HX0.out.c1 3 _ rfl
  have k4 := HX0.out.c1 4 _ rfl
  have k5 := HX0.out.c1 5 _ rfl
  skip
  go_wp2_with (go_at_call 21; refine Calls.mono (HC.out _) ?_; rintro e u1 ⟨rfl, hu1⟩; have HX1 : Hid _ := HX0.out.step hu1; clear hu1 k0 k1 k2 k3 k4 k5; have k0 := HX1.out.c1 0 _ rfl; have k1 := HX1.out.c1 1 _ rfl; have k2 := HX1.out.c1 2 _ rfl; have k3 := HX1.out.c1 3 _ rfl; have k4 := HX1.out.c1 4 _ rfl; have k5 := HX1.out.c1 5 _ rfl; have r0 := HX1.out.c2 0 _ rfl; have r1 := HX1.out.c2 1 _ rfl; have r2 := HX1.out.c2 2 _ rfl; have r3 := HX1.out.c2 3 _ rfl; have r4 := HX1.out.c2 4 _ rfl; have r5 := HX1.out.c2 5 _ rfl; have r6 := HX1.out.c2 6 _ rfl; have r7 := HX1.out.c2 7 _ rfl; have r8 := HX1.out.c2 8 _ rfl; have rf := fun k => HX1.out.f2 k)
  refine bodyPost_ret (v := .agg #[.int .i64 1, .string ⟨#[]⟩, .int .i64 0, .int .i64 0, .int .i64 0, .int .i64 0, .int .i64 0, .int .i64 0, .bool false]) ?_ rfl ⟨rfl, ?_⟩
  · simp [results, Try.results8, go_sem, r0, r1, r2, r3, r4, r5, r6, r7, r8]
  · exact (((((((((HX1.out.bel.setCell (by simp) _).setCell (by simp) _).setCell (by simp) _).setCell (by simp) _).setCell (by simp) _).setCell (by simp) _).setCell (by simp) _).setCell (by simp) _).setCell (by simp) _)
set_option maxHeartbeats 4000000 in
theorem specPO_long {w : World} {v : Value} {zs : List BU} (s : ByteArray) (q : QV) (i : Int) (h : BUrow w v zs) (hl : ¬ 1000 < zs.length) (hs : ¬ 65536 < s.size) (hp : qOk s q = true) (h1 : ¬ i < 0) (h2 : ¬ q.size ≤ i) (_h3 : ¬ zs.length = 0) (h4 : q.size < (zs.length : Int)) : Calls Try.prog 8 #[.string s, qA q, .int .i64 i, v] w fun e w' => e = .returned (gcA 1 ⟨#[]⟩ q0 false) ∧ Below w.heap.size w w' := by
  obtain ⟨a1, c1, rfl⟩ := h.sl
  have hd : decide (1000 < (zs.length : Int)) = false := decide_eq_false (by omega)
  have hd2 : decide (65536 < (s.size : Int)) = false := decide_eq_false (by omega)
  have HC : Hid _ := fun u => specQueueFault_any s q u (by omega)
  rw [qF_ok hp] at HC
  clear h
  have h1d : decide (i < 0) = false := decide_eq_false h1
  have h3d : decide ((zs.length : Int) < 1) = false := decide_eq_false (by omega)
  obtain ⟨S, D, A, U, T, G⟩ := q
  unfold qA gcA q0
  simp only
  have HX0 : Hid (TwoBx w ((w.alloc (.cells #[.int .i64 S, .int .i64 D, .int .i64 A, .int .i64 U, .int .i64 T, .int .i64 G] 26)).alloc (.cells #[.int .i64 0, .string ⟨#[]⟩, .int .i64 0, .int .i64 0, .int .i64 0, .int .i64 0, .int .i64 0, .int .i64 0, .bool false] 28)) #[.int .i64 S, .int .i64 D, .int .i64 A, .int .i64 U, .int .i64 T, .int .i64 G] 26 #[.int .i64 0, .string ⟨#[]⟩, .int .i64 0, .int .i64 0, .int .i64 0, .int .i64 0, .int .i64 0, .int .i64 0, .bool false] 28) := TwoBx.of _ _ _ _ _ (Below.refl _ _)
  unfold qA at HC
  simp only at HC
  simp only at h2
  have h2d : decide (S ≤ i) = false := decide_eq_false h2
  simp only at h4
  have h4d : decide (S < (zs.length : Int)) = true := decide_eq_true h4
  go_enter Try.func8, Try.ntmps8
  go_upto_region 1 with fail
  generalize ((w.alloc (.cells #[.int .i64 S, .int .i64 D, .int .i64 A, .int .i64 U, .int .i64 T, .int .i64 G] 26)).alloc (.cells #[.int .i64 0, .string ⟨#[]⟩, .int .i64 0, .int .i64 0, .int .i64 0, .int .i64 0, .int .i64 0, .int .i64 0, .bool false] 28)) = W0 at *
  have k0 := HX0.out.c1 0 _ rfl
  have k1 := HX0.out.c1 1 _ rfl
  have k2 := HX0.out.c1 2 _ rfl
  have k3 := HX0.out.c1 3 _ rfl
  have k4 := HX0.out.c1 4 _ rfl
  have k5 := HX0.out.c1 5 _ rfl
  skip
  go_wp2_with (go_at_call 21; refine Calls.mono (HC.out _) ?_; rintro e u1 ⟨rfl, hu1⟩; have HX1 : Hid _ := HX0.out.step hu1; clear hu1 k0 k1 k2 k3 k4 k5; have k0 := HX1.out.c1 0 _ rfl; have k1 := HX1.out.c1 1 _ rfl; have k2 := HX1.out.c1 2 _ rfl; have k3 := HX1.out.c1 3 _ rfl; have k4 := HX1.out.c1 4 _ rfl; have k5 := HX1.out.c1 5 _ rfl; have r0 := HX1.out.c2 0 _ rfl; have r1 := HX1.out.c2 1 _ rfl; have r2 := HX1.out.c2 2 _ rfl; have r3 := HX1.out.c2 3 _ rfl; have r4 := HX1.out.c2 4 _ rfl; have r5 := HX1.out.c2 5 _ rfl; have r6 := HX1.out.c2 6 _ rfl; have r7 := HX1.out.c2 7 _ rfl; have r8 := HX1.out.c2 8 _ rfl; have rf := fun k => HX1.out.f2 k)
  refine bodyPost_ret (v := .agg #[.int .i64 1, .string ⟨#[]⟩, .int .i64 0, .int .i64 0, .int .i64 0, .int .i64 0, .int .i64 0, .int .i64 0, .bool false]) ?_ rfl ⟨rfl, ?_⟩
  · simp [results, Try.results8, go_sem, r0, r1, r2, r3, r4, r5, r6, r7, r8]
  · exact (((((((((HX1.out.bel.setCell (by simp) _).setCell (by simp) _).setCell (by simp) _).setCell (by simp) _).setCell (by simp) _).setCell (by simp) _).setCell (by simp) _).setCell (by simp) _).setCell (by simp) _)
end Go.Proofs.Ythhbfghbpapklaa
