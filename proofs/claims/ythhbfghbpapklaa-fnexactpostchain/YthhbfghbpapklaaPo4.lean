import Derived.Test.YthhbfghbpapklaaPo3
import Derived.Test.YthhbfghbpapklaaGc3
import Derived.Test.YthhbfghbpapklaaSb1
namespace Go.Proofs.Ythhbfghbpapklaa
open Go.ChangeShapes Go.WideShapes Go.ChangeAt Go.RowKit

set_option maxRecDepth 100000
set_option maxHeartbeats 4000000 in
theorem implPO_many {w : World} {v : Value} {zs : List BU} (s : ByteArray) (q : QV) (i : Int) (h : BUrow w v zs) (hl : 1000 < zs.length) : Calls Try.prog 11 #[.string s, qA q, .int .i64 i, v] w fun e w' => e = .returned (gcA 2 ⟨#[]⟩ q0 false) ∧ Below w.heap.size w w' := by
  obtain ⟨a1, c1, rfl⟩ := h.sl
  have hd : (1000 : Int) < (zs.length : Int) := by omega
  clear h
  obtain ⟨S, D, A, U, T, G⟩ := q
  unfold qA gcA q0
  simp only
  have HX0 : Hid (TwoBx w ((w.alloc (.cells #[.int .i64 S, .int .i64 D, .int .i64 A, .int .i64 U, .int .i64 T, .int .i64 G] 26)).alloc (.cells #[.int .i64 0, .string ⟨#[]⟩, .int .i64 0, .int .i64 0, .int .i64 0, .int .i64 0, .int .i64 0, .int .i64 0, .bool false] 28)) #[.int .i64 S, .int .i64 D, .int .i64 A, .int .i64 U, .int .i64 T, .int .i64 G] 26 #[.int .i64 0, .string ⟨#[]⟩, .int .i64 0, .int .i64 0, .int .i64 0, .int .i64 0, .int .i64 0, .int .i64 0, .bool false] 28) := TwoBx.of _ _ _ _ _ (Below.refl _ _)
  go_enter Try.func11, Try.ntmps11
  go_upto_region 1 with fail
  generalize ((w.alloc (.cells #[.int .i64 S, .int .i64 D, .int .i64 A, .int .i64 U, .int .i64 T, .int .i64 G] 26)).alloc (.cells #[.int .i64 0, .string ⟨#[]⟩, .int .i64 0, .int .i64 0, .int .i64 0, .int .i64 0, .int .i64 0, .int .i64 0, .bool false] 28)) = W0 at *
  have k0 := HX0.out.c1 0 _ rfl
  have k1 := HX0.out.c1 1 _ rfl
  have k2 := HX0.out.c1 2 _ rfl
  have k3 := HX0.out.c1 3 _ rfl
  have k4 := HX0.out.c1 4 _ rfl
  have k5 := HX0.out.c1 5 _ rfl
  have r0 := HX0.out.c2 0 _ rfl
  have r1 := HX0.out.c2 1 _ rfl
  have r2 := HX0.out.c2 2 _ rfl
  have r3 := HX0.out.c2 3 _ rfl
  have r4 := HX0.out.c2 4 _ rfl
  have r5 := HX0.out.c2 5 _ rfl
  have r6 := HX0.out.c2 6 _ rfl
  have r7 := HX0.out.c2 7 _ rfl
  have r8 := HX0.out.c2 8 _ rfl
  have rf := fun k => HX0.out.f2 k
  go_wp2_with fail
  refine bodyPost_ret (v := .agg #[.int .i64 2, .string ⟨#[]⟩, .int .i64 0, .int .i64 0, .int .i64 0, .int .i64 0, .int .i64 0, .int .i64 0, .bool false]) ?_ rfl ⟨rfl, ?_⟩
  · simp [results, Try.results11, go_sem, r0, r1, r2, r3, r4, r5, r6, r7, r8]
  · exact (((((((((HX0.out.bel.setCell (by simp) _).setCell (by simp) _).setCell (by simp) _).setCell (by simp) _).setCell (by simp) _).setCell (by simp) _).setCell (by simp) _).setCell (by simp) _).setCell (by simp) _)
set_option maxHeartbeats 4000000 in
theorem implPO_code {w : World} {v : Value} {zs : List BU} (s : ByteArray) (q : QV) (i : Int) (h : BUrow w v zs) (hl : ¬ 1000 < zs.length) (hs : s.size ≤ 1048576) (C : Int) (hc : qkC s q = C) (hn : (C != 0) = true) : Calls Try.prog 11 #[.string s, qA q, .int .i64 i, v] w fun e w' => e = .returned (gcA C ⟨#[]⟩ q0 false) ∧ Below w.heap.size w w' := by
  obtain ⟨a1, c1, rfl⟩ := h.sl
  have hd : ¬ (1000 : Int) < (zs.length : Int) := by omega
  have HC : Hid _ := fun u => queueCode_any s q u hs
  rw [hc] at HC
  clear h
  obtain ⟨S, D, A, U, T, G⟩ := q
  unfold qA gcA q0
  simp only
  have HX0 : Hid (TwoBx w ((w.alloc (.cells #[.int .i64 S, .int .i64 D, .int .i64 A, .int .i64 U, .int .i64 T, .int .i64 G] 26)).alloc (.cells #[.int .i64 0, .string ⟨#[]⟩, .int .i64 0, .int .i64 0, .int .i64 0, .int .i64 0, .int .i64 0, .int .i64 0, .bool false] 28)) #[.int .i64 S, .int .i64 D, .int .i64 A, .int .i64 U, .int .i64 T, .int .i64 G] 26 #[.int .i64 0, .string ⟨#[]⟩, .int .i64 0, .int .i64 0, .int .i64 0, .int .i64 0, .int .i64 0, .int .i64 0, .bool false] 28) := TwoBx.of _ _ _ _ _ (Below.refl _ _)
  unfold qA at HC
  simp only at HC
  go_enter Try.func11, Try.ntmps11
  go_upto_region 1 with fail
  generalize ((w.alloc (.cells #[.int .i64 S, .int .i64 D, .int .i64 A, .int .i64 U, .int .i64 T, .int .i64 G] 26)).alloc (.cells #[.int .i64 0, .string ⟨#[]⟩, .int .i64 0, .int .i64 0, .int .i64 0, .int .i64 0, .int .i64 0, .int .i64 0, .bool false] 28)) = W0 at *
  have k0 := HX0.out.c1 0 _ rfl
  have k1 := HX0.out.c1 1 _ rfl
  have k2 := HX0.out.c1 2 _ rfl
  have k3 := HX0.out.c1 3 _ rfl
  have k4 := HX0.out.c1 4 _ rfl
  have k5 := HX0.out.c1 5 _ rfl
  skip
  go_wp2_with (go_at_call 27; refine Calls.mono (HC.out _) ?_; rintro e u1 ⟨rfl, hu1⟩; have HX1 : Hid _ := HX0.out.step hu1; clear hu1 k0 k1 k2 k3 k4 k5; have k0 := HX1.out.c1 0 _ rfl; have k1 := HX1.out.c1 1 _ rfl; have k2 := HX1.out.c1 2 _ rfl; have k3 := HX1.out.c1 3 _ rfl; have k4 := HX1.out.c1 4 _ rfl; have k5 := HX1.out.c1 5 _ rfl; have r0 := HX1.out.c2 0 _ rfl; have r1 := HX1.out.c2 1 _ rfl; have r2 := HX1.out.c2 2 _ rfl; have r3 := HX1.out.c2 3 _ rfl; have r4 := HX1.out.c2 4 _ rfl; have r5 := HX1.out.c2 5 _ rfl; have r6 := HX1.out.c2 6 _ rfl; have r7 := HX1.out.c2 7 _ rfl; have r8 := HX1.out.c2 8 _ rfl; have rf := fun k => HX1.out.f2 k)
  refine bodyPost_ret (v := .agg #[.int .i64 C, .string ⟨#[]⟩, .int .i64 0, .int .i64 0, .int .i64 0, .int .i64 0, .int .i64 0, .int .i64 0, .bool false]) ?_ rfl ⟨rfl, ?_⟩
  · simp [results, Try.results11, go_sem, r0, r1, r2, r3, r4, r5, r6, r7, r8]
  · exact (((((((((HX1.out.bel.setCell (by simp) _).setCell (by simp) _).setCell (by simp) _).setCell (by simp) _).setCell (by simp) _).setCell (by simp) _).setCell (by simp) _).setCell (by simp) _).setCell (by simp) _)
set_option maxHeartbeats 4000000 in
theorem implPO_has {w : World} {v : Value} {zs : List BU} (s : ByteArray) (q : QV) (i : Int) (h : BUrow w v zs) (hl : ¬ 1000 < zs.length) (hs : s.size ≤ 1048576) (hc : qkC s q = 0) (hh : hsB q.size i = false) : Calls Try.prog 11 #[.string s, qA q, .int .i64 i, v] w fun e w' => e = .returned (gcA 1 ⟨#[]⟩ q0 false) ∧ Below w.heap.size w w' := by
  obtain ⟨a1, c1, rfl⟩ := h.sl
  have hd : ¬ (1000 : Int) < (zs.length : Int) := by omega
  have HC : Hid _ := fun u => queueCode_any s q u hs
  rw [hc] at HC
  have HH : Hid _ := fun u => has_any q i u
  rw [hh] at HH
  clear h
  obtain ⟨S, D, A, U, T, G⟩ := q
  unfold qA gcA q0
  simp only
  have HX0 : Hid (TwoBx w ((w.alloc (.cells #[.int .i64 S, .int .i64 D, .int .i64 A, .int .i64 U, .int .i64 T, .int .i64 G] 26)).alloc (.cells #[.int .i64 0, .string ⟨#[]⟩, .int .i64 0, .int .i64 0, .int .i64 0, .int .i64 0, .int .i64 0, .int .i64 0, .bool false] 28)) #[.int .i64 S, .int .i64 D, .int .i64 A, .int .i64 U, .int .i64 T, .int .i64 G] 26 #[.int .i64 0, .string ⟨#[]⟩, .int .i64 0, .int .i64 0, .int .i64 0, .int .i64 0, .int .i64 0, .int .i64 0, .bool false] 28) := TwoBx.of _ _ _ _ _ (Below.refl _ _)
  unfold qA at HC HH
  simp only at HC HH
  go_enter Try.func11, Try.ntmps11
  go_upto_region 1 with fail
  generalize ((w.alloc (.cells #[.int .i64 S, .int .i64 D, .int .i64 A, .int .i64 U, .int .i64 T, .int .i64 G] 26)).alloc (.cells #[.int .i64 0, .string ⟨#[]⟩, .int .i64 0, .int .i64 0, .int .i64 0, .int .i64 0, .int .i64 0, .int .i64 0, .bool false] 28)) = W0 at *
  have k0 := HX0.out.c1 0 _ rfl
  have k1 := HX0.out.c1 1 _ rfl
  have k2 := HX0.out.c1 2 _ rfl
  have k3 := HX0.out.c1 3 _ rfl
  have k4 := HX0.out.c1 4 _ rfl
  have k5 := HX0.out.c1 5 _ rfl
  skip
  go_wp2_with (first | (go_at_call 27; refine Calls.mono (HC.out _) ?_; rintro e u1 ⟨rfl, hu1⟩; have HX1 : Hid _ := HX0.out.step hu1; clear hu1 k0 k1 k2 k3 k4 k5; have k0 := HX1.out.c1 0 _ rfl; have k1 := HX1.out.c1 1 _ rfl; have k2 := HX1.out.c1 2 _ rfl; have k3 := HX1.out.c1 3 _ rfl; have k4 := HX1.out.c1 4 _ rfl; have k5 := HX1.out.c1 5 _ rfl; have r0 := HX1.out.c2 0 _ rfl; have r1 := HX1.out.c2 1 _ rfl; have r2 := HX1.out.c2 2 _ rfl; have r3 := HX1.out.c2 3 _ rfl; have r4 := HX1.out.c2 4 _ rfl; have r5 := HX1.out.c2 5 _ rfl; have r6 := HX1.out.c2 6 _ rfl; have r7 := HX1.out.c2 7 _ rfl; have r8 := HX1.out.c2 8 _ rfl; have rf := fun k => HX1.out.f2 k) | (go_at_call 28; refine Calls.mono (HH.out _) ?_; rintro e u2 ⟨rfl, hu2⟩; have HX2 : Hid _ := HX1.out.step hu2; clear hu2 HX1 k0 k1 k2 k3 k4 k5 r0 r1 r2 r3 r4 r5 r6 r7 r8 rf; have k0 := HX2.out.c1 0 _ rfl; have k1 := HX2.out.c1 1 _ rfl; have k2 := HX2.out.c1 2 _ rfl; have k3 := HX2.out.c1 3 _ rfl; have k4 := HX2.out.c1 4 _ rfl; have k5 := HX2.out.c1 5 _ rfl; have r0 := HX2.out.c2 0 _ rfl; have r1 := HX2.out.c2 1 _ rfl; have r2 := HX2.out.c2 2 _ rfl; have r3 := HX2.out.c2 3 _ rfl; have r4 := HX2.out.c2 4 _ rfl; have r5 := HX2.out.c2 5 _ rfl; have r6 := HX2.out.c2 6 _ rfl; have r7 := HX2.out.c2 7 _ rfl; have r8 := HX2.out.c2 8 _ rfl; have rf := fun k => HX2.out.f2 k))
  refine bodyPost_ret (v := .agg #[.int .i64 1, .string ⟨#[]⟩, .int .i64 0, .int .i64 0, .int .i64 0, .int .i64 0, .int .i64 0, .int .i64 0, .bool false]) ?_ rfl ⟨rfl, ?_⟩
  · simp [results, Try.results11, go_sem, r0, r1, r2, r3, r4, r5, r6, r7, r8]
  · exact (((((((((HX2.out.bel.setCell (by simp) _).setCell (by simp) _).setCell (by simp) _).setCell (by simp) _).setCell (by simp) _).setCell (by simp) _).setCell (by simp) _).setCell (by simp) _).setCell (by simp) _)
set_option maxHeartbeats 4000000 in
theorem implPO_none {w : World} {v : Value} {zs : List BU} (s : ByteArray) (q : QV) (i : Int) (h : BUrow w v zs) (_hl : ¬ 1000 < zs.length) (hs : s.size ≤ 1048576) (hc : qkC s q = 0) (hh : hsB q.size i = true) (hz : zs.length = 0) : Calls Try.prog 11 #[.string s, qA q, .int .i64 i, v] w fun e w' => e = .returned (gcA 1 ⟨#[]⟩ q0 false) ∧ Below w.heap.size w w' := by
  obtain ⟨a1, c1, rfl⟩ := h.sl
  have hd : ¬ (1000 : Int) < (zs.length : Int) := by omega
  have HC : Hid _ := fun u => queueCode_any s q u hs
  rw [hc] at HC
  have HH : Hid _ := fun u => has_any q i u
  rw [hh] at HH
  have hzz : (zs.length : Int) = 0 := by omega
  clear h
  obtain ⟨S, D, A, U, T, G⟩ := q
  unfold qA gcA q0
  simp only
  have HX0 : Hid (TwoBx w ((w.alloc (.cells #[.int .i64 S, .int .i64 D, .int .i64 A, .int .i64 U, .int .i64 T, .int .i64 G] 26)).alloc (.cells #[.int .i64 0, .string ⟨#[]⟩, .int .i64 0, .int .i64 0, .int .i64 0, .int .i64 0, .int .i64 0, .int .i64 0, .bool false] 28)) #[.int .i64 S, .int .i64 D, .int .i64 A, .int .i64 U, .int .i64 T, .int .i64 G] 26 #[.int .i64 0, .string ⟨#[]⟩, .int .i64 0, .int .i64 0, .int .i64 0, .int .i64 0, .int .i64 0, .int .i64 0, .bool false] 28) := TwoBx.of _ _ _ _ _ (Below.refl _ _)
  unfold qA at HC HH
  simp only at HC HH
  go_enter Try.func11, Try.ntmps11
  go_upto_region 1 with fail
  generalize ((w.alloc (.cells #[.int .i64 S, .int .i64 D, .int .i64 A, .int .i64 U, .int .i64 T, .int .i64 G] 26)).alloc (.cells #[.int .i64 0, .string ⟨#[]⟩, .int .i64 0, .int .i64 0, .int .i64 0, .int .i64 0, .int .i64 0, .int .i64 0, .bool false] 28)) = W0 at *
  have k0 := HX0.out.c1 0 _ rfl
  have k1 := HX0.out.c1 1 _ rfl
  have k2 := HX0.out.c1 2 _ rfl
  have k3 := HX0.out.c1 3 _ rfl
  have k4 := HX0.out.c1 4 _ rfl
  have k5 := HX0.out.c1 5 _ rfl
  skip
  go_wp2_with (first | (go_at_call 27; refine Calls.mono (HC.out _) ?_; rintro e u1 ⟨rfl, hu1⟩; have HX1 : Hid _ := HX0.out.step hu1; clear hu1 k0 k1 k2 k3 k4 k5; have k0 := HX1.out.c1 0 _ rfl; have k1 := HX1.out.c1 1 _ rfl; have k2 := HX1.out.c1 2 _ rfl; have k3 := HX1.out.c1 3 _ rfl; have k4 := HX1.out.c1 4 _ rfl; have k5 := HX1.out.c1 5 _ rfl; have r0 := HX1.out.c2 0 _ rfl; have r1 := HX1.out.c2 1 _ rfl; have r2 := HX1.out.c2 2 _ rfl; have r3 := HX1.out.c2 3 _ rfl; have r4 := HX1.out.c2 4 _ rfl; have r5 := HX1.out.c2 5 _ rfl; have r6 := HX1.out.c2 6 _ rfl; have r7 := HX1.out.c2 7 _ rfl; have r8 := HX1.out.c2 8 _ rfl; have rf := fun k => HX1.out.f2 k) | (go_at_call 28; refine Calls.mono (HH.out _) ?_; rintro e u2 ⟨rfl, hu2⟩; have HX2 : Hid _ := HX1.out.step hu2; clear hu2 HX1 k0 k1 k2 k3 k4 k5 r0 r1 r2 r3 r4 r5 r6 r7 r8 rf; have k0 := HX2.out.c1 0 _ rfl; have k1 := HX2.out.c1 1 _ rfl; have k2 := HX2.out.c1 2 _ rfl; have k3 := HX2.out.c1 3 _ rfl; have k4 := HX2.out.c1 4 _ rfl; have k5 := HX2.out.c1 5 _ rfl; have r0 := HX2.out.c2 0 _ rfl; have r1 := HX2.out.c2 1 _ rfl; have r2 := HX2.out.c2 2 _ rfl; have r3 := HX2.out.c2 3 _ rfl; have r4 := HX2.out.c2 4 _ rfl; have r5 := HX2.out.c2 5 _ rfl; have r6 := HX2.out.c2 6 _ rfl; have r7 := HX2.out.c2 7 _ rfl; have r8 := HX2.out.c2 8 _ rfl; have rf := fun k => HX2.out.f2 k))
  refine bodyPost_ret (v := .agg #[.int .i64 1, .string ⟨#[]⟩, .int .i64 0, .int .i64 0, .int .i64 0, .int .i64 0, .int .i64 0, .int .i64 0, .bool false]) ?_ rfl ⟨rfl, ?_⟩
  · simp [results, Try.results11, go_sem, r0, r1, r2, r3, r4, r5, r6, r7, r8]
  · exact (((((((((HX2.out.bel.setCell (by simp) _).setCell (by simp) _).setCell (by simp) _).setCell (by simp) _).setCell (by simp) _).setCell (by simp) _).setCell (by simp) _).setCell (by simp) _).setCell (by simp) _)
set_option maxHeartbeats 4000000 in
theorem implPO_long {w : World} {v : Value} {zs : List BU} (s : ByteArray) (q : QV) (i : Int) (h : BUrow w v zs) (hl : ¬ 1000 < zs.length) (hs : s.size ≤ 1048576) (hc : qkC s q = 0) (hh : hsB q.size i = true) (hz : ¬ zs.length = 0) (hb : q.size < (zs.length : Int)) : Calls Try.prog 11 #[.string s, qA q, .int .i64 i, v] w fun e w' => e = .returned (gcA 1 ⟨#[]⟩ q0 false) ∧ Below w.heap.size w w' := by
  obtain ⟨a1, c1, rfl⟩ := h.sl
  have hd : ¬ (1000 : Int) < (zs.length : Int) := by omega
  have HC : Hid _ := fun u => queueCode_any s q u hs
  rw [hc] at HC
  have HH : Hid _ := fun u => has_any q i u
  rw [hh] at HH
  have hzz : ¬ (zs.length : Int) = 0 := by omega
  clear h
  obtain ⟨S, D, A, U, T, G⟩ := q
  unfold qA gcA q0
  simp only
  have HX0 : Hid (TwoBx w ((w.alloc (.cells #[.int .i64 S, .int .i64 D, .int .i64 A, .int .i64 U, .int .i64 T, .int .i64 G] 26)).alloc (.cells #[.int .i64 0, .string ⟨#[]⟩, .int .i64 0, .int .i64 0, .int .i64 0, .int .i64 0, .int .i64 0, .int .i64 0, .bool false] 28)) #[.int .i64 S, .int .i64 D, .int .i64 A, .int .i64 U, .int .i64 T, .int .i64 G] 26 #[.int .i64 0, .string ⟨#[]⟩, .int .i64 0, .int .i64 0, .int .i64 0, .int .i64 0, .int .i64 0, .int .i64 0, .bool false] 28) := TwoBx.of _ _ _ _ _ (Below.refl _ _)
  unfold qA at HC HH
  simp only at HC HH
  simp only at hb
  go_enter Try.func11, Try.ntmps11
  go_upto_region 1 with fail
  generalize ((w.alloc (.cells #[.int .i64 S, .int .i64 D, .int .i64 A, .int .i64 U, .int .i64 T, .int .i64 G] 26)).alloc (.cells #[.int .i64 0, .string ⟨#[]⟩, .int .i64 0, .int .i64 0, .int .i64 0, .int .i64 0, .int .i64 0, .int .i64 0, .bool false] 28)) = W0 at *
  have k0 := HX0.out.c1 0 _ rfl
  have k1 := HX0.out.c1 1 _ rfl
  have k2 := HX0.out.c1 2 _ rfl
  have k3 := HX0.out.c1 3 _ rfl
  have k4 := HX0.out.c1 4 _ rfl
  have k5 := HX0.out.c1 5 _ rfl
  skip
  go_wp2_with (first | (go_at_call 27; refine Calls.mono (HC.out _) ?_; rintro e u1 ⟨rfl, hu1⟩; have HX1 : Hid _ := HX0.out.step hu1; clear hu1 k0 k1 k2 k3 k4 k5; have k0 := HX1.out.c1 0 _ rfl; have k1 := HX1.out.c1 1 _ rfl; have k2 := HX1.out.c1 2 _ rfl; have k3 := HX1.out.c1 3 _ rfl; have k4 := HX1.out.c1 4 _ rfl; have k5 := HX1.out.c1 5 _ rfl; have r0 := HX1.out.c2 0 _ rfl; have r1 := HX1.out.c2 1 _ rfl; have r2 := HX1.out.c2 2 _ rfl; have r3 := HX1.out.c2 3 _ rfl; have r4 := HX1.out.c2 4 _ rfl; have r5 := HX1.out.c2 5 _ rfl; have r6 := HX1.out.c2 6 _ rfl; have r7 := HX1.out.c2 7 _ rfl; have r8 := HX1.out.c2 8 _ rfl; have rf := fun k => HX1.out.f2 k) | (go_at_call 28; refine Calls.mono (HH.out _) ?_; rintro e u2 ⟨rfl, hu2⟩; have HX2 : Hid _ := HX1.out.step hu2; clear hu2 HX1 k0 k1 k2 k3 k4 k5 r0 r1 r2 r3 r4 r5 r6 r7 r8 rf; have k0 := HX2.out.c1 0 _ rfl; have k1 := HX2.out.c1 1 _ rfl; have k2 := HX2.out.c1 2 _ rfl; have k3 := HX2.out.c1 3 _ rfl; have k4 := HX2.out.c1 4 _ rfl; have k5 := HX2.out.c1 5 _ rfl; have r0 := HX2.out.c2 0 _ rfl; have r1 := HX2.out.c2 1 _ rfl; have r2 := HX2.out.c2 2 _ rfl; have r3 := HX2.out.c2 3 _ rfl; have r4 := HX2.out.c2 4 _ rfl; have r5 := HX2.out.c2 5 _ rfl; have r6 := HX2.out.c2 6 _ rfl; have r7 := HX2.out.c2 7 _ rfl; have r8 := HX2.out.c2 8 _ rfl; have rf := fun k => HX2.out.f2 k))
  refine bodyPost_ret (v := .agg #[.int .i64 1, .string ⟨#[]⟩, .int .i64 0, .int .i64 0, .int .i64 0, .int .i64 0, .int .i64 0, .int .i64 0, .bool false]) ?_ rfl ⟨rfl, ?_⟩
  · simp [results, Try.results11, go_sem, r0, r1, r2, r3, r4, r5, r6, r7, r8]
  · exact (((((((((HX2.out.bel.setCell (by simp) _).setCell (by simp) _).setCell (by simp) _).setCell (by simp) _).setCell (by simp) _).setCell (by simp) _).setCell (by simp) _).setCell (by simp) _).setCell (by simp) _)
end Go.Proofs.Ythhbfghbpapklaa
