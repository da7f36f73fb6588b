import Derived.Test.YthhbfghbpapklabRv3
import Derived.Test.YthhbfghbpapklabSp3c
namespace Go.Proofs.Ythhbfghbpapklab
open Go.ChangeShapes Go.WideShapes Go.ChangeAt Go.RowKit

set_option maxRecDepth 100000
/-- What a device answers. -/
def svA (c : Int) (m : ByteArray) (q : QV) (cn : Int) (sg : Bool) : Value := .agg #[.int .i64 c, .string m, .int .i64 q.size, .int .i64 q.desc, .int .i64 q.avail, .int .i64 q.used, .int .i64 q.taken, .int .i64 q.given, .string ⟨#[]⟩, .int .i64 cn, .bool sg]
abbrev SvR := Int × ByteArray × QV × Int × Bool
def svV (r : SvR) : Value := svA r.1 r.2.1 r.2.2.1 r.2.2.2.1 r.2.2.2.2
def AnsV (F : Nat) (s : ByteArray) (q : QV) (f : ByteArray) (r : SvR) : Prop := ∀ w : World, Calls Try.prog F #[.string s, qA q, .string f] w fun e w' => e = .returned (svV r) ∧ Below w.heap.size w w'
def svC (c : Int) : SvR := (c, ⟨#[]⟩, q00, 0, false)
theorem PT.new {y : World} {mb n : Nat} {S D A U T G : Int} {x : Value} {s : ByteArray} (hm : MemAt y mb s) : PT (y.alloc (.cells #[.slice (some ⟨mb, 0, none⟩) n n, .int .i64 S, .int .i64 D, .int .i64 A, .int .i64 U, .int .i64 T, .int .i64 G, .bool false, x] 92)) y.heap.size mb n 92 ⟨S, D, A, U, T, G⟩ false #[x] s := by
  refine ⟨heap_new _ _, hm.below (bx1 _ _) hm.lt, ?_⟩
  have := hm.lt
  omega
set_option maxHeartbeats 4000000 in
theorem implRV_long1 (s f : ByteArray) (q : QV) (hs : s.size ≤ 1048576) (_hfs : f.size ≤ 1048576) (h : 65536 < s.size) : AnsV 11 s q f (svC 2) := by
  intro w
  have HT1 : Hid _ := fun u => tooLong_any s u
  have HT2 : Hid _ := fun u => tooLong_any f u
  have HQ : Hid _ := fun u => implQueueFault_any s q u hs
  rw [show decide (65536 < (s.size : Int)) = true from decide_eq_true (by omega)] at HT1
  obtain ⟨S, D, A, U, T, G⟩ := q
  unfold qA
  unfold svV svC svA q00
  unfold qA at HQ
  simp only at HQ ⊢
  have HX0 : Hid (TwoBx w ((w.alloc (.cells #[.int .i64 S, .int .i64 D, .int .i64 A, .int .i64 U, .int .i64 T, .int .i64 G] 24)).alloc (.cells #[.int .i64 0, .string ⟨#[]⟩, .int .i64 0, .int .i64 0, .int .i64 0, .int .i64 0, .int .i64 0, .int .i64 0, .string ⟨#[]⟩, .int .i64 0, .bool false] 26)) #[.int .i64 S, .int .i64 D, .int .i64 A, .int .i64 U, .int .i64 T, .int .i64 G] 24 #[.int .i64 0, .string ⟨#[]⟩, .int .i64 0, .int .i64 0, .int .i64 0, .int .i64 0, .int .i64 0, .int .i64 0, .string ⟨#[]⟩, .int .i64 0, .bool false] 26) := TwoBx.of _ _ _ _ _ (Below.refl _ _)
  clear hs
  go_enter Try.func11, Try.ntmps11
  go_wp2_with fail
  generalize ((w.alloc (.cells #[.int .i64 S, .int .i64 D, .int .i64 A, .int .i64 U, .int .i64 T, .int .i64 G] 24)).alloc (.cells #[.int .i64 0, .string ⟨#[]⟩, .int .i64 0, .int .i64 0, .int .i64 0, .int .i64 0, .int .i64 0, .int .i64 0, .string ⟨#[]⟩, .int .i64 0, .bool false] 26)) = W0 at *
  have r0 := HX0.out.c2 0 _ rfl
  have r1 := HX0.out.c2 1 _ rfl
  have r2 := HX0.out.c2 2 _ rfl
  have r3 := HX0.out.c2 3 _ rfl
  have r4 := HX0.out.c2 4 _ rfl
  have r5 := HX0.out.c2 5 _ rfl
  have r6 := HX0.out.c2 6 _ rfl
  have r7 := HX0.out.c2 7 _ rfl
  have r8 := HX0.out.c2 8 _ rfl
  have r9 := HX0.out.c2 9 _ rfl
  have r10 := HX0.out.c2 10 _ rfl
  have rf := fun k => HX0.out.f2 k
  go_wp2_with (first
    | (go_at_call 45; refine Calls.mono (HT1.out _) ?_; rintro e u1 ⟨rfl, hu1⟩; rw [hu1]; clear hu1)
    | (go_at_call 45; refine Calls.mono (HT2.out _) ?_; rintro e u1 ⟨rfl, hu1⟩; rw [hu1]; clear hu1))
  refine bodyPost_ret (v := .agg #[.int .i64 2, .string ⟨#[]⟩, .int .i64 0, .int .i64 0, .int .i64 0, .int .i64 0, .int .i64 0, .int .i64 0, .string ⟨#[]⟩, .int .i64 0, .bool false]) ?_ rfl ⟨rfl, ?_⟩
  · simp [results, Try.results11, go_sem, r0, r1, r2, r3, r4, r5, r6, r7, r8, r9, r10]
  · exact (((((((((((HX0.out.bel.setCell (by simp) _).setCell (by simp) _).setCell (by simp) _).setCell (by simp) _).setCell (by simp) _).setCell (by simp) _).setCell (by simp) _).setCell (by simp) _).setCell (by simp) _).setCell (by simp) _).setCell (by simp) _)
set_option maxHeartbeats 4000000 in
theorem implRV_long2 (s f : ByteArray) (q : QV) (hs : s.size ≤ 1048576) (_hfs : f.size ≤ 1048576) (h : ¬ 65536 < s.size) (h2 : 65536 < f.size) : AnsV 11 s q f (svC 2) := by
  intro w
  have HT1 : Hid _ := fun u => tooLong_any s u
  have HT2 : Hid _ := fun u => tooLong_any f u
  have HQ : Hid _ := fun u => implQueueFault_any s q u hs
  rw [show decide (65536 < (s.size : Int)) = false from decide_eq_false (by omega)] at HT1
  rw [show decide (65536 < (f.size : Int)) = true from decide_eq_true (by omega)] at HT2
  obtain ⟨S, D, A, U, T, G⟩ := q
  unfold qA
  unfold svV svC svA q00
  unfold qA at HQ
  simp only at HQ ⊢
  have HX0 : Hid (TwoBx w ((w.alloc (.cells #[.int .i64 S, .int .i64 D, .int .i64 A, .int .i64 U, .int .i64 T, .int .i64 G] 24)).alloc (.cells #[.int .i64 0, .string ⟨#[]⟩, .int .i64 0, .int .i64 0, .int .i64 0, .int .i64 0, .int .i64 0, .int .i64 0, .string ⟨#[]⟩, .int .i64 0, .bool false] 26)) #[.int .i64 S, .int .i64 D, .int .i64 A, .int .i64 U, .int .i64 T, .int .i64 G] 24 #[.int .i64 0, .string ⟨#[]⟩, .int .i64 0, .int .i64 0, .int .i64 0, .int .i64 0, .int .i64 0, .int .i64 0, .string ⟨#[]⟩, .int .i64 0, .bool false] 26) := TwoBx.of _ _ _ _ _ (Below.refl _ _)
  clear hs
  go_enter Try.func11, Try.ntmps11
  go_wp2_with fail
  generalize ((w.alloc (.cells #[.int .i64 S, .int .i64 D, .int .i64 A, .int .i64 U, .int .i64 T, .int .i64 G] 24)).alloc (.cells #[.int .i64 0, .string ⟨#[]⟩, .int .i64 0, .int .i64 0, .int .i64 0, .int .i64 0, .int .i64 0, .int .i64 0, .string ⟨#[]⟩, .int .i64 0, .bool false] 26)) = W0 at *
  have r0 := HX0.out.c2 0 _ rfl
  have r1 := HX0.out.c2 1 _ rfl
  have r2 := HX0.out.c2 2 _ rfl
  have r3 := HX0.out.c2 3 _ rfl
  have r4 := HX0.out.c2 4 _ rfl
  have r5 := HX0.out.c2 5 _ rfl
  have r6 := HX0.out.c2 6 _ rfl
  have r7 := HX0.out.c2 7 _ rfl
  have r8 := HX0.out.c2 8 _ rfl
  have r9 := HX0.out.c2 9 _ rfl
  have r10 := HX0.out.c2 10 _ rfl
  have rf := fun k => HX0.out.f2 k
  go_wp2_with (first
    | (go_at_call 45; refine Calls.mono (HT1.out _) ?_; rintro e u1 ⟨rfl, hu1⟩; rw [hu1]; clear hu1)
    | (go_at_call 45; refine Calls.mono (HT2.out _) ?_; rintro e u1 ⟨rfl, hu1⟩; rw [hu1]; clear hu1))
  refine bodyPost_ret (v := .agg #[.int .i64 2, .string ⟨#[]⟩, .int .i64 0, .int .i64 0, .int .i64 0, .int .i64 0, .int .i64 0, .int .i64 0, .string ⟨#[]⟩, .int .i64 0, .bool false]) ?_ rfl ⟨rfl, ?_⟩
  · simp [results, Try.results11, go_sem, r0, r1, r2, r3, r4, r5, r6, r7, r8, r9, r10]
  · exact (((((((((((HX0.out.bel.setCell (by simp) _).setCell (by simp) _).setCell (by simp) _).setCell (by simp) _).setCell (by simp) _).setCell (by simp) _).setCell (by simp) _).setCell (by simp) _).setCell (by simp) _).setCell (by simp) _).setCell (by simp) _)
set_option maxHeartbeats 4000000 in
theorem implRV_form1 (s f : ByteArray) (q : QV) (hs : s.size ≤ 1048576) (_hfs : f.size ≤ 1048576) (h : ¬ 65536 < s.size) (h2 : ¬ 65536 < f.size) (hp : qOk s q = false) : AnsV 11 s q f (svC 1) := by
  intro w
  have HT1 : Hid _ := fun u => tooLong_any s u
  have HT2 : Hid _ := fun u => tooLong_any f u
  have HQ : Hid _ := fun u => implQueueFault_any s q u hs
  rw [show decide (65536 < (s.size : Int)) = false from decide_eq_false (by omega)] at HT1
  rw [show decide (65536 < (f.size : Int)) = false from decide_eq_false (by omega)] at HT2
  rw [qF_no hp] at HQ
  obtain ⟨S, D, A, U, T, G⟩ := q
  unfold qA
  unfold svV svC svA q00
  unfold qA at HQ
  simp only at HQ ⊢
  have HX0 : Hid (TwoBx w ((w.alloc (.cells #[.int .i64 S, .int .i64 D, .int .i64 A, .int .i64 U, .int .i64 T, .int .i64 G] 24)).alloc (.cells #[.int .i64 0, .string ⟨#[]⟩, .int .i64 0, .int .i64 0, .int .i64 0, .int .i64 0, .int .i64 0, .int .i64 0, .string ⟨#[]⟩, .int .i64 0, .bool false] 26)) #[.int .i64 S, .int .i64 D, .int .i64 A, .int .i64 U, .int .i64 T, .int .i64 G] 24 #[.int .i64 0, .string ⟨#[]⟩, .int .i64 0, .int .i64 0, .int .i64 0, .int .i64 0, .int .i64 0, .int .i64 0, .string ⟨#[]⟩, .int .i64 0, .bool false] 26) := TwoBx.of _ _ _ _ _ (Below.refl _ _)
  clear hs
  go_enter Try.func11, Try.ntmps11
  go_wp2_with (first
    | (go_at_call 45; refine Calls.mono (HT1.out _) ?_; rintro e u1 ⟨rfl, hu1⟩; rw [hu1]; clear hu1)
    | (go_at_call 45; refine Calls.mono (HT2.out _) ?_; rintro e u1 ⟨rfl, hu1⟩; rw [hu1]; clear hu1)
    | (go_at_call 46; refine Calls.mono (HQ.out _) ?_; rintro e u1 ⟨rfl, hu1⟩; have HX1 : Hid _ := TwoBx.of _ _ _ _ _ hu1; clear hu1; have r0 := HX1.out.c2 0 _ rfl; have r1 := HX1.out.c2 1 _ rfl; have r2 := HX1.out.c2 2 _ rfl; have r3 := HX1.out.c2 3 _ rfl; have r4 := HX1.out.c2 4 _ rfl; have r5 := HX1.out.c2 5 _ rfl; have r6 := HX1.out.c2 6 _ rfl; have r7 := HX1.out.c2 7 _ rfl; have r8 := HX1.out.c2 8 _ rfl; have r9 := HX1.out.c2 9 _ rfl; have r10 := HX1.out.c2 10 _ rfl; have rf := fun k => HX1.out.f2 k))
  refine bodyPost_ret (v := .agg #[.int .i64 1, .string ⟨#[]⟩, .int .i64 0, .int .i64 0, .int .i64 0, .int .i64 0, .int .i64 0, .int .i64 0, .string ⟨#[]⟩, .int .i64 0, .bool false]) ?_ rfl ⟨rfl, ?_⟩
  · simp [results, Try.results11, go_sem, r0, r1, r2, r3, r4, r5, r6, r7, r8, r9, r10]
  · exact (((((((((((HX1.out.bel.setCell (by simp) _).setCell (by simp) _).setCell (by simp) _).setCell (by simp) _).setCell (by simp) _).setCell (by simp) _).setCell (by simp) _).setCell (by simp) _).setCell (by simp) _).setCell (by simp) _).setCell (by simp) _)
set_option maxHeartbeats 4000000 in
theorem implRV_form2 (s f : ByteArray) (q : QV) (hs : s.size ≤ 1048576) (_hfs : f.size ≤ 1048576) (h : ¬ 65536 < s.size) (h2 : ¬ 65536 < f.size) (hp : qOk s q = true) (h3 : 1500 < f.size) : AnsV 11 s q f (svC 1) := by
  intro w
  have HT1 : Hid _ := fun u => tooLong_any s u
  have HT2 : Hid _ := fun u => tooLong_any f u
  have HQ : Hid _ := fun u => implQueueFault_any s q u hs
  rw [show decide (65536 < (s.size : Int)) = false from decide_eq_false (by omega)] at HT1
  rw [show decide (65536 < (f.size : Int)) = false from decide_eq_false (by omega)] at HT2
  rw [qF_ok hp] at HQ
  have h4 : (1500 : Int) < (f.size : Int) := by omega
  obtain ⟨S, D, A, U, T, G⟩ := q
  unfold qA
  unfold svV svC svA q00
  unfold qA at HQ
  simp only at HQ ⊢
  have HX0 : Hid (TwoBx w ((w.alloc (.cells #[.int .i64 S, .int .i64 D, .int .i64 A, .int .i64 U, .int .i64 T, .int .i64 G] 24)).alloc (.cells #[.int .i64 0, .string ⟨#[]⟩, .int .i64 0, .int .i64 0, .int .i64 0, .int .i64 0, .int .i64 0, .int .i64 0, .string ⟨#[]⟩, .int .i64 0, .bool false] 26)) #[.int .i64 S, .int .i64 D, .int .i64 A, .int .i64 U, .int .i64 T, .int .i64 G] 24 #[.int .i64 0, .string ⟨#[]⟩, .int .i64 0, .int .i64 0, .int .i64 0, .int .i64 0, .int .i64 0, .int .i64 0, .string ⟨#[]⟩, .int .i64 0, .bool false] 26) := TwoBx.of _ _ _ _ _ (Below.refl _ _)
  clear hs
  go_enter Try.func11, Try.ntmps11
  go_wp2_with (first
    | (go_at_call 45; refine Calls.mono (HT1.out _) ?_; rintro e u1 ⟨rfl, hu1⟩; rw [hu1]; clear hu1)
    | (go_at_call 45; refine Calls.mono (HT2.out _) ?_; rintro e u1 ⟨rfl, hu1⟩; rw [hu1]; clear hu1)
    | (go_at_call 46; refine Calls.mono (HQ.out _) ?_; rintro e u1 ⟨rfl, hu1⟩; have HX1 : Hid _ := TwoBx.of _ _ _ _ _ hu1; clear hu1; have r0 := HX1.out.c2 0 _ rfl; have r1 := HX1.out.c2 1 _ rfl; have r2 := HX1.out.c2 2 _ rfl; have r3 := HX1.out.c2 3 _ rfl; have r4 := HX1.out.c2 4 _ rfl; have r5 := HX1.out.c2 5 _ rfl; have r6 := HX1.out.c2 6 _ rfl; have r7 := HX1.out.c2 7 _ rfl; have r8 := HX1.out.c2 8 _ rfl; have r9 := HX1.out.c2 9 _ rfl; have r10 := HX1.out.c2 10 _ rfl; have rf := fun k => HX1.out.f2 k))
  refine bodyPost_ret (v := .agg #[.int .i64 1, .string ⟨#[]⟩, .int .i64 0, .int .i64 0, .int .i64 0, .int .i64 0, .int .i64 0, .int .i64 0, .string ⟨#[]⟩, .int .i64 0, .bool false]) ?_ rfl ⟨rfl, ?_⟩
  · simp [results, Try.results11, go_sem, r0, r1, r2, r3, r4, r5, r6, r7, r8, r9, r10]
  · exact (((((((((((HX1.out.bel.setCell (by simp) _).setCell (by simp) _).setCell (by simp) _).setCell (by simp) _).setCell (by simp) _).setCell (by simp) _).setCell (by simp) _).setCell (by simp) _).setCell (by simp) _).setCell (by simp) _).setCell (by simp) _)
end Go.Proofs.Ythhbfghbpapklab
