import Derived.Test.YtggciigjhlbhhaaGc2
namespace Go.Proofs.Ytggciigjhlbhhaa
open Go.ChangeShapes Go.WideShapes Go.ChangeAt Go.RowKit

/-- What a chain's going back answers. -/
def gcA (c : Int) (m : ByteArray) (q : QV) (sg : Bool) : Value := .agg #[.int .i64 c, .string m, .int .i64 q.size, .int .i64 q.desc, .int .i64 q.avail, .int .i64 q.used, .int .i64 q.taken, .int .i64 q.given, .bool sg]
def q0 : QV := ⟨0, 0, 0, 0, 0, 0⟩
def gcB (q : QV) (head size : Int) : Bool := hsB q.size head && wdB size
set_option maxRecDepth 100000 in
set_option maxHeartbeats 4000000 in
theorem implGC_code (s : ByteArray) (q : QV) (head size C : Int) (w : World) (hs : s.size ≤ 1048576) (hc : qkC s q = C) (hn : (C != 0) = true) :
    Calls Try.prog 8 #[.string s, qA q, .int .i64 head, .int .i64 size] w fun e w' => e = .returned (gcA C ⟨#[]⟩ q0 false) ∧ Below w.heap.size w w' := by
  have HC : Hid _ := fun u => queueCode_any s q u hs
  rw [hc] at HC
  clear hc hs
  obtain ⟨sz, d, a, us, tk, gv⟩ := q
  unfold qA at HC ⊢
  unfold gcA q0
  go_enter Try.func8, Try.ntmps8
  go_wp2_with (go_at_call 23; refine Calls.mono (HC.out _) ?_; rintro e u1 ⟨rfl, hu1⟩; have HX1 : Hid _ := TwoBx.of _ _ _ _ _ hu1; clear hu1; have r0 := HX1.out.c2 0 _ rfl; have r1 := HX1.out.c2 1 _ rfl; have r2 := HX1.out.c2 2 _ rfl; have r3 := HX1.out.c2 3 _ rfl; have r4 := HX1.out.c2 4 _ rfl; have r5 := HX1.out.c2 5 _ rfl; have r6 := HX1.out.c2 6 _ rfl; have r7 := HX1.out.c2 7 _ rfl; have r8 := HX1.out.c2 8 _ rfl; have rf := fun k => HX1.out.f2 k)
  refine bodyPost_ret (v := .agg #[.int .i64 C, .string ⟨#[]⟩, .int .i64 0, .int .i64 0, .int .i64 0, .int .i64 0, .int .i64 0, .int .i64 0, .bool false]) ?_ rfl ⟨rfl, ?_⟩
  · simp [results, Try.results8, go_sem, r0, r1, r2, r3, r4, r5, r6, r7, r8]
  · exact (((((((((HX1.out.bel.setCell (by simp) _).setCell (by simp) _).setCell (by simp) _).setCell (by simp) _).setCell (by simp) _).setCell (by simp) _).setCell (by simp) _).setCell (by simp) _).setCell (by simp) _)
set_option maxRecDepth 100000 in
set_option maxHeartbeats 4000000 in
theorem implGC_form (s : ByteArray) (q : QV) (head size : Int) (w : World) (hs : s.size ≤ 1048576) (hc : qkC s q = 0) (hn : gcB q head size = false) :
    Calls Try.prog 8 #[.string s, qA q, .int .i64 head, .int .i64 size] w fun e w' => e = .returned (gcA 1 ⟨#[]⟩ q0 false) ∧ Below w.heap.size w w' := by
  have HC : Hid _ := fun u => queueCode_any s q u hs
  rw [hc] at HC
  have HH : Hid _ := fun u => has_any q head u
  have HI : Hid _ := fun u => isWordI_any size u
  unfold gcB at hn
  clear hc hs
  obtain ⟨sz, d, a, us, tk, gv⟩ := q
  simp only at hn HH
  unfold qA at HC HH ⊢
  unfold gcA q0
  cases k1 : hsB sz head
  · rw [k1] at HH
    clear k1 hn HI
    go_enter Try.func8, Try.ntmps8
    go_wp2_with (first | (go_at_call 23; refine Calls.mono (HC.out _) ?_; rintro e u1 ⟨rfl, hu1⟩; have HX1 : Hid _ := TwoBx.of _ _ _ _ _ hu1; clear hu1; have g0 := HX1.out.c1 0 _ rfl; have g1 := HX1.out.c1 1 _ rfl; have g2 := HX1.out.c1 2 _ rfl; have g3 := HX1.out.c1 3 _ rfl; have g4 := HX1.out.c1 4 _ rfl; have g5 := HX1.out.c1 5 _ rfl) | (go_at_call 24; refine Calls.mono (HH.out _) ?_; rintro e u2 ⟨rfl, hu2⟩; have HX2 : Hid _ := HX1.out.step hu2; clear hu2 HX1 g0 g1 g2 g3 g4 g5; have r0 := HX2.out.c2 0 _ rfl; have r1 := HX2.out.c2 1 _ rfl; have r2 := HX2.out.c2 2 _ rfl; have r3 := HX2.out.c2 3 _ rfl; have r4 := HX2.out.c2 4 _ rfl; have r5 := HX2.out.c2 5 _ rfl; have r6 := HX2.out.c2 6 _ rfl; have r7 := HX2.out.c2 7 _ rfl; have r8 := HX2.out.c2 8 _ rfl; have rf := fun k => HX2.out.f2 k))
    refine bodyPost_ret (v := .agg #[.int .i64 1, .string ⟨#[]⟩, .int .i64 0, .int .i64 0, .int .i64 0, .int .i64 0, .int .i64 0, .int .i64 0, .bool false]) ?_ rfl ⟨rfl, ?_⟩
    · simp [results, Try.results8, go_sem, r0, r1, r2, r3, r4, r5, r6, r7, r8]
    · exact (((((((((HX2.out.bel.setCell (by simp) _).setCell (by simp) _).setCell (by simp) _).setCell (by simp) _).setCell (by simp) _).setCell (by simp) _).setCell (by simp) _).setCell (by simp) _).setCell (by simp) _)
  · rw [k1, Bool.true_and] at hn
    rw [k1] at HH
    rw [hn] at HI
    clear k1 hn
    go_enter Try.func8, Try.ntmps8
    go_wp2_with (first | (go_at_call 23; refine Calls.mono (HC.out _) ?_; rintro e u1 ⟨rfl, hu1⟩; have HX1 : Hid _ := TwoBx.of _ _ _ _ _ hu1; clear hu1; have g0 := HX1.out.c1 0 _ rfl; have g1 := HX1.out.c1 1 _ rfl; have g2 := HX1.out.c1 2 _ rfl; have g3 := HX1.out.c1 3 _ rfl; have g4 := HX1.out.c1 4 _ rfl; have g5 := HX1.out.c1 5 _ rfl) | (go_at_call 24; refine Calls.mono (HH.out _) ?_; rintro e u2 ⟨rfl, hu2⟩; have HX2 : Hid _ := HX1.out.step hu2; clear hu2 HX1 g0 g1 g2 g3 g4 g5; have r0 := HX2.out.c2 0 _ rfl; have r1 := HX2.out.c2 1 _ rfl; have r2 := HX2.out.c2 2 _ rfl; have r3 := HX2.out.c2 3 _ rfl; have r4 := HX2.out.c2 4 _ rfl; have r5 := HX2.out.c2 5 _ rfl; have r6 := HX2.out.c2 6 _ rfl; have r7 := HX2.out.c2 7 _ rfl; have r8 := HX2.out.c2 8 _ rfl; have rf := fun k => HX2.out.f2 k) | (go_at_call 25; refine Calls.mono (HI.out _) ?_; rintro e u3 ⟨rfl, hu3⟩; rw [hu3]; clear hu3))
    refine bodyPost_ret (v := .agg #[.int .i64 1, .string ⟨#[]⟩, .int .i64 0, .int .i64 0, .int .i64 0, .int .i64 0, .int .i64 0, .int .i64 0, .bool false]) ?_ rfl ⟨rfl, ?_⟩
    · simp [results, Try.results8, go_sem, r0, r1, r2, r3, r4, r5, r6, r7, r8]
    · exact (((((((((HX2.out.bel.setCell (by simp) _).setCell (by simp) _).setCell (by simp) _).setCell (by simp) _).setCell (by simp) _).setCell (by simp) _).setCell (by simp) _).setCell (by simp) _).setCell (by simp) _)
theorem Fr2.bel {w u v : World} {m : Nat} (hf : Fr2 u v w.heap.size m) (h : Below w.heap.size w u) (hm : w.heap.size ≤ m) : Below w.heap.size w v :=
  ⟨hf.os.trans h.os, hf.tape.trans h.tape, hf.output.trans h.output, Nat.le_trans h.size hf.size, fun k hk => (hf.block k (Nat.lt_of_lt_of_le hk h.size) (by omega) (by omega)).trans (h.block k hk)⟩
/-- The queue and the answer's box behind giveChain. -/
theorem TwoBx.give {w u v : World} {cs ds : Array Value} {t2 m : Nat} {q : QV} {s : ByteArray} (h : TwoBx w u cs 24 ds t2) (hq : QM v w.heap.size m q s) (hf : Fr2 u v w.heap.size m) (hm : w.heap.size + 2 ≤ m) : TwoBx w v (qC q) 24 ds t2 :=
  ⟨hf.bel h.bel (by omega), hq.box, (hf.block _ h.lt (by omega) (by omega)).trans h.b2⟩
set_option maxRecDepth 100000 in
set_option maxHeartbeats 4000000 in
theorem implGC_good (s : ByteArray) (S D A U T G : Nat) (head size : Int) (w : World) (hp : qOk s ⟨S, D, A, U, T, G⟩ = true) (hn : gcB ⟨S, D, A, U, T, G⟩ head size = true) :
    Calls Try.prog 8 #[.string s, qA ⟨S, D, A, U, T, G⟩, .int .i64 head, .int .i64 size] w fun e w' => e = .returned (gcA 0 (gcM s S U G head size) ⟨S, D, A, U, T, (((G + 1) % 65536 : Nat) : Int)⟩ (wv (gcM s S U G head size) A % 2 == 0)) ∧ Below w.heap.size w w' := by
  obtain ⟨hm, hsz, ht, hg, hd, ha, hu⟩ := qOk_b hp
  simp only at hsz ht hg hd ha hu
  obtain ⟨b1, b2⟩ := szB_b hsz
  obtain ⟨m1, m2, m3⟩ := memOk_b hm
  obtain ⟨n, hN⟩ : ∃ n, s.size = n * 256 := ⟨s.size / 256, by omega⟩
  have hn256 : n ≤ 256 := by omega
  have hc : qkC s ⟨S, D, A, U, T, G⟩ = 0 := by
    unfold qkC
    rw [if_neg (show ¬ 65536 < s.size by omega)]
    exact qF_ok hp
  have HC : Hid _ := fun u => queueCode_any s ⟨S, D, A, U, T, G⟩ u (by omega)
  rw [hc] at HC
  unfold gcB at hn
  rw [Bool.and_eq_true] at hn
  have HH : Hid _ := fun u => has_any ⟨S, D, A, U, T, G⟩ head u
  rw [hn.1] at HH
  have HI : Hid _ := fun u => isWordI_any size u
  rw [hn.2] at HI
  have HR : Hid _ := fun u => readMemory_any s n u hN hn256
  have HG : Hid _ := fun (u : World) (m : Nat) h => giveChain_any (w := u) (b := w.heap.size) (mb := m) (n := n) (s := s) S A U G D T head size h hN m2 (by omega) (by omega) (by omega) (by omega) (by omega) (by omega) (by omega)
  have HTX : Hid _ := fun (b : Nat) (u : World) (h : MemAt u b (gcM s S U G head size)) => memText_any b _ n u h (by rw [gcM_size _ _ _ _ _ _ (by omega) (by omega)]; exact hN) hn256
  generalize gcM s S U G head size = M3 at *
  generalize (wv M3 A % 2 == 0) = sg at *
  generalize (G + 1) % 65536 = G2 at *
  clear hp hn hm hsz ht hg hd ha hu b1 b2 m1 m2 m3 hN hn256 hc
  unfold qA at HC HH ⊢
  unfold gcA
  simp only
  unfold mv at HR HG HTX
  go_enter Try.func8, Try.ntmps8
  go_wp2_with (first | (go_at_call 23; refine Calls.mono (HC.out _) ?_; rintro e u1 ⟨rfl, hu1⟩; have HX1 : Hid _ := TwoBx.of _ _ _ _ _ hu1; clear hu1; have g0 := HX1.out.c1 0 _ rfl; have g1 := HX1.out.c1 1 _ rfl; have g2 := HX1.out.c1 2 _ rfl; have g3 := HX1.out.c1 3 _ rfl; have g4 := HX1.out.c1 4 _ rfl; have g5 := HX1.out.c1 5 _ rfl) | (go_at_call 24; refine Calls.mono (HH.out _) ?_; rintro e u2 ⟨rfl, hu2⟩; have HX2 : Hid _ := HX1.out.step hu2; clear hu2 HX1 g0 g1 g2 g3 g4 g5; have r0 := HX2.out.c2 0 _ rfl; have r1 := HX2.out.c2 1 _ rfl; have r2 := HX2.out.c2 2 _ rfl; have r3 := HX2.out.c2 3 _ rfl; have r4 := HX2.out.c2 4 _ rfl; have r5 := HX2.out.c2 5 _ rfl; have r6 := HX2.out.c2 6 _ rfl; have r7 := HX2.out.c2 7 _ rfl; have r8 := HX2.out.c2 8 _ rfl; have rf := fun k => HX2.out.f2 k) | (go_at_call 25; refine Calls.mono (HI.out _) ?_; rintro e u3 ⟨rfl, hu3⟩; rw [hu3]; clear hu3))
  refine Calls.mono (HR.out _) ?_
  rintro e u4 ⟨rfl, hM, hu4, _⟩
  have HX4 : Hid _ := HX2.out.step hu4
  have hMge : w.heap.size + 2 ≤ u2.heap.size := HX2.out.lt
  have HQ4 : Hid (QM u4 w.heap.size u2.heap.size ⟨S, D, A, U, T, G⟩ s) := ⟨HX4.out.b1, hM, by omega⟩
  generalize u2.heap.size = mb at *
  clear hu4 hM HX2 r0 r1 r2 r3 r4 r5 r6 r7 r8 rf
  go_wp2_with fail
  refine Calls.mono (HG.out _ _ HQ4.out) ?_
  rintro e u5 ⟨rfl, hq, hf⟩
  have HX5 : Hid _ := HX4.out.give hq hf hMge
  have HM5 : Hid (MemAt u5 mb M3) := hq.mem
  obtain ⟨c0, c1, c2, c3, c4, c5⟩ := hq.cs
  clear hq hf HX4 HQ4
  go_wp2_with fail
  go_region_held3 (fun w' => w'.cell? ⟨w.heap.size, 0, none⟩ = some (.int .i64 S) ∧ w'.cell? ⟨w.heap.size, 1, none⟩ = some (.int .i64 D) ∧ w'.cell? ⟨w.heap.size, 2, none⟩ = some (.int .i64 A) ∧ w'.cell? ⟨w.heap.size, 3, none⟩ = some (.int .i64 U) ∧ w'.cell? ⟨w.heap.size, 4, none⟩ = some (.int .i64 T) ∧ w'.cell? ⟨w.heap.size, 5, none⟩ = some (.int .i64 G2)) (go_keep) ((go_at_call 28; refine Calls.mono (HTX.out mb u5.drew (show MemAt u5.drew mb M3 from HM5.out)) ?_; rintro e u8 ⟨rfl, hu⟩; have hb : Below u5.heap.size u5 u8 := ⟨hu.os, hu.tape, hu.output, hu.size, hu.block⟩; have HX8 : Hid _ := HX5.out.step hb; clear hu hb c0 c1 c2 c3 c4 c5; have c0 := HX8.out.c1 0 (.int .i64 S) rfl; have c1 := HX8.out.c1 1 (.int .i64 D) rfl; have c2 := HX8.out.c1 2 (.int .i64 A) rfl; have c3 := HX8.out.c1 3 (.int .i64 U) rfl; have c4 := HX8.out.c1 4 (.int .i64 T) rfl; have c5 := HX8.out.c1 5 (.int .i64 G2) rfl; have r0 := HX8.out.c2 0 _ rfl; have r1 := HX8.out.c2 1 _ rfl; have r2 := HX8.out.c2 2 _ rfl; have r3 := HX8.out.c2 3 _ rfl; have r4 := HX8.out.c2 4 _ rfl; have r5 := HX8.out.c2 5 _ rfl; have r6 := HX8.out.c2 6 _ rfl; have r7 := HX8.out.c2 7 _ rfl; have r8 := HX8.out.c2 8 _ rfl; have rf := fun k => HX8.out.f2 k))
  all_goals
    go_wp2_with fail
    refine bodyPost_ret (v := .agg #[.int .i64 0, .string M3, .int .i64 S, .int .i64 D, .int .i64 A, .int .i64 U, .int .i64 T, .int .i64 G2, .bool sg]) ?_ rfl ⟨rfl, ?_⟩
    · simp [results, Try.results8, go_sem, r0, r1, r2, r3, r4, r5, r6, r7, r8]
    · exact (((((((((HX8.out.bel.setCell (by simp) _).setCell (by simp) _).setCell (by simp) _).setCell (by simp) _).setCell (by simp) _).setCell (by simp) _).setCell (by simp) _).setCell (by simp) _).setCell (by simp) _)
end Go.Proofs.Ytggciigjhlbhhaa
