import Derived.Test.YtodncecnbpldeabGp1
namespace Go.Proofs.Ytodncecnbpldeab
open Go.ChangeShapes Go.WideShapes Go.ChangeAt Go.RowKit

theorem blB {w w1 w2 : World} {m : Nat} (h : Below w.heap.size w w1) (hg : w1.grownBy w2 (some m)) (hm : w.heap.size ≤ m) : Below w.heap.size w w2 :=
  ⟨hg.os.trans h.os, hg.tape.trans h.tape, hg.output.trans h.output, Nat.le_trans h.size hg.size, fun k hk => (hg.block k (Nat.lt_of_lt_of_le hk h.size) (by simp; omega)).trans (h.block k hk)⟩
theorem GBx.grow {w u u' : World} {cs ds es : Array Value} {t t2 t3 b m : Nat} (h : GBx w u cs t ds t2 b es t3) (hg : u.grownBy u' (some m)) (hm : b < m) : GBx w u' cs t ds t2 b es t3 := by
  have hge := h.ge
  have hlt := h.lt
  have h2 := h.two.lt
  refine ⟨⟨blB h.two.bel hg (by omega), ?_, ?_⟩, ?_, hge⟩
  · exact (hg.block _ (by omega) (by simp; omega)).trans h.two.b1
  · exact (hg.block _ (by omega) (by simp; omega)).trans h.two.b2
  · exact (hg.block _ hlt (by simp; omega)).trans h.b3
theorem MemAt.grow {u u' : World} {b m : Nat} {s : ByteArray} (h : MemAt u b s) (hg : u.grownBy u' (some m)) (hm : m ≠ b) : MemAt u' b s := (hg.block b h.lt (by simp; omega)).trans h
/-- What is left of GivePacked behind the packed queue's going on. -/
structure PBx (w u : World) (cs ds : Array Value) (t t2 m : Nat) (s : ByteArray) : Prop where
  two : TwoBx w u cs t ds t2
  mem : MemAt u m s
  ge : w.heap.size + 2 ≤ m
theorem PBx.step {w u u' : World} {cs ds : Array Value} {t t2 m : Nat} {s : ByteArray} (h : PBx w u cs ds t t2 m s) (hb : Below u.heap.size u u') : PBx w u' cs ds t t2 m s := ⟨h.two.step hb, h.mem.below hb h.mem.lt, h.ge⟩
theorem GBx.on {w u u' : World} {cs cs' ds es : Array Value} {t t2 t3 b m : Nat} {s : ByteArray} (h : GBx w u cs t ds t2 b es t3) (hM : MemAt u m s) (hm : w.heap.size + 2 ≤ m) (hg : u.grownBy u' (some w.heap.size)) (hb : u'.heap[w.heap.size]? = some (.cells cs' t (0, 0))) : PBx w u' cs' ds t t2 m s := by
  have h2 := h.two.lt
  refine ⟨⟨blB h.two.bel hg (Nat.le_refl _), hb, ?_⟩, hM.grow hg (by omega), hm⟩
  exact (hg.block _ h2 (by simp)).trans h.two.b2
theorem pC_at (p : PV) : (pC p)[0]? = some (.int .i64 p.size) ∧ (pC p)[1]? = some (.int .i64 p.ring) ∧ (pC p)[2]? = some (.int .i64 p.pos) ∧ (pC p)[3]? = some (.bool p.wrap) := ⟨rfl, rfl, rfl, rfl⟩
set_option maxRecDepth 100000 in
set_option maxHeartbeats 4000000 in
theorem implGive_good (s : ByteArray) (S R P : Nat) (wr : Bool) (id size count : Int) (w : World) (hp : pOk s ⟨S, R, P, wr⟩ = true) (hn : gpB ⟨S, R, P, wr⟩ id size count = true) :
    Calls Try.prog 29 #[.string s, pA ⟨S, R, P, wr⟩, .int .i64 id, .int .i64 size, .int .i64 count] w fun e w' => e = .returned (gpA 0 (setd s (R + P * 16) 0 size (fi wr 32896) id) (goP ⟨S, R, P, wr⟩ count)) ∧ Below w.heap.size w w' := by
  obtain ⟨hm, b1, b2, b3, b4, b5, b6, b7⟩ := pOk_b hp
  simp only at b1 b2 b3 b4 b5 b6 b7
  obtain ⟨m1, m2, m3⟩ := memOk_b hm
  obtain ⟨n, hN⟩ : ∃ n, s.size = n * 256 := ⟨s.size / 256, by omega⟩
  have hn256 : n ≤ 256 := by omega
  have hc : pkC s ⟨S, R, P, wr⟩ = 0 := by
    unfold pkC
    rw [if_neg (show ¬ 65536 < s.size by omega)]
    exact pF_ok hp
  have HC : Hid _ := fun u => packedCode_any s ⟨S, R, P, wr⟩ u (by omega)
  rw [hc] at HC
  have hgp := hn
  simp only [gpB, wdB, Bool.and_eq_true, decide_eq_true_eq] at hgp
  obtain ⟨⟨z1, z2⟩, z3⟩ := hgp
  have HW : Hid _ := fun u => words_any ⟨0, size, false, false, false, wr, wr, id⟩ u
  simp only [dF_back] at HW
  have HF : Hid _ := fun u => fit_any 0 size (fi wr 32896) id u
  rw [wdB_fi, show wdB 0 = true by decide, show wdB size = true from decide_eq_true z1, show wdB id = true from decide_eq_true (by omega)] at HF
  have HR : Hid _ := fun u => readMemory_any s n u hN hn256
  have HP : Hid _ := fun u => placeBehind_any R S P 0 wr u (by omega) (by omega) (by omega) (by omega) (by omega)
  rw [show R + (P + 0) % S * 16 = R + P * 16 by rw [Nat.add_zero, Nat.mod_eq_of_lt (by omega)]] at HP
  rw [show ((0 : Nat) : Int) = 0 from rfl] at HP
  have HPD : Hid _ := fun (b : Nat) (u : World) (h : MemAt u b s) => putDesc_any b n s (R + P * 16) ⟨0, size, false, false, false, wr, wr, id⟩ u h hN m2 (by omega) (by omega)
  simp only [dF_back] at HPD
  have HGO : Hid _ := fun (u : World) h => goOn_any (w := u) (b := w.heap.size) S R P count wr h b3 b4 b2 z3.1 z3.2
  have HTX : Hid _ := fun (b : Nat) (u : World) (h : MemAt u b (setd s (R + P * 16) 0 size (fi wr 32896) id)) => memText_any b _ n u h (by rw [setd_size _ _ _ _ _ _ (by omega)]; exact hN) hn256
  generalize fi wr 32896 = FL at *
  generalize setd s (R + P * 16) 0 size FL id = M at *
  generalize hgo : goP ⟨S, R, P, wr⟩ count = pg at *
  generalize R + P * 16 = AT at *
  clear hgo hp hn hm b5 b6 b7 m1 m2 m3 hN hn256 hc z1 
  obtain ⟨z31, z32⟩ := z3
  unfold pA at HC ⊢
  unfold gpA
  unfold dA wA at HW
  unfold wA at HF
  unfold dA at HPD
  unfold mv at HR HPD HTX
  simp only [Bool.and_true] at HF
  have k1 : ¬ 65536 ≤ id := by omega
  have k2 : ¬ count < 1 := by omega
  have k3 : ¬ (S : Int) < count := by omega
  clear z2 z31 z32 b1 b2 b3 b4
  go_enter Try.func29, Try.ntmps29
  go_wp2_with (go_at_call 56; refine Calls.mono (HC.out _) ?_; rintro e u1 ⟨rfl, hu1⟩; have HX1 : Hid _ := TwoBx.of _ _ _ _ _ hu1; clear hu1; have g0 := HX1.out.c1 0 _ rfl; have g1 := HX1.out.c1 1 _ rfl; have g2 := HX1.out.c1 2 _ rfl; have g3 := HX1.out.c1 3 _ rfl; have glt := HX1.out.lt)
  refine Calls.mono (HW.out _) ?_
  have HX1b : Hid _ := GBx.new HX1.out #[.int .i64 0, .int .i64 size, .bool false, .bool false, .bool false, .bool wr, .bool wr, .int .i64 id] 89
  generalize (u1.alloc (.cells #[.int .i64 0, .int .i64 size, .bool false, .bool false, .bool false, .bool wr, .bool wr, .int .i64 id] 89)) = u1b at *
  generalize u1.heap.size = B3 at *
  rintro e u2 ⟨rfl, hu2⟩
  have HX2 : Hid _ := HX1b.out.step hu2
  clear hu2 g0 g1 g2 g3 glt HX1 HX1b
  go_wp2_with fail
  refine Calls.mono (HF.out _) ?_
  rintro e u3 ⟨rfl, hu3⟩
  have HX3 : Hid _ := HX2.out.step hu3
  clear hu3 HX2
  have g0 := HX3.out.two.c1 0 _ rfl
  go_wp2_with fail
  refine Calls.mono (HR.out _) ?_
  rintro e u4 ⟨rfl, hM, hu4, _⟩
  have HX4 : Hid _ := HX3.out.step hu4
  have HM4 : Hid (MemAt u4 u3.heap.size s) := hM
  have hMlt : B3 < u3.heap.size := HX3.out.lt
  have hMge : w.heap.size + 2 ≤ B3 := HX3.out.ge
  generalize u3.heap.size = mb at *
  clear hu4 hM HX3 g0
  have g0 := HX4.out.two.c1 0 _ rfl
  have g1 := HX4.out.two.c1 1 _ rfl
  have g2 := HX4.out.two.c1 2 _ rfl
  have g3 := HX4.out.two.c1 3 _ rfl
  have d0 := HX4.out.cel 0 _ rfl
  have d1 := HX4.out.cel 1 _ rfl
  have d2 := HX4.out.cel 2 _ rfl
  have d3 := HX4.out.cel 3 _ rfl
  have d4 := HX4.out.cel 4 _ rfl
  have d5 := HX4.out.cel 5 _ rfl
  have d6 := HX4.out.cel 6 _ rfl
  have d7 := HX4.out.cel 7 _ rfl
  go_wp2_with fail
  go_region_held3 (fun w' => w'.cell? ⟨w.heap.size, 0, none⟩ = some (.int .i64 S) ∧ w'.cell? ⟨w.heap.size, 1, none⟩ = some (.int .i64 R) ∧ w'.cell? ⟨w.heap.size, 2, none⟩ = some (.int .i64 P) ∧ w'.cell? ⟨w.heap.size, 3, none⟩ = some (.bool wr) ∧ w'.cell? ⟨B3, 0, none⟩ = some (.int .i64 0) ∧ w'.cell? ⟨B3, 1, none⟩ = some (.int .i64 size) ∧ w'.cell? ⟨B3, 2, none⟩ = some (.bool false) ∧ w'.cell? ⟨B3, 3, none⟩ = some (.bool false) ∧ w'.cell? ⟨B3, 4, none⟩ = some (.bool false) ∧ w'.cell? ⟨B3, 5, none⟩ = some (.bool wr) ∧ w'.cell? ⟨B3, 6, none⟩ = some (.bool wr) ∧ w'.cell? ⟨B3, 7, none⟩ = some (.int .i64 id)) (go_keep) ((first
    | (go_at_call 63; refine Calls.mono (HP.out _) ?_; rintro e u5 ⟨rfl, hu⟩; have hb : Below u4.heap.size u4 u5 := ⟨hu.os, hu.tape, hu.output, hu.size, hu.block⟩; have HX5 : Hid _ := HX4.out.step hb; have HM5 : Hid (MemAt u5 mb s) := HM4.out.below hb HM4.out.lt; clear hu hb g0 g1 g2 g3 d0 d1 d2 d3 d4 d5 d6 d7; have g0 := HX5.out.two.c1 0 _ rfl; have g1 := HX5.out.two.c1 1 _ rfl; have g2 := HX5.out.two.c1 2 _ rfl; have g3 := HX5.out.two.c1 3 _ rfl; have d0 := HX5.out.cel 0 _ rfl; have d1 := HX5.out.cel 1 _ rfl; have d2 := HX5.out.cel 2 _ rfl; have d3 := HX5.out.cel 3 _ rfl; have d4 := HX5.out.cel 4 _ rfl; have d5 := HX5.out.cel 5 _ rfl; have d6 := HX5.out.cel 6 _ rfl; have d7 := HX5.out.cel 7 _ rfl)
    | (go_at_call 62; refine Calls.mono (HPD.out _ _ (show MemAt _ _ _ from HM5.out)) ?_; rintro e u6 ⟨rfl, hM6, hg⟩; have hg6 : u5.grownBy u6 (some mb) := ⟨hg.os, hg.tape, hg.output, hg.size, hg.block⟩; have HX6 : Hid _ := HX5.out.grow hg6 hMlt; have HM6 : Hid (MemAt u6 mb M) := hM6; clear hg hg6 hM6 g0 g1 g2 g3 d0 d1 d2 d3 d4 d5 d6 d7; have g0 := HX6.out.two.c1 0 _ rfl; have g1 := HX6.out.two.c1 1 _ rfl; have g2 := HX6.out.two.c1 2 _ rfl; have g3 := HX6.out.two.c1 3 _ rfl; have d0 := HX6.out.cel 0 _ rfl; have d1 := HX6.out.cel 1 _ rfl; have d2 := HX6.out.cel 2 _ rfl; have d3 := HX6.out.cel 3 _ rfl; have d4 := HX6.out.cel 4 _ rfl; have d5 := HX6.out.cel 5 _ rfl; have d6 := HX6.out.cel 6 _ rfl; have d7 := HX6.out.cel 7 _ rfl)))
  go_wp2_with fail
  refine Calls.mono (HGO.out _ (show _ from HX6.out.two.b1)) ?_
  rintro e u7 ⟨rfl, hbx, hg⟩
  have HX7 : Hid _ := HX6.out.on HM6.out (by omega) hg hbx
  clear hbx hg g0 g1 g2 g3 d0 d1 d2 d3 d4 d5 d6 d7
  obtain ⟨q0, q1, q2, q3⟩ := pC_at pg
  have g0 := HX7.out.two.c1 0 _ q0
  have g1 := HX7.out.two.c1 1 _ q1
  have g2 := HX7.out.two.c1 2 _ q2
  have g3 := HX7.out.two.c1 3 _ q3
  go_wp2_with fail
  go_region_held3 (fun w' => w'.cell? ⟨w.heap.size, 0, none⟩ = some (.int .i64 pg.size) ∧ w'.cell? ⟨w.heap.size, 1, none⟩ = some (.int .i64 pg.ring) ∧ w'.cell? ⟨w.heap.size, 2, none⟩ = some (.int .i64 pg.pos) ∧ w'.cell? ⟨w.heap.size, 3, none⟩ = some (.bool pg.wrap)) (go_keep) ((go_at_call 43; refine Calls.mono (HTX.out _ _ (show MemAt _ _ _ from HX7.out.mem)) ?_; rintro e u8 ⟨rfl, hu⟩; have hb : Below u7.heap.size u7 u8 := ⟨hu.os, hu.tape, hu.output, hu.size, hu.block⟩; have HX8 : Hid _ := HX7.out.step hb; clear hu hb g0 g1 g2 g3; have g0 := HX8.out.two.c1 0 _ q0; have g1 := HX8.out.two.c1 1 _ q1; have g2 := HX8.out.two.c1 2 _ q2; have g3 := HX8.out.two.c1 3 _ q3; have r0 := HX8.out.two.c2 0 _ rfl; have r1 := HX8.out.two.c2 1 _ rfl; have r2 := HX8.out.two.c2 2 _ rfl; have r3 := HX8.out.two.c2 3 _ rfl; have r4 := HX8.out.two.c2 4 _ rfl; have r5 := HX8.out.two.c2 5 _ rfl; have rf := fun k => HX8.out.two.f2 k))
  all_goals
    go_wp2_with fail
    refine bodyPost_ret (v := .agg #[.int .i64 0, .string M, .int .i64 pg.size, .int .i64 pg.ring, .int .i64 pg.pos, .bool pg.wrap]) ?_ rfl ⟨rfl, ?_⟩
    · simp [results, Try.results29, go_sem, r0, r1, r2, r3, r4, r5]
    · exact (((((HX8.out.two.bel.setCell (by simp) _).setCell (by simp) _).setCell (by simp) _).setCell (by simp) _).setCell (by simp) _).setCell (by simp) _
end Go.Proofs.Ytodncecnbpldeab
