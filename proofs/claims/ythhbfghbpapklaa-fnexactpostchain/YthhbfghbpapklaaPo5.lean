import Derived.Test.YthhbfghbpapklaaPo4
namespace Go.Proofs.Ythhbfghbpapklaa
open Go.ChangeShapes Go.WideShapes Go.ChangeAt Go.RowKit

set_option maxRecDepth 100000
def okB (z : BU) : Bool := wdB z.pos && wdB z.len
theorem wdB_n (n : Nat) (h : n ≤ 4294967295) : wdB (n : Int) = true := by unfold wdB; simp; omega
theorem fit_pd (S F n : Nat) (z : BU) (k : Nat) (hS : 1 ≤ S) (hS2 : S ≤ 16) : fitB (pdE S F n z k) = okB z := by
  have hm : (F + k + 1) % S < S := Nat.mod_lt _ hS
  unfold fitB okB
  have h1 : wdB (pdE S F n z k).num = true := by
    unfold pdE
    simp only
    split
    · exact wdB_n _ (by omega)
    · exact wdB_n 0 (by omega)
  have h2 : wdB (dF (dv (pdE S F n z k))) = true := by
    unfold dF dv pdE fi
    simp only
    cases z.write <;> by_cases hq : k + 1 < n <;> simp [hq, wdB]
  rw [h1, h2, Bool.and_true, Bool.and_true]
  rfl
theorem all_pd (S F : Nat) (zs : List BU) (hS : 1 ≤ S) (hS2 : S ≤ 16) : (pdL S F zs).all fitB = zs.all okB := by
  rw [Bool.eq_iff_iff, List.all_eq_true, List.all_eq_true]
  constructor
  · intro h z hz
    obtain ⟨k, hk, rfl⟩ := List.getElem_of_mem hz
    have h2 := h _ (List.getElem_mem (show k < (pdL S F zs).length by rw [pdL_len]; exact hk))
    rw [pdL_at S F zs k hk, fit_pd S F _ _ _ hS hS2] at h2
    exact h2
  · intro h d hd
    obtain ⟨k, hk, rfl⟩ := List.getElem_of_mem hd
    rw [pdL_len] at hk
    rw [pdL_at S F zs k hk, fit_pd S F _ _ _ hS hS2]
    exact h _ (List.getElem_mem hk)
theorem rowNeD {u : World} {B n mb : Nat} {v : Value} {xs : List Value} {s : ByteArray} (h : u.ownsRow B 99 8 v n xs) (hm : MemAt u mb s) : v.ownBlock ≠ some mb := fun e => by
  have hb : u.heap[mb]? = some (.cells (mcel s) 105 (0, 0)) := hm
  obtain ⟨_, hr | ⟨g, cap, cur, hv, _, hgg, _⟩⟩ := h
  · rw [hr.1] at e; cases e
  · rw [hv] at e
    have e2 : g = mb := by simpa [Value.ownBlock] using e
    subst e2
    rw [hb] at hgg
    injection hgg with hgg
    injection hgg with _ hgg
    exact absurd hgg (by decide)
theorem row_gbD {u u' : World} {B n mb : Nat} {v : Value} {xs : List Value} {s : ByteArray} (h : u.ownsRow B 99 8 v n xs) (hm : MemAt u mb s) (hg : u.grownBy u' (some mb)) : u'.ownsRow B 99 8 v n xs := h.kept hg (.inr (rowNeD h hm))
theorem TwoBx.grM {w u v : World} {cs ds : Array Value} {t t2 mb : Nat} (h : TwoBx w u cs t ds t2) (hg : u.grownBy v (some mb)) (hm : w.heap.size + 2 ≤ mb) : TwoBx w v cs t ds t2 := by
  have hl := h.lt
  refine ⟨h.bel.grown hg h.bel.size (fun j hj => by cases hj; omega), (hg.block _ (by omega) (by simp; omega)).trans h.b1, (hg.block _ (by omega) (by simp; omega)).trans h.b2⟩
/-- The queue's box alone. -/
structure OneB (w u : World) (S D A U T G : Int) : Prop where
  b1 : u.heap[w.heap.size]? = some (.cells #[.int .i64 S, .int .i64 D, .int .i64 A, .int .i64 U, .int .i64 T, .int .i64 G] 26 (0, 0))
theorem OneB.oth2 {w u : World} {S D A U T G : Int} (h : OneB w u S D A U T G) (o : Nat) (x : Value) : OneB w (u.setCell ⟨w.heap.size + 1, o, none⟩ x) S D A U T G := ⟨(Below.heap_setCell _ _ _ _ (by simp)).trans h.b1⟩
theorem OneB.six {w u : World} {S D A U T G : Int} (h : OneB w u S D A U T G) : u.cell? ⟨w.heap.size, 0, none⟩ = some (.int .i64 S) ∧ u.cell? ⟨w.heap.size, 1, none⟩ = some (.int .i64 D) ∧ u.cell? ⟨w.heap.size, 2, none⟩ = some (.int .i64 A) ∧ u.cell? ⟨w.heap.size, 3, none⟩ = some (.int .i64 U) ∧ u.cell? ⟨w.heap.size, 4, none⟩ = some (.int .i64 T) ∧ u.cell? ⟨w.heap.size, 5, none⟩ = some (.int .i64 G) := ⟨bC h.b1 0 _ rfl, bC h.b1 1 _ rfl, bC h.b1 2 _ rfl, bC h.b1 3 _ rfl, bC h.b1 4 _ rfl, bC h.b1 5 _ rfl⟩
theorem TwoBx.six {w u : World} {ds : Array Value} {t2 : Nat} {S D A U T G : Int} (h : TwoBx w u #[.int .i64 S, .int .i64 D, .int .i64 A, .int .i64 U, .int .i64 T, .int .i64 G] 26 ds t2) : u.cell? ⟨w.heap.size, 0, none⟩ = some (.int .i64 S) ∧ u.cell? ⟨w.heap.size, 1, none⟩ = some (.int .i64 D) ∧ u.cell? ⟨w.heap.size, 2, none⟩ = some (.int .i64 A) ∧ u.cell? ⟨w.heap.size, 3, none⟩ = some (.int .i64 U) ∧ u.cell? ⟨w.heap.size, 4, none⟩ = some (.int .i64 T) ∧ u.cell? ⟨w.heap.size, 5, none⟩ = some (.int .i64 G) := ⟨h.c1 0 _ rfl, h.c1 1 _ rfl, h.c1 2 _ rfl, h.c1 3 _ rfl, h.c1 4 _ rfl, h.c1 5 _ rfl⟩
set_option maxHeartbeats 4000000 in
theorem implPO_bad {w : World} {v : Value} {zs : List BU} (s : ByteArray) (S D A U T G F : Nat) (h : BUrow w v zs) (hp : qOk s ⟨S, D, A, U, T, G⟩ = true) (hF : F < S) (hz0 : ¬ zs.length = 0) (hzS : zs.length ≤ S) (hb : zs.all okB = false) : Calls Try.prog 11 #[.string s, qA ⟨S, D, A, U, T, G⟩, .int .i64 F, v] w fun e w' => e = .returned (gcA 1 ⟨#[]⟩ q0 false) ∧ Below w.heap.size w w' := by
  obtain ⟨a1, c1, rfl⟩ := h.sl
  have HR : Hid (BUrow w (.slice a1 zs.length c1) zs) := h
  obtain ⟨hm, hz, ⟨t0, t1⟩, ⟨g0, g1⟩, ⟨b1, b2, b3⟩, ⟨e1, e2, e3⟩, _⟩ := qOk_b hp
  obtain ⟨m1, m2, m3⟩ := memOk_b hm
  simp only at hz b1 b2 b3 e1 e2 e3 t0 t1 g0 g1
  have hS : 1 ≤ S ∧ S ≤ 16 := by unfold szB at hz; simp at hz; omega
  have hl : zs.length ≤ 16 := by omega
  have hd : ¬ (1000 : Int) < (zs.length : Int) := by omega
  have hz1 : ¬ zs = [] := fun e => hz0 (by rw [e]; rfl)
  have hz2 : ((zs.length : Int) == 0) = false := by rw [beq_eq_false_iff_ne]; omega
  have hz3 : decide ((zs.length : Int) = 0) = false := decide_eq_false (by omega)
  have hz4 : decide ((S : Int) < (zs.length : Int)) = false := decide_eq_false (by omega)
  have hzz : ¬ (zs.length : Int) = 0 := by omega
  have hzs : ¬ (S : Int) < (zs.length : Int) := by omega
  have hc : qkC s ⟨S, D, A, U, T, G⟩ = 0 := by
    unfold qkC
    rw [if_neg (show ¬ 65536 < s.size by omega)]
    exact qF_ok hp
  have HC : Hid _ := fun u => queueCode_any s ⟨S, D, A, U, T, G⟩ u (by omega)
  rw [hc] at HC
  have HH : Hid _ := fun u => has_any ⟨S, D, A, U, T, G⟩ F u
  rw [show hsB (S : Int) (F : Int) = true by unfold hsB; simp; omega] at HH
  have HPD : Hid _ := fun (u : World) (hu : BUrow u (.slice a1 zs.length c1) zs) => postDesc_any S F D A U T G hu (by omega) hS.1 hS.2 hF
  have HAD : Hid _ := fun (u : World) (v : Value) (hu : DDrow u v (pdL S F zs)) => areDesc_any hu (by rw [pdL_len]; omega)
  rw [all_pd S F zs hS.1 hS.2, hb] at HAD
  clear h hp hm hz t0 t1 g0 g1 b1 b2 b3 e1 e2 e3 m1 m2 m3 hS hl hc hb hF
  unfold qA at HC HH HPD ⊢
  unfold gcA q0
  simp only at HC HH ⊢
  have HX0 : Hid (TwoBx w ((w.alloc (.cells #[.int .i64 S, .int .i64 D, .int .i64 A, .int .i64 U, .int .i64 T, .int .i64 G] 26)).alloc (.cells #[.int .i64 0, .string ⟨#[]⟩, .int .i64 0, .int .i64 0, .int .i64 0, .int .i64 0, .int .i64 0, .int .i64 0, .bool false] 28)) #[.int .i64 S, .int .i64 D, .int .i64 A, .int .i64 U, .int .i64 T, .int .i64 G] 26 #[.int .i64 0, .string ⟨#[]⟩, .int .i64 0, .int .i64 0, .int .i64 0, .int .i64 0, .int .i64 0, .int .i64 0, .bool false] 28) := TwoBx.of _ _ _ _ _ (Below.refl _ _)
  go_enter Try.func11, Try.ntmps11
  go_upto_region 1 with fail
  generalize ((w.alloc (.cells #[.int .i64 S, .int .i64 D, .int .i64 A, .int .i64 U, .int .i64 T, .int .i64 G] 26)).alloc (.cells #[.int .i64 0, .string ⟨#[]⟩, .int .i64 0, .int .i64 0, .int .i64 0, .int .i64 0, .int .i64 0, .int .i64 0, .bool false] 28)) = W0 at *
  have k0 := HX0.out.c1 0 _ rfl
  have k1 := HX0.out.c1 1 _ rfl
  have k2 := HX0.out.c1 2 _ rfl
  have k3 := HX0.out.c1 3 _ rfl
  have k4 := HX0.out.c1 4 _ rfl
  have k5 := HX0.out.c1 5 _ rfl
  go_wp2_with (first
    | (go_at_call 27; refine Calls.mono (HC.out _) ?_; rintro e u1 ⟨rfl, hu1⟩; have HX1 : Hid _ := HX0.out.step hu1; have HR1 : Hid _ := HR.out.below HX1.out.bel; clear hu1 k0 k1 k2 k3 k4 k5; have k0 := HX1.out.c1 0 _ rfl; have k1 := HX1.out.c1 1 _ rfl; have k2 := HX1.out.c1 2 _ rfl; have k3 := HX1.out.c1 3 _ rfl; have k4 := HX1.out.c1 4 _ rfl; have k5 := HX1.out.c1 5 _ rfl)
    | (go_at_call 28; refine Calls.mono (HH.out _) ?_; rintro e u2 ⟨rfl, hu2⟩; have HX2 : Hid _ := HX1.out.step hu2; clear hu2 k0 k1 k2 k3 k4 k5; have k0 := HX2.out.c1 0 _ rfl; have k1 := HX2.out.c1 1 _ rfl; have k2 := HX2.out.c1 2 _ rfl; have k3 := HX2.out.c1 3 _ rfl; have k4 := HX2.out.c1 4 _ rfl; have k5 := HX2.out.c1 5 _ rfl)
    | (go_at_call 29; refine Calls.mono (HPD.out _ (HR.out.below HX2.out.bel)) ?_; rintro e u3 ⟨x3, rfl, ho, hu3⟩; obtain ⟨ao, cap, rfl⟩ := dd_sl ho; have HO3 : Hid (u3.ownsRow u2.heap.size 99 8 (.slice ao zs.length cap) (pdL S F zs).length (ddR (pdL S F zs))) := by { rw [pdL_len]; exact ho }; have HX3 : Hid _ := HX2.out.step hu3; clear ho hu3 k0 k1 k2 k3 k4 k5; have k0 := HX3.out.c1 0 _ rfl; have k1 := HX3.out.c1 1 _ rfl; have k2 := HX3.out.c1 2 _ rfl; have k3 := HX3.out.c1 3 _ rfl; have k4 := HX3.out.c1 4 _ rfl; have k5 := HX3.out.c1 5 _ rfl)
    | (go_at_call 30; refine Calls.mono (HAD.out _ _ (DDrow.of HO3.out)) ?_; rintro e u4 ⟨rfl, hu4⟩; have HX4 : Hid _ := HX3.out.step hu4; have HO4 : Hid _ := dd_below HO3.out hu4; clear hu4 k0 k1 k2 k3 k4 k5; have k0 := HX4.out.c1 0 _ rfl; have k1 := HX4.out.c1 1 _ rfl; have k2 := HX4.out.c1 2 _ rfl; have k3 := HX4.out.c1 3 _ rfl; have k4 := HX4.out.c1 4 _ rfl; have k5 := HX4.out.c1 5 _ rfl; have r0 := HX4.out.c2 0 _ rfl; have r1 := HX4.out.c2 1 _ rfl; have r2 := HX4.out.c2 2 _ rfl; have r3 := HX4.out.c2 3 _ rfl; have r4 := HX4.out.c2 4 _ rfl; have r5 := HX4.out.c2 5 _ rfl; have r6 := HX4.out.c2 6 _ rfl; have r7 := HX4.out.c2 7 _ rfl; have r8 := HX4.out.c2 8 _ rfl; have rf := fun k => HX4.out.f2 k))
  refine bodyPost_ret (v := .agg #[.int .i64 1, .string ⟨#[]⟩, .int .i64 0, .int .i64 0, .int .i64 0, .int .i64 0, .int .i64 0, .int .i64 0, .bool false]) ?_ rfl ⟨rfl, ?_⟩
  · simp [results, Try.results11, go_sem, r0, r1, r2, r3, r4, r5, r6, r7, r8]
  · exact (((((((((HX4.out.bel.setCell (by simp) _).setCell (by simp) _).setCell (by simp) _).setCell (by simp) _).setCell (by simp) _).setCell (by simp) _).setCell (by simp) _).setCell (by simp) _).setCell (by simp) _)
set_option maxHeartbeats 4000000 in
theorem implPO_good {w : World} {v : Value} {zs : List BU} (s : ByteArray) (S D A U T G F : Nat) (h : BUrow w v zs) (hp : qOk s ⟨S, D, A, U, T, G⟩ = true) (hF : F < S) (hz0 : ¬ zs.length = 0) (hzS : zs.length ≤ S) (hb : zs.all okB = true) : Calls Try.prog 11 #[.string s, qA ⟨S, D, A, U, T, G⟩, .int .i64 F, v] w fun e w' => e = .returned (gcA 0 (pcF (pcM s S D F (pdL S F zs) zs.length) S A F) ⟨S, D, A, U, T, G⟩ false) ∧ Below w.heap.size w w' := by
  obtain ⟨a1, c1, rfl⟩ := h.sl
  have HR : Hid (BUrow w (.slice a1 zs.length c1) zs) := h
  obtain ⟨hm, hz, ⟨t0, t1⟩, ⟨g0, g1⟩, ⟨b1, b2, b3⟩, ⟨e1, e2, e3⟩, _⟩ := qOk_b hp
  obtain ⟨m1, m2, m3⟩ := memOk_b hm
  simp only at hz b1 b2 b3 e1 e2 e3 t0 t1 g0 g1
  have hS : 1 ≤ S ∧ S ≤ 16 := by unfold szB at hz; simp at hz; omega
  have hl : zs.length ≤ 16 := by omega
  have hd : ¬ (1000 : Int) < (zs.length : Int) := by omega
  have hz1 : ¬ zs = [] := fun e => hz0 (by rw [e]; rfl)
  have hz2 : ((zs.length : Int) == 0) = false := by rw [beq_eq_false_iff_ne]; omega
  have hz3 : decide ((zs.length : Int) = 0) = false := decide_eq_false (by omega)
  have hz4 : decide ((S : Int) < (zs.length : Int)) = false := decide_eq_false (by omega)
  have hzz : ¬ (zs.length : Int) = 0 := by omega
  have hzs : ¬ (S : Int) < (zs.length : Int) := by omega
  have hc : qkC s ⟨S, D, A, U, T, G⟩ = 0 := by
    unfold qkC
    rw [if_neg (show ¬ 65536 < s.size by omega)]
    exact qF_ok hp
  have HC : Hid _ := fun u => queueCode_any s ⟨S, D, A, U, T, G⟩ u (by omega)
  rw [hc] at HC
  have HH : Hid _ := fun u => has_any ⟨S, D, A, U, T, G⟩ F u
  rw [show hsB (S : Int) (F : Int) = true by unfold hsB; simp; omega] at HH
  have HPD : Hid _ := fun (u : World) (hu : BUrow u (.slice a1 zs.length c1) zs) => postDesc_any S F D A U T G hu (by omega) hS.1 hS.2 hF
  have HAD : Hid _ := fun (u : World) (v : Value) (hu : DDrow u v (pdL S F zs)) => areDesc_any hu (by rw [pdL_len]; omega)
  rw [all_pd S F zs hS.1 hS.2, hb] at HAD
  obtain ⟨n, hN⟩ : ∃ n, s.size = n * 256 := ⟨s.size / 256, by omega⟩
  have HRM : Hid _ := fun x => readMemory_any s n x hN (by omega)
  have HPC : Hid (∀ (x : World) (mb : Nat) (ao : Option Addr) (cap : Nat), (∀ u, x.grownBy u (some mb) → DDrow u (.slice ao zs.length cap) (pdL S F zs)) → MemAt x mb s → Calls Try.prog 32 #[mv mb n, qA ⟨S, D, A, U, T, G⟩, .int .i64 F, .slice ao zs.length cap] x fun e w' => e = .returned (.tuple #[]) ∧ MemAt w' mb (pcF (pcM s S D F (pdL S F zs) zs.length) S A F) ∧ x.grownBy w' (some mb)) := fun x mb ao cap h1 h2 => by
    have h9 := postChain_any S D A F U T G h1 h2 (by rw [pdL_len]; omega) hN m2 hS.1 hS.2 hF (by omega) (by omega) (by omega) (by omega)
    rw [pdL_len] at h9
    exact h9
  have hps := pcM_size s S D F (pdL S F zs) hS.1 (by omega) zs.length
  have hfs := pcF_size (pcM s S D F (pdL S F zs) zs.length) S A F hS.1 (by omega)
  have HTX : Hid _ := fun (x : World) (b : Nat) (hM : MemAt x b (pcF (pcM s S D F (pdL S F zs) zs.length) S A F)) => memText_any b _ n x hM (by omega) (by omega)
  generalize pcF (pcM s S D F (pdL S F zs) zs.length) S A F = M3 at *
  clear h hp hm hz t0 t1 g0 g1 b1 b2 b3 e1 e2 e3 m1 m2 m3 hS hl hc hb hF hN hps hfs
  unfold qA at HC HH HPD HPC ⊢
  unfold gcA
  unfold mv at HRM HPC HTX
  simp only at HC HH HPC ⊢
  have HX0 : Hid (TwoBx w ((w.alloc (.cells #[.int .i64 S, .int .i64 D, .int .i64 A, .int .i64 U, .int .i64 T, .int .i64 G] 26)).alloc (.cells #[.int .i64 0, .string ⟨#[]⟩, .int .i64 0, .int .i64 0, .int .i64 0, .int .i64 0, .int .i64 0, .int .i64 0, .bool false] 28)) #[.int .i64 S, .int .i64 D, .int .i64 A, .int .i64 U, .int .i64 T, .int .i64 G] 26 #[.int .i64 0, .string ⟨#[]⟩, .int .i64 0, .int .i64 0, .int .i64 0, .int .i64 0, .int .i64 0, .int .i64 0, .bool false] 28) := TwoBx.of _ _ _ _ _ (Below.refl _ _)
  go_enter Try.func11, Try.ntmps11
  go_upto_region 1 with fail
  generalize ((w.alloc (.cells #[.int .i64 S, .int .i64 D, .int .i64 A, .int .i64 U, .int .i64 T, .int .i64 G] 26)).alloc (.cells #[.int .i64 0, .string ⟨#[]⟩, .int .i64 0, .int .i64 0, .int .i64 0, .int .i64 0, .int .i64 0, .int .i64 0, .bool false] 28)) = W0 at *
  have k0 := HX0.out.c1 0 _ rfl
  have k1 := HX0.out.c1 1 _ rfl
  have k2 := HX0.out.c1 2 _ rfl
  have k3 := HX0.out.c1 3 _ rfl
  have k4 := HX0.out.c1 4 _ rfl
  have k5 := HX0.out.c1 5 _ rfl
  go_upto_region 11 with (first
    | (go_at_call 27; refine Calls.mono (HC.out _) ?_; rintro e u1 ⟨rfl, hu1⟩; have HX1 : Hid _ := HX0.out.step hu1; have HR1 : Hid _ := HR.out.below HX1.out.bel; clear hu1 k0 k1 k2 k3 k4 k5; have k0 := HX1.out.c1 0 _ rfl; have k1 := HX1.out.c1 1 _ rfl; have k2 := HX1.out.c1 2 _ rfl; have k3 := HX1.out.c1 3 _ rfl; have k4 := HX1.out.c1 4 _ rfl; have k5 := HX1.out.c1 5 _ rfl)
    | (go_at_call 28; refine Calls.mono (HH.out _) ?_; rintro e u2 ⟨rfl, hu2⟩; have HX2 : Hid _ := HX1.out.step hu2; clear hu2 k0 k1 k2 k3 k4 k5; have k0 := HX2.out.c1 0 _ rfl; have k1 := HX2.out.c1 1 _ rfl; have k2 := HX2.out.c1 2 _ rfl; have k3 := HX2.out.c1 3 _ rfl; have k4 := HX2.out.c1 4 _ rfl; have k5 := HX2.out.c1 5 _ rfl)
    | (go_at_call 29; refine Calls.mono (HPD.out _ (HR.out.below HX2.out.bel)) ?_; rintro e u3 ⟨x3, rfl, ho, hu3⟩; obtain ⟨ao, cap, rfl⟩ := dd_sl ho; have HO3 : Hid (u3.ownsRow u2.heap.size 99 8 (.slice ao zs.length cap) (pdL S F zs).length (ddR (pdL S F zs))) := by { rw [pdL_len]; exact ho }; have HX3 : Hid _ := HX2.out.step hu3; clear ho hu3 k0 k1 k2 k3 k4 k5; have k0 := HX3.out.c1 0 _ rfl; have k1 := HX3.out.c1 1 _ rfl; have k2 := HX3.out.c1 2 _ rfl; have k3 := HX3.out.c1 3 _ rfl; have k4 := HX3.out.c1 4 _ rfl; have k5 := HX3.out.c1 5 _ rfl)
    | (go_at_call 30; refine Calls.mono (HAD.out _ _ (DDrow.of HO3.out)) ?_; rintro e u4 ⟨rfl, hu4⟩; have HX4 : Hid _ := HX3.out.step hu4; have HO4 : Hid _ := dd_below HO3.out hu4; clear hu4 k0 k1 k2 k3 k4 k5; have k0 := HX4.out.c1 0 _ rfl; have k1 := HX4.out.c1 1 _ rfl; have k2 := HX4.out.c1 2 _ rfl; have k3 := HX4.out.c1 3 _ rfl; have k4 := HX4.out.c1 4 _ rfl; have k5 := HX4.out.c1 5 _ rfl; have r0 := HX4.out.c2 0 _ rfl; have r1 := HX4.out.c2 1 _ rfl; have r2 := HX4.out.c2 2 _ rfl; have r3 := HX4.out.c2 3 _ rfl; have r4 := HX4.out.c2 4 _ rfl; have r5 := HX4.out.c2 5 _ rfl; have r6 := HX4.out.c2 6 _ rfl; have r7 := HX4.out.c2 7 _ rfl; have r8 := HX4.out.c2 8 _ rfl; have rf := fun k => HX4.out.f2 k))
  clear HC HH HPD HAD HR r0 r1 r2 r3 r4 r5 r6 r7 r8 rf
  go_wp2_with (go_at_call 31; refine Calls.mono (HRM.out _) ?_; rintro e u5 ⟨rfl, hM, hu5, _⟩; have HX5 : Hid _ := HX4.out.step hu5; have HO5 : Hid (u5.ownsRow u2.heap.size 99 8 (.slice ao zs.length cap) (pdL S F zs).length (ddR (pdL S F zs))) := dd_below HO4.out hu5; have HM5 : Hid (MemAt u5 u4.heap.size s) := hM; clear hu5 hM k0 k1 k2 k3 k4 k5; have k0 := HX5.out.c1 0 _ rfl; have k1 := HX5.out.c1 1 _ rfl; have k2 := HX5.out.c1 2 _ rfl; have k3 := HX5.out.c1 3 _ rfl; have k4 := HX5.out.c1 4 _ rfl; have k5 := HX5.out.c1 5 _ rfl)
  have HL5 : Hid (w.heap.size + 2 ≤ u4.heap.size) := HX4.out.lt
  generalize u4.heap.size = mb at *
  refine Calls.mono (HPC.out _ mb ao cap (fun u hu => DDrow.of (row_gbD HO5.out HM5.out hu)) HM5.out) ?_
  rintro e u6 ⟨rfl, hM, hg⟩
  have HX6 : Hid _ := HX5.out.grM hg HL5.out
  have HM6 : Hid _ := hM
  clear hM hg HX5 HO5 HM5 HPC HRM HX4 HO4 k0 k1 k2 k3 k4 k5
  go_upto_region 13 with fail
  have HXX : Hid _ := HX6.out.step ((Below.refl _ _).drew)
  have HMX : Hid (MemAt u6.drew mb M3) := HM6.out
  refine wp_region_held (S := fun w' => w'.cell? ⟨w.heap.size, 0, none⟩ = some (.int .i64 S) ∧ w'.cell? ⟨w.heap.size, 1, none⟩ = some (.int .i64 D) ∧ w'.cell? ⟨w.heap.size, 2, none⟩ = some (.int .i64 A) ∧ w'.cell? ⟨w.heap.size, 3, none⟩ = some (.int .i64 U) ∧ w'.cell? ⟨w.heap.size, 4, none⟩ = some (.int .i64 T) ∧ w'.cell? ⟨w.heap.size, 5, none⟩ = some (.int .i64 G)) (by kernel_rfl) ?_
  change wpAnyH _ _ _ _ _ _ _ _ (World.drew _)
  generalize u6.drew = X at *
  clear HX6 HM6
  have HK : Hid _ := HXX.out.six
  refine wpAnyH_take (i := 0) (v := .slice (some ⟨mb, 0, none⟩) n n) rfl (by kernel_rfl) (by kernel_rfl) (by kernel_rfl) (fun _ _ _ h => h) (Or.inl ⟨by kernel_rfl, fun w9 h9 => ?_⟩) HK.out ?_
  · clear h9
    go_simp
  refine wpAnyH_take (i := 2) (v := .agg #[.int .i64 S, .int .i64 D, .int .i64 A, .int .i64 U, .int .i64 T, .int .i64 G]) rfl (by kernel_rfl) (by kernel_rfl) (by kernel_rfl) (fun _ _ _ h => h) (Or.inl ⟨by kernel_rfl, fun w9 h9 => ?_⟩) HK.out ?_
  · obtain ⟨d0, d1, d2, d3, d4, d5⟩ := h9
    go_simp
  refine held_one 1 (by kernel_rfl) rfl (by kernel_rfl) fun K hK => ?_
  go_simp
  refine Calls.mono (HTX.out _ _ HMX.out) ?_
  rintro e y2 ⟨rfl, hu⟩
  have HX2 : Hid _ := HXX.out.step hu
  clear hu
  go_simp
  refine hK _ _ HX2.out.six ?_
  clear hK K
  have HK2 : Hid _ := HX2.out.six
  refine wpAnyH_take (i := 3) (v := .agg #[.int .i64 0, .string M3, .int .i64 S, .int .i64 D, .int .i64 A, .int .i64 U, .int .i64 T, .int .i64 G, .bool false]) rfl (by kernel_rfl) (by kernel_rfl) (by kernel_rfl) (fun _ _ _ h => h) (Or.inl ⟨by kernel_rfl, fun w9 h9 => ?_⟩) HK2.out ?_
  · clear h9
    go_simp
  have r0 := HX2.out.c2 0 _ rfl
  have r1 := HX2.out.c2 1 _ rfl
  have r2 := HX2.out.c2 2 _ rfl
  have r3 := HX2.out.c2 3 _ rfl
  have r4 := HX2.out.c2 4 _ rfl
  have r5 := HX2.out.c2 5 _ rfl
  have r6 := HX2.out.c2 6 _ rfl
  have r7 := HX2.out.c2 7 _ rfl
  have r8 := HX2.out.c2 8 _ rfl
  have rf := fun k => HX2.out.f2 k
  have rl := HX2.out.lt
  have HS3 : Hid _ := ((((((((((show OneB w y2 S D A U T G from ⟨HX2.out.b1⟩).oth2 0 (.int .i64 0)).oth2 1 (.string M3)).oth2 2 (.int .i64 S)).oth2 3 (.int .i64 D)).oth2 4 (.int .i64 A)).oth2 5 (.int .i64 U)).oth2 6 (.int .i64 T)).oth2 7 (.int .i64 G)).oth2 8 (.bool false)).six
  refine held_one 4 (by kernel_rfl) rfl (by kernel_rfl) fun K hK => ?_
  go_simp
  refine hK _ _ HS3.out ?_
  clear hK K HS3
  refine wpAnyH_done (by kernel_rfl) ?_ _
  go_simp
  go_wp2_with fail
  refine bodyPost_ret (v := .agg #[.int .i64 0, .string M3, .int .i64 S, .int .i64 D, .int .i64 A, .int .i64 U, .int .i64 T, .int .i64 G, .bool false]) ?_ rfl ⟨rfl, ?_⟩
  · simp [results, Try.results11, go_sem, r0, r1, r2, r3, r4, r5, r6, r7, r8]
  · exact (((((((((HX2.out.bel.setCell (by simp) _).setCell (by simp) _).setCell (by simp) _).setCell (by simp) _).setCell (by simp) _).setCell (by simp) _).setCell (by simp) _).setCell (by simp) _).setCell (by simp) _)
end Go.Proofs.Ythhbfghbpapklaa
