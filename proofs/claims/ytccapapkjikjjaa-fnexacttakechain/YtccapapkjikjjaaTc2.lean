import Derived.Test.YtccapapkjikjjaaTc1
namespace Go.Proofs.Ytccapapkjikjjaa
open Go.ChangeShapes Go.WideShapes Go.ChangeAt Go.RowKit

set_option maxRecDepth 100000 in
set_option maxHeartbeats 4000000 in
theorem takeChain_any {w : World} {mb n : Nat} {s : ByteArray} (S D A T : Nat) (u g : Int) (h : MemAt w mb s) (hn : s.size = n * 256) (hs : s.size ≤ 65536) (hS1 : 1 ≤ S) (hS : S ≤ 16) (hD4 : D % 4 = 0) (hD : D + S * 16 ≤ s.size) (hA4 : A % 4 = 0) (hA : A + (8 + S * 4) ≤ s.size) (hT : T ≤ 65535) :
    Calls Try.prog 68 #[mv mb n, qA ⟨S, D, A, u, T, g⟩] w fun e w' => ∃ v, e = .returned (tcA (tcR s S D A T u g).1 (tcR s S D A T u g).2.1 v (tcR s S D A T u g).2.2.1) ∧ w'.ownsRow w.heap.size 107 3 v (tcR s S D A T u g).2.2.2.length (buR (tcR s S D A T u g).2.2.2) ∧ Below w.heap.size w w' := by
  have HX : Hid (∀ x, Below ((w.alloc (.cells #[.int .i64 S, .int .i64 D, .int .i64 A, .int .i64 u, .int .i64 T, .int .i64 g] 54)).alloc (.cells #[.int .i64 0, .int .i64 0, .slice none 0 0, .int .i64 0, .int .i64 0, .int .i64 0, .int .i64 0, .int .i64 0, .int .i64 0] 60)).heap.size ((w.alloc (.cells #[.int .i64 S, .int .i64 D, .int .i64 A, .int .i64 u, .int .i64 T, .int .i64 g] 54)).alloc (.cells #[.int .i64 0, .int .i64 0, .slice none 0 0, .int .i64 0, .int .i64 0, .int .i64 0, .int .i64 0, .int .i64 0, .int .i64 0] 60)) x → TwoBx w x #[.int .i64 S, .int .i64 D, .int .i64 A, .int .i64 u, .int .i64 T, .int .i64 g] 54 #[.int .i64 0, .int .i64 0, .slice none 0 0, .int .i64 0, .int .i64 0, .int .i64 0, .int .i64 0, .int .i64 0, .int .i64 0] 60) := fun x h => TwoBx.of _ _ _ _ _ h
  have HM : Hid (∀ x, Below w.heap.size w x → MemAt x mb s) := fun x hx => h.below hx h.lt
  have HWC : Hid _ := fun (x : World) (hm2 : MemAt x mb s) => waitCode_any S A T (D : Int) u g hm2 hn hs hA4 (by omega) hT
  have HTW : Hid _ := fun (x : World) (hm2 : MemAt x mb s) => takeWaiting_any S D A T u g hm2 hn hs hS1 hS hD4 hD hA4 hA hT
  have HE : Hid (tcR s S D A T u g = if wtC s S A T = 0 then twR s S D A T u g else (wtC s S A T, 0, q00, [])) := rfl
  generalize tcR s S D A T u g = TR at *
  generalize twR s S D A T u g = TW at *
  generalize wtC s S A T = WC at *
  have hlt := h.lt
  clear h hn hs hS1 hS hD4 hD hA4 hA hT
  obtain ⟨tc, th, ⟨p0, p1, p2, p3, p4, p5⟩, tz⟩ := TW
  unfold qA at HWC HTW ⊢
  unfold mv at HWC HTW ⊢
  unfold tcA at HTW ⊢
  simp only at HWC HTW ⊢
  by_cases hw : WC = 0
  · subst hw
    rw [if_pos rfl] at HE
    subst TR
    simp only
    go_enter Try.func68, Try.ntmps68
    go_wp2_with fail
    have HX0 : Hid _ := HX.out _ (Below.refl _ _)
    clear HX
    generalize ((w.alloc (.cells #[.int .i64 S, .int .i64 D, .int .i64 A, .int .i64 u, .int .i64 T, .int .i64 g] 54)).alloc (.cells #[.int .i64 0, .int .i64 0, .slice none 0 0, .int .i64 0, .int .i64 0, .int .i64 0, .int .i64 0, .int .i64 0, .int .i64 0] 60)) = W0 at *
    refine Calls.mono (HWC.out _ (HM.out _ HX0.out.bel)) ?_
    rintro e y1 ⟨rfl, hu⟩
    have HX1 : Hid _ := HX0.out.step hu
    clear hu HX0 HWC
    have k0 := HX1.out.c1 0 _ rfl
    have k1 := HX1.out.c1 1 _ rfl
    have k2 := HX1.out.c1 2 _ rfl
    have k3 := HX1.out.c1 3 _ rfl
    have k4 := HX1.out.c1 4 _ rfl
    have k5 := HX1.out.c1 5 _ rfl
    have lt1 := HX1.out.lt
    have lt0 : w.heap.size < y1.heap.size := by omega
    go_wp2_with fail
    refine Calls.mono (HTW.out _ (HM.out _ HX1.out.bel)) ?_
    rintro e y2 ⟨v, rfl, ho, hu⟩
    obtain ⟨ao, cap, rfl⟩ := bu_sl ho
    have HX2 : Hid _ := HX1.out.step hu
    have HO2 : Hid (y2.ownsRow (w.heap.size + 2) 107 3 (.slice ao tz.length cap) tz.length (buR tz)) := bu_weak ho (by omega)
    clear hu ho HX1 k0 k1 k2 k3 k4 k5 lt1 lt0 HTW
    have r0 := HX2.out.c2 0 _ rfl
    have r1 := HX2.out.c2 1 _ rfl
    have r2 := HX2.out.c2 2 _ rfl
    have r3 := HX2.out.c2 3 _ rfl
    have r4 := HX2.out.c2 4 _ rfl
    have r5 := HX2.out.c2 5 _ rfl
    have r6 := HX2.out.c2 6 _ rfl
    have r7 := HX2.out.c2 7 _ rfl
    have r8 := HX2.out.c2 8 _ rfl
    have rf := fun k => HX2.out.f2 k
    have lt2 := HX2.out.lt
    have hnb : (Value.slice ao tz.length cap).ownBlock ≠ some (w.heap.size + 1) := fun e => by have h1 := (HO2.out.lt _ e).1; omega
    go_wp2_with fail
    refine bodyPost_ret (v := .agg #[.int .i64 tc, .int .i64 th, .slice ao tz.length cap, .int .i64 p0, .int .i64 p1, .int .i64 p2, .int .i64 p3, .int .i64 p4, .int .i64 p5]) ?_ rfl ⟨.slice ao tz.length cap, rfl, ?_, ?_⟩
    · simp [results, Try.results68, go_sem, r0, r1, r2, r3, r4, r5, r6, r7, r8]
    · exact own_set (own_set (own_set (own_set (own_set (own_set (own_set (own_set (own_set (bu_weak HO2.out (by omega)) hnb) hnb) hnb) hnb) hnb) hnb) hnb) hnb) hnb
    · exact (((((((((HX2.out.bel.setCell (by simp) _).setCell (by simp) _).setCell (by simp) _).setCell (by simp) _).setCell (by simp) _).setCell (by simp) _).setCell (by simp) _).setCell (by simp) _).setCell (by simp) _)
  · rw [if_neg hw] at HE
    subst TR
    unfold q00
    simp only
    have hw2 : (WC != 0) = true := by simp [hw]
    clear hw HTW
    go_enter Try.func68, Try.ntmps68
    go_wp2_with fail
    have HX0 : Hid _ := HX.out _ (Below.refl _ _)
    clear HX
    generalize ((w.alloc (.cells #[.int .i64 S, .int .i64 D, .int .i64 A, .int .i64 u, .int .i64 T, .int .i64 g] 54)).alloc (.cells #[.int .i64 0, .int .i64 0, .slice none 0 0, .int .i64 0, .int .i64 0, .int .i64 0, .int .i64 0, .int .i64 0, .int .i64 0] 60)) = W0 at *
    refine Calls.mono (HWC.out _ (HM.out _ HX0.out.bel)) ?_
    rintro e y1 ⟨rfl, hu⟩
    have HX1 : Hid _ := HX0.out.step hu
    clear hu HX0 HWC
    have r0 := HX1.out.c2 0 _ rfl
    have r1 := HX1.out.c2 1 _ rfl
    have r2 := HX1.out.c2 2 _ rfl
    have r3 := HX1.out.c2 3 _ rfl
    have r4 := HX1.out.c2 4 _ rfl
    have r5 := HX1.out.c2 5 _ rfl
    have r6 := HX1.out.c2 6 _ rfl
    have r7 := HX1.out.c2 7 _ rfl
    have r8 := HX1.out.c2 8 _ rfl
    have rf := fun k => HX1.out.f2 k
    have lt2 := HX1.out.lt
    go_wp2_with fail
    refine bodyPost_ret (v := .agg #[.int .i64 WC, .int .i64 0, .slice none 0 0, .int .i64 0, .int .i64 0, .int .i64 0, .int .i64 0, .int .i64 0, .int .i64 0]) ?_ rfl ⟨.slice none 0 0, rfl, World.ownsRow_nil _ _ _ _, ?_⟩
    · simp [results, Try.results68, go_sem, r0, r1, r2, r3, r4, r5, r6, r7, r8]
    · exact (((((((((HX1.out.bel.setCell (by simp) _).setCell (by simp) _).setCell (by simp) _).setCell (by simp) _).setCell (by simp) _).setCell (by simp) _).setCell (by simp) _).setCell (by simp) _).setCell (by simp) _)
/-- What TakeChain answers. -/
def tcT (s : ByteArray) (q : QV) : Int × Int × QV × List BU := if 65536 < s.size then (2, 0, q00, []) else if qOk s q = true then tcR s q.size.toNat q.desc.toNat q.avail.toNat q.taken.toNat q.used q.given else (1, 0, q00, [])
/-- What both sides answer. -/
def AnsT (f : Nat) (s : ByteArray) (q : QV) (t : Int × Int × QV × List BU) : Prop := ∀ w : World, Calls Try.prog f #[.string s, qA q] w fun e w' => ∃ v, e = .returned (tcA t.1 t.2.1 v t.2.2.1) ∧ w'.ownsRow w.heap.size 107 3 v t.2.2.2.length (buR t.2.2.2) ∧ Below w.heap.size w w'
set_option maxRecDepth 100000 in
set_option maxHeartbeats 4000000 in
theorem implTC_code (s : ByteArray) (q : QV) (C : Int) (hs : s.size ≤ 1048576) (hc : qkC s q = C) (hn : (C != 0) = true) : AnsT 28 s q (C, 0, q00, []) := by
  intro w
  have HC : Hid _ := fun u => queueCode_any s q u hs
  rw [hc] at HC
  clear hc hs
  obtain ⟨a1, a2, a3, a4, a5, a6⟩ := q
  unfold qA at HC ⊢
  unfold tcA q00
  simp only
  go_enter Try.func28, Try.ntmps28
  go_wp2_with (go_at_call 62; refine Calls.mono (HC.out _) ?_; rintro e u1 ⟨rfl, hu1⟩; have HX1 : Hid _ := TwoBx.of _ _ _ _ _ hu1; clear hu1; have r0 := HX1.out.c2 0 _ rfl; have r1 := HX1.out.c2 1 _ rfl; have r2 := HX1.out.c2 2 _ rfl; have r3 := HX1.out.c2 3 _ rfl; have r4 := HX1.out.c2 4 _ rfl; have r5 := HX1.out.c2 5 _ rfl; have r6 := HX1.out.c2 6 _ rfl; have r7 := HX1.out.c2 7 _ rfl; have r8 := HX1.out.c2 8 _ rfl; have rf := fun k => HX1.out.f2 k; have lt1 := HX1.out.lt)
  refine bodyPost_ret (v := .agg #[.int .i64 C, .int .i64 0, .slice none 0 0, .int .i64 0, .int .i64 0, .int .i64 0, .int .i64 0, .int .i64 0, .int .i64 0]) ?_ rfl ⟨.slice none 0 0, rfl, World.ownsRow_nil _ _ _ _, ?_⟩
  · simp [results, Try.results28, go_sem, r0, r1, r2, r3, r4, r5, r6, r7, r8]
  · exact (((((((((HX1.out.bel.setCell (by simp) _).setCell (by simp) _).setCell (by simp) _).setCell (by simp) _).setCell (by simp) _).setCell (by simp) _).setCell (by simp) _).setCell (by simp) _).setCell (by simp) _)
set_option maxRecDepth 100000 in
set_option maxHeartbeats 4000000 in
theorem implTC_good (s : ByteArray) (S D A T : Nat) (u g : Int) (hp : qOk s ⟨S, D, A, u, T, g⟩ = true) : AnsT 28 s ⟨S, D, A, u, T, g⟩ (tcR s S D A T u g) := by
  intro w
  obtain ⟨hm, hz, ⟨t0, t1⟩, _, ⟨b1, b2, b3⟩, ⟨c1, c2, c3⟩, _⟩ := qOk_b hp
  obtain ⟨m1, m2, m3⟩ := memOk_b hm
  simp only at hz b1 b2 b3 c1 c2 c3 t0 t1
  have hS : 1 ≤ S ∧ S ≤ 16 := by unfold szB at hz; simp at hz; omega
  obtain ⟨n, hN⟩ : ∃ n, s.size = n * 256 := ⟨s.size / 256, by omega⟩
  have hn256 : n ≤ 256 := by omega
  have hc : qkC s ⟨S, D, A, u, T, g⟩ = 0 := by
    unfold qkC
    rw [if_neg (show ¬ 65536 < s.size by omega)]
    exact qF_ok hp
  have HC : Hid _ := fun x => queueCode_any s ⟨S, D, A, u, T, g⟩ x (by omega)
  rw [hc] at HC
  have HR : Hid _ := fun x => readMemory_any s n x hN hn256
  have HT : Hid _ := fun (x : World) (mb : Nat) (h : MemAt x mb s) => takeChain_any S D A T u g h hN m2 hS.1 hS.2 (by omega) (by omega) (by omega) (by omega) (by omega)
  generalize tcR s S D A T u g = TT at *
  obtain ⟨tc, th, ⟨p0, p1, p2, p3, p4, p5⟩, tz⟩ := TT
  clear hp hm hz b1 b2 b3 c1 c2 c3 t0 t1 m1 m2 m3 hN hn256 hc hS
  unfold qA at HC HT ⊢
  unfold mv at HR HT
  unfold tcA at HT ⊢
  simp only at HC HT ⊢
  go_enter Try.func28, Try.ntmps28
  go_wp2_with (go_at_call 62; refine Calls.mono (HC.out _) ?_; rintro e y1 ⟨rfl, hu1⟩; have HX1 : Hid _ := TwoBx.of _ _ _ _ _ hu1; clear hu1)
  have k0 := HX1.out.c1 0 _ rfl
  have k1 := HX1.out.c1 1 _ rfl
  have k2 := HX1.out.c1 2 _ rfl
  have k3 := HX1.out.c1 3 _ rfl
  have k4 := HX1.out.c1 4 _ rfl
  have k5 := HX1.out.c1 5 _ rfl
  go_region_held3 (fun w' => w'.cell? ⟨w.heap.size, 0, none⟩ = some (.int .i64 S) ∧ w'.cell? ⟨w.heap.size, 1, none⟩ = some (.int .i64 D) ∧ w'.cell? ⟨w.heap.size, 2, none⟩ = some (.int .i64 A) ∧ w'.cell? ⟨w.heap.size, 3, none⟩ = some (.int .i64 u) ∧ w'.cell? ⟨w.heap.size, 4, none⟩ = some (.int .i64 T) ∧ w'.cell? ⟨w.heap.size, 5, none⟩ = some (.int .i64 g)) (go_keep) ((first
    | (go_at_call 64; refine Calls.mono (HR.out _) ?_; rintro e y2 ⟨rfl, hM, hu, _⟩; have hb : Below y1.heap.size y1 y2 := ⟨hu.os, hu.tape, hu.output, hu.size, hu.block⟩; have HX2 : Hid _ := HX1.out.step hb; have HM2 : Hid (MemAt y2 y1.heap.size s) := hM; clear hu hb hM k0 k1 k2 k3 k4 k5; have k0 := HX2.out.c1 0 _ rfl; have k1 := HX2.out.c1 1 _ rfl; have k2 := HX2.out.c1 2 _ rfl; have k3 := HX2.out.c1 3 _ rfl; have k4 := HX2.out.c1 4 _ rfl; have k5 := HX2.out.c1 5 _ rfl)
    | (go_at_call 68; refine Calls.mono (HT.out _ _ HM2.out) ?_; rintro e y3 ⟨v, rfl, ho, hu⟩; obtain ⟨ao, cap, rfl⟩ := bu_sl ho; have HX3 : Hid _ := HX2.out.step hu; have HO3 : Hid (y3.ownsRow y2.heap.size 107 3 (.slice ao tz.length cap) tz.length (buR tz)) := ho; clear ho hu k0 k1 k2 k3 k4 k5; have k0 := HX3.out.c1 0 _ rfl; have k1 := HX3.out.c1 1 _ rfl; have k2 := HX3.out.c1 2 _ rfl; have k3 := HX3.out.c1 3 _ rfl; have k4 := HX3.out.c1 4 _ rfl; have k5 := HX3.out.c1 5 _ rfl; have r0 := HX3.out.c2 0 _ rfl; have r1 := HX3.out.c2 1 _ rfl; have r2 := HX3.out.c2 2 _ rfl; have r3 := HX3.out.c2 3 _ rfl; have r4 := HX3.out.c2 4 _ rfl; have r5 := HX3.out.c2 5 _ rfl; have r6 := HX3.out.c2 6 _ rfl; have r7 := HX3.out.c2 7 _ rfl; have r8 := HX3.out.c2 8 _ rfl; have rf := fun k => HX3.out.f2 k; have glt := HX3.out.lt)))
  have l2 := HX2.out.lt
  have hnb : (Value.slice ao tz.length cap).ownBlock ≠ some (w.heap.size + 1) := fun e => by have h1 := (HO3.out.lt _ e).1; omega
  all_goals
    go_wp2_with fail
    refine bodyPost_ret (v := .agg #[.int .i64 tc, .int .i64 th, .slice ao tz.length cap, .int .i64 p0, .int .i64 p1, .int .i64 p2, .int .i64 p3, .int .i64 p4, .int .i64 p5]) ?_ rfl ⟨.slice ao tz.length cap, rfl, ?_, ?_⟩
    · simp [results, Try.results28, go_sem, r0, r1, r2, r3, r4, r5, r6, r7, r8]
    · exact own_set (own_set (own_set (own_set (own_set (own_set (own_set (own_set (own_set (bu_weak HO3.out (by omega)) hnb) hnb) hnb) hnb) hnb) hnb) hnb) hnb) hnb
    · exact (((((((((HX3.out.bel.setCell (by simp) _).setCell (by simp) _).setCell (by simp) _).setCell (by simp) _).setCell (by simp) _).setCell (by simp) _).setCell (by simp) _).setCell (by simp) _).setCell (by simp) _)
theorem qOk_nat {s : ByteArray} {q : QV} (hp : qOk s q = true) : ∃ (S D A T : Nat), q = ⟨S, D, A, q.used, T, q.given⟩ := by
  obtain ⟨sz, ds, a, u, t, g⟩ := q
  obtain ⟨hm, hz, ⟨t0, t1⟩, _, ⟨b1, b2, b3⟩, ⟨c1, c2, c3⟩, _⟩ := qOk_b hp
  simp only at hz b1 b2 b3 c1 c2 c3 t0 t1
  obtain ⟨S, rfl⟩ := Int.eq_ofNat_of_zero_le (show 0 ≤ sz by unfold szB at hz; simp at hz; omega)
  obtain ⟨D, rfl⟩ := Int.eq_ofNat_of_zero_le b2
  obtain ⟨A, rfl⟩ := Int.eq_ofNat_of_zero_le c2
  obtain ⟨T, rfl⟩ := Int.eq_ofNat_of_zero_le t0
  exact ⟨S, D, A, T, rfl⟩
theorem implTC_any (s : ByteArray) (q : QV) (hs : s.size ≤ 1048576) : AnsT 28 s q (tcT s q) := by
  unfold tcT
  by_cases h : 65536 < s.size
  · rw [if_pos h]
    exact implTC_code s q 2 hs (by unfold qkC; rw [if_pos h]) rfl
  rw [if_neg h]
  cases hp : qOk s q
  · exact implTC_code s q 1 hs (by unfold qkC; rw [if_neg h]; exact qF_no hp) rfl
  · obtain ⟨S, D, A, T, hq⟩ := qOk_nat hp
    rw [hq] at hp ⊢
    simp only [Int.toNat_natCast]
    exact implTC_good s S D A T _ _ hp
end Go.Proofs.Ytccapapkjikjjaa
