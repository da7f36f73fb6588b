import Derived.Test.YthhbfghbpapklabRc7
namespace Go.Proofs.Ythhbfghbpapklab
open Go.ChangeShapes Go.WideShapes Go.ChangeAt Go.RowKit

/-- How many wait, and what that tells. -/
def wtN (s : ByteArray) (A T : Nat) : Int := (wv s (A + 4) + 65536 - T) % 65536
def wtC (s : ByteArray) (S A T : Nat) : Int := if wtN s A T = 0 then 5 else if (S : Int) < wtN s A T then 8 else 0
def tcA (c h : Int) (v : Value) (p : QV) : Value := .agg #[.int .i64 c, .int .i64 h, v, .int .i64 p.size, .int .i64 p.desc, .int .i64 p.avail, .int .i64 p.used, .int .i64 p.taken, .int .i64 p.given]
def q00 : QV := ⟨0, 0, 0, 0, 0, 0⟩
/-- The chain that waits. -/
def twR (s : ByteArray) (S D A T : Nat) (u g : Int) : Int × Int × QV × List BU := ((rcH s ⟨S, D, A, u, T, g⟩ (wv s (A + 8 + T % S * 4))).1, wv s (A + 8 + T % S * 4), ⟨S, D, A, u, ((T + 1) % 65536 : Nat), g⟩, (rcH s ⟨S, D, A, u, T, g⟩ (wv s (A + 8 + T % S * 4))).2)
/-- What TakeChain answers of a right queue. -/
def tcR (s : ByteArray) (S D A T : Nat) (u g : Int) : Int × Int × QV × List BU := if wtC s S A T = 0 then twR s S D A T u g else (wtC s S A T, 0, q00, [])
set_option maxRecDepth 100000 in
set_option maxHeartbeats 4000000 in
theorem waitCode_any {w : World} {mb n : Nat} {s : ByteArray} (S A T : Nat) (d u g : Int) (h : MemAt w mb s) (hn : s.size = n * 256) (hs : s.size ≤ 65536) (hA4 : A % 4 = 0) (hA : A + 8 ≤ s.size) (hT : T ≤ 65535) :
    Calls Try.prog 213 #[mv mb n, qA ⟨S, d, A, u, T, g⟩] w fun e w' => e = .returned (.int .i64 (wtC s S A T)) ∧ Below w.heap.size w w' := by
  have HL : Hid _ := LBx.new w #[.int .i64 S, .int .i64 d, .int .i64 A, .int .i64 u, .int .i64 T, .int .i64 g] 24
  have HM : Hid (∀ x, Below w.heap.size w x → MemAt x mb s) := fun x hx => h.below hx h.lt
  have HWD : Hid _ := fun (x : World) (hm : MemAt x mb s) => memWord_any mb n s (A + 4) x hm hn hs (by omega) (by omega)
  rw [show ((A + 4 : Nat) : Int) = (A : Int) + 4 by omega] at HWD
  have hb := wv_b s (A + 4)
  have HE : Hid (wtC s S A T = if (wv s (A + 4) + 65536 - (T : Int)) % 65536 = 0 then 5 else if (S : Int) < (wv s (A + 4) + 65536 - (T : Int)) % 65536 then 8 else 0) := rfl
  generalize wtC s S A T = WC at *
  generalize wv s (A + 4) = V at *
  have ht : (V + 65536 - (T : Int)).tmod 65536 = (V + 65536 - (T : Int)) % 65536 := Int.tmod_eq_emod_of_nonneg (by omega)
  have hAb : (A : Int) ≤ 65536 := by omega
  have hTb : (T : Int) ≤ 65535 := by omega
  have hN : 0 ≤ (V + 65536 - (T : Int)) % 65536 ∧ (V + 65536 - (T : Int)) % 65536 < 65536 := by omega
  have hw1 : IntKind.i64.wrap (V + 65536 - (T : Int)) = V + 65536 - (T : Int) := by rw [IntKind.wrap_i64]; omega
  have hw2 : IntKind.i64.wrap ((V + 65536 - (T : Int)) % 65536) = (V + 65536 - (T : Int)) % 65536 := by rw [IntKind.wrap_i64]; omega
  clear h hn hs hA4 hA hT
  unfold qA
  unfold mv at HWD ⊢
  simp only
  go_enter Try.func213, Try.ntmps213
  go_wp2_with fail
  generalize (w.alloc (.cells #[.int .i64 S, .int .i64 d, .int .i64 A, .int .i64 u, .int .i64 T, .int .i64 g] 24)) = W0 at *
  have k0 := HL.out.cel 0 _ rfl
  have k2 := HL.out.cel 2 _ rfl
  have k4 := HL.out.cel 4 _ rfl
  have lt0 := HL.out.lt
  go_quiet ((go_at_call 216; exact Calls.quiet_of (HWD.out _ (HM.out _ (bdn HL.out.bel _)))))
  generalize hNN : (V + 65536 - (T : Int)) % 65536 = NN at *
  by_cases h0 : NN = 0
  · rw [if_pos h0] at HE
    subst WC
    go_wp2_with fail
    go_ret
    exact ⟨rfl, bdn HL.out.bel _⟩
  rw [if_neg h0] at HE
  have h0b : (NN == 0) = false := by simp [h0]
  by_cases h1 : (S : Int) < NN
  · rw [if_pos h1] at HE
    subst WC
    go_wp2_with fail
    go_ret
    exact ⟨rfl, bdn HL.out.bel _⟩
  · rw [if_neg h1] at HE
    subst WC
    go_wp2_with fail
    go_ret
    exact ⟨rfl, bdn HL.out.bel _⟩
set_option maxRecDepth 100000 in
set_option maxHeartbeats 4000000 in
theorem takeWaiting_any {w : World} {mb n : Nat} {s : ByteArray} (S D A T : Nat) (u g : Int) (h : MemAt w mb s) (hn : s.size = n * 256) (hs : s.size ≤ 65536) (hS1 : 1 ≤ S) (hS : S ≤ 16) (hD4 : D % 4 = 0) (hD : D + S * 16 ≤ s.size) (hA4 : A % 4 = 0) (hA : A + (8 + S * 4) ≤ s.size) (hT : T ≤ 65535) :
    Calls Try.prog 214 #[mv mb n, qA ⟨S, D, A, u, T, g⟩] w fun e w' => ∃ v, e = .returned (tcA (twR s S D A T u g).1 (twR s S D A T u g).2.1 v (twR s S D A T u g).2.2.1) ∧ w'.ownsRow w.heap.size 153 3 v (twR s S D A T u g).2.2.2.length (buR (twR s S D A T u g).2.2.2) ∧ Below w.heap.size w w' := by
  have HX : Hid (∀ x, Below ((w.alloc (.cells #[.int .i64 S, .int .i64 D, .int .i64 A, .int .i64 u, .int .i64 T, .int .i64 g] 24)).alloc (.cells #[.int .i64 0, .int .i64 0, .slice none 0 0, .int .i64 0, .int .i64 0, .int .i64 0, .int .i64 0, .int .i64 0, .int .i64 0] 76)).heap.size ((w.alloc (.cells #[.int .i64 S, .int .i64 D, .int .i64 A, .int .i64 u, .int .i64 T, .int .i64 g] 24)).alloc (.cells #[.int .i64 0, .int .i64 0, .slice none 0 0, .int .i64 0, .int .i64 0, .int .i64 0, .int .i64 0, .int .i64 0, .int .i64 0] 76)) x → TwoBx w x #[.int .i64 S, .int .i64 D, .int .i64 A, .int .i64 u, .int .i64 T, .int .i64 g] 24 #[.int .i64 0, .int .i64 0, .slice none 0 0, .int .i64 0, .int .i64 0, .int .i64 0, .int .i64 0, .int .i64 0, .int .i64 0] 76) := fun x h => TwoBx.of _ _ _ _ _ h
  have HM : Hid (∀ x, Below w.heap.size w x → MemAt x mb s) := fun x hx => h.below hx h.lt
  have hm : T % S < S := Nat.mod_lt _ hS1
  have HAP : Hid _ := fun x => availPlace_any S A T D u T g x (by omega) hS1 hS (by omega)
  have HWD : Hid _ := fun (x : World) (hm2 : MemAt x mb s) => memWord_any mb n s (A + 8 + T % S * 4) x hm2 hn hs (by omega) (by omega)
  have HRC : Hid _ := fun (x : World) (hd : Int) (hm2 : MemAt x mb s) => readChain_any S D (A : Int) u (T : Int) g hd hm2 hn hs hS hD4 hD
  have HNC : Hid _ := fun x => nextCount_any T x (by omega)
  unfold twR
  simp only
  generalize wv s (A + 8 + T % S * 4) = HD at *
  generalize A + 8 + T % S * 4 = AT at *
  have HR1 : Hid _ := fun (x : World) (hm2 : MemAt x mb s) => HRC.out x HD hm2
  clear HRC
  generalize rcH s ⟨S, D, A, u, T, g⟩ HD = RE at *
  obtain ⟨rc, rz⟩ := RE
  generalize (T + 1) % 65536 = T1 at *
  have hlt := h.lt
  clear h hn hs hS1 hS hD4 hD hA4 hA hT hm
  unfold qA at HR1 ⊢
  unfold mv at HWD HR1 ⊢
  unfold chA at HR1
  unfold tcA
  simp only at HR1 ⊢
  go_enter Try.func214, Try.ntmps214
  go_wp2_with fail
  have HX0 : Hid _ := HX.out _ (Below.refl _ _)
  clear HX
  generalize ((w.alloc (.cells #[.int .i64 S, .int .i64 D, .int .i64 A, .int .i64 u, .int .i64 T, .int .i64 g] 24)).alloc (.cells #[.int .i64 0, .int .i64 0, .slice none 0 0, .int .i64 0, .int .i64 0, .int .i64 0, .int .i64 0, .int .i64 0, .int .i64 0] 76)) = W0 at *
  refine Calls.mono (HAP.out _) ?_
  rintro e y1 ⟨rfl, hu⟩
  have HX1 : Hid _ := HX0.out.step hu
  clear hu HX0 HAP
  go_wp2_with fail
  refine Calls.mono (HWD.out _ (HM.out _ HX1.out.bel)) ?_
  rintro e y2 ⟨rfl, q2, hu⟩
  have HX2 : Hid (TwoBx w y2 #[.int .i64 S, .int .i64 D, .int .i64 A, .int .i64 u, .int .i64 T, .int .i64 g] 24 #[.int .i64 0, .int .i64 0, .slice none 0 0, .int .i64 0, .int .i64 0, .int .i64 0, .int .i64 0, .int .i64 0, .int .i64 0] 76) := (hu ▸ HX1.out.step (bdn (Below.refl _ _) q2))
  clear hu HX1 HWD
  have k0 := HX2.out.c1 0 _ rfl
  have k1 := HX2.out.c1 1 _ rfl
  have k2 := HX2.out.c1 2 _ rfl
  have k3 := HX2.out.c1 3 _ rfl
  have k4 := HX2.out.c1 4 _ rfl
  have k5 := HX2.out.c1 5 _ rfl
  have lt2 := HX2.out.lt
  have lt0 : w.heap.size < y2.heap.size := by omega
  go_wp2_with fail
  refine Calls.mono (HR1.out _ (HM.out _ HX2.out.bel)) ?_
  rintro e y3 ⟨v, rfl, ho, hu⟩
  obtain ⟨ao, cap, rfl⟩ := bu_sl ho
  have HX3 : Hid _ := HX2.out.step hu
  have HO3 : Hid (y3.ownsRow (w.heap.size + 2) 153 3 (.slice ao rz.length cap) rz.length (buR rz)) := bu_weak ho (by omega)
  clear hu ho HX2 k0 k1 k2 k3 k4 k5 lt2 lt0 HR1
  have HX4 : Hid _ := HX3.out.step (bx1 y3 (.cells #[.int .i64 rc, .slice ao rz.length cap] 150))
  have HC4 : Hid ((y3.alloc (.cells #[.int .i64 rc, .slice ao rz.length cap] 150)).heap[y3.heap.size]? = some (.cells #[.int .i64 rc, .slice ao rz.length cap] 150 (0, 0))) := heap_new _ _
  have HO4 : Hid ((y3.alloc (.cells #[.int .i64 rc, .slice ao rz.length cap] 150)).ownsRow (w.heap.size + 2) 153 3 (.slice ao rz.length cap) rz.length (buR rz)) := bu_below HO3.out (bx1 _ _)
  have hB4 : w.heap.size + 2 ≤ y3.heap.size := HX3.out.lt
  clear HX3 HO3
  go_upto_region 3 with fail
  generalize (y3.alloc (.cells #[.int .i64 rc, .slice ao rz.length cap] 150)) = y4 at *
  generalize y3.heap.size = B4 at *
  have k4 := HX4.out.c1 4 _ rfl
  have kf := fun k => HX4.out.f1 k
  have lt4 := HX4.out.lt
  have lt0 : w.heap.size < y4.heap.size := by omega
  go_wp2_with fail
  refine Calls.mono (HNC.out _) ?_
  rintro e y5 ⟨rfl, hu⟩
  rw [hu]
  clear hu
  have HX5 : Hid (TwoBx w (y4.setCell ⟨w.heap.size, 4, none⟩ (.int .i64 (T1 : Int))) #[.int .i64 S, .int .i64 D, .int .i64 A, .int .i64 u, .int .i64 T1, .int .i64 g] 24 #[.int .i64 0, .int .i64 0, .slice none 0 0, .int .i64 0, .int .i64 0, .int .i64 0, .int .i64 0, .int .i64 0, .int .i64 0] 76) := ⟨HX4.out.bel.setCell (by simp) _, by simp [World.setCell, Array.getElem?_modify, HX4.out.b1], (Below.heap_setCell _ _ _ _ (by simp)).trans HX4.out.b2⟩
  have HC5 : Hid ((y4.setCell ⟨w.heap.size, 4, none⟩ (.int .i64 (T1 : Int))).heap[B4]? = some (.cells #[.int .i64 rc, .slice ao rz.length cap] 150 (0, 0))) := (Below.heap_setCell _ _ _ _ (by simp; omega)).trans HC4.out
  have hnb0 : (Value.slice ao rz.length cap).ownBlock ≠ some w.heap.size := fun e => by have h1 := (HO4.out.lt _ e).1; omega
  have hnb : (Value.slice ao rz.length cap).ownBlock ≠ some (w.heap.size + 1) := fun e => by have h1 := (HO4.out.lt _ e).1; omega
  have HO5 : Hid ((y4.setCell ⟨w.heap.size, 4, none⟩ (.int .i64 (T1 : Int))).ownsRow (w.heap.size + 2) 153 3 (.slice ao rz.length cap) rz.length (buR rz)) := own_set HO4.out hnb0
  clear HX4 HC4 HO4
  go_upto_region 4 with fail
  generalize (y4.setCell ⟨w.heap.size, 4, none⟩ (.int .i64 (T1 : Int))) = y6 at *
  clear k4 kf lt4 lt0
  have k0 := HX5.out.c1 0 _ rfl
  have k1 := HX5.out.c1 1 _ rfl
  have k2 := HX5.out.c1 2 _ rfl
  have k3 := HX5.out.c1 3 _ rfl
  have k4 := HX5.out.c1 4 _ rfl
  have k5 := HX5.out.c1 5 _ rfl
  have r0 := HX5.out.c2 0 _ rfl
  have r1 := HX5.out.c2 1 _ rfl
  have r2 := HX5.out.c2 2 _ rfl
  have r3 := HX5.out.c2 3 _ rfl
  have r4 := HX5.out.c2 4 _ rfl
  have r5 := HX5.out.c2 5 _ rfl
  have r6 := HX5.out.c2 6 _ rfl
  have r7 := HX5.out.c2 7 _ rfl
  have r8 := HX5.out.c2 8 _ rfl
  have rf := fun k => HX5.out.f2 k
  have x0 := bC HC5.out 0 _ rfl
  have x1 := bC HC5.out 1 _ rfl
  have ltB : B4 < y6.heap.size := (Array.getElem?_eq_some_iff.1 HC5.out).1
  have lt5 := HX5.out.lt
  have lt0 : w.heap.size < y6.heap.size := by omega
  go_wp2_with fail
  refine bodyPost_ret (v := .agg #[.int .i64 rc, .int .i64 HD, .slice ao rz.length cap, .int .i64 S, .int .i64 D, .int .i64 A, .int .i64 u, .int .i64 T1, .int .i64 g]) ?_ rfl ⟨.slice ao rz.length cap, rfl, ?_, ?_⟩
  · simp [results, Try.results214, go_sem, r0, r1, r2, r3, r4, r5, r6, r7, r8]
  · exact own_set (own_set (own_set (own_set (own_set (own_set (own_set (own_set (own_set (bu_weak HO5.out (by omega)) hnb) hnb) hnb) hnb) hnb) hnb) hnb) hnb) hnb
  · exact ((((((((HX5.out.bel.setCell (by simp) _).setCell (by simp) _).setCell (by simp) _).setCell (by simp) _).setCell (by simp) _).setCell (by simp) _).setCell (by simp) _).setCell (by simp) _).setCell (by simp) _

set_option maxRecDepth 100000 in
set_option maxHeartbeats 4000000 in
theorem takeChain_any {w : World} {mb n : Nat} {s : ByteArray} (S D A T : Nat) (u g : Int) (h : MemAt w mb s) (hn : s.size = n * 256) (hs : s.size ≤ 65536) (hS1 : 1 ≤ S) (hS : S ≤ 16) (hD4 : D % 4 = 0) (hD : D + S * 16 ≤ s.size) (hA4 : A % 4 = 0) (hA : A + (8 + S * 4) ≤ s.size) (hT : T ≤ 65535) :
    Calls Try.prog 211 #[mv mb n, qA ⟨S, D, A, u, T, g⟩] w fun e w' => ∃ v, e = .returned (tcA (tcR s S D A T u g).1 (tcR s S D A T u g).2.1 v (tcR s S D A T u g).2.2.1) ∧ w'.ownsRow w.heap.size 153 3 v (tcR s S D A T u g).2.2.2.length (buR (tcR s S D A T u g).2.2.2) ∧ Below w.heap.size w w' := by
  have HX : Hid (∀ x, Below ((w.alloc (.cells #[.int .i64 S, .int .i64 D, .int .i64 A, .int .i64 u, .int .i64 T, .int .i64 g] 24)).alloc (.cells #[.int .i64 0, .int .i64 0, .slice none 0 0, .int .i64 0, .int .i64 0, .int .i64 0, .int .i64 0, .int .i64 0, .int .i64 0] 76)).heap.size ((w.alloc (.cells #[.int .i64 S, .int .i64 D, .int .i64 A, .int .i64 u, .int .i64 T, .int .i64 g] 24)).alloc (.cells #[.int .i64 0, .int .i64 0, .slice none 0 0, .int .i64 0, .int .i64 0, .int .i64 0, .int .i64 0, .int .i64 0, .int .i64 0] 76)) x → TwoBx w x #[.int .i64 S, .int .i64 D, .int .i64 A, .int .i64 u, .int .i64 T, .int .i64 g] 24 #[.int .i64 0, .int .i64 0, .slice none 0 0, .int .i64 0, .int .i64 0, .int .i64 0, .int .i64 0, .int .i64 0, .int .i64 0] 76) := fun x h => TwoBx.of _ _ _ _ _ h
  have HM : Hid (∀ x, Below w.heap.size w x → MemAt x mb s) := fun x hx => h.below hx h.lt
  have HWC : Hid _ := fun (x : World) (hm2 : MemAt x mb s) => waitCode_any S A T (D : Int) u g hm2 hn hs hA4 (by omega) hT
  have HTW : Hid _ := fun (x : World) (hm2 : MemAt x mb s) => takeWaiting_any S D A T u g hm2 hn hs hS1 hS hD4 hD hA4 hA hT
  have HE : Hid (tcR s S D A T u g = if wtC s S A T = 0 then twR s S D A T u g else (wtC s S A T, 0, q00, [])) := rfl
  generalize tcR s S D A T u g = TR at *
  generalize twR s S D A T u g = TW at *
  generalize wtC s S A T = WC at *
  have hlt := h.lt
  clear h hn hs hS1 hS hD4 hD hA4 hA hT
  obtain ⟨tc, th, ⟨p0, p1, p2, p3, p4, p5⟩, tz⟩ := TW
  unfold qA at HWC HTW ⊢
  unfold mv at HWC HTW ⊢
  unfold tcA at HTW ⊢
  simp only at HWC HTW ⊢
  by_cases hw : WC = 0
  · subst hw
    rw [if_pos rfl] at HE
    subst TR
    simp only
    go_enter Try.func211, Try.ntmps211
    go_wp2_with fail
    have HX0 : Hid _ := HX.out _ (Below.refl _ _)
    clear HX
    generalize ((w.alloc (.cells #[.int .i64 S, .int .i64 D, .int .i64 A, .int .i64 u, .int .i64 T, .int .i64 g] 24)).alloc (.cells #[.int .i64 0, .int .i64 0, .slice none 0 0, .int .i64 0, .int .i64 0, .int .i64 0, .int .i64 0, .int .i64 0, .int .i64 0] 76)) = W0 at *
    refine Calls.mono (HWC.out _ (HM.out _ HX0.out.bel)) ?_
    rintro e y1 ⟨rfl, hu⟩
    have HX1 : Hid _ := HX0.out.step hu
    clear hu HX0 HWC
    have k0 := HX1.out.c1 0 _ rfl
    have k1 := HX1.out.c1 1 _ rfl
    have k2 := HX1.out.c1 2 _ rfl
    have k3 := HX1.out.c1 3 _ rfl
    have k4 := HX1.out.c1 4 _ rfl
    have k5 := HX1.out.c1 5 _ rfl
    have lt1 := HX1.out.lt
    have lt0 : w.heap.size < y1.heap.size := by omega
    go_wp2_with fail
    refine Calls.mono (HTW.out _ (HM.out _ HX1.out.bel)) ?_
    rintro e y2 ⟨v, rfl, ho, hu⟩
    obtain ⟨ao, cap, rfl⟩ := bu_sl ho
    have HX2 : Hid _ := HX1.out.step hu
    have HO2 : Hid (y2.ownsRow (w.heap.size + 2) 153 3 (.slice ao tz.length cap) tz.length (buR tz)) := bu_weak ho (by omega)
    clear hu ho HX1 k0 k1 k2 k3 k4 k5 lt1 lt0 HTW
    have r0 := HX2.out.c2 0 _ rfl
    have r1 := HX2.out.c2 1 _ rfl
    have r2 := HX2.out.c2 2 _ rfl
    have r3 := HX2.out.c2 3 _ rfl
    have r4 := HX2.out.c2 4 _ rfl
    have r5 := HX2.out.c2 5 _ rfl
    have r6 := HX2.out.c2 6 _ rfl
    have r7 := HX2.out.c2 7 _ rfl
    have r8 := HX2.out.c2 8 _ rfl
    have rf := fun k => HX2.out.f2 k
    have lt2 := HX2.out.lt
    have hnb : (Value.slice ao tz.length cap).ownBlock ≠ some (w.heap.size + 1) := fun e => by have h1 := (HO2.out.lt _ e).1; omega
    go_wp2_with fail
    refine bodyPost_ret (v := .agg #[.int .i64 tc, .int .i64 th, .slice ao tz.length cap, .int .i64 p0, .int .i64 p1, .int .i64 p2, .int .i64 p3, .int .i64 p4, .int .i64 p5]) ?_ rfl ⟨.slice ao tz.length cap, rfl, ?_, ?_⟩
    · simp [results, Try.results211, go_sem, r0, r1, r2, r3, r4, r5, r6, r7, r8]
    · exact own_set (own_set (own_set (own_set (own_set (own_set (own_set (own_set (own_set (bu_weak HO2.out (by omega)) hnb) hnb) hnb) hnb) hnb) hnb) hnb) hnb) hnb
    · exact (((((((((HX2.out.bel.setCell (by simp) _).setCell (by simp) _).setCell (by simp) _).setCell (by simp) _).setCell (by simp) _).setCell (by simp) _).setCell (by simp) _).setCell (by simp) _).setCell (by simp) _)
  · rw [if_neg hw] at HE
    subst TR
    unfold q00
    simp only
    have hw2 : (WC != 0) = true := by simp [hw]
    clear hw HTW
    go_enter Try.func211, Try.ntmps211
    go_wp2_with fail
    have HX0 : Hid _ := HX.out _ (Below.refl _ _)
    clear HX
    generalize ((w.alloc (.cells #[.int .i64 S, .int .i64 D, .int .i64 A, .int .i64 u, .int .i64 T, .int .i64 g] 24)).alloc (.cells #[.int .i64 0, .int .i64 0, .slice none 0 0, .int .i64 0, .int .i64 0, .int .i64 0, .int .i64 0, .int .i64 0, .int .i64 0] 76)) = W0 at *
    refine Calls.mono (HWC.out _ (HM.out _ HX0.out.bel)) ?_
    rintro e y1 ⟨rfl, hu⟩
    have HX1 : Hid _ := HX0.out.step hu
    clear hu HX0 HWC
    have r0 := HX1.out.c2 0 _ rfl
    have r1 := HX1.out.c2 1 _ rfl
    have r2 := HX1.out.c2 2 _ rfl
    have r3 := HX1.out.c2 3 _ rfl
    have r4 := HX1.out.c2 4 _ rfl
    have r5 := HX1.out.c2 5 _ rfl
    have r6 := HX1.out.c2 6 _ rfl
    have r7 := HX1.out.c2 7 _ rfl
    have r8 := HX1.out.c2 8 _ rfl
    have rf := fun k => HX1.out.f2 k
    have lt2 := HX1.out.lt
    go_wp2_with fail
    refine bodyPost_ret (v := .agg #[.int .i64 WC, .int .i64 0, .slice none 0 0, .int .i64 0, .int .i64 0, .int .i64 0, .int .i64 0, .int .i64 0, .int .i64 0]) ?_ rfl ⟨.slice none 0 0, rfl, World.ownsRow_nil _ _ _ _, ?_⟩
    · simp [results, Try.results211, go_sem, r0, r1, r2, r3, r4, r5, r6, r7, r8]
    · exact (((((((((HX1.out.bel.setCell (by simp) _).setCell (by simp) _).setCell (by simp) _).setCell (by simp) _).setCell (by simp) _).setCell (by simp) _).setCell (by simp) _).setCell (by simp) _).setCell (by simp) _)
/-- What TakeChain answers. -/
def tcT (s : ByteArray) (q : QV) : Int × Int × QV × List BU := if 65536 < s.size then (2, 0, q00, []) else if qOk s q = true then tcR s q.size.toNat q.desc.toNat q.avail.toNat q.taken.toNat q.used q.given else (1, 0, q00, [])
/-- What both sides answer. -/
def AnsT (f : Nat) (s : ByteArray) (q : QV) (t : Int × Int × QV × List BU) : Prop := ∀ w : World, Calls Try.prog f #[.string s, qA q] w fun e w' => ∃ v, e = .returned (tcA t.1 t.2.1 v t.2.2.1) ∧ w'.ownsRow w.heap.size 153 3 v t.2.2.2.length (buR t.2.2.2) ∧ Below w.heap.size w w'
theorem qOk_nat {s : ByteArray} {q : QV} (hp : qOk s q = true) : ∃ (S D A T : Nat), q = ⟨S, D, A, q.used, T, q.given⟩ := by
  obtain ⟨sz, ds, a, u, t, g⟩ := q
  obtain ⟨hm, hz, ⟨t0, t1⟩, _, ⟨b1, b2, b3⟩, ⟨c1, c2, c3⟩, _⟩ := qOk_b hp
  simp only at hz b1 b2 b3 c1 c2 c3 t0 t1
  obtain ⟨S, rfl⟩ := Int.eq_ofNat_of_zero_le (show 0 ≤ sz by unfold szB at hz; simp at hz; omega)
  obtain ⟨D, rfl⟩ := Int.eq_ofNat_of_zero_le b2
  obtain ⟨A, rfl⟩ := Int.eq_ofNat_of_zero_le c2
  obtain ⟨T, rfl⟩ := Int.eq_ofNat_of_zero_le t0
  exact ⟨S, D, A, T, rfl⟩
end Go.Proofs.Ythhbfghbpapklab
