import Derived.Test.YtfagohdmepnkkaaIMap7
import Derived.OrdersHeld
import Derived.Deep.DeepCutAuto
namespace Go.Proofs.Ytfagohdmepnkkaa
open Go.ChangeShapes Go.WideShapes Go.ChangeAt Go.RowKit

theorem held_stepM {P : Program} {md : Region.Mode} {ops : Array Oper} {Q : Exit → Act → World → Prop} {S : World → Prop} {fuel : Nat} {listed : Array Bool} {a : Act} {w : World} {i : Nat} {o : Oper} (ho : ops[i]? = some o)
    (hw : Region.wanted o (yielded ops a.tmps) = true) (h : ∀ K : Act → World → Prop, (∀ a' w', S w' → wpAnyH P md ops Q S fuel (listed.setIfInBounds i true) a' w' → K a' w') → o.wp P a w K Q) :
    wpOp P ops Q i (fun a' w' => S w' ∧ wpAnyH P md ops Q S fuel (listed.setIfInBounds i true) a' w') a w := by
  unfold wpOp
  rw [ho]
  simp only [hw, if_true]
  exact Or.inl (h _ fun a' w' h1 h2 => ⟨h1, h2⟩)
theorem all_oneM {p : Nat → Prop} {i : Nat} (h1 : p i) : ∀ k ∈ [i], p k := by
  intro k hk
  rw [List.mem_singleton.1 hk]
  exact h1
theorem put_any {w : World} {b M B n : Nat} {root : Nat} {s : ByteArray} {fv : Value} {free : List Int} (m : PM) (h : MpS w b M B n root s fv free) (hne : M ≠ b) (hn : s.size = n * 256) (hs : s.size ≤ 65536) (hr : root * 256 + 256 ≤ s.size) (hfr : inF s free) (g0 : -9223372036854775808 ≤ m.flags) (g1 : m.flags ≤ 9223372036854775807) :
    Calls Try.prog 61 #[.pointer (some ⟨M, 0, none⟩), pmA m] w fun e w' => PutA w b M B n root (mapV s root m free) e w' := by
  cases hp : pmOk m
  · exact put_no m g0 g1 hp
  · exact put_yes m h hne hn hs hr hfr g0 g1 hp
theorem Gm.bel {w0 w u : World} {b M : Nat} (g : Gm w u b M) (h : Below w0.heap.size w0 w) (hb : w0.heap.size ≤ b) (hM : w0.heap.size ≤ M) : Below w0.heap.size w0 u :=
  ⟨g.os.trans h.os, g.tape.trans h.tape, g.output.trans h.output, Nat.le_trans h.size g.size, fun k hk => (g.block k (Nat.lt_of_lt_of_le hk h.size) (by omega) (by omega)).trans (h.block k hk)⟩
theorem Gm.rb {w0 w u : World} {b M : Nat} (g : Gm w u b M) (h : RB w0 w) (hb : w0.heap.size < b) (hM : w0.heap.size < M) : RB w0 u :=
  (g.block _ (Array.getElem?_eq_some_iff.1 h).1 (by omega) (by omega)).trans h
theorem any_in {mem : ByteArray} {free : List Int} {N : Nat} (hN : mem.size = N * 256) : free.any (fun x => !(decide (0 ≤ x) && decide (x < (N : Int)))) = true ↔ ¬ inF mem free := by
  unfold inF
  constructor
  · intro h q
    obtain ⟨x, hx, hp⟩ := List.any_eq_true.1 h
    have := q x hx
    simp at hp
    omega
  · intro h
    apply Classical.byContradiction
    intro q
    apply h
    intro x hx
    have h2 : ¬ (!(decide (0 ≤ x) && decide (x < (N : Int)))) = true := fun hp => q (List.any_eq_true.2 ⟨x, hx, hp⟩)
    simp at h2
    omega
set_option maxRecDepth 100000 in
set_option maxHeartbeats 4000000 in
theorem implMaps_free {w : World} {ao : Option Addr} {n cap : Nat} {fv : Value} {free : List Int} (mem : ByteArray) (root : Int) (hm : memOk mem = true) (r0 : 0 ≤ root) (r1 : root * 256 + 256 ≤ (mem.size : Int)) (l1 : n ≤ 1000) (hF : Irow w fv free) (l2 : free.length ≤ 1000) (h : ¬ inF mem free) : CodeA 15 mem root (.slice ao n cap) fv 1 w := by
  unfold CodeA
  have HYR : Hid (0 ≤ root ∧ root * 256 + 256 ≤ (mem.size : Int)) := ⟨r0, r1⟩
  have HNF : Hid (¬ inF mem free) := h
  clear h r0 r1
  obtain ⟨ao2, cap2, rfl⟩ := hF.sl
  have hb := memOk_b hm
  have HS : Hid (mem.size ≤ 65536) := hb.2.1
  obtain ⟨N, hN⟩ : ∃ N, mem.size = N * 256 := ⟨mem.size / 256, by omega⟩
  have HN : Hid (mem.size = N * 256 ∧ N ≤ 256) := (show mem.size = N * 256 ∧ N ≤ 256 from ⟨hN, by omega⟩)
  have hs2 : ¬ 1000 < (n : Int) := by omega
  have hs3 : ¬ 1000 < (free.length : Int) := by omega
  have HTL : Hid (∀ u : World, Calls Try.prog 56 #[.string mem] u fun e w' => e = .returned (.bool false) ∧ w' = u) := fun u => by rw [← show decide (65536 < (mem.size : Int)) = false by simp; omega]; exact tooLong_any mem u
  have HMF : Hid _ := fun u => implMemFault_any mem u (by omega)
  rw [memC_ok hm] at HMF
  have HRM : Hid _ := fun u => readMemory_any mem N u hN (by omega)
  unfold mv at HRM
  have HFH : Hid (Irow w (.slice ao2 free.length cap2) free) := hF
  have HFL : Hid (free.length ≤ 1048576) := (show free.length ≤ 1048576 by omega)
  have HX0 : Hid (RB w (w.alloc (.cells #[.int .i64 0, .int .i64 0, .string ⟨#[]⟩, .slice none 0 0] 31))) := heap_new _ _
  have HB0 : Hid (Below w.heap.size w (w.alloc (.cells #[.int .i64 0, .int .i64 0, .string ⟨#[]⟩, .slice none 0 0] 31))) := (Below.refl _ _).alloc (Nat.le_refl _) _
  have HWS : Hid ((w.alloc (.cells #[.int .i64 0, .int .i64 0, .string ⟨#[]⟩, .slice none 0 0] 31)).heap.size = w.heap.size + 1) := (show (w.alloc (.cells #[.int .i64 0, .int .i64 0, .string ⟨#[]⟩, .slice none 0 0] 31)).heap.size = w.heap.size + 1 by simp)
  clear hF hm hb hN
  go_enter Try.func15, Try.ntmps15
  go_upto_region 1 with fail
  generalize w.alloc (.cells #[.int .i64 0, .int .i64 0, .string ⟨#[]⟩, .slice none 0 0] 31) = W at *
  go_upto_region 6 with (first
    | (go_at_call 56; refine Calls.mono (HTL.out _) ?_; rintro r u1 ⟨rfl, hu1⟩; subst u1)
    | (go_at_call 43; refine Calls.mono (HMF.out _) ?_; rintro r u1 ⟨rfl, hu1⟩; subst u1)
    | (go_at_call 47; refine Calls.mono (HRM.out _) ?_; rintro r u1 ⟨rfl, hm1, hb1, hz1⟩; have HM1 : Hid (MemAt u1 W.heap.size mem) := hm1; have HB1 : Hid (Below w.heap.size w u1) := HB0.out.trans (hb1.mono HB0.out.size); have HX1 : Hid (RB w u1) := HX0.out.below hb1; have HZ1 : Hid (u1.heap.size = W.heap.size + 1) := hz1; clear hm1 hb1 hz1)
    | (go_at_call 57; refine Calls.mono (cloneI_any (HFH.out.below HB1.out) HFL.out) ?_; rintro r u2 ⟨lv, rfl, ho, hb2⟩; obtain ⟨a3, c3, he3⟩ := ho.irow.sl; subst he3; have HO2 : Hid (Orow u2 u1.heap.size (.slice a3 free.length c3) free) := ho; have HM2 : Hid (MemAt u2 W.heap.size mem) := HM1.out.below hb2 HM1.out.lt; have HB2 : Hid (Below w.heap.size w u2) := HB1.out.trans (hb2.mono HB1.out.size); have HX2 : Hid (RB w u2) := HX1.out.below hb2; have HZ2 : Hid (u1.heap.size ≤ u2.heap.size) := hb2.size; clear ho hb2))
  have HLT : Hid (w.heap.size + 1 ≤ W.heap.size ∧ W.heap.size < u2.heap.size) := (show _ ∧ _ by have h1 := HWS.out; have h2 := HZ1.out; have h3 := HZ2.out; exact ⟨by omega, by omega⟩)
  have HV : Hid (MpS (u2.alloc (.cells #[.slice (some ⟨W.heap.size, 0, none⟩) N N, .int .i64 root, .slice a3 free.length c3] 106)) W.heap.size u2.heap.size (w.heap.size + 1) N root mem (.slice a3 free.length c3) free) := (show MpS _ _ _ _ _ _ _ _ _ by
    have h1 := HWS.out
    have h2 := HZ1.out
    exact ⟨HM2.out.alloc1, heap_new _ _, (Frow.of HO2.out (by omega) (by omega) (Nat.le_refl _)).block (fun k hk _ _ => Below.heap_alloc _ _ _ hk)⟩)
  have HBV : Hid (Below w.heap.size w (u2.alloc (.cells #[.slice (some ⟨W.heap.size, 0, none⟩) N N, .int .i64 root, .slice a3 free.length c3] 106))) := HB2.out.alloc HB2.out.size _
  have HXV : Hid (RB w (u2.alloc (.cells #[.slice (some ⟨W.heap.size, 0, none⟩) N N, .int .i64 root, .slice a3 free.length c3] 106))) := HX2.out.below ((Below.refl _ _).alloc (Nat.le_refl _) _)
  generalize u2.alloc (.cells #[.slice (some ⟨W.heap.size, 0, none⟩) N N, .int .i64 root, .slice a3 free.length c3] 106) = V at *
  clear HTL HMF HRM HM1 HB1 HX1 HZ1 HO2 HM2 HB2 HX2 HZ2 HWS HX0 HB0
  generalize u2.heap.size = M at *
  generalize W.heap.size = b at *
  have HLK : Hid (∀ u : World, MpB u M b N root (.slice a3 free.length c3) → Calls Try.prog 58 #[.int .i64 root, .pointer (some ⟨M, 0, none⟩)] u fun e w' => e = .returned (.bool false) ∧ w' = u) := fun u hu => by
    have q := lacks_any hu root
    rw [show (!(decide (0 ≤ (root : Int)) && decide ((root : Int) < (N : Int)))) = false by have h1 := HYR.out; have h2 := HN.out; simp; omega] at q
    exact q
  have HCT : Hid (Calls Try.prog 60 #[.slice ao2 free.length cap2, .func (.func 58) #[] #[.pointer (some ⟨M, 0, none⟩)]] V fun r w' => r = .returned (.bool true) ∧ Below V.heap.size V w') := (show Calls _ _ _ _ _ by
    have q := containsI_any (HFH.out.below HBV.out) HFL.out 58 #[.pointer (some ⟨M, 0, none⟩)] (fun x => !(decide (0 ≤ x) && decide (x < (N : Int)))) lacks_cf (fun x w' hw => (lacks_any (HV.out.box.below hw) x).mono (fun e w2 ⟨q1, q2⟩ => ⟨q1, by rw [q2]; exact Below.refl _ _⟩))
    rw [show free.any (fun x => !(decide (0 ≤ x) && decide (x < (N : Int)))) = true from (any_in HN.out.1).2 HNF.out] at q
    exact q)
  go_upto_region 8 with (first | (go_at_call 58; refine Calls.mono (HLK.out _ HV.out.box) ?_; rintro r u3 ⟨rfl, hu3⟩; subst u3) | (go_at_call 60; refine Calls.mono HCT.out ?_; rintro r V2 ⟨rfl, hv2⟩; have HBW : Hid (Below w.heap.size w V2) := HBV.out.trans (hv2.mono HBV.out.size); have HXW : Hid (RB w V2) := HXV.out.below hv2; have HVW : Hid (MpS V2 b M (w.heap.size + 1) N root mem (.slice a3 free.length c3) free) := HV.out.below hv2; clear hv2 HCT))
  obtain ⟨b0, b1, b2, b3⟩ := cel4P HXW.out
  have bf : ∀ x, V2.frozen? ⟨w.heap.size, x, none⟩ = false := (fun x => by simp [World.frozen?, (show V2.heap[w.heap.size]? = _ from HXW.out)])
  go_wp2
  obtain ⟨r0, r1, r2, r3⟩ := cel4P (HXW.out.put 1 0 ⟨#[]⟩ (.slice none 0 0) rfl)
  exact bodyPost_ret (v := .agg #[.int .i64 1, .int .i64 0, .string ⟨#[]⟩, .slice none 0 0]) (by simp [results, Try.results15, go_sem, r0, r1, r2, r3]) rfl ⟨rfl, (((HBW.out.setCell (Nat.le_refl _) _).setCell (Nat.le_refl _) _).setCell (Nat.le_refl _) _).setCell (Nat.le_refl _) _⟩
set_option maxRecDepth 100000 in
set_option maxHeartbeats 8000000 in
theorem implMaps_good {w : World} {mv0 fv : Value} {ms : List PM} {free : List Int} (mem : ByteArray) (root : Nat) (hM : PMrow w mv0 ms) (hF : Irow w fv free) (hm : memOk mem = true) (hr : root * 256 + 256 ≤ mem.size) (hf : inF mem free) (l1 : ms.length ≤ 1000) (l2 : free.length ≤ 1000) (hfl : ∀ m ∈ ms, -9223372036854775808 ≤ m.flags ∧ m.flags ≤ 9223372036854775807) :
    Calls Try.prog 15 #[.string mem, .int .i64 root, mv0, fv] w fun e w' => Below w.heap.size w w' ∧ (((mst mem root ms free ms.length).c = 0 ∧ ∃ v, e = .returned (resA 0 0 (mst mem root ms free ms.length).mem v) ∧ Orow w' w.heap.size v (mst mem root ms free ms.length).free) ∨ (¬ (mst mem root ms free ms.length).c = 0 ∧ e = .returned (resA (mst mem root ms free ms.length).c (mAt mem root ms free ms.length) ⟨#[]⟩ (.slice none 0 0)))) := by
  obtain ⟨ao, cap, rfl⟩ := hM.sl
  have HYR : Hid (0 ≤ (root : Int) ∧ (root : Int) * 256 + 256 ≤ (mem.size : Int)) := (show _ ∧ _ from ⟨by omega, by omega⟩)
  have HIN : Hid (inF mem free) := hf
  have HR : Hid (root * 256 + 256 ≤ mem.size) := hr
  have HM : Hid (PMrow w (.slice ao ms.length cap) ms) := hM
  have HFG : Hid (∀ m ∈ ms, -9223372036854775808 ≤ m.flags ∧ m.flags ≤ 9223372036854775807) := hfl
  clear hM hf hr hfl
  obtain ⟨ao2, cap2, rfl⟩ := hF.sl
  have hb := memOk_b hm
  have HS : Hid (mem.size ≤ 65536) := hb.2.1
  obtain ⟨N, hN⟩ : ∃ N, mem.size = N * 256 := ⟨mem.size / 256, by omega⟩
  have HN : Hid (mem.size = N * 256 ∧ N ≤ 256) := (show mem.size = N * 256 ∧ N ≤ 256 from ⟨hN, by omega⟩)
  have hs2 : ¬ 1000 < (ms.length : Int) := by omega
  have hs3 : ¬ 1000 < (free.length : Int) := by omega
  have HTL : Hid (∀ u : World, Calls Try.prog 56 #[.string mem] u fun e w' => e = .returned (.bool false) ∧ w' = u) := fun u => by rw [← show decide (65536 < (mem.size : Int)) = false by simp; omega]; exact tooLong_any mem u
  have HMF : Hid _ := fun u => implMemFault_any mem u (by omega)
  rw [memC_ok hm] at HMF
  have HRM : Hid _ := fun u => readMemory_any mem N u hN (by omega)
  unfold mv at HRM
  have HFH : Hid (Irow w (.slice ao2 free.length cap2) free) := hF
  have HFL : Hid (free.length ≤ 1048576) := (show free.length ≤ 1048576 by omega)
  have HX0 : Hid (RB w (w.alloc (.cells #[.int .i64 0, .int .i64 0, .string ⟨#[]⟩, .slice none 0 0] 31))) := heap_new _ _
  have HB0 : Hid (Below w.heap.size w (w.alloc (.cells #[.int .i64 0, .int .i64 0, .string ⟨#[]⟩, .slice none 0 0] 31))) := (Below.refl _ _).alloc (Nat.le_refl _) _
  have HWS : Hid ((w.alloc (.cells #[.int .i64 0, .int .i64 0, .string ⟨#[]⟩, .slice none 0 0] 31)).heap.size = w.heap.size + 1) := (show (w.alloc (.cells #[.int .i64 0, .int .i64 0, .string ⟨#[]⟩, .slice none 0 0] 31)).heap.size = w.heap.size + 1 by simp)
  clear hF hm hb hN
  go_enter Try.func15, Try.ntmps15
  go_upto_region 1 with fail
  generalize w.alloc (.cells #[.int .i64 0, .int .i64 0, .string ⟨#[]⟩, .slice none 0 0] 31) = W at *
  go_upto_region 6 with (first
    | (go_at_call 56; refine Calls.mono (HTL.out _) ?_; rintro r u1 ⟨rfl, hu1⟩; subst u1)
    | (go_at_call 43; refine Calls.mono (HMF.out _) ?_; rintro r u1 ⟨rfl, hu1⟩; subst u1)
    | (go_at_call 47; refine Calls.mono (HRM.out _) ?_; rintro r u1 ⟨rfl, hm1, hb1, hz1⟩; have HM1 : Hid (MemAt u1 W.heap.size mem) := hm1; have HB1 : Hid (Below w.heap.size w u1) := HB0.out.trans (hb1.mono HB0.out.size); have HX1 : Hid (RB w u1) := HX0.out.below hb1; have HZ1 : Hid (u1.heap.size = W.heap.size + 1) := hz1; clear hm1 hb1 hz1)
    | (go_at_call 57; refine Calls.mono (cloneI_any (HFH.out.below HB1.out) HFL.out) ?_; rintro r u2 ⟨lv, rfl, ho, hb2⟩; obtain ⟨a3, c3, he3⟩ := ho.irow.sl; subst he3; have HO2 : Hid (Orow u2 u1.heap.size (.slice a3 free.length c3) free) := ho; have HM2 : Hid (MemAt u2 W.heap.size mem) := HM1.out.below hb2 HM1.out.lt; have HB2 : Hid (Below w.heap.size w u2) := HB1.out.trans (hb2.mono HB1.out.size); have HX2 : Hid (RB w u2) := HX1.out.below hb2; have HZ2 : Hid (u1.heap.size ≤ u2.heap.size) := hb2.size; clear ho hb2))
  have HLT : Hid (w.heap.size + 1 ≤ W.heap.size ∧ W.heap.size < u2.heap.size) := (show _ ∧ _ by have h1 := HWS.out; have h2 := HZ1.out; have h3 := HZ2.out; exact ⟨by omega, by omega⟩)
  have HV : Hid (MpS (u2.alloc (.cells #[.slice (some ⟨W.heap.size, 0, none⟩) N N, .int .i64 root, .slice a3 free.length c3] 106)) W.heap.size u2.heap.size (w.heap.size + 1) N root mem (.slice a3 free.length c3) free) := (show MpS _ _ _ _ _ _ _ _ _ by
    have h1 := HWS.out
    have h2 := HZ1.out
    exact ⟨HM2.out.alloc1, heap_new _ _, (Frow.of HO2.out (by omega) (by omega) (Nat.le_refl _)).block (fun k hk _ _ => Below.heap_alloc _ _ _ hk)⟩)
  have HBV : Hid (Below w.heap.size w (u2.alloc (.cells #[.slice (some ⟨W.heap.size, 0, none⟩) N N, .int .i64 root, .slice a3 free.length c3] 106))) := HB2.out.alloc HB2.out.size _
  have HXV : Hid (RB w (u2.alloc (.cells #[.slice (some ⟨W.heap.size, 0, none⟩) N N, .int .i64 root, .slice a3 free.length c3] 106))) := HX2.out.below ((Below.refl _ _).alloc (Nat.le_refl _) _)
  generalize u2.alloc (.cells #[.slice (some ⟨W.heap.size, 0, none⟩) N N, .int .i64 root, .slice a3 free.length c3] 106) = V at *
  clear HTL HMF HRM HM1 HB1 HX1 HZ1 HO2 HM2 HB2 HX2 HZ2 HWS HX0 HB0
  generalize u2.heap.size = M at *
  generalize W.heap.size = b at *
  have HLK : Hid (∀ u : World, MpB u M b N root (.slice a3 free.length c3) → Calls Try.prog 58 #[.int .i64 root, .pointer (some ⟨M, 0, none⟩)] u fun e w' => e = .returned (.bool false) ∧ w' = u) := fun u hu => by
    have q := lacks_any hu root
    rw [show (!(decide (0 ≤ (root : Int)) && decide ((root : Int) < (N : Int)))) = false by have h1 := HYR.out; have h2 := HN.out; simp; omega] at q
    exact q
  have HCT : Hid (Calls Try.prog 60 #[.slice ao2 free.length cap2, .func (.func 58) #[] #[.pointer (some ⟨M, 0, none⟩)]] V fun r w' => r = .returned (.bool false) ∧ Below V.heap.size V w') := (show Calls _ _ _ _ _ by
    have q := containsI_any (HFH.out.below HBV.out) HFL.out 58 #[.pointer (some ⟨M, 0, none⟩)] (fun x => !(decide (0 ≤ x) && decide (x < (N : Int)))) lacks_cf (fun x w' hw => (lacks_any (HV.out.box.below hw) x).mono (fun e w2 ⟨q1, q2⟩ => ⟨q1, by rw [q2]; exact Below.refl _ _⟩))
    rw [show free.any (fun x => !(decide (0 ≤ x) && decide (x < (N : Int)))) = false from Bool.eq_false_iff.2 (fun q => (any_in HN.out.1).1 q HIN.out)] at q
    exact q)
  go_upto_region 10 with (first | (go_at_call 58; refine Calls.mono (HLK.out _ HV.out.box) ?_; rintro r u3 ⟨rfl, hu3⟩; subst u3) | (go_at_call 60; refine Calls.mono HCT.out ?_; rintro r V2 ⟨rfl, hv2⟩; have HBW : Hid (Below w.heap.size w V2) := HBV.out.trans (hv2.mono HBV.out.size); have HXW : Hid (RB w V2) := HXV.out.below hv2; have HVW : Hid (MpS V2 b M (w.heap.size + 1) N root mem (.slice a3 free.length c3) free) := HV.out.below hv2; clear hv2 HCT))
  clear HLK HV HBV HXV
  have HNE : Hid (M ≠ b) := (show M ≠ b by have := HLT.out; omega)
  go_loopw [49] (fun i wr => ∃ (k : Nat) (v2 : Value), k ≤ ms.length ∧ i = .int .i64 k ∧ (mst mem root ms free k).c = 0 ∧ MpS wr b M (w.heap.size + 1) N root (mst mem root ms free k).mem v2 (mst mem root ms free k).free ∧ Below w.heap.size w wr ∧ RB w wr) (fun i _ => ms.length - (intOf i).toNat)
  case atStart => exact ⟨0, _, Nat.zero_le _, rfl, rfl, HVW.out, HBW.out, HXW.out⟩
  case round =>
    clear HVW HBW HXW
    obtain ⟨k, v2, hk, rfl, hc0, hS, hb, hx⟩ := hrel
    have HOK : Hid _ := mst_ok (ms := ms) HR.out HIN.out k hc0
    have HC0 : Hid ((mst mem root ms free k).c = 0) := hc0
    have HSK : Hid (MpS wr b M (w.heap.size + 1) N root (mst mem root ms free k).mem v2 (mst mem root ms free k).free) := hS
    have HBW : Hid (Below w.heap.size w wr) := hb
    have HXW : Hid (RB w wr) := hx
    clear hS hb hx hc0
    by_cases hlt : k < ms.length
    · obtain ⟨g, o, c4, hv, _, hg, hc⟩ := HM.out.resolve_left (fun h => by rw [h.1] at hlt; simp at hlt)
      injection hv with hv1 hv2 hv3
      subst hv1 hv3
      obtain ⟨d0, d1, d2, d3⟩ := hc.below HBW.out hg k hlt
      obtain ⟨z, hz⟩ : ∃ z, ms[k] = z := ⟨_, rfl⟩
      rw [hz] at d0 d1 d2 d3
      have HGD : Hid (ms.getD k pm0 = z) := (show ms.getD k pm0 = z by rw [← hz]; simp [List.getD, List.getElem?_eq_getElem hlt])
      have HFZ : Hid _ := HFG.out z (by rw [← hz]; exact List.getElem_mem hlt)
      have HNX : Hid (mst mem root ms free (k + 1) = mapV (mst mem root ms free k).mem root z (mst mem root ms free k).free) := (show mst mem root ms free (k + 1) = _ by
        conv => lhs; unfold mst
        rw [if_pos HC0.out, HGD.out])
      obtain ⟨s1, hs1'⟩ : ∃ s1, (mst mem root ms free k).mem = s1 := ⟨_, rfl⟩
      obtain ⟨f1, hf1⟩ : ∃ f1, (mst mem root ms free k).free = f1 := ⟨_, rfl⟩
      rw [hs1', hf1] at HNX HOK HSK
      have HPU : Hid (∀ u : World, MpS u b M (w.heap.size + 1) N root s1 v2 f1 → Calls Try.prog 61 #[.pointer (some ⟨M, 0, none⟩), pmA z] u fun e w' => PutA u b M (w.heap.size + 1) N root (mst mem root ms free (k + 1)) e w') := fun u hu => by
        rw [HNX.out]
        exact put_any z hu HNE.out (by rw [HOK.out.1]; exact HN.out.1) (by rw [HOK.out.1]; exact HS.out) (by rw [HOK.out.1]; exact HR.out) (fun x hx => by rw [HOK.out.1]; exact HIN.out x (HOK.out.2 x hx)) HFZ.out.1 HFZ.out.2
      obtain ⟨va, fr, fl, lg⟩ := z
      unfold pmA at HPU
      simp only at d0 d1 d2 d3 HPU
      have hk0 : (0 : Int) ≤ (k : Int) := by omega
      have hk1 : (k : Int) < (ms.length : Int) := by omega
      clear hc hz hs1' hf1
      go_upto_region 12 with fail
      have HS4 : Hid (MpS (wr.alloc (.cells #[.int .i64 va, .int .i64 fr, .int .i64 fl, .bool lg] 101)) b M (w.heap.size + 1) N root s1 v2 f1) := HSK.out.below ((Below.refl _ _).alloc (Nat.le_refl _) _)
      have HB4 : Hid (Below w.heap.size w (wr.alloc (.cells #[.int .i64 va, .int .i64 fr, .int .i64 fl, .bool lg] 101))) := HBW.out.alloc HBW.out.size _
      have HX4 : Hid (RB w (wr.alloc (.cells #[.int .i64 va, .int .i64 fr, .int .i64 fl, .bool lg] 101))) := HXW.out.below ((Below.refl _ _).alloc (Nat.le_refl _) _)
      have HP4 : Hid ((wr.alloc (.cells #[.int .i64 va, .int .i64 fr, .int .i64 fl, .bool lg] 101)).heap[wr.heap.size]? = some (.cells #[.int .i64 va, .int .i64 fr, .int .i64 fl, .bool lg] 101 (0, 0))) := heap_new _ _
      generalize wr.alloc (.cells #[.int .i64 va, .int .i64 fr, .int .i64 fl, .bool lg] 101) = W4 at *
      generalize wr.heap.size = p4 at *
      clear HSK HBW HXW d0 d1 d2 d3
      obtain ⟨d0, d1, d2, d3⟩ := cel4P HP4.out
      by_cases hcz : (mst mem root ms free (k + 1)).c = 0
      · have HCZ : Hid ((mst mem root ms free (k + 1)).c = 0) := hcz
        clear hcz
        go_wp2_with (go_at_call 61; refine Calls.mono (HPU.out _ HS4.out) ?_; rintro r u4 ⟨rfl, hg4, hq4⟩; rw [HCZ.out]; have HQ4 : Hid _ := hq4 HCZ.out; have HB5 : Hid (Below w.heap.size w u4) := hg4.bel HB4.out (by have := HLT.out; omega) (by have := HLT.out; omega); have HX5 : Hid (RB w u4) := hg4.rb HX4.out (by have := HLT.out; omega) (by have := HLT.out; omega); clear hg4 hq4 HPU)
        obtain ⟨v5, hv5⟩ := HQ4.out
        refine ⟨⟨k + 1, v5, hlt, by go_num, HCZ.out, hv5, HB5.out, HX5.out⟩, by simp [intOf]; omega⟩
      · obtain ⟨q1, q2⟩ := mst_stay hcz HC0.out (ms.length - (k + 1))
        rw [show k + 1 + (ms.length - (k + 1)) = ms.length by omega] at q1 q2
        have HQ1 : Hid (mst mem root ms free ms.length = mst mem root ms free (k + 1)) := q1
        have HQ2 : Hid (mAt mem root ms free ms.length = k) := q2
        obtain ⟨c, hcc⟩ : ∃ c, (mst mem root ms free (k + 1)).c = c := ⟨_, rfl⟩
        rw [hcc] at hcz
        have HCC : Hid ((mst mem root ms free (k + 1)).c = c) := hcc
        have hc2 : (c == 0) = false := by simpa using hcz
        have HCZ : Hid (¬ c = 0) := hcz
        clear q1 q2 hcc hcz
        go_wp2_with (go_at_call 61; refine Calls.mono (HPU.out _ HS4.out) ?_; rintro r u4 ⟨rfl, hg4, hq4⟩; rw [HCC.out]; have HB5 : Hid (Below w.heap.size w u4) := hg4.bel HB4.out (by have := HLT.out; omega) (by have := HLT.out; omega); have HX5 : Hid (RB w u4) := hg4.rb HX4.out (by have := HLT.out; omega) (by have := HLT.out; omega); obtain ⟨b0, b1, b2, b3⟩ := cel4P HX5.out; have bf : ∀ x, u4.frozen? ⟨w.heap.size, x, none⟩ = false := (fun x => by simp [World.frozen?, (show u4.heap[w.heap.size]? = _ from HX5.out)]); clear hg4 hq4 HPU)
        obtain ⟨r0, r1, r2, r3⟩ := cel4P (HX5.out.put c k ⟨#[]⟩ (.slice none 0 0) rfl)
        refine bodyPost_ret (v := .agg #[.int .i64 c, .int .i64 k, .string ⟨#[]⟩, .slice none 0 0]) (by simp [results, Try.results15, go_sem, r0, r1, r2, r3]) rfl ⟨(((HB5.out.setCell (Nat.le_refl _) _).setCell (Nat.le_refl _) _).setCell (Nat.le_refl _) _).setCell (Nat.le_refl _) _, .inr ⟨by rw [HQ1.out, HCC.out]; exact HCZ.out, by rw [HQ1.out, HCC.out, HQ2.out]; rfl⟩⟩
    · obtain rfl : k = ms.length := by omega
      obtain ⟨a10, c10, he10⟩ := HSK.out.row.sl
      subst he10
      obtain ⟨s1, hs1'⟩ : ∃ s1, (mst mem root ms free ms.length).mem = s1 := ⟨_, rfl⟩
      obtain ⟨f1, hf1⟩ : ∃ f1, (mst mem root ms free ms.length).free = f1 := ⟨_, rfl⟩
      have HS1 : Hid ((mst mem root ms free ms.length).mem = s1) := hs1'
      have HF1 : Hid ((mst mem root ms free ms.length).free = f1) := hf1
      rw [hs1', hf1] at HSK HOK
      have HTX : Hid (∀ u : World, MemAt u b s1 → Calls Try.prog 51 #[.slice (some ⟨b, 0, none⟩) N N] u fun e w' => e = .returned (.string s1) ∧ Below u.heap.size u w') := fun u hu => memText_any b s1 N u hu (by rw [HOK.out.1]; exact HN.out.1) HN.out.2
      have HMW : Hid (M ≠ w.heap.size) := (show M ≠ w.heap.size by have := HLT.out; omega)
      clear hs1' hf1
      go_upto_region 16 with fail
      have HSB : Hid (∀ w' : World, MpB w' M b N root (.slice a10 f1.length c10) → w'.cell? ⟨M, 0, none⟩ = some (.slice (some ⟨b, 0, none⟩) N N) ∧ w'.cell? ⟨M, 2, none⟩ = some (.slice a10 f1.length c10)) := fun w' hW => ⟨hW.cel.1, hW.cel.2.2⟩
      refine wp_region_held (S := fun w' => w'.cell? ⟨M, 0, none⟩ = some (.slice (some ⟨b, 0, none⟩) N N) ∧ w'.cell? ⟨M, 2, none⟩ = some (.slice a10 f1.length c10)) (by kernel_rfl) ?_
      change wpAnyH _ _ _ _ _ _ _ _ (World.drew _)
      have HSK2 : Hid (MpS (World.drew wr) b M (w.heap.size + 1) N root s1 (.slice a10 f1.length c10) f1) := HSK.out.below (Below.refl _ _).drew
      have HB2 : Hid (Below w.heap.size w (World.drew wr)) := HBW.out.drew
      have HX2 : Hid (RB w (World.drew wr)) := HXW.out.below (Below.refl _ _).drew
      clear HSK HBW HXW
      generalize World.drew wr = s at *
      refine wpAnyH_take (i := 0) (v := .pointer (some ⟨M, 0, none⟩)) rfl (by kernel_rfl) (by kernel_rfl) (by kernel_rfl) (fun _ _ _ h => h) (Or.inl ⟨by rfl, fun w9 _ => ?_⟩) (HSB.out _ HSK2.out.box) ?_
      · go_simp
      refine wpAnyH_take (i := 3) (v := .pointer (some ⟨M, 2, none⟩)) rfl (by kernel_rfl) (by kernel_rfl) (by kernel_rfl) (fun _ _ _ h => h) (Or.inl ⟨by rfl, fun w9 _ => ?_⟩) (HSB.out _ HSK2.out.box) ?_
      · go_simp
      refine wpAnyH_take (i := 1) (v := .slice (some ⟨b, 0, none⟩) N N) rfl (by kernel_rfl) (by kernel_rfl) (by kernel_rfl) (fun _ _ _ h => h) (Or.inl ⟨by rfl, fun w9 h9 => ?_⟩) (HSB.out _ HSK2.out.box) ?_
      · have h91 := h9.1
        go_simp
      refine wpAnyH_take (i := 4) (v := .slice a10 f1.length c10) rfl (by kernel_rfl) (by kernel_rfl) (by kernel_rfl) (fun _ _ _ h => h) (Or.inl ⟨by rfl, fun w9 h9 => ?_⟩) (HSB.out _ HSK2.out.box) ?_
      · have h91 := h9.2
        go_simp
      refine wpAnyH_all (rs := [2]) (by kernel_rfl) (by simp) (all_oneM (held_stepM rfl (by rfl) fun K hK => ?_))
      have HA : Hid _ := HTX.out _ HSK2.out.mem
      clear HTX
      go_simp
      refine Calls.mono HA.out ?_
      clear HA
      rintro r9 W1 ⟨rfl, hb1⟩
      have HSK3 : Hid (MpS W1 b M (w.heap.size + 1) N root s1 (.slice a10 f1.length c10) f1) := HSK2.out.below hb1
      have HB3 : Hid (Below w.heap.size w W1) := HB2.out.trans (hb1.mono HB2.out.size)
      have HX3 : Hid (RB w W1) := HX2.out.below hb1
      clear hb1 HSK2 HB2 HX2
      refine hK _ _ (HSB.out _ HSK3.out.box) ?_
      clear hK K
      refine wpAnyH_take (i := 5) (v := .agg #[.int .i64 0, .int .i64 0, .string s1, .slice a10 f1.length c10]) rfl (by kernel_rfl) (by kernel_rfl) (by kernel_rfl) (fun _ _ _ h => h) (Or.inl ⟨by rfl, fun w9 _ => ?_⟩) (HSB.out _ HSK3.out.box) ?_
      · go_simp
      refine wpAnyH_all (rs := [6]) (by kernel_rfl) (by simp) (all_oneM (held_stepM rfl (by rfl) fun K hK => ?_))
      obtain ⟨b0, b1, b2, b3⟩ := cel4P HX3.out
      have bf : ∀ x, W1.frozen? ⟨w.heap.size, x, none⟩ = false := (fun x => by simp [World.frozen?, (show W1.heap[w.heap.size]? = _ from HX3.out)])
      have HBX : Hid (∀ x y z t : Value, MpB ((((W1.setCell ⟨w.heap.size, 0, none⟩ x).setCell ⟨w.heap.size, 1, none⟩ y).setCell ⟨w.heap.size, 2, none⟩ z).setCell ⟨w.heap.size, 3, none⟩ t) M b N root (.slice a10 f1.length c10)) := fun x y z t => (Below.heap_setCell _ _ _ _ HMW.out).trans ((Below.heap_setCell _ _ _ _ HMW.out).trans ((Below.heap_setCell _ _ _ _ HMW.out).trans ((Below.heap_setCell _ _ _ _ HMW.out).trans HSK3.out.box)))
      go_simp
      refine hK _ _ (HSB.out _ (HBX.out _ _ _ _)) ?_
      clear hK K HBX HSB b0 b1 b2 b3 bf
      refine wpAnyH_done (by kernel_rfl) ?_ _
      go_simp
      go_wp2
      obtain ⟨r0, r1, r2, r3⟩ := cel4P (HX3.out.put 0 0 s1 (.slice a10 f1.length c10) rfl)
      refine bodyPost_ret (v := .agg #[.int .i64 0, .int .i64 0, .string s1, .slice a10 f1.length c10]) (by simp [results, Try.results15, go_sem, r0, r1, r2, r3]) rfl ⟨(((HB3.out.setCell (Nat.le_refl _) _).setCell (Nat.le_refl _) _).setCell (Nat.le_refl _) _).setCell (Nat.le_refl _) _, .inl ⟨HC0.out, _, by rw [HS1.out]; rfl, ?_⟩⟩
      rw [HF1.out]
      exact ((((HSK3.out.row.orow.set (Nat.lt_succ_self _)).set (Nat.lt_succ_self _)).set (Nat.lt_succ_self _)).set (Nat.lt_succ_self _)).weak (Nat.le_succ _)
end Go.Proofs.Ytfagohdmepnkkaa
