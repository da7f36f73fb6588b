import Derived.Test.YtfagohdmepnkkaaIMap6
namespace Go.Proofs.Ytfagohdmepnkkaa
open Go.ChangeShapes Go.WideShapes Go.ChangeAt Go.RowKit

theorem Frow.of {u : World} {B B' b M : Nat} {v : Value} {zs : List Int} (h : Orow u B v zs) (hB : B' ≤ B) (hb : b < B) (hM : u.heap.size ≤ M) : Frow u b M B' v zs := by
  rcases h with h | ⟨g, o, cap, cur, h1, h2, h3, h4, h5⟩
  · exact .inl h
  · have := (Array.getElem?_eq_some_iff.1 h4).1
    exact .inr ⟨g, o, cap, cur, h1, by omega, by omega, by omega, h3, h4, h5⟩
theorem MemAt.alloc1 {u : World} {b : Nat} {s : ByteArray} {x : _} (h : MemAt u b s) : MemAt (u.alloc x) b s := h.below ((Below.refl _ _).alloc (Nat.le_refl _) _) h.lt
set_option maxRecDepth 100000 in
set_option maxHeartbeats 4000000 in
theorem implMaps_size {w : World} {ao ao2 : Option Addr} {n n2 cap cap2 : Nat} (mem : ByteArray) (root : Int) (h : 65536 < mem.size ∨ 1000 < n ∨ 1000 < n2) : CodeA 15 mem root (.slice ao n cap) (.slice ao2 n2 cap2) 2 w := by
  unfold CodeA
  have HX0 : Hid (RB w (w.alloc (.cells #[.int .i64 0, .int .i64 0, .string ⟨#[]⟩, .slice none 0 0] 31))) := heap_new _ _
  have HB0 : Hid (Below w.heap.size w (w.alloc (.cells #[.int .i64 0, .int .i64 0, .string ⟨#[]⟩, .slice none 0 0] 31))) := (Below.refl _ _).alloc (Nat.le_refl _) _
  by_cases h1 : 65536 < (mem.size : Int)
  · have HTL : Hid (∀ u : World, Calls Try.prog 56 #[.string mem] u fun e w' => e = .returned (.bool true) ∧ w' = u) := fun u => by rw [← show decide (65536 < (mem.size : Int)) = true by simp; omega]; exact tooLong_any mem u
    clear h
    go_enter Try.func15, Try.ntmps15
    go_upto_region 2 with (go_at_call 56; refine Calls.mono (HTL.out _) ?_; rintro r u1 ⟨rfl, hu1⟩; subst u1)
    generalize w.alloc (.cells #[.int .i64 0, .int .i64 0, .string ⟨#[]⟩, .slice none 0 0] 31) = W at *
    obtain ⟨b0, b1, b2, b3⟩ := cel4P HX0.out
    have bf : ∀ x, W.frozen? ⟨w.heap.size, x, none⟩ = false := (fun x => by simp [World.frozen?, (show W.heap[w.heap.size]? = _ from HX0.out)])
    go_wp2
    obtain ⟨r0, r1, r2, r3⟩ := cel4P (HX0.out.put 2 0 ⟨#[]⟩ (.slice none 0 0) rfl)
    exact bodyPost_ret (v := .agg #[.int .i64 2, .int .i64 0, .string ⟨#[]⟩, .slice none 0 0]) (by simp [results, Try.results15, go_sem, r0, r1, r2, r3]) rfl ⟨rfl, (((HB0.out.setCell (Nat.le_refl _) _).setCell (Nat.le_refl _) _).setCell (Nat.le_refl _) _).setCell (Nat.le_refl _) _⟩
  by_cases h2 : 1000 < (n : Int)
  · have HTL : Hid (∀ u : World, Calls Try.prog 56 #[.string mem] u fun e w' => e = .returned (.bool false) ∧ w' = u) := fun u => by rw [← show decide (65536 < (mem.size : Int)) = false by simp; omega]; exact tooLong_any mem u
    clear h
    go_enter Try.func15, Try.ntmps15
    go_upto_region 2 with (go_at_call 56; refine Calls.mono (HTL.out _) ?_; rintro r u1 ⟨rfl, hu1⟩; subst u1)
    generalize w.alloc (.cells #[.int .i64 0, .int .i64 0, .string ⟨#[]⟩, .slice none 0 0] 31) = W at *
    obtain ⟨b0, b1, b2, b3⟩ := cel4P HX0.out
    have bf : ∀ x, W.frozen? ⟨w.heap.size, x, none⟩ = false := (fun x => by simp [World.frozen?, (show W.heap[w.heap.size]? = _ from HX0.out)])
    go_wp2
    obtain ⟨r0, r1, r2, r3⟩ := cel4P (HX0.out.put 2 0 ⟨#[]⟩ (.slice none 0 0) rfl)
    exact bodyPost_ret (v := .agg #[.int .i64 2, .int .i64 0, .string ⟨#[]⟩, .slice none 0 0]) (by simp [results, Try.results15, go_sem, r0, r1, r2, r3]) rfl ⟨rfl, (((HB0.out.setCell (Nat.le_refl _) _).setCell (Nat.le_refl _) _).setCell (Nat.le_refl _) _).setCell (Nat.le_refl _) _⟩
  · have h3 : 1000 < (n2 : Int) := by omega
    have HTL : Hid (∀ u : World, Calls Try.prog 56 #[.string mem] u fun e w' => e = .returned (.bool false) ∧ w' = u) := fun u => by rw [← show decide (65536 < (mem.size : Int)) = false by simp; omega]; exact tooLong_any mem u
    clear h
    go_enter Try.func15, Try.ntmps15
    go_upto_region 2 with (go_at_call 56; refine Calls.mono (HTL.out _) ?_; rintro r u1 ⟨rfl, hu1⟩; subst u1)
    generalize w.alloc (.cells #[.int .i64 0, .int .i64 0, .string ⟨#[]⟩, .slice none 0 0] 31) = W at *
    obtain ⟨b0, b1, b2, b3⟩ := cel4P HX0.out
    have bf : ∀ x, W.frozen? ⟨w.heap.size, x, none⟩ = false := (fun x => by simp [World.frozen?, (show W.heap[w.heap.size]? = _ from HX0.out)])
    go_wp2
    obtain ⟨r0, r1, r2, r3⟩ := cel4P (HX0.out.put 2 0 ⟨#[]⟩ (.slice none 0 0) rfl)
    exact bodyPost_ret (v := .agg #[.int .i64 2, .int .i64 0, .string ⟨#[]⟩, .slice none 0 0]) (by simp [results, Try.results15, go_sem, r0, r1, r2, r3]) rfl ⟨rfl, (((HB0.out.setCell (Nat.le_refl _) _).setCell (Nat.le_refl _) _).setCell (Nat.le_refl _) _).setCell (Nat.le_refl _) _⟩
set_option maxRecDepth 100000 in
set_option maxHeartbeats 4000000 in
theorem implMaps_mem {w : World} {ao ao2 : Option Addr} {n n2 cap cap2 : Nat} (mem : ByteArray) (root : Int) (hs : mem.size ≤ 65536) (l1 : n ≤ 1000) (l2 : n2 ≤ 1000) (h : memOk mem = false) : CodeA 15 mem root (.slice ao n cap) (.slice ao2 n2 cap2) 1 w := by
  unfold CodeA
  have HX0 : Hid (RB w (w.alloc (.cells #[.int .i64 0, .int .i64 0, .string ⟨#[]⟩, .slice none 0 0] 31))) := heap_new _ _
  have HB0 : Hid (Below w.heap.size w (w.alloc (.cells #[.int .i64 0, .int .i64 0, .string ⟨#[]⟩, .slice none 0 0] 31))) := (Below.refl _ _).alloc (Nat.le_refl _) _
  have hs2 : ¬ 1000 < (n : Int) := by omega
  have hs3 : ¬ 1000 < (n2 : Int) := by omega
  have HTL : Hid (∀ u : World, Calls Try.prog 56 #[.string mem] u fun e w' => e = .returned (.bool false) ∧ w' = u) := fun u => by rw [← show decide (65536 < (mem.size : Int)) = false by simp; omega]; exact tooLong_any mem u
  have HMF : Hid _ := fun u => implMemFault_any mem u (by omega)
  rw [show memC mem = 1 by simp [memC, h]] at HMF
  clear h hs
  go_enter Try.func15, Try.ntmps15
  go_upto_region 4 with (first | (go_at_call 56; refine Calls.mono (HTL.out _) ?_; rintro r u1 ⟨rfl, hu1⟩; subst u1) | (go_at_call 43; refine Calls.mono (HMF.out _) ?_; rintro r u1 ⟨rfl, hu1⟩; subst u1))
  generalize w.alloc (.cells #[.int .i64 0, .int .i64 0, .string ⟨#[]⟩, .slice none 0 0] 31) = W at *
  obtain ⟨b0, b1, b2, b3⟩ := cel4P HX0.out
  have bf : ∀ x, W.frozen? ⟨w.heap.size, x, none⟩ = false := (fun x => by simp [World.frozen?, (show W.heap[w.heap.size]? = _ from HX0.out)])
  go_wp2
  obtain ⟨r0, r1, r2, r3⟩ := cel4P (HX0.out.put 1 0 ⟨#[]⟩ (.slice none 0 0) rfl)
  exact bodyPost_ret (v := .agg #[.int .i64 1, .int .i64 0, .string ⟨#[]⟩, .slice none 0 0]) (by simp [results, Try.results15, go_sem, r0, r1, r2, r3]) rfl ⟨rfl, (((HB0.out.setCell (Nat.le_refl _) _).setCell (Nat.le_refl _) _).setCell (Nat.le_refl _) _).setCell (Nat.le_refl _) _⟩
set_option maxRecDepth 100000 in
set_option maxHeartbeats 4000000 in
theorem implMaps_root {w : World} {ao : Option Addr} {n cap : Nat} {fv : Value} {free : List Int} (mem : ByteArray) (root : Int) (hm : memOk mem = true) (l1 : n ≤ 1000) (hF : Irow w fv free) (l2 : free.length ≤ 1000) (h : ¬ (0 ≤ root ∧ root * 256 + 256 ≤ (mem.size : Int))) : CodeA 15 mem root (.slice ao n cap) fv 1 w := by
  unfold CodeA
  have HNR : Hid (¬ (0 ≤ root ∧ root * 256 + 256 ≤ (mem.size : Int))) := h
  clear h
  obtain ⟨ao2, cap2, rfl⟩ := hF.sl
  have hb := memOk_b hm
  have HS : Hid (mem.size ≤ 65536) := hb.2.1
  obtain ⟨N, hN⟩ : ∃ N, mem.size = N * 256 := ⟨mem.size / 256, by omega⟩
  have HN : Hid (mem.size = N * 256 ∧ N ≤ 256) := (show mem.size = N * 256 ∧ N ≤ 256 from ⟨hN, by omega⟩)
  have hs2 : ¬ 1000 < (n : Int) := by omega
  have hs3 : ¬ 1000 < (free.length : Int) := by omega
  have HTL : Hid (∀ u : World, Calls Try.prog 56 #[.string mem] u fun e w' => e = .returned (.bool false) ∧ w' = u) := fun u => by rw [← show decide (65536 < (mem.size : Int)) = false by simp; omega]; exact tooLong_any mem u
  have HMF : Hid _ := fun u => implMemFault_any mem u (by omega)
  rw [memC_ok hm] at HMF
  have HRM : Hid _ := fun u => readMemory_any mem N u hN (by omega)
  unfold mv at HRM
  have HFH : Hid (Irow w (.slice ao2 free.length cap2) free) := hF
  have HFL : Hid (free.length ≤ 1048576) := (show free.length ≤ 1048576 by omega)
  have HX0 : Hid (RB w (w.alloc (.cells #[.int .i64 0, .int .i64 0, .string ⟨#[]⟩, .slice none 0 0] 31))) := heap_new _ _
  have HB0 : Hid (Below w.heap.size w (w.alloc (.cells #[.int .i64 0, .int .i64 0, .string ⟨#[]⟩, .slice none 0 0] 31))) := (Below.refl _ _).alloc (Nat.le_refl _) _
  have HWS : Hid ((w.alloc (.cells #[.int .i64 0, .int .i64 0, .string ⟨#[]⟩, .slice none 0 0] 31)).heap.size = w.heap.size + 1) := (show (w.alloc (.cells #[.int .i64 0, .int .i64 0, .string ⟨#[]⟩, .slice none 0 0] 31)).heap.size = w.heap.size + 1 by simp)
  clear hF hm hb hN
  go_enter Try.func15, Try.ntmps15
  go_upto_region 1 with fail
  generalize w.alloc (.cells #[.int .i64 0, .int .i64 0, .string ⟨#[]⟩, .slice none 0 0] 31) = W at *
  go_upto_region 6 with (first
    | (go_at_call 56; refine Calls.mono (HTL.out _) ?_; rintro r u1 ⟨rfl, hu1⟩; subst u1)
    | (go_at_call 43; refine Calls.mono (HMF.out _) ?_; rintro r u1 ⟨rfl, hu1⟩; subst u1)
    | (go_at_call 47; refine Calls.mono (HRM.out _) ?_; rintro r u1 ⟨rfl, hm1, hb1, hz1⟩; have HM1 : Hid (MemAt u1 W.heap.size mem) := hm1; have HB1 : Hid (Below w.heap.size w u1) := HB0.out.trans (hb1.mono HB0.out.size); have HX1 : Hid (RB w u1) := HX0.out.below hb1; have HZ1 : Hid (u1.heap.size = W.heap.size + 1) := hz1; clear hm1 hb1 hz1)
    | (go_at_call 57; refine Calls.mono (cloneI_any (HFH.out.below HB1.out) HFL.out) ?_; rintro r u2 ⟨lv, rfl, ho, hb2⟩; obtain ⟨a3, c3, he3⟩ := ho.irow.sl; subst he3; have HO2 : Hid (Orow u2 u1.heap.size (.slice a3 free.length c3) free) := ho; have HM2 : Hid (MemAt u2 W.heap.size mem) := HM1.out.below hb2 HM1.out.lt; have HB2 : Hid (Below w.heap.size w u2) := HB1.out.trans (hb2.mono HB1.out.size); have HX2 : Hid (RB w u2) := HX1.out.below hb2; have HZ2 : Hid (u1.heap.size ≤ u2.heap.size) := hb2.size; clear ho hb2))
  have HLT : Hid (w.heap.size + 1 ≤ W.heap.size ∧ W.heap.size < u2.heap.size) := (show _ ∧ _ by have h1 := HWS.out; have h2 := HZ1.out; have h3 := HZ2.out; exact ⟨by omega, by omega⟩)
  have HV : Hid (MpS (u2.alloc (.cells #[.slice (some ⟨W.heap.size, 0, none⟩) N N, .int .i64 root, .slice a3 free.length c3] 106)) W.heap.size u2.heap.size (w.heap.size + 1) N root mem (.slice a3 free.length c3) free) := (show MpS _ _ _ _ _ _ _ _ _ by
    have h1 := HWS.out
    have h2 := HZ1.out
    exact ⟨HM2.out.alloc1, heap_new _ _, (Frow.of HO2.out (by omega) (by omega) (Nat.le_refl _)).block (fun k hk _ _ => Below.heap_alloc _ _ _ hk)⟩)
  have HBV : Hid (Below w.heap.size w (u2.alloc (.cells #[.slice (some ⟨W.heap.size, 0, none⟩) N N, .int .i64 root, .slice a3 free.length c3] 106))) := HB2.out.alloc HB2.out.size _
  have HXV : Hid (RB w (u2.alloc (.cells #[.slice (some ⟨W.heap.size, 0, none⟩) N N, .int .i64 root, .slice a3 free.length c3] 106))) := HX2.out.below ((Below.refl _ _).alloc (Nat.le_refl _) _)
  generalize u2.alloc (.cells #[.slice (some ⟨W.heap.size, 0, none⟩) N N, .int .i64 root, .slice a3 free.length c3] 106) = V at *
  clear HTL HMF HRM HM1 HB1 HX1 HZ1 HO2 HM2 HB2 HX2 HZ2 HWS HX0 HB0
  generalize u2.heap.size = M at *
  generalize W.heap.size = b at *
  have HLK : Hid (∀ u : World, MpB u M b N root (.slice a3 free.length c3) → Calls Try.prog 58 #[.int .i64 root, .pointer (some ⟨M, 0, none⟩)] u fun e w' => e = .returned (.bool true) ∧ w' = u) := fun u hu => by
    have q := lacks_any hu root
    rw [show (!(decide (0 ≤ root) && decide (root < (N : Int)))) = true by have h1 := HNR.out; have h2 := HN.out; simp; omega] at q
    exact q
  go_upto_region 8 with (go_at_call 58; refine Calls.mono (HLK.out _ HV.out.box) ?_; rintro r u3 ⟨rfl, hu3⟩; subst u3)
  obtain ⟨b0, b1, b2, b3⟩ := cel4P HXV.out
  have bf : ∀ x, V.frozen? ⟨w.heap.size, x, none⟩ = false := (fun x => by simp [World.frozen?, (show V.heap[w.heap.size]? = _ from HXV.out)])
  go_wp2
  obtain ⟨r0, r1, r2, r3⟩ := cel4P (HXV.out.put 1 0 ⟨#[]⟩ (.slice none 0 0) rfl)
  exact bodyPost_ret (v := .agg #[.int .i64 1, .int .i64 0, .string ⟨#[]⟩, .slice none 0 0]) (by simp [results, Try.results15, go_sem, r0, r1, r2, r3]) rfl ⟨rfl, (((HBV.out.setCell (Nat.le_refl _) _).setCell (Nat.le_refl _) _).setCell (Nat.le_refl _) _).setCell (Nat.le_refl _) _⟩
end Go.Proofs.Ytfagohdmepnkkaa
