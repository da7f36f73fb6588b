import Derived.Test.YtniaohflkopncaaDp1
import Derived.Test.YtniaohflkopncaaQu1
import Derived.Test.YtniaohflkopncaaHl
import Derived.Test.YtniaohflkopncaaAd4
namespace Go.Proofs.Ytniaohflkopncaa
open Go.ChangeShapes Go.WideShapes Go.ChangeAt Go.RowKit

def dpR (zs : List KS) (c : ByteArray) (n : Int) : VR := if vfB zs c = false then ⟨1, [], ⟨#[]⟩⟩ else if inW zs.length n 1 = false then ⟨5, [], ⟨#[]⟩⟩ else if ((zs.length : Int) == 1) = true then ⟨6, [], ⟨#[]⟩⟩ else ⟨0, zs.take n.toNat ++ zs.drop (n.toNat + 1), c⟩
theorem vfB_len {zs : List KS} {c : ByteArray} (h : vfB zs c = true) : 1 ≤ zs.length ∧ zs.length ≤ 4 := by
  unfold vfB at h
  rw [Bool.and_eq_true] at h
  have h1 : vhB zs c = false := by simpa using h.1
  obtain ⟨q1, q2, _⟩ := vhB_no h1
  have := of_decide_eq_false q1
  have := of_decide_eq_false q2
  omega
theorem dpR_len (zs : List KS) (c : ByteArray) (n : Int) : (dpR zs c n).zs.length ≤ 5 := by
  unfold dpR
  split
  · simp
  · rename_i h
    have h4 := vfB_len (by simpa using h)
    split
    · simp
    · split
      · simp
      · simp; omega
theorem cuts {ao : Option Addr} {cap : Nat} {zs : List KS} {w : World} (h : KSrow w (.slice ao zs.length cap) zs) (m : Nat) (hm : m < zs.length) : ∃ a1 c1 a2 c2, (∀ u, Sem.run Try.prog (Instr.slice 25 (.slice ao zs.length cap) none (some (.int .i64 (m : Int))) none) u = .ok (.slice a1 (zs.take m).length c1) u) ∧ (∀ u, Sem.run Try.prog (Instr.slice 25 (.slice ao zs.length cap) (some (.int .i64 ((m : Int) + 1))) none none) u = .ok (.slice a2 (zs.drop (m + 1)).length c2) u) ∧ (∀ u, KSrow u (.slice ao zs.length cap) zs → KSrow u (.slice a1 (zs.take m).length c1) (zs.take m) ∧ KSrow u (.slice a2 (zs.drop (m + 1)).length c2) (zs.drop (m + 1))) := by
  obtain ⟨g, o, cp, hv, hc, _⟩ := h.resolve_left (fun h => by rw [h.1] at hm; simp at hm)
  injection hv with e1 e2 e3
  subst e3
  have l1 : (zs.take m).length = m := by simp; omega
  have l2 : (zs.drop (m + 1)).length = zs.length - (m + 1) := by simp
  obtain ⟨a1, c1, p1, p2⟩ := cutTo e1 (n := zs.length) (cap := cap) m (by omega) hc
  obtain ⟨a2, c2, p3, p4⟩ := cutFrom (ao := ao) (n := zs.length) (cap := cap) (m + 1) (by omega) hc
  refine ⟨a1, c1, a2, c2, fun u => ?_, fun u => ?_, fun u hu => ⟨?_, ?_⟩⟩
  · rw [l1]; exact p1 u
  · rw [l2, show (m : Int) + 1 = ((m + 1 : Nat) : Int) by omega]; exact p3 u
  · rw [l1]; exact p2 u zs rfl hu
  · rw [l2]; exact p4 u zs rfl hu
theorem LBx.putN {w u : World} {b b2 t k : Nat} {x : Value} {cs : Array Value} (h : LBx w u b cs t) (hn : b2 ≠ b) (hg : w.heap.size ≤ b2) : LBx w (u.setCell ⟨b2, k, none⟩ x) b cs t := ⟨h.bel.setCell hg _, (Below.heap_setCell _ _ _ _ (fun e => hn e.symm)).trans h.box⟩
theorem LBx.grow {w u u' : World} {b t : Nat} {cs : Array Value} {r : Option Nat} (h : LBx w u b cs t) (hg : u.grownBy u' r) (n1 : r ≠ some b) (hr : ∀ k, r = some k → w.heap.size ≤ k) : LBx w u' b cs t := ⟨h.bel.grown hg h.bel.size hr, (hg.block b h.lt (fun e => n1 e.symm)).trans h.box⟩
set_option maxRecDepth 100000 in
set_option maxHeartbeats 4000000 in
theorem implDrop_any {w : World} {v : Value} {zs : List KS} (h : KSrow w v zs) (hl : zs.length ≤ 1048576) (c : ByteArray) (n : Int) :
    Calls Try.prog 12 #[.agg #[v, .string c], .int .i64 n] w fun e w' => ∃ sv, e = .returned (vrA sv (dpR zs c n)) ∧ w'.ownsRow w.heap.size 70 3 sv (dpR zs c n).zs.length (ksR (dpR zs c n).zs) ∧ Below w.heap.size w w' := by
  have HRW : Hid (KSrow w v zs) := h
  obtain ⟨ao, cap, rfl⟩ := h.sl
  clear h
  have HV : Hid (∀ u, Aft w u → Calls Try.prog 33 #[.agg #[.slice ao zs.length cap, .string c]] u fun e w' => e = .returned (.bool (vfB zs c)) ∧ Below u.heap.size u w') := fun u hu => volRight_any (HRW.out.below hu.out) hl c
  have HW : Hid (∀ u, Calls Try.prog 36 #[.int .i64 zs.length, .int .i64 n, .int .i64 1] u fun e w' => e = .returned (.bool (inW zs.length n 1)) ∧ w' = u) := fun u => isWithin_any zs.length n 1 u hl ⟨by omega, by omega⟩
  have HT1 : Hid (TB w ((w.alloc (.cells #[.slice ao zs.length cap, .string c] 27)).alloc (.cells #[.int .i64 0, .slice none 0 0, .string ⟨#[]⟩] 31)) w.heap.size (w.heap.size + 1) #[.slice ao zs.length cap, .string c] 27 #[.int .i64 0, .slice none 0 0, .string ⟨#[]⟩] 31) := TB.new w _ _ _ _
  obtain ⟨R, hR⟩ : ∃ R, dpR zs c n = R := ⟨_, rfl⟩
  have hE := hR.symm
  rw [hR]
  clear hR
  unfold dpR at hE
  cases hv : vfB zs c
  · rw [if_pos hv] at hE
    have E : Hid (R = ⟨1, [], ⟨#[]⟩⟩) := hE
    rw [hv] at HV
    clear hv hE
    go_enter Try.func12, Try.ntmps12
    go_upto_region 1 with fail
    generalize ((w.alloc (.cells #[.slice ao zs.length cap, .string c] 27)).alloc (.cells #[.int .i64 0, .slice none 0 0, .string ⟨#[]⟩] 31)) = u1 at *
    generalize w.heap.size + 1 = b2 at *
    generalize w.heap.size = b1 at *
    have k0 := HT1.out.c1 0 _ rfl
    have k1 := HT1.out.c1 1 _ rfl
    have kl := HT1.out.lt1
    go_wp2_with fail
    refine Calls.mono (HV.out _ HT1.out.aft) ?_
    rintro e u2 ⟨rfl, hu⟩
    have HT2 : Hid (TB w u2 b1 b2 #[.slice ao zs.length cap, .string c] 27 #[.int .i64 0, .slice none 0 0, .string ⟨#[]⟩] 31) := HT1.out.step hu
    clear hu k0 k1 kl HT1
    have k0 := HT2.out.c1 0 _ rfl
    have k1 := HT2.out.c1 1 _ rfl
    have kl := HT2.out.lt1
    have q0 := HT2.out.c2 0 _ rfl
    have q1 := HT2.out.c2 1 _ rfl
    have q2 := HT2.out.c2 2 _ rfl
    have f0 := HT2.out.f2 0
    have f1 := HT2.out.f2 1
    have f2 := HT2.out.f2 2
    have ql := HT2.out.lt2
    go_wp2
    refine bodyPost_ret (v := vrA (.slice none 0 0) ⟨1, [], ⟨#[]⟩⟩) ?_ rfl ⟨_, by rw [E.out], by rw [E.out]; exact World.ownsRow_nil _ _ _ _, ((HT2.out.bel.setCell HT2.out.ge2 _).setCell HT2.out.ge2 _).setCell HT2.out.ge2 _⟩
    simp [results, Try.results12, go_sem, vrA, q0, q1, q2]
  · rw [if_neg (by simp [hv])] at hE
    have HLZ : Hid (1 ≤ zs.length ∧ zs.length ≤ 4) := vfB_len hv
    rw [hv] at HV
    cases hw : inW zs.length n 1
    · rw [if_pos hw] at hE
      have E : Hid (R = ⟨5, [], ⟨#[]⟩⟩) := hE
      rw [hw] at HW
      clear hv hE hw
      go_enter Try.func12, Try.ntmps12
      go_upto_region 1 with fail
      generalize ((w.alloc (.cells #[.slice ao zs.length cap, .string c] 27)).alloc (.cells #[.int .i64 0, .slice none 0 0, .string ⟨#[]⟩] 31)) = u1 at *
      generalize w.heap.size + 1 = b2 at *
      generalize w.heap.size = b1 at *
      have k0 := HT1.out.c1 0 _ rfl
      have k1 := HT1.out.c1 1 _ rfl
      have kl := HT1.out.lt1
      go_wp2_with fail
      refine Calls.mono (HV.out _ HT1.out.aft) ?_
      rintro e u2 ⟨rfl, hu⟩
      have HT2 : Hid (TB w u2 b1 b2 #[.slice ao zs.length cap, .string c] 27 #[.int .i64 0, .slice none 0 0, .string ⟨#[]⟩] 31) := HT1.out.step hu
      clear hu k0 k1 kl HT1
      have k0 := HT2.out.c1 0 _ rfl
      have k1 := HT2.out.c1 1 _ rfl
      have kl := HT2.out.lt1
      go_wp2_with fail
      refine Calls.mono (HW.out _) ?_
      rintro e u9 ⟨rfl, hw9⟩
      rw [hw9]
      clear hw9
      have q0 := HT2.out.c2 0 _ rfl
      have q1 := HT2.out.c2 1 _ rfl
      have q2 := HT2.out.c2 2 _ rfl
      have f0 := HT2.out.f2 0
      have f1 := HT2.out.f2 1
      have f2 := HT2.out.f2 2
      have ql := HT2.out.lt2
      go_wp2
      refine bodyPost_ret (v := vrA (.slice none 0 0) ⟨5, [], ⟨#[]⟩⟩) ?_ rfl ⟨_, by rw [E.out], by rw [E.out]; exact World.ownsRow_nil _ _ _ _, ((HT2.out.bel.setCell HT2.out.ge2 _).setCell HT2.out.ge2 _).setCell HT2.out.ge2 _⟩
      simp [results, Try.results12, go_sem, vrA, q0, q1, q2]
    · rw [if_neg (by simp [hw])] at hE
      have hw2 : 0 ≤ n ∧ 0 ≤ (1 : Int) ∧ n + 1 ≤ (zs.length : Int) := of_decide_eq_true hw
      rw [hw] at HW
      clear hv hw
      obtain ⟨m, rfl⟩ : ∃ m : Nat, n = (m : Int) := ⟨n.toNat, by omega⟩
      rw [Int.toNat_natCast] at hE
      have hml : m < zs.length := by omega
      clear hw2
      cases h3 : ((zs.length : Int) == 1)
      · rw [if_neg (by simp [h3])] at hE
        have hne : 0 < (zs.take m).length + (zs.drop (m + 1)).length := by have : zs.length ≠ 1 := (fun e => by rw [e] at h3; simp at h3); simp; omega
        have hle : (zs.take m).length + (zs.drop (m + 1)).length ≤ 8 := by have := HLZ.out; simp; omega
        obtain ⟨a1, c1, a2, c2, s1, s2, s3⟩ := cuts HRW.out m hml
        generalize zs.take m = xs at *
        generalize zs.drop (m + 1) = ys at *
        have HS1 : Hid _ := s1
        have HS2 : Hid _ := s2
        have HS3 : Hid _ := s3
        have HNE : Hid (0 < xs.length + ys.length) := hne
        have HLE : Hid (xs.length + ys.length ≤ 8) := hle
        have E : Hid (R = ⟨0, xs ++ ys, c⟩) := hE
        have HML : Hid (m < zs.length) := hml
        clear s1 s2 s3 hne hle hE hml
        go_enter Try.func12, Try.ntmps12
        go_upto_region 1 with fail
        generalize ((w.alloc (.cells #[.slice ao zs.length cap, .string c] 27)).alloc (.cells #[.int .i64 0, .slice none 0 0, .string ⟨#[]⟩] 31)) = u1 at *
        generalize w.heap.size + 1 = b2 at *
        generalize w.heap.size = b1 at *
        have k0 := HT1.out.c1 0 _ rfl
        have k1 := HT1.out.c1 1 _ rfl
        have kl := HT1.out.lt1
        go_wp2_with fail
        refine Calls.mono (HV.out _ HT1.out.aft) ?_
        rintro e u2 ⟨rfl, hu⟩
        have HT2 : Hid (TB w u2 b1 b2 #[.slice ao zs.length cap, .string c] 27 #[.int .i64 0, .slice none 0 0, .string ⟨#[]⟩] 31) := HT1.out.step hu
        clear hu k0 k1 kl HT1
        have k0 := HT2.out.c1 0 _ rfl
        have k1 := HT2.out.c1 1 _ rfl
        have kl := HT2.out.lt1
        go_wp2_with fail
        refine Calls.mono (HW.out _) ?_
        rintro e u9 ⟨rfl, hw9⟩
        rw [hw9]
        clear hw9
        go_upto_region 7 with fail
        refine wp_region_held (S := fun w9 => LBx w w9 b1 #[.slice ao zs.length cap, .string c] 27) (by kernel_rfl) ?_
        change wpAnyH _ _ _ _ _ _ _ _ (World.drew _)
        have HTX : Hid (TB w u2.drew b1 b2 #[.slice ao zs.length cap, .string c] 27 #[.int .i64 0, .slice none 0 0, .string ⟨#[]⟩] 31) := HT2.out.drew
        clear HT2 k0 k1 kl
        generalize u2.drew = X at *
        have HS0 : Hid (LBx w X b1 #[.slice ao zs.length cap, .string c] 27) := ⟨HTX.out.bel, HTX.out.h1⟩
        have HQ0 : Hid (LG w X b2 #[.int .i64 0, .slice none 0 0, .string ⟨#[]⟩] 31) := ⟨HTX.out.bel, HTX.out.h2, HTX.out.ge2⟩
        have HNB : Hid (b2 ≠ b1) := (show b2 ≠ b1 by have := HTX.out.ne; omega)
        have HXW : Hid (w.heap.size ≤ X.heap.size) := HTX.out.bel.size
        clear HTX
        refine wpAnyH_take (i := 0) (v := .pointer (some ⟨b1, 0, none⟩)) rfl (by kernel_rfl) (by kernel_rfl) (by kernel_rfl) (fun _ _ _ h => h) (Or.inl ⟨by kernel_rfl, fun w9 h9 => ?_⟩) HS0.out ?_
        · clear h9
          go_simp
        refine wpAnyH_take (i := 1) (v := .slice ao zs.length cap) rfl (by kernel_rfl) (by kernel_rfl) (by kernel_rfl) (fun _ _ _ h => h) (Or.inl ⟨by kernel_rfl, fun w9 h9 => ?_⟩) HS0.out ?_
        · have d0 := h9.cel 0 _ rfl; have dl := h9.lt; clear h9
          go_simp
        refine wpAnyH_take (i := 2) (v := .int .i64 (m : Int)) rfl (by kernel_rfl) (by kernel_rfl) (by kernel_rfl) (fun _ _ _ h => h) (Or.inl ⟨by kernel_rfl, fun w9 h9 => ?_⟩) HS0.out ?_
        · clear h9
          go_simp
        refine wpAnyH_take (i := 3) (v := .slice a1 xs.length c1) rfl (by kernel_rfl) (by kernel_rfl) (by kernel_rfl) (fun _ _ _ h => h) (Or.inl ⟨by kernel_rfl, fun w9 h9 => ?_⟩) HS0.out ?_
        · clear h9
          have e1 := HS1.out
          go_simp
        refine wpAnyH_take (i := 4) (v := .pointer (some ⟨b1, 0, none⟩)) rfl (by kernel_rfl) (by kernel_rfl) (by kernel_rfl) (fun _ _ _ h => h) (Or.inl ⟨by kernel_rfl, fun w9 h9 => ?_⟩) HS0.out ?_
        · clear h9
          go_simp
        refine wpAnyH_take (i := 5) (v := .slice ao zs.length cap) rfl (by kernel_rfl) (by kernel_rfl) (by kernel_rfl) (fun _ _ _ h => h) (Or.inl ⟨by kernel_rfl, fun w9 h9 => ?_⟩) HS0.out ?_
        · have d0 := h9.cel 0 _ rfl; have dl := h9.lt; clear h9
          go_simp
        refine wpAnyH_take (i := 6) (v := .int .i64 (m : Int)) rfl (by kernel_rfl) (by kernel_rfl) (by kernel_rfl) (fun _ _ _ h => h) (Or.inl ⟨by kernel_rfl, fun w9 h9 => ?_⟩) HS0.out ?_
        · clear h9
          go_simp
        refine wpAnyH_take (i := 7) (v := .int .i64 ((m : Int) + 1)) rfl (by kernel_rfl) (by kernel_rfl) (by kernel_rfl) (fun _ _ _ h => h) (Or.inl ⟨by kernel_rfl, fun w9 h9 => ?_⟩) HS0.out ?_
        · clear h9
          have hm4 : m ≤ 4 := (by have := HML.out; have := HLZ.out; omega)
          go_simp
          rw [IntKind.wrap_i64]
          omega
        refine wpAnyH_take (i := 8) (v := .slice a2 ys.length c2) rfl (by kernel_rfl) (by kernel_rfl) (by kernel_rfl) (fun _ _ _ h => h) (Or.inl ⟨by kernel_rfl, fun w9 h9 => ?_⟩) HS0.out ?_
        · clear h9
          have e1 := HS2.out
          go_simp
        refine held_one 9 (by kernel_rfl) rfl (by kernel_rfl) fun K hK => ?_
        have HS1b : Hid (LBx w (X.alloc (.cells #[.slice a1 xs.length c1, .slice a2 ys.length c2] 25)) b1 #[.slice ao zs.length cap, .string c] 27) := HS0.out.step (bx1 _ _)
        have HQ1 : Hid (LG w (X.alloc (.cells #[.slice a1 xs.length c1, .slice a2 ys.length c2] 25)) b2 #[.int .i64 0, .slice none 0 0, .string ⟨#[]⟩] 31) := HQ0.out.step (bx1 _ _)
        have HL1 : Hid (LG w (X.alloc (.cells #[.slice a1 xs.length c1, .slice a2 ys.length c2] 25)) X.heap.size #[.slice a1 xs.length c1, .slice a2 ys.length c2] 25) := ⟨HS1b.out.bel, heap_new _ _, HXW.out⟩
        have HW1 : Hid (w.heap.size ≤ (X.alloc (.cells #[.slice a1 xs.length c1, .slice a2 ys.length c2] 25)).heap.size) := HS1b.out.bel.size
        go_simp
        refine hK _ _ HS1b.out ?_
        clear hK K
        generalize (X.alloc (.cells #[.slice a1 xs.length c1, .slice a2 ys.length c2] 25)) = Y at *
        generalize X.heap.size = e2 at *
        have HCC : Hid (Calls Try.prog 37 #[.slice (some ⟨e2, 0, none⟩) 2 2] Y fun e w' => ∃ v, e = .returned v ∧ w'.ownsRow Y.heap.size 70 3 v (xs ++ ys).length (ksR (xs ++ ys)) ∧ Below Y.heap.size Y w') := concatK_any e2 2 (HS3.out Y (HRW.out.below HS1b.out.bel)).1 (HS3.out Y (HRW.out.below HS1b.out.bel)).2 HL1.out.lt (HL1.out.cel 0 _ rfl) (HL1.out.cel 1 _ rfl) HNE.out HLE.out
        refine held_one 10 (by kernel_rfl) rfl (by kernel_rfl) fun K hK => ?_
        go_simp
        go_wp2_with (go_at_call 37; refine Calls.mono HCC.out ?_; rintro e9 Z ⟨sv, rfl, ho, hu⟩; have HS7 : Hid (LBx w Z b1 #[.slice ao zs.length cap, .string c] 27) := HS1b.out.step hu; have HQ7 : Hid (LG w Z b2 #[.int .i64 0, .slice none 0 0, .string ⟨#[]⟩] 31) := HQ1.out.step hu; obtain ⟨a6, c6, rfl⟩ := ks_sl ho; have HO7 : Hid (Z.ownsRow w.heap.size 70 3 (.slice a6 (xs ++ ys).length c6) (xs ++ ys).length (ksR (xs ++ ys))) := ks_weak ho HW1.out; have HBB : Hid (∀ k, (Value.slice a6 (xs ++ ys).length c6).ownBlock = some k → k ≠ b2) := (fun k hk => by have h3 := (ho.lt k hk).1; have h4 := HQ1.out.lt; omega); clear ho hu)
        refine hK _ _ HS7.out ?_
        clear hK K
        refine wpAnyH_take (i := 11) (v := .slice a6 (xs ++ ys).length c6) rfl (by kernel_rfl) (by kernel_rfl) (by kernel_rfl) (fun _ _ _ h => h) (Or.inl ⟨by kernel_rfl, fun w9 h9 => ?_⟩) HS7.out ?_
        · clear h9
          go_simp
        refine wpAnyH_done (by kernel_rfl) ?_ _
        go_simp
        have k1 := HS7.out.cel 1 _ rfl
        have kl := HS7.out.lt
        have q0 := HQ7.out.cel 0 _ rfl
        have q1 := HQ7.out.cel 1 _ rfl
        have q2 := HQ7.out.cel 2 _ rfl
        have f0 := HQ7.out.frz 0
        have f1 := HQ7.out.frz 1
        have f2 := HQ7.out.frz 2
        have ql := HQ7.out.lt
        go_wp2
        refine bodyPost_ret (v := vrA (.slice a6 (xs ++ ys).length c6) ⟨0, xs ++ ys, c⟩) ?_ rfl ⟨_, by rw [E.out], by rw [E.out]; exact own_set (own_set (own_set HO7.out (fun e => HBB.out _ e rfl)) (fun e => HBB.out _ e rfl)) (fun e => HBB.out _ e rfl), ((HQ7.out.bel.setCell HQ7.out.ge _).setCell HQ7.out.ge _).setCell HQ7.out.ge _⟩
        simp [results, Try.results12, go_sem, vrA, q0, q1, q2]
      · rw [if_pos h3] at hE
        have E : Hid (R = ⟨6, [], ⟨#[]⟩⟩) := hE
        clear hE hml HLZ
        go_enter Try.func12, Try.ntmps12
        go_upto_region 1 with fail
        generalize ((w.alloc (.cells #[.slice ao zs.length cap, .string c] 27)).alloc (.cells #[.int .i64 0, .slice none 0 0, .string ⟨#[]⟩] 31)) = u1 at *
        generalize w.heap.size + 1 = b2 at *
        generalize w.heap.size = b1 at *
        have k0 := HT1.out.c1 0 _ rfl
        have k1 := HT1.out.c1 1 _ rfl
        have kl := HT1.out.lt1
        go_wp2_with fail
        refine Calls.mono (HV.out _ HT1.out.aft) ?_
        rintro e u2 ⟨rfl, hu⟩
        have HT2 : Hid (TB w u2 b1 b2 #[.slice ao zs.length cap, .string c] 27 #[.int .i64 0, .slice none 0 0, .string ⟨#[]⟩] 31) := HT1.out.step hu
        clear hu k0 k1 kl HT1
        have k0 := HT2.out.c1 0 _ rfl
        have k1 := HT2.out.c1 1 _ rfl
        have kl := HT2.out.lt1
        go_wp2_with fail
        refine Calls.mono (HW.out _) ?_
        rintro e u9 ⟨rfl, hw9⟩
        rw [hw9]
        clear hw9
        have q0 := HT2.out.c2 0 _ rfl
        have q1 := HT2.out.c2 1 _ rfl
        have q2 := HT2.out.c2 2 _ rfl
        have f0 := HT2.out.f2 0
        have f1 := HT2.out.f2 1
        have f2 := HT2.out.f2 2
        have ql := HT2.out.lt2
        go_wp2
        refine bodyPost_ret (v := vrA (.slice none 0 0) ⟨6, [], ⟨#[]⟩⟩) ?_ rfl ⟨_, by rw [E.out], by rw [E.out]; exact World.ownsRow_nil _ _ _ _, ((HT2.out.bel.setCell HT2.out.ge2 _).setCell HT2.out.ge2 _).setCell HT2.out.ge2 _⟩
        simp [results, Try.results12, go_sem, vrA, q0, q1, q2]
end Go.Proofs.Ytniaohflkopncaa
