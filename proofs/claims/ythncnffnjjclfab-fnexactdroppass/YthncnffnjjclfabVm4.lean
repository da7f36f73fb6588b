import Derived.Test.YthncnffnjjclfabVm3
namespace Go.Proofs.Ythncnffnjjclfab
open Go.ChangeShapes Go.WideShapes Go.ChangeAt Go.RowKit

theorem gtr15 {u v x : World} {r : Option Nat} (h : u.grownBy v r) (h2 : v.grownBy x r) : u.grownBy x r := ⟨h2.os.trans h.os, h2.tape.trans h.tape, h2.output.trans h.output, Nat.le_trans h.size h2.size, fun k hk hn => (h2.block k (Nat.lt_of_lt_of_le hk h.size) hn).trans (h.block k hk hn)⟩
theorem gal15 (u : World) (o : Obj) (r : Option Nat) : u.grownBy (u.alloc o) r := World.grownBy_alloc u o r
theorem LG.grow {w u u' : World} {b t : Nat} {cs : Array Value} {r : Option Nat} (h : LG w u b cs t) (hg : u.grownBy u' r) (hne : r ≠ some b) (hr : ∀ k, r = some k → w.heap.size ≤ k) : LG w u' b cs t :=
  ⟨h.bel.grown hg h.bel.size hr, (hg.block b h.lt (fun e => hne e.symm)).trans h.box, h.ge⟩
set_option maxRecDepth 100000 in
set_option maxHeartbeats 4000000 in
theorem eqVR_ok {w : World} {v u : Value} {zs : List KS} (h : KSrow w v zs) (h' : KSrow w u zs) (hl : zs.length ≤ 1048576) (cd : Int) (c : ByteArray) :
    Calls Try.prog 11 #[.agg #[.int .i64 cd, v, .string c], .agg #[.int .i64 cd, u, .string c]] w fun e w' => e = .returned (.bool true) ∧ Below w.heap.size w w' := by
  have HE : Hid (∀ x, Aft w x → Calls Try.prog 12 #[.agg #[v, .string c], .agg #[u, .string c]] x fun e w' => e = .returned (.bool true) ∧ Below x.heap.size x w') := fun x hx => eqVol_ok (h.below hx.out) (h'.below hx.out) hl c
  obtain ⟨a1, c1, rfl⟩ := h.sl
  obtain ⟨a2, c2, rfl⟩ := h'.sl
  clear h h'
  have HT0 : Hid (TB w ((w.alloc (.cells #[.int .i64 cd, .slice a1 zs.length c1, .string c] 30)).alloc (.cells #[.int .i64 cd, .slice a2 zs.length c2, .string c] 30)) w.heap.size (w.heap.size + 1) #[.int .i64 cd, .slice a1 zs.length c1, .string c] 30 #[.int .i64 cd, .slice a2 zs.length c2, .string c] 30) := TB.new w _ _ _ _
  have e1 : (cd != cd) = false := by simp
  go_enter Try.func11, Try.ntmps11
  go_upto_region 1 with fail
  generalize ((w.alloc (.cells #[.int .i64 cd, .slice a1 zs.length c1, .string c] 30)).alloc (.cells #[.int .i64 cd, .slice a2 zs.length c2, .string c] 30)) = u0 at *
  generalize w.heap.size + 1 = b2 at *
  generalize w.heap.size = b1 at *
  have k0 := HT0.out.c1 0 _ rfl
  have k1 := HT0.out.c2 0 _ rfl
  have k2 := HT0.out.c1 1 _ rfl
  have k3 := HT0.out.c2 1 _ rfl
  have k4 := HT0.out.c1 2 _ rfl
  have k5 := HT0.out.c2 2 _ rfl
  have kl := HT0.out.lt1
  have kl2 := HT0.out.lt2
  go_wp2_with fail
  refine Calls.mono (HE.out _ HT0.out.aft) ?_
  rintro e u1 ⟨rfl, hb1⟩
  have HT1 : Hid (TB w u1 b1 b2 _ _ _ _) := HT0.out.step hb1
  clear hb1
  go_wp2
  go_ret
  exact ⟨rfl, HT1.out.bel⟩
set_option maxRecDepth 100000 in
set_option maxHeartbeats 4000000 in
theorem markVol_ok {w : World} {B : Nat} {v : Value} {zs : List KS} (k0 : Nat) (h : w.ownsRow B 79 3 v zs.length (ksR zs)) (hn : zs.length ≤ 1048576) (hk1 : 1 ≤ k0) (hk2 : k0 ≤ 140737488355328) (c : ByteArray) :
    Calls Try.prog 13 #[.agg #[v, .string c], .int .i64 (k0 : Nat)] w fun e w' => e = .returned (.int .i64 ((k0 + 3 * zs.length : Nat) : Int)) ∧ w'.ownsRow B 79 3 v zs.length (ksR (mkK k0 zs.length)) ∧ w.grownBy w' v.ownBlock := by
  have HM : Hid (∀ x, Below w.heap.size w x → Calls Try.prog 47 #[v, .int .i64 (k0 : Nat)] x fun e w' => e = .returned (.int .i64 ((k0 + 3 * zs.length : Nat) : Int)) ∧ w'.ownsRow B 79 3 v zs.length (ksR (mkK k0 zs.length)) ∧ x.grownBy w' v.ownBlock) := fun x hx => markKS_ok k0 (ks_below h hx) hn hk1 hk2
  obtain ⟨a1, c1, rfl⟩ := ks_sl h
  generalize (Value.slice a1 zs.length c1).ownBlock = ob at *
  generalize k0 + 3 * zs.length = N at *
  clear h
  go_enter Try.func13, Try.ntmps13
  go_wp2_with fail
  refine Calls.mono (HM.out _ (bx1 _ _)) ?_
  rintro e u1 ⟨rfl, ho, hg⟩
  have HO : Hid _ := ho
  have HG : Hid (w.grownBy u1 ob) := gtr15 (gal15 _ _ _) hg
  clear ho hg
  go_wp2
  go_ret
  exact ⟨rfl, HO.out, HG.out⟩
set_option maxRecDepth 100000 in
set_option maxHeartbeats 4000000 in
theorem markVR_ok {w : World} {B : Nat} {v : Value} {zs : List KS} (k0 : Nat) (h : w.ownsRow B 79 3 v zs.length (ksR zs)) (hn : zs.length ≤ 1048576) (hk1 : 1 ≤ k0) (hk2 : k0 ≤ 140737488355328) (cd : Int) (c : ByteArray) :
    Calls Try.prog 14 #[.agg #[.int .i64 cd, v, .string c], .int .i64 (k0 : Nat)] w fun e w' => e = .returned (.int .i64 ((k0 + 3 * zs.length : Nat) : Int)) ∧ w'.ownsRow B 79 3 v zs.length (ksR (mkK k0 zs.length)) ∧ w.grownBy w' v.ownBlock := by
  have HM : Hid (∀ x, Below w.heap.size w x → Calls Try.prog 13 #[.agg #[v, .string c], .int .i64 (k0 : Nat)] x fun e w' => e = .returned (.int .i64 ((k0 + 3 * zs.length : Nat) : Int)) ∧ w'.ownsRow B 79 3 v zs.length (ksR (mkK k0 zs.length)) ∧ x.grownBy w' v.ownBlock) := fun x hx => markVol_ok k0 (ks_below h hx) hn hk1 hk2 c
  obtain ⟨a1, c1, rfl⟩ := ks_sl h
  generalize (Value.slice a1 zs.length c1).ownBlock = ob at *
  generalize k0 + 3 * zs.length = N at *
  clear h
  go_enter Try.func14, Try.ntmps14
  go_wp2_with fail
  refine Calls.mono (HM.out _ (bx1 _ _)) ?_
  rintro e u1 ⟨rfl, ho, hg⟩
  have HO : Hid _ := ho
  have HG : Hid (w.grownBy u1 ob) := gtr15 (gal15 _ _ _) hg
  clear ho hg
  go_wp2
  go_ret
  exact ⟨rfl, HO.out, HG.out⟩
set_option maxRecDepth 100000 in
set_option maxHeartbeats 4000000 in
theorem heldVR_ok {w : World} {v : Value} (k0 n : Nat) (h : KSrow w v (mkK k0 n)) (hn : n ≤ 1048576) (hk1 : 1 ≤ k0) (hk2 : k0 ≤ 140737488355328) (cd : Int) (c : ByteArray) :
    Calls Try.prog 15 #[.agg #[.int .i64 cd, v, .string c], .int .i64 (k0 : Nat)] w fun e w' => e = .returned (.int .i64 ((k0 + 3 * n : Nat) : Int)) ∧ Below w.heap.size w w' := by
  have HK : Hid (∀ x, Aft w x → Calls Try.prog 96 #[v, .int .i64 (k0 : Nat)] x fun e w' => e = .returned (.int .i64 ((k0 + 3 * n : Nat) : Int)) ∧ Below x.heap.size x w') := fun x hx => heldKS_ok k0 n (h.below hx.out) hn hk1 hk2
  obtain ⟨a1, c1, hv⟩ := h.sl
  rw [mkK_len] at hv
  subst hv
  have hNb : k0 + 3 * n ≤ 281474976710656 := by omega
  generalize k0 + 3 * n = N at *
  clear h
  have hN0 : decide ((N : Int) < 0) = false := decide_eq_false (by omega)
  have HV : Hid (∀ x, Aft w x → Calls Try.prog 48 #[.agg #[.slice a1 n c1, .string c], .int .i64 (k0 : Nat)] x fun e w' => e = .returned (.int .i64 (N : Int)) ∧ Below x.heap.size x w') := (fun x hx => by
    have HB : Hid (Below x.heap.size x (x.alloc (.cells #[.slice a1 n c1, .string c] 28))) := bx1 _ _
    have HA : Hid (Aft w (x.alloc (.cells #[.slice a1 n c1, .string c] 28))) := ⟨hx.out.trans (HB.out.mono hx.out.size)⟩
    clear hx
    go_enter Try.func48, Try.ntmps48
    go_wp2_with fail
    refine Calls.mono (HK.out _ HA.out) ?_
    rintro e u1 ⟨rfl, hu⟩
    have HU : Hid (Below x.heap.size x u1) := HB.out.trans (hu.mono HB.out.size)
    clear hu
    go_wp2
    go_ret
    exact ⟨rfl, HU.out⟩)
  have HB : Hid (Below w.heap.size w (w.alloc (.cells #[.int .i64 cd, .slice a1 n c1, .string c] 30))) := bx1 _ _
  have HA : Hid (Aft w (w.alloc (.cells #[.int .i64 cd, .slice a1 n c1, .string c] 30))) := ⟨HB.out⟩
  go_enter Try.func15, Try.ntmps15
  go_wp2_with fail
  refine Calls.mono (HV.out _ HA.out) ?_
  rintro e u1 ⟨rfl, hu⟩
  have HU : Hid (Below w.heap.size w u1) := HB.out.trans (hu.mono HB.out.size)
  clear hu
  go_wp2
  go_ret
  exact ⟨rfl, HU.out⟩
end Go.Proofs.Ythncnffnjjclfab
