import Derived.Test.YtggciigjhlbhhaaTp2
import Derived.Deep.CutBlock
namespace Go.Proofs.Ytggciigjhlbhhaa
open Go.ChangeShapes Go.WideShapes Go.ChangeAt Go.RowKit

/-- What TakePacked answers. -/
def tkA (c i k : Int) (v : Value) : Value := .agg #[.int .i64 c, .int .i64 i, .int .i64 k, v]
/-- Code, id and buffers of what stands in a right ring. -/
def tpR (s : ByteArray) (R S P : Nat) (W : Bool) : Int × Int × List BU := if rdyB W (dAt s (R + P * 16)) = true then (if (rgR s R S P S 0 []).1 = 0 then (0, (rgR s R S P S 0 []).2.1.number % 65536, (rgR s R S P S 0 []).2.2) else ((rgR s R S P S 0 []).1, 0, [])) else (5, 0, [])
theorem FrT.bel {w u v : World} {Bc : Nat} (hf : FrT u v Bc) (h : Below w.heap.size w u) (hb : w.heap.size ≤ Bc) : Below w.heap.size w v :=
  ⟨hf.os.trans h.os, hf.tape.trans h.tape, hf.output.trans h.output, Nat.le_trans h.size hf.size, fun k hk => (hf.block k (Nat.lt_of_lt_of_le hk h.size) (by omega) (.inl (by omega))).trans (h.block k hk)⟩
theorem FrT.low {u v : World} {Bc k : Nat} (hf : FrT u v Bc) (hk : k < Bc) (hl : Bc < u.heap.size) : v.heap[k]? = u.heap[k]? := hf.block k (by omega) (by omega) (.inl hk)
theorem rgR_num (s : ByteArray) (R S P : Nat) : ∀ f c zs, 0 ≤ (rgR s R S P f c zs).2.1.number ∧ (rgR s R S P f c zs).2.1.number ≤ 4294967295
  | 0, c, zs => ⟨Int.le_refl 0, show (0 : Int) ≤ 4294967295 by decide⟩
  | f + 1, c, zs => by
    have hw : ∀ k, 0 ≤ (dAt s k).number ∧ (dAt s k).number ≤ 4294967295 := fun k => wv_b s (k + 12)
    unfold rgR
    split
    · exact ⟨Int.le_refl 0, show (0 : Int) ≤ 4294967295 by decide⟩
    · split
      · split
        · exact rgR_num s R S P f (c + 1) _
        · exact hw _
      · exact hw _
theorem rgR_len (s : ByteArray) (R S P : Nat) : ∀ f c zs, (rgR s R S P f c zs).2.2.length ≤ zs.length + f
  | 0, c, zs => Nat.le_refl _
  | f + 1, c, zs => by
    unfold rgR
    split
    · simp
    · split
      · split
        · have := rgR_len s R S P f (c + 1) (zs ++ [bf (dAt s (R + (P + c) % S * 16))])
          simp at this
          omega
        · simp
      · simp
set_option maxRecDepth 100000 in
set_option maxHeartbeats 4000000 in
theorem takeP_any {w : World} {mb n : Nat} {s : ByteArray} (S R P : Nat) (W : Bool) (h : MemAt w mb s) (hn : s.size = n * 256) (hs : s.size ≤ 65536) (hS : 1 ≤ S) (hS2 : S ≤ 16) (hP : P < S) (hR4 : R % 4 = 0) (hR : R + S * 16 ≤ s.size) :
    Calls Try.prog 33 #[mv mb n, pA ⟨S, R, P, W⟩] w fun e w' => ∃ v, e = .returned (tkA (tpR s R S P W).1 (tpR s R S P W).2.1 ((tpR s R S P W).2.2.length : Nat) v) ∧ w'.ownsRow w.heap.size 60 3 v (tpR s R S P W).2.2.length (buR (tpR s R S P W).2.2) ∧ Below w.heap.size w w' := by
  have HPB : Hid _ := fun u => placeBehind_any R S P 0 W u (by omega) hS hS2 hP (by omega)
  rw [show R + (P + 0) % S * 16 = R + P * 16 by rw [Nat.add_zero, Nat.mod_eq_of_lt hP], show ((0 : Nat) : Int) = 0 from rfl] at HPB
  have HRD : Hid _ := fun (u : World) (hm : MemAt u mb s) => readDesc_any mb n s (R + P * 16) u hm hn hs (by omega) (by omega)
  have HIR : Hid _ := fun u => isReady_any ⟨S, R, P, W⟩ (dAt s (R + P * 16)) u
  have HRG : Hid _ := fun (u : World) (Bc : Nat) (v : Value) (hc : CR u Bc mb n v [] s) => readRing_any S R P W hc hn hs hS hS2 hP hR4 hR
  have hnum := rgR_num s R S P S 0 []
  have hlen := rgR_len s R S P S 0 []
  have HTE : Hid (tpR s R S P W = if rdyB W (dAt s (R + P * 16)) = true then (if (rgR s R S P S 0 []).1 = 0 then (0, (rgR s R S P S 0 []).2.1.number % 65536, (rgR s R S P S 0 []).2.2) else ((rgR s R S P S 0 []).1, 0, [])) else (5, 0, [])) := rfl
  generalize tpR s R S P W = TT at *
  generalize rgR s R S P S 0 [] = GG at *
  obtain ⟨gc, gd, gz⟩ := GG
  simp only at HRG hnum hlen HTE
  simp only at HIR
  generalize rdyB W (dAt s (R + P * 16)) = rdy at *
  generalize dAt s (R + P * 16) = dd at *
  generalize R + P * 16 = AT at *
  obtain ⟨e1, e2, e3, e4, e5, e6, e7, e8⟩ := dd
  have HM : Hid (∀ u, Below w.heap.size w u → MemAt u mb s) := fun u hu => h.below hu h.lt
  have hlt := h.lt
  clear h hn hs hR4 hR
  unfold dA pA at HIR
  unfold dA at HRD HRG
  unfold pA at HRG ⊢
  unfold mv at HRD ⊢
  simp only at HIR HRG
  have HX : Hid (∀ u, Below ((w.alloc (.cells #[.int .i64 S, .int .i64 R, .int .i64 P, .bool W] 37)).alloc (.cells #[.int .i64 0, .int .i64 0, .int .i64 0, .slice none 0 0] 35)).heap.size ((w.alloc (.cells #[.int .i64 S, .int .i64 R, .int .i64 P, .bool W] 37)).alloc (.cells #[.int .i64 0, .int .i64 0, .int .i64 0, .slice none 0 0] 35)) u → TwoBx w u #[.int .i64 S, .int .i64 R, .int .i64 P, .bool W] 37 #[.int .i64 0, .int .i64 0, .int .i64 0, .slice none 0 0] 35) := fun u h => TwoBx.of _ _ _ _ _ h
  cases rdy
  · rw [if_neg (by simp)] at HTE
    rw [HTE.out]
    clear HTE HRG
    go_enter Try.func33, Try.ntmps33
    go_wp2_with fail
    have HX0 : Hid _ := HX.out _ (Below.refl _ _)
    clear HX
    generalize ((w.alloc (.cells #[.int .i64 S, .int .i64 R, .int .i64 P, .bool W] 37)).alloc (.cells #[.int .i64 0, .int .i64 0, .int .i64 0, .slice none 0 0] 35)) = W0 at *
    have k0 := HX0.out.c1 0 (.int .i64 S) rfl
    have k1 := HX0.out.c1 1 (.int .i64 R) rfl
    have k2 := HX0.out.c1 2 (.int .i64 P) rfl
    have k3 := HX0.out.c1 3 (.bool W) rfl
    go_region_held3 (fun w' => w'.cell? ⟨w.heap.size, 0, none⟩ = some (.int .i64 S) ∧ w'.cell? ⟨w.heap.size, 1, none⟩ = some (.int .i64 R) ∧ w'.cell? ⟨w.heap.size, 2, none⟩ = some (.int .i64 P) ∧ w'.cell? ⟨w.heap.size, 3, none⟩ = some (.bool W)) (go_keep) ((first
      | (go_at_call 57; refine Calls.mono (HPB.out _) ?_; rintro e y1 ⟨rfl, hu⟩; have hb : Below W0.heap.size W0 y1 := ⟨hu.os, hu.tape, hu.output, hu.size, hu.block⟩; have HX1 : Hid _ := HX0.out.step hb; clear hu hb k0 k1 k2 k3; have k0 := HX1.out.c1 0 (.int .i64 S) rfl; have k1 := HX1.out.c1 1 (.int .i64 R) rfl; have k2 := HX1.out.c1 2 (.int .i64 P) rfl; have k3 := HX1.out.c1 3 (.bool W) rfl)
      | (go_at_call 56; refine Calls.mono (HRD.out _ (HM.out _ HX1.out.bel)) ?_; rintro e y2 ⟨rfl, hu⟩; have HX2 : Hid _ := HX1.out.step hu; clear hu k0 k1 k2 k3; have k0 := HX2.out.c1 0 (.int .i64 S) rfl; have k1 := HX2.out.c1 1 (.int .i64 R) rfl; have k2 := HX2.out.c1 2 (.int .i64 P) rfl; have k3 := HX2.out.c1 3 (.bool W) rfl)
      | (go_at_call 55; refine Calls.mono (HIR.out _) ?_; rintro e y3 ⟨rfl, hu⟩; have HX3 : Hid _ := HX2.out.step hu; clear hu k0 k1 k2 k3; have k0 := HX3.out.c1 0 (.int .i64 S) rfl; have k1 := HX3.out.c1 1 (.int .i64 R) rfl; have k2 := HX3.out.c1 2 (.int .i64 P) rfl; have k3 := HX3.out.c1 3 (.bool W) rfl)))
    have r0 := HX3.out.c2 0 _ rfl
    have r1 := HX3.out.c2 1 _ rfl
    have r2 := HX3.out.c2 2 _ rfl
    have r3 := HX3.out.c2 3 _ rfl
    have rf := fun k => HX3.out.f2 k
    have glt := HX3.out.lt
    have gl0 : w.heap.size < y3.heap.size := by omega
    clear HX0 HX1 HX2 HPB HRD HIR
    go_wp2_with fail
    refine bodyPost_ret (v := .agg #[.int .i64 5, .int .i64 0, .int .i64 0, .slice none 0 0]) ?_ rfl ⟨.slice none 0 0, rfl, World.ownsRow_nil _ _ _ _, ?_⟩
    · simp [results, Try.results33, go_sem, r0, r1, r2, r3]
    · exact (((HX3.out.bel.setCell (by simp) _).setCell (by simp) _).setCell (by simp) _).setCell (by simp) _
  rw [if_pos rfl] at HTE
  by_cases hgc : gc = 0
  · subst hgc
    rw [if_pos rfl] at HTE
    rw [HTE.out]
    clear HTE
    go_enter Try.func33, Try.ntmps33
    go_wp2_with fail
    have HX0 : Hid _ := HX.out _ (Below.refl _ _)
    clear HX
    generalize ((w.alloc (.cells #[.int .i64 S, .int .i64 R, .int .i64 P, .bool W] 37)).alloc (.cells #[.int .i64 0, .int .i64 0, .int .i64 0, .slice none 0 0] 35)) = W0 at *
    have k0 := HX0.out.c1 0 (.int .i64 S) rfl
    have k1 := HX0.out.c1 1 (.int .i64 R) rfl
    have k2 := HX0.out.c1 2 (.int .i64 P) rfl
    have k3 := HX0.out.c1 3 (.bool W) rfl
    go_region_held3 (fun w' => w'.cell? ⟨w.heap.size, 0, none⟩ = some (.int .i64 S) ∧ w'.cell? ⟨w.heap.size, 1, none⟩ = some (.int .i64 R) ∧ w'.cell? ⟨w.heap.size, 2, none⟩ = some (.int .i64 P) ∧ w'.cell? ⟨w.heap.size, 3, none⟩ = some (.bool W)) (go_keep) ((first
      | (go_at_call 57; refine Calls.mono (HPB.out _) ?_; rintro e y1 ⟨rfl, hu⟩; have hb : Below W0.heap.size W0 y1 := ⟨hu.os, hu.tape, hu.output, hu.size, hu.block⟩; have HX1 : Hid _ := HX0.out.step hb; clear hu hb k0 k1 k2 k3; have k0 := HX1.out.c1 0 (.int .i64 S) rfl; have k1 := HX1.out.c1 1 (.int .i64 R) rfl; have k2 := HX1.out.c1 2 (.int .i64 P) rfl; have k3 := HX1.out.c1 3 (.bool W) rfl)
      | (go_at_call 56; refine Calls.mono (HRD.out _ (HM.out _ HX1.out.bel)) ?_; rintro e y2 ⟨rfl, hu⟩; have HX2 : Hid _ := HX1.out.step hu; clear hu k0 k1 k2 k3; have k0 := HX2.out.c1 0 (.int .i64 S) rfl; have k1 := HX2.out.c1 1 (.int .i64 R) rfl; have k2 := HX2.out.c1 2 (.int .i64 P) rfl; have k3 := HX2.out.c1 3 (.bool W) rfl)
      | (go_at_call 55; refine Calls.mono (HIR.out _) ?_; rintro e y3 ⟨rfl, hu⟩; have HX3 : Hid _ := HX2.out.step hu; clear hu k0 k1 k2 k3; have k0 := HX3.out.c1 0 (.int .i64 S) rfl; have k1 := HX3.out.c1 1 (.int .i64 R) rfl; have k2 := HX3.out.c1 2 (.int .i64 P) rfl; have k3 := HX3.out.c1 3 (.bool W) rfl)))
    have r0 := HX3.out.c2 0 _ rfl
    have r1 := HX3.out.c2 1 _ rfl
    have r2 := HX3.out.c2 2 _ rfl
    have r3 := HX3.out.c2 3 _ rfl
    have rf := fun k => HX3.out.f2 k
    have glt := HX3.out.lt
    have gl0 : w.heap.size < y3.heap.size := by omega
    clear HX0 HX1 HX2 HPB HRD HIR
    go_wp2_with fail
    have HC0 : Hid (CR (y3.alloc (.cells #[.slice (some ⟨mb, 0, none⟩) n n, .slice none 0 0] 95)) y3.heap.size mb n (.slice none 0 0) [] s) := ⟨heap_new _ _, World.ownsRow_nil _ _ _ _, (HM.out y3 HX3.out.bel).below (bx1 _ _) (HM.out y3 HX3.out.bel).lt⟩
    have HXA : Hid _ := HX3.out.step (bx1 y3 (.cells #[.slice (some ⟨mb, 0, none⟩) n n, .slice none 0 0] 95))
    generalize (y3.alloc (.cells #[.slice (some ⟨mb, 0, none⟩) n n, .slice none 0 0] 95)) = y4 at *
    generalize y3.heap.size = Bc at *
    refine Calls.mono (HRG.out _ _ _ HC0.out) ?_
    rintro e y5 ⟨⟨t1, t2, t3, t4, t5, t6, t7, t8⟩, v', rfl, hdd, hcr, hfr⟩
    have hBl := HC0.out.lt
    have HX5 : Hid (TwoBx w y5 #[.int .i64 S, .int .i64 R, .int .i64 P, .bool W] 37 #[.int .i64 0, .int .i64 0, .int .i64 0, .slice none 0 0] 35) := ⟨hfr.bel HXA.out.bel (by omega), (hfr.low (by omega) hBl).trans HXA.out.b1, (hfr.low glt hBl).trans HXA.out.b2⟩
    have HC5 : Hid _ := hcr
    obtain ⟨c0, c1, cf⟩ := hcr.cel
    obtain ⟨ao, cap, hv⟩ := bu_sl hcr.row
    subst hv
    have lt5 := hcr.lt
    have HLT : Hid (w.heap.size + 1 < Bc) := glt
    clear hcr hfr HXA HX3 HC0 k0 k1 k2 k3 r0 r1 r2 r3 rf glt gl0 hBl HRG
    have HX6 : Hid _ := HX5.out.step (bx1 y5 (.cells #[.int .i64 t1, .int .i64 t2, .bool t3, .bool t4, .bool t5, .bool t6, .bool t7, .int .i64 t8] 68))
    have HC6 : Hid _ := HC5.out.below (bx1 y5 (.cells #[.int .i64 t1, .int .i64 t2, .bool t3, .bool t4, .bool t5, .bool t6, .bool t7, .int .i64 t8] 68))
    have HD6 : Hid ((y5.alloc (.cells #[.int .i64 t1, .int .i64 t2, .bool t3, .bool t4, .bool t5, .bool t6, .bool t7, .int .i64 t8] 68)).heap[y5.heap.size]? = some (.cells #[.int .i64 t1, .int .i64 t2, .bool t3, .bool t4, .bool t5, .bool t6, .bool t7, .int .i64 t8] 68 (0, 0))) := heap_new _ _
    have hd8 : t8 = gd.number := congrArg DV.number (hdd trivial)
    subst hd8
    clear hdd
    have hm8 : gd.number.tmod 65536 = gd.number % 65536 := Int.tmod_eq_emod_of_nonneg hnum.1
    have hl8 : ((gz.length : Nat) : Int) ≤ 16 := by simp at hlen; omega
    go_upto_region 5 with fail
    generalize (y5.alloc (.cells #[.int .i64 t1, .int .i64 t2, .bool t3, .bool t4, .bool t5, .bool t6, .bool t7, .int .i64 gd.number] 68)) = y6 at *
    generalize y5.heap.size = B6 at *
    obtain ⟨p0, p1, pf⟩ := HC6.out.cel
    have lt6 := HC6.out.lt
    have n8 := bxC HD6.out 7 _ rfl
    have ltB : B6 < y6.heap.size := (Array.getElem?_eq_some_iff.1 HD6.out).1
    have r0 := HX6.out.c2 0 _ rfl
    have r1 := HX6.out.c2 1 _ rfl
    have r2 := HX6.out.c2 2 _ rfl
    have r3 := HX6.out.c2 3 _ rfl
    have rf := fun k => HX6.out.f2 k
    have glt := HX6.out.lt
    clear c0 c1 cf lt5 HX5 HC5
    have hnb : (Value.slice ao gz.length cap).ownBlock ≠ some (w.heap.size + 1) := fun e => by have h1 := (HC6.out.row.lt _ e).1; have h2 := HLT.out; omega
    go_wp2_with fail
    refine bodyPost_ret (v := .agg #[.int .i64 0, .int .i64 (gd.number % 65536), .int .i64 (gz.length : Nat), .slice ao gz.length cap]) ?_ rfl ⟨.slice ao gz.length cap, rfl, ?_, ?_⟩
    · simp [results, Try.results33, go_sem, r0, r1, r2, r3]
    · exact own_set (own_set (own_set (own_set (bu_weak HC6.out.row (by have := HLT.out; omega)) hnb) hnb) hnb) hnb
    · exact (((HX6.out.bel.setCell (by simp) _).setCell (by simp) _).setCell (by simp) _).setCell (by simp) _
  · rw [if_neg hgc] at HTE
    rw [HTE.out]
    clear HTE
    have hg2 : (gc != 0) = true := by simp [hgc]
    clear hgc
    go_enter Try.func33, Try.ntmps33
    go_wp2_with fail
    have HX0 : Hid _ := HX.out _ (Below.refl _ _)
    clear HX
    generalize ((w.alloc (.cells #[.int .i64 S, .int .i64 R, .int .i64 P, .bool W] 37)).alloc (.cells #[.int .i64 0, .int .i64 0, .int .i64 0, .slice none 0 0] 35)) = W0 at *
    have k0 := HX0.out.c1 0 (.int .i64 S) rfl
    have k1 := HX0.out.c1 1 (.int .i64 R) rfl
    have k2 := HX0.out.c1 2 (.int .i64 P) rfl
    have k3 := HX0.out.c1 3 (.bool W) rfl
    go_region_held3 (fun w' => w'.cell? ⟨w.heap.size, 0, none⟩ = some (.int .i64 S) ∧ w'.cell? ⟨w.heap.size, 1, none⟩ = some (.int .i64 R) ∧ w'.cell? ⟨w.heap.size, 2, none⟩ = some (.int .i64 P) ∧ w'.cell? ⟨w.heap.size, 3, none⟩ = some (.bool W)) (go_keep) ((first
      | (go_at_call 57; refine Calls.mono (HPB.out _) ?_; rintro e y1 ⟨rfl, hu⟩; have hb : Below W0.heap.size W0 y1 := ⟨hu.os, hu.tape, hu.output, hu.size, hu.block⟩; have HX1 : Hid _ := HX0.out.step hb; clear hu hb k0 k1 k2 k3; have k0 := HX1.out.c1 0 (.int .i64 S) rfl; have k1 := HX1.out.c1 1 (.int .i64 R) rfl; have k2 := HX1.out.c1 2 (.int .i64 P) rfl; have k3 := HX1.out.c1 3 (.bool W) rfl)
      | (go_at_call 56; refine Calls.mono (HRD.out _ (HM.out _ HX1.out.bel)) ?_; rintro e y2 ⟨rfl, hu⟩; have HX2 : Hid _ := HX1.out.step hu; clear hu k0 k1 k2 k3; have k0 := HX2.out.c1 0 (.int .i64 S) rfl; have k1 := HX2.out.c1 1 (.int .i64 R) rfl; have k2 := HX2.out.c1 2 (.int .i64 P) rfl; have k3 := HX2.out.c1 3 (.bool W) rfl)
      | (go_at_call 55; refine Calls.mono (HIR.out _) ?_; rintro e y3 ⟨rfl, hu⟩; have HX3 : Hid _ := HX2.out.step hu; clear hu k0 k1 k2 k3; have k0 := HX3.out.c1 0 (.int .i64 S) rfl; have k1 := HX3.out.c1 1 (.int .i64 R) rfl; have k2 := HX3.out.c1 2 (.int .i64 P) rfl; have k3 := HX3.out.c1 3 (.bool W) rfl)))
    have r0 := HX3.out.c2 0 _ rfl
    have r1 := HX3.out.c2 1 _ rfl
    have r2 := HX3.out.c2 2 _ rfl
    have r3 := HX3.out.c2 3 _ rfl
    have rf := fun k => HX3.out.f2 k
    have glt := HX3.out.lt
    have gl0 : w.heap.size < y3.heap.size := by omega
    clear HX0 HX1 HX2 HPB HRD HIR
    go_wp2_with fail
    have HC0 : Hid (CR (y3.alloc (.cells #[.slice (some ⟨mb, 0, none⟩) n n, .slice none 0 0] 95)) y3.heap.size mb n (.slice none 0 0) [] s) := ⟨heap_new _ _, World.ownsRow_nil _ _ _ _, (HM.out y3 HX3.out.bel).below (bx1 _ _) (HM.out y3 HX3.out.bel).lt⟩
    have HXA : Hid _ := HX3.out.step (bx1 y3 (.cells #[.slice (some ⟨mb, 0, none⟩) n n, .slice none 0 0] 95))
    generalize (y3.alloc (.cells #[.slice (some ⟨mb, 0, none⟩) n n, .slice none 0 0] 95)) = y4 at *
    generalize y3.heap.size = Bc at *
    refine Calls.mono (HRG.out _ _ _ HC0.out) ?_
    rintro e y5 ⟨⟨t1, t2, t3, t4, t5, t6, t7, t8⟩, v', rfl, hdd, hcr, hfr⟩
    have hBl := HC0.out.lt
    have HX5 : Hid (TwoBx w y5 #[.int .i64 S, .int .i64 R, .int .i64 P, .bool W] 37 #[.int .i64 0, .int .i64 0, .int .i64 0, .slice none 0 0] 35) := ⟨hfr.bel HXA.out.bel (by omega), (hfr.low (by omega) hBl).trans HXA.out.b1, (hfr.low glt hBl).trans HXA.out.b2⟩
    have HC5 : Hid _ := hcr
    obtain ⟨c0, c1, cf⟩ := hcr.cel
    obtain ⟨ao, cap, hv⟩ := bu_sl hcr.row
    subst hv
    have lt5 := hcr.lt
    have HLT : Hid (w.heap.size + 1 < Bc) := glt
    clear hcr hfr HXA HX3 HC0 k0 k1 k2 k3 r0 r1 r2 r3 rf glt gl0 hBl HRG
    have HX6 : Hid _ := HX5.out.step (bx1 y5 (.cells #[.int .i64 t1, .int .i64 t2, .bool t3, .bool t4, .bool t5, .bool t6, .bool t7, .int .i64 t8] 68))
    have HC6 : Hid _ := HC5.out.below (bx1 y5 (.cells #[.int .i64 t1, .int .i64 t2, .bool t3, .bool t4, .bool t5, .bool t6, .bool t7, .int .i64 t8] 68))
    have HD6 : Hid ((y5.alloc (.cells #[.int .i64 t1, .int .i64 t2, .bool t3, .bool t4, .bool t5, .bool t6, .bool t7, .int .i64 t8] 68)).heap[y5.heap.size]? = some (.cells #[.int .i64 t1, .int .i64 t2, .bool t3, .bool t4, .bool t5, .bool t6, .bool t7, .int .i64 t8] 68 (0, 0))) := heap_new _ _
    clear hdd
    go_upto_region 5 with fail
    generalize (y5.alloc (.cells #[.int .i64 t1, .int .i64 t2, .bool t3, .bool t4, .bool t5, .bool t6, .bool t7, .int .i64 t8] 68)) = y6 at *
    generalize y5.heap.size = B6 at *
    have r0 := HX6.out.c2 0 _ rfl
    have r1 := HX6.out.c2 1 _ rfl
    have r2 := HX6.out.c2 2 _ rfl
    have r3 := HX6.out.c2 3 _ rfl
    have rf := fun k => HX6.out.f2 k
    have glt := HX6.out.lt
    clear c0 c1 cf lt5 HX5 HC5
    go_wp2_with fail
    refine bodyPost_ret (v := .agg #[.int .i64 gc, .int .i64 0, .int .i64 0, .slice none 0 0]) ?_ rfl ⟨.slice none 0 0, rfl, World.ownsRow_nil _ _ _ _, ?_⟩
    · simp [results, Try.results33, go_sem, r0, r1, r2, r3]
    · exact (((HX6.out.bel.setCell (by simp) _).setCell (by simp) _).setCell (by simp) _).setCell (by simp) _
end Go.Proofs.Ytggciigjhlbhhaa
