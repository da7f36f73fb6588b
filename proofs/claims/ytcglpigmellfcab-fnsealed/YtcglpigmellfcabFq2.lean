import Derived.Test.YtcglpigmellfcabSrc2
import Derived.Test.YtcglpigmellfcabSrc3
import Derived.Test.YtcglpigmellfcabRegInv
import Derived.Test.YtcglpigmellfcabOrI
import Derived.Test.YtcglpigmellfcabAv
import Derived.Test.YtcglpigmellfcabWords
namespace Go.Proofs.Ytcglpigmellfcab
open Go.ChangeShapes Go.WideShapes Go.ChangeAt Go.RowKit

/-- One number more. -/
theorem app1I {w : World} {B n : Nat} {v : Value} {xs : List Value} (H0 : w.ownsRow B 2 1 v n xs) (x : Int) (hn : n ≤ 1048576) (hB : B ≤ w.heap.size) :
    ∃ v' u', (Builtin.append_ #[27, 27] 27 #[v, .slice (some ⟨w.heap.size, 0, none⟩) 1 1]).run Try.prog (w.alloc (.cells #[.int .i64 x] 2)) = .ok v' u' ∧ (u'.ownsRow B 2 1 v' (n + 1) (xs ++ [.int .i64 x]) ∧ (w.alloc (.cells #[.int .i64 x] 2)).grownBy u' v.ownBlock) := by
  obtain ⟨i0, hi0, hz0, hz1, hz2⟩ := info_parts Try.info2
  obtain ⟨v', w', hr, h2, h3, _, _⟩ := run_append_own_at (P := Try.prog) (w.alloc (.cells #[.int .i64 x] 2)) B 27 27 2 i0 (.int .i64 0) 1 8 Try.underlying27 hi0 hz0 hz1 hz2 rfl (by decide) v n xs (World.ownsRow.alloc H0 _) ⟨w.heap.size, 0, none⟩ 1 1 [.int .i64 x] rfl (by
    intro j u hj
    match j, hj with
    | 0, hj =>
      simp at hj
      subst hj
      simp [Addr.add_lit]) (by intro u hu; simp at hu; subst hu; rfl) (by unfold maxLen; omega) (by omega) (by simp; omega)
  exact ⟨v', w', hr, h2, h3⟩
theorem own_weak9 {w : World} {B b : Nat} {v : Value} {n : Nat} {xs : List Value} (h : w.ownsRow B 2 1 v n xs) (hb : b < B) : w.ownsRow (b + 1) 2 1 v n xs := by
  obtain ⟨hl, h | ⟨g, cap, cur, hv, hg, h1, h2, h3, h4, h5⟩⟩ := h
  · exact ⟨hl, .inl h⟩
  · exact ⟨hl, .inr ⟨g, cap, cur, hv, by omega, h1, h2, h3, h4, h5⟩⟩
theorem gb_own {w u u' : World} {b : Nat} {r : Option Nat} (h : w.grownBy u (some b)) (hg : u.grownBy u' r) (hr : ∀ k, r = some k → w.heap.size ≤ k) : w.grownBy u' (some b) :=
  ⟨hg.os.trans h.os, hg.tape.trans h.tape, hg.output.trans h.output, Nat.le_trans h.size hg.size, fun k hk hn => (hg.block k (Nat.lt_of_lt_of_le hk h.size) (fun e => by have := hr k e.symm; omega)).trans (h.block k hk hn)⟩
theorem src_own {w u : World} {b : Nat} {a : Option Addr} {len cap : Nat} {r : Option Nat} (h : SrcOk w b a len cap) (hg : w.grownBy u r) (hr : ∀ k, r = some k → b < k) : SrcOk u b a len cap :=
  h.keep fun i hi => hg.block i (Nat.lt_of_le_of_lt hi h.lt) (fun e => by have := hr i e.symm; omega)
/-- A row of numbers behind the source. -/
structure RPr (b : Nat) (u : World) (v : Value) : Prop where
  ex : ∃ zs : List Int, zs.length ≤ 9 ∧ Orow u (b + 1) v zs
theorem Orow.grown {b : Nat} {u u' : World} {v : Value} {zs : List Int} (h : Orow u (b + 1) v zs) (hg : u.grownBy u' (some b)) : Orow u' (b + 1) v zs := by
  rcases h with h | ⟨g, o, cap, cur, hv, hB, hc, hg2, ha⟩
  · exact .inl h
  · exact .inr ⟨g, o, cap, cur, hv, hB, hc, (hg.block g (Array.getElem?_eq_some_iff.1 hg2).1 (by simp; omega)).trans hg2, ha⟩
theorem RPr.grow {b : Nat} {u u' : World} {v : Value} (h : RPr b u v) (hg : u.grownBy u' (some b)) : RPr b u' v := by
  obtain ⟨zs, h1, h2⟩ := h
  exact ⟨zs, h1, h2.grown hg⟩
theorem RPr.sl {b : Nat} {u : World} {v : Value} (h : RPr b u v) : ∃ ao n c, v = .slice ao n c := by
  obtain ⟨zs, _, h2⟩ := h
  obtain ⟨ao, c, e⟩ := h2.irow.sl
  exact ⟨ao, _, c, e⟩
theorem RPr.new {b : Nat} {u : World} (hb : b < u.heap.size) (zs : List Int) (hz : zs.length ≤ 9) : RPr b (u.alloc (.cells (iR zs).toArray 2)) (.slice (some ⟨u.heap.size, 0, none⟩) zs.length zs.length) :=
  ⟨zs, hz, .inr ⟨u.heap.size, 0, zs.length, (iR zs).toArray, rfl, hb, Nat.le_refl _, heap_new _ _, fun k hk => by simp [iR, List.getElem?_eq_getElem hk]⟩⟩
/-- The row of rows. -/
structure RRw (b : Nat) (u : World) (v : Value) : Prop where
  ex : ∃ q x0 x1 x2 x3 x4, v = .slice (some ⟨q, 0, none⟩) 5 5 ∧ b < q ∧ u.heap[q]? = some (.cells #[x0, x1, x2, x3, x4] 27 (0, 0)) ∧ RPr b u x0 ∧ RPr b u x1 ∧ RPr b u x2 ∧ RPr b u x3 ∧ RPr b u x4
theorem RRw.grow {b : Nat} {u u' : World} {v : Value} (h : RRw b u v) (hg : u.grownBy u' (some b)) : RRw b u' v := by
  obtain ⟨q, x0, x1, x2, x3, x4, h1, h2, h3, r0, r1, r2, r3, r4⟩ := h
  exact ⟨q, x0, x1, x2, x3, x4, h1, h2, (hg.block q (Array.getElem?_eq_some_iff.1 h3).1 (by simp; omega)).trans h3, r0.grow hg, r1.grow hg, r2.grow hg, r3.grow hg, r4.grow hg⟩
structure RPt (b : Nat) (u : World) (v : Value) : Prop where
  ex : ∃ q r x, v = .pointer (some ⟨q, r, none⟩) ∧ b < q ∧ q < u.heap.size ∧ u.cell? ⟨q, r, none⟩ = some x ∧ RPr b u x
theorem RPt.grow {b : Nat} {u u' : World} {v : Value} (h : RPt b u v) (hg : u.grownBy u' (some b)) : RPt b u' v := by
  obtain ⟨q, r, x, h1, h2, h3, h4, h5⟩ := h
  exact ⟨q, r, x, h1, h2, Nat.lt_of_lt_of_le h3 hg.size, (World.cell?_of_block (a := ⟨q, r, none⟩) (hg.block q h3 (by simp; omega))).trans h4, h5.grow hg⟩
structure RNm (v : Value) : Prop where
  ex : ∃ y : Nat, v = .int .i64 (y : Int) ∧ y < 5
structure RJ (b : Nat) (a : Option Addr) (len cap : Nat) (W : World) (bb0 bb1 bb2 bb3 bb4 bb5 bb6 bb7 bb8 bb9 bb10 : Bool) (v21 v22 v23 v24 v25 v26 v27 v28 v29 v30 v3 : Value) (u : World) : Prop where
  src : SrcOk u b a len cap
  gr : W.grownBy u (some b)
  c0 : bb0 = true → RPr b u v21
  c1 : bb1 = true → RPr b u v22
  c2 : bb2 = true → RPr b u v23
  c3 : bb3 = true → RPr b u v24
  c4 : bb4 = true → RPr b u v25
  c5 : bb5 = true → RRw b u v26
  c6 : bb6 = true → v27 = .pointer (some ⟨b, 0, none⟩)
  c7 : bb7 = true → RNm v28
  c8 : bb8 = true → RPt b u v29
  c9 : bb9 = true → RPr b u v30
  c10 : bb10 = true → RPr b u v3
set_option maxRecDepth 100000 in
set_option maxHeartbeats 8000000 in
theorem src_regs (b : Nat) (a : Option Addr) (len cap : Nat) (w : World) (h : SrcOk w b a len cap) :
    Calls Try.prog 71 #[.pointer (some ⟨b, 0, none⟩)] w fun e w' => ∃ v zs, e = .returned v ∧ Orow w' (b + 1) v zs ∧ zs.length ≤ 9 ∧ SrcOk w' b a len cap ∧ w.grownBy w' (some b) := by
  have hbw : b < w.heap.size := h.lt
  have HB : Hid (b < w.heap.size) := hbw
  have HS0 : Hid (SrcOk (w.alloc (.cells #[] 2)) b a len cap) := src_own (r := none) h (World.grownBy_alloc w _ _) (fun k hk => by cases hk)
  have HG0 : Hid (w.grownBy (w.alloc (.cells #[] 2)) (some b)) := World.grownBy_alloc w _ _
  have HO0 : Hid ((w.alloc (.cells #[] 2)).ownsRow w.heap.size 2 1 (.slice (some ⟨w.heap.size, 0, none⟩) 0 0) 0 (iR [])) := World.ownsRow_lit w #[] 0 (by simp) (by decide) rfl
  clear h hbw
  go_enter Try.func71, Try.ntmps71
  go_upto_region 2 with fail
  generalize (w.alloc (.cells #[] 2)) = u0 at *
  go_wp2_with fail
  refine (src_n b a len cap 4 u0 HS0.out (by omega)).mono ?_
  rintro e u1 ⟨r1, rfl, p1, q1, hs1, hg1⟩
  obtain ⟨R1, rfl⟩ := Int.eq_ofNat_of_zero_le p1
  have hR1 : R1 < 4 := by omega
  have HS1 : Hid (SrcOk u1 b a len cap) := hs1
  have HG1 : Hid (w.grownBy u1 (some b)) := Lib.grownBy_trans HG0.out hg1
  have HO1 : Hid (u1.ownsRow w.heap.size 2 1 (.slice (some ⟨w.heap.size, 0, none⟩) 0 0) 0 (iR [])) := HO0.out.kept hg1 (.inr (fun e => by have := (HO0.out.lt _ e).1; have := HB.out; omega))
  clear p1 q1 hs1 hg1 HS0 HG0 HO0
  go_wp2
  go_loopw [3, 4] (fun v i wr => ∃ (k : Nat) (zs : List Int), k ≤ 4 ∧ zs.length + k ≤ 4 ∧ i = .int .i64 k ∧ wr.ownsRow w.heap.size 2 1 v zs.length (iR zs) ∧ SrcOk wr b a len cap ∧ w.grownBy wr (some b)) (fun _ i _ => (intOf i).toNat)
  case atStart => exact ⟨1 + R1, [], by omega, by simp; omega, by go_num, HO1.out, HS1.out, HG1.out⟩
  case round =>
    obtain ⟨k, zs, hk, hkz, rfl, ho, hs, hg⟩ := hrel
    obtain ⟨ao, co, rfl⟩ := i_sl ho
    have HO : Hid (wr.ownsRow w.heap.size 2 1 (.slice ao zs.length co) zs.length (iR zs)) := ho
    have HS : Hid (SrcOk wr b a len cap) := hs
    have HG : Hid (w.grownBy wr (some b)) := hg
    clear ho hs hg HO1 HS1 HG1
    by_cases hk0 : k = 0
    · subst hk0
      go_wp2_with fail
      refine (src_one b a len cap 15 wr HS.out (by omega)).mono ?_
      rintro e u2 ⟨o2, rfl, hs2, hg2⟩
      have HS2 : Hid (SrcOk u2 b a len cap) := hs2
      have HG2 : Hid (w.grownBy u2 (some b)) := Lib.grownBy_trans HG.out hg2
      have HO2 : Hid (u2.ownsRow w.heap.size 2 1 (.slice ao zs.length co) zs.length (iR zs)) := HO.out.kept hg2 (by
        rcases hq : (Value.slice ao zs.length co).ownBlock with _ | k1
        · exact .inl rfl
        · exact .inr (fun e => by have := (HO.out.lt _ hq).1; have := HB.out; cases e; omega))
      clear hs2 hg2 HS HG HO
      cases o2
      · go_wp2
        go_ret
        exact ⟨_, zs, rfl, Orow.of (own_weak9 HO2.out HB.out), by omega, HS2.out, HG2.out⟩
      · go_upto_region 7 with fail
        refine wp_region_any (by kernel_rfl) ?_
        refine wpAny_inv (fun LL a9 u => ∃ (bb0 bb1 bb2 bb3 bb4 bb5 bb6 bb7 bb8 bb9 bb10 : Bool) (v21 v22 v23 v24 v25 v26 v27 v28 v29 v30 v3 : Value), LL = #[bb0, bb1, bb2, bb3, bb4, bb5, bb6, bb7, bb8, bb9, bb10] ∧ a9 = { tmps := ((.pointer (some ⟨b, 0, none⟩)) :: (undef) :: (.slice none 0 0) :: (v3) :: (.int .i64 0) :: (.slice (some ⟨w.heap.size, 0, none⟩) 0 0) :: (.pointer (some ⟨b, 0, none⟩)) :: (.int .i64 (R1 : Int)) :: (.int .i64 (1 + (R1 : Int))) :: (.int .i64 0) :: (.bool false) :: (u11) :: (u12) :: (u13) :: (u14) :: (u15) :: (u16) :: (u17) :: (u18) :: (.pointer (some ⟨b, 0, none⟩)) :: (.bool true) :: (v21) :: (v22) :: (v23) :: (v24) :: (v25) :: (v26) :: (v27) :: (v28) :: (v29) :: (v30) :: (undef) :: []).toArray, defers := [] } ∧ RJ b a len cap u2 bb0 bb1 bb2 bb3 bb4 bb5 bb6 bb7 bb8 bb9 bb10 v21 v22 v23 v24 v25 v26 v27 v28 v29 v30 v3 u) ?hs ?hd _ _ _ _ (by decide) ?st
        case st => exact ⟨false, false, false, false, false, false, false, false, false, false, false, undef, undef, undef, undef, undef, undef, undef, undef, undef, undef, .slice ao zs.length co, rfl, rfl, ⟨src_own (r := none) HS2.out ⟨rfl, rfl, rfl, Nat.le_refl _, fun _ _ _ => rfl⟩ (fun k hk => by cases hk), ⟨rfl, rfl, rfl, Nat.le_refl _, fun _ _ _ => rfl⟩, (fun e => by cases e), (fun e => by cases e), (fun e => by cases e), (fun e => by cases e), (fun e => by cases e), (fun e => by cases e), (fun e => by cases e), (fun e => by cases e), (fun e => by cases e), (fun e => by cases e), (fun e => by cases e)⟩⟩
        case hs =>
          rintro LL a9 u i ⟨bb0, bb1, bb2, bb3, bb4, bb5, bb6, bb7, bb8, bb9, bb10, v21, v22, v23, v24, v25, v26, v27, v28, v29, v30, v3, rfl, rfl, hJ⟩ hi
          obtain ⟨hf, o, ho, hall⟩ := mem_ready.1 hi
          have hi11 : i < 11 := (Array.getElem?_eq_some_iff.1 ho).1
          have hbu : b < u.heap.size := hJ.src.lt
          obtain rfl | rfl | rfl | rfl | rfl | rfl | rfl | rfl | rfl | rfl | rfl : i = 0 ∨ i = 1 ∨ i = 2 ∨ i = 3 ∨ i = 4 ∨ i = 5 ∨ i = 6 ∨ i = 7 ∨ i = 8 ∨ i = 9 ∨ i = 10 := by omega
          · obtain rfl : bb0 = false := hf
            have HJ : Hid (RJ b a len cap u2 false bb1 bb2 bb3 bb4 bb5 bb6 bb7 bb8 bb9 bb10 v21 v22 v23 v24 v25 v26 v27 v28 v29 v30 v3 u) := hJ
            have HNW : Hid _ := RPr.new hbu ([] : List Int) (by decide)
            have HGA : Hid (u.grownBy (u.alloc (.cells (iR []).toArray 2)) (some b)) := World.grownBy_alloc u _ _
            clear hJ hall hi hbu ho
            refine wpOp_step rfl (fun K hK => ?_)
            go_simp
            exact hK _ _ ⟨true, bb1, bb2, bb3, bb4, bb5, bb6, bb7, bb8, bb9, bb10, _, v22, v23, v24, v25, v26, v27, v28, v29, v30, v3, rfl, rfl, ⟨src_own (r := none) HJ.out.src (World.grownBy_alloc u _ _) (fun k hk => by cases hk), Lib.grownBy_trans HJ.out.gr HGA.out, fun _ => HNW.out, fun e => (HJ.out.c1 e).grow HGA.out, fun e => (HJ.out.c2 e).grow HGA.out, fun e => (HJ.out.c3 e).grow HGA.out, fun e => (HJ.out.c4 e).grow HGA.out, fun e => (HJ.out.c5 e).grow HGA.out, HJ.out.c6, HJ.out.c7, fun e => (HJ.out.c8 e).grow HGA.out, fun e => (HJ.out.c9 e).grow HGA.out, fun e => (HJ.out.c10 e).grow HGA.out⟩⟩
          · obtain rfl : bb1 = false := hf
            have HJ : Hid (RJ b a len cap u2 bb0 false bb2 bb3 bb4 bb5 bb6 bb7 bb8 bb9 bb10 v21 v22 v23 v24 v25 v26 v27 v28 v29 v30 v3 u) := hJ
            have HNW : Hid _ := RPr.new hbu ([-1] : List Int) (by decide)
            have HGA : Hid (u.grownBy (u.alloc (.cells (iR [-1]).toArray 2)) (some b)) := World.grownBy_alloc u _ _
            clear hJ hall hi hbu ho
            refine wpOp_step rfl (fun K hK => ?_)
            go_simp
            exact hK _ _ ⟨bb0, true, bb2, bb3, bb4, bb5, bb6, bb7, bb8, bb9, bb10, v21, _, v23, v24, v25, v26, v27, v28, v29, v30, v3, rfl, rfl, ⟨src_own (r := none) HJ.out.src (World.grownBy_alloc u _ _) (fun k hk => by cases hk), Lib.grownBy_trans HJ.out.gr HGA.out, fun e => (HJ.out.c0 e).grow HGA.out, fun _ => HNW.out, fun e => (HJ.out.c2 e).grow HGA.out, fun e => (HJ.out.c3 e).grow HGA.out, fun e => (HJ.out.c4 e).grow HGA.out, fun e => (HJ.out.c5 e).grow HGA.out, HJ.out.c6, HJ.out.c7, fun e => (HJ.out.c8 e).grow HGA.out, fun e => (HJ.out.c9 e).grow HGA.out, fun e => (HJ.out.c10 e).grow HGA.out⟩⟩
          · obtain rfl : bb2 = false := hf
            have HJ : Hid (RJ b a len cap u2 bb0 bb1 false bb3 bb4 bb5 bb6 bb7 bb8 bb9 bb10 v21 v22 v23 v24 v25 v26 v27 v28 v29 v30 v3 u) := hJ
            have HNW : Hid _ := RPr.new hbu ([4294967296] : List Int) (by decide)
            have HGA : Hid (u.grownBy (u.alloc (.cells (iR [4294967296]).toArray 2)) (some b)) := World.grownBy_alloc u _ _
            clear hJ hall hi hbu ho
            refine wpOp_step rfl (fun K hK => ?_)
            go_simp
            exact hK _ _ ⟨bb0, bb1, true, bb3, bb4, bb5, bb6, bb7, bb8, bb9, bb10, v21, v22, _, v24, v25, v26, v27, v28, v29, v30, v3, rfl, rfl, ⟨src_own (r := none) HJ.out.src (World.grownBy_alloc u _ _) (fun k hk => by cases hk), Lib.grownBy_trans HJ.out.gr HGA.out, fun e => (HJ.out.c0 e).grow HGA.out, fun e => (HJ.out.c1 e).grow HGA.out, fun _ => HNW.out, fun e => (HJ.out.c3 e).grow HGA.out, fun e => (HJ.out.c4 e).grow HGA.out, fun e => (HJ.out.c5 e).grow HGA.out, HJ.out.c6, HJ.out.c7, fun e => (HJ.out.c8 e).grow HGA.out, fun e => (HJ.out.c9 e).grow HGA.out, fun e => (HJ.out.c10 e).grow HGA.out⟩⟩
          · obtain rfl : bb3 = false := hf
            have HJ : Hid (RJ b a len cap u2 bb0 bb1 bb2 false bb4 bb5 bb6 bb7 bb8 bb9 bb10 v21 v22 v23 v24 v25 v26 v27 v28 v29 v30 v3 u) := hJ
            have HNW : Hid _ := RPr.new hbu ((List.replicate 8 0) : List Int) (by decide)
            have m9 : (Instr.makeSlice 27 (.int .i64 8) (.int .i64 8)).run Try.prog u = .ok (.slice (some ⟨u.heap.size, 0, none⟩) 8 8) (u.alloc (.cells (iR (List.replicate 8 0)).toArray 2)) := i_mk u 8 (by omega)
            have HGA : Hid (u.grownBy (u.alloc (.cells (iR (List.replicate 8 0)).toArray 2)) (some b)) := World.grownBy_alloc u _ _
            clear hJ hall hi hbu ho
            refine wpOp_step rfl (fun K hK => ?_)
            go_simp
            exact hK _ _ ⟨bb0, bb1, bb2, true, bb4, bb5, bb6, bb7, bb8, bb9, bb10, v21, v22, v23, _, v25, v26, v27, v28, v29, v30, v3, rfl, rfl, ⟨src_own (r := none) HJ.out.src (World.grownBy_alloc u _ _) (fun k hk => by cases hk), Lib.grownBy_trans HJ.out.gr HGA.out, fun e => (HJ.out.c0 e).grow HGA.out, fun e => (HJ.out.c1 e).grow HGA.out, fun e => (HJ.out.c2 e).grow HGA.out, fun _ => HNW.out, fun e => (HJ.out.c4 e).grow HGA.out, fun e => (HJ.out.c5 e).grow HGA.out, HJ.out.c6, HJ.out.c7, fun e => (HJ.out.c8 e).grow HGA.out, fun e => (HJ.out.c9 e).grow HGA.out, fun e => (HJ.out.c10 e).grow HGA.out⟩⟩
          · obtain rfl : bb4 = false := hf
            have HJ : Hid (RJ b a len cap u2 bb0 bb1 bb2 bb3 false bb5 bb6 bb7 bb8 bb9 bb10 v21 v22 v23 v24 v25 v26 v27 v28 v29 v30 v3 u) := hJ
            have HNW : Hid _ := RPr.new hbu ((List.replicate 9 0) : List Int) (by decide)
            have m9 : (Instr.makeSlice 27 (.int .i64 9) (.int .i64 9)).run Try.prog u = .ok (.slice (some ⟨u.heap.size, 0, none⟩) 9 9) (u.alloc (.cells (iR (List.replicate 9 0)).toArray 2)) := i_mk u 9 (by omega)
            have HGA : Hid (u.grownBy (u.alloc (.cells (iR (List.replicate 9 0)).toArray 2)) (some b)) := World.grownBy_alloc u _ _
            clear hJ hall hi hbu ho
            refine wpOp_step rfl (fun K hK => ?_)
            go_simp
            exact hK _ _ ⟨bb0, bb1, bb2, bb3, true, bb5, bb6, bb7, bb8, bb9, bb10, v21, v22, v23, v24, _, v26, v27, v28, v29, v30, v3, rfl, rfl, ⟨src_own (r := none) HJ.out.src (World.grownBy_alloc u _ _) (fun k hk => by cases hk), Lib.grownBy_trans HJ.out.gr HGA.out, fun e => (HJ.out.c0 e).grow HGA.out, fun e => (HJ.out.c1 e).grow HGA.out, fun e => (HJ.out.c2 e).grow HGA.out, fun e => (HJ.out.c3 e).grow HGA.out, fun _ => HNW.out, fun e => (HJ.out.c5 e).grow HGA.out, HJ.out.c6, HJ.out.c7, fun e => (HJ.out.c8 e).grow HGA.out, fun e => (HJ.out.c9 e).grow HGA.out, fun e => (HJ.out.c10 e).grow HGA.out⟩⟩
          · obtain rfl : bb5 = false := hf
            cases ho
            have hb0 : bb0 = true := hall { on := 0, ground := .data } (by simp) rfl
            have hb1 : bb1 = true := hall { on := 1, ground := .data } (by simp) rfl
            have hb2 : bb2 = true := hall { on := 2, ground := .data } (by simp) rfl
            have hb3 : bb3 = true := hall { on := 3, ground := .data } (by simp) rfl
            have hb4 : bb4 = true := hall { on := 4, ground := .data } (by simp) rfl
            obtain ⟨a0, n0, c0, e0⟩ := (hJ.c0 hb0).sl
            subst e0
            obtain ⟨a1, n1, c1, e1⟩ := (hJ.c1 hb1).sl
            subst e1
            obtain ⟨a2, n2, c2, e2⟩ := (hJ.c2 hb2).sl
            subst e2
            obtain ⟨a3, n3, c3, e3⟩ := (hJ.c3 hb3).sl
            subst e3
            obtain ⟨a4, n4, c4, e4⟩ := (hJ.c4 hb4).sl
            subst e4
            have HJ : Hid (RJ b a len cap u2 bb0 bb1 bb2 bb3 bb4 false bb6 bb7 bb8 bb9 bb10 (.slice a0 n0 c0) (.slice a1 n1 c1) (.slice a2 n2 c2) (.slice a3 n3 c3) (.slice a4 n4 c4) v26 v27 v28 v29 v30 v3 u) := hJ
            have HGA : Hid (u.grownBy (u.alloc (.cells #[.slice a0 n0 c0, .slice a1 n1 c1, .slice a2 n2 c2, .slice a3 n3 c3, .slice a4 n4 c4] 27)) (some b)) := World.grownBy_alloc u _ _
            have HNW : Hid (RRw b (u.alloc (.cells #[.slice a0 n0 c0, .slice a1 n1 c1, .slice a2 n2 c2, .slice a3 n3 c3, .slice a4 n4 c4] 27)) (.slice (some ⟨u.heap.size, 0, none⟩) 5 5)) := ⟨u.heap.size, _, _, _, _, _, rfl, hbu, heap_new _ _, (hJ.c0 hb0).grow (World.grownBy_alloc u _ _), (hJ.c1 hb1).grow (World.grownBy_alloc u _ _), (hJ.c2 hb2).grow (World.grownBy_alloc u _ _), (hJ.c3 hb3).grow (World.grownBy_alloc u _ _), (hJ.c4 hb4).grow (World.grownBy_alloc u _ _)⟩
            clear hJ hall hi hbu hb0 hb1 hb2 hb3 hb4
            refine wpOp_step rfl (fun K hK => ?_)
            go_simp
            exact hK _ _ ⟨bb0, bb1, bb2, bb3, bb4, true, bb6, bb7, bb8, bb9, bb10, _, _, _, _, _, _, v27, v28, v29, v30, v3, rfl, rfl, ⟨src_own (r := none) HJ.out.src (World.grownBy_alloc u _ _) (fun k hk => by cases hk), Lib.grownBy_trans HJ.out.gr HGA.out, fun e => (HJ.out.c0 e).grow HGA.out, fun e => (HJ.out.c1 e).grow HGA.out, fun e => (HJ.out.c2 e).grow HGA.out, fun e => (HJ.out.c3 e).grow HGA.out, fun e => (HJ.out.c4 e).grow HGA.out, fun _ => HNW.out, HJ.out.c6, HJ.out.c7, fun e => (HJ.out.c8 e).grow HGA.out, fun e => (HJ.out.c9 e).grow HGA.out, fun e => (HJ.out.c10 e).grow HGA.out⟩⟩
          · obtain rfl : bb6 = false := hf
            have HJ : Hid (RJ b a len cap u2 bb0 bb1 bb2 bb3 bb4 bb5 false bb7 bb8 bb9 bb10 v21 v22 v23 v24 v25 v26 v27 v28 v29 v30 v3 u) := hJ
            clear hJ hall hi hbu ho
            refine wpOp_step rfl (fun K hK => ?_)
            go_simp
            exact hK _ _ ⟨bb0, bb1, bb2, bb3, bb4, bb5, true, bb7, bb8, bb9, bb10, v21, v22, v23, v24, v25, v26, _, v28, v29, v30, v3, rfl, rfl, ⟨HJ.out.src, HJ.out.gr, HJ.out.c0, HJ.out.c1, HJ.out.c2, HJ.out.c3, HJ.out.c4, HJ.out.c5, fun _ => rfl, HJ.out.c7, HJ.out.c8, HJ.out.c9, HJ.out.c10⟩⟩
          · obtain rfl : bb7 = false := hf
            cases ho
            have hb6 : bb6 = true := hall { on := 6, ground := .data } (by simp) rfl
            have e6 := hJ.c6 hb6
            subst e6
            have HJ : Hid (RJ b a len cap u2 bb0 bb1 bb2 bb3 bb4 bb5 bb6 false bb8 bb9 bb10 v21 v22 v23 v24 v25 v26 (.pointer (some ⟨b, 0, none⟩)) v28 v29 v30 v3 u) := hJ
            clear hJ hall hi hbu hb6
            refine wpOp_step rfl (fun K hK => ?_)
            go_simp
            refine (src_n b a len cap 5 u HJ.out.src (by omega)).mono ?_
            rintro e9 u9 ⟨r9, rfl, p9, q9, hs9, hg9⟩
            exact hK _ _ ⟨bb0, bb1, bb2, bb3, bb4, bb5, bb6, true, bb8, bb9, bb10, v21, v22, v23, v24, v25, v26, _, _, v29, v30, v3, rfl, rfl, ⟨hs9, Lib.grownBy_trans HJ.out.gr hg9, fun e => (HJ.out.c0 e).grow hg9, fun e => (HJ.out.c1 e).grow hg9, fun e => (HJ.out.c2 e).grow hg9, fun e => (HJ.out.c3 e).grow hg9, fun e => (HJ.out.c4 e).grow hg9, fun e => (HJ.out.c5 e).grow hg9, HJ.out.c6, fun _ => ⟨r9.toNat, by rw [Int.toNat_of_nonneg p9], by omega⟩, fun e => (HJ.out.c8 e).grow hg9, fun e => (HJ.out.c9 e).grow hg9, fun e => (HJ.out.c10 e).grow hg9⟩⟩
          · obtain rfl : bb8 = false := hf
            cases ho
            have hb5 : bb5 = true := hall { on := 5, ground := .data } (by simp) rfl
            have hb7 : bb7 = true := hall { on := 7, ground := .data } (by simp) rfl
            obtain ⟨q, x0, x1, x2, x3, x4, e5, q0, q1, r0, r1, r2, r3, r4⟩ := hJ.c5 hb5
            subst e5
            obtain ⟨y, e7, y1⟩ := hJ.c7 hb7
            subst e7
            have HJ : Hid (RJ b a len cap u2 bb0 bb1 bb2 bb3 bb4 bb5 bb6 bb7 false bb9 bb10 v21 v22 v23 v24 v25 (.slice (some ⟨q, 0, none⟩) 5 5) v27 (.int .i64 (y : Int)) v29 v30 v3 u) := hJ
            have hql : q < u.heap.size := (Array.getElem?_eq_some_iff.1 q1).1
            have HPT : Hid (RPt b u (.pointer (some ⟨q, y, none⟩))) := (by
              obtain rfl | rfl | rfl | rfl | rfl : y = 0 ∨ y = 1 ∨ y = 2 ∨ y = 3 ∨ y = 4 := by omega
              · exact ⟨q, 0, x0, rfl, q0, hql, by simp [World.cell?, q1], r0⟩
              · exact ⟨q, 1, x1, rfl, q0, hql, by simp [World.cell?, q1], r1⟩
              · exact ⟨q, 2, x2, rfl, q0, hql, by simp [World.cell?, q1], r2⟩
              · exact ⟨q, 3, x3, rfl, q0, hql, by simp [World.cell?, q1], r3⟩
              · exact ⟨q, 4, x4, rfl, q0, hql, by simp [World.cell?, q1], r4⟩)
            have hy0 : (0 : Int) ≤ (y : Int) := by omega
            have hy1 : (y : Int) < 5 := by omega
            clear hJ hall hi hbu hb5 hb7 q1 r0 r1 r2 r3 r4 q0 hql
            refine wpOp_step rfl (fun K hK => ?_)
            go_simp
            exact hK _ _ ⟨bb0, bb1, bb2, bb3, bb4, bb5, bb6, bb7, true, bb9, bb10, v21, v22, v23, v24, v25, _, v27, _, _, v30, v3, rfl, rfl, ⟨HJ.out.src, HJ.out.gr, HJ.out.c0, HJ.out.c1, HJ.out.c2, HJ.out.c3, HJ.out.c4, HJ.out.c5, HJ.out.c6, HJ.out.c7, fun _ => HPT.out, HJ.out.c9, HJ.out.c10⟩⟩
          · obtain rfl : bb9 = false := hf
            cases ho
            have hb8 : bb8 = true := hall { on := 8, ground := .data } (by simp) rfl
            obtain ⟨q, r, x, e8, q0, q1, q2, q3⟩ := hJ.c8 hb8
            subst e8
            obtain ⟨ax, nx, cx, ex⟩ := q3.sl
            subst ex
            have HJ : Hid (RJ b a len cap u2 bb0 bb1 bb2 bb3 bb4 bb5 bb6 bb7 bb8 false bb10 v21 v22 v23 v24 v25 v26 v27 v28 (.pointer (some ⟨q, r, none⟩)) v30 v3 u) := hJ
            have HRX : Hid (RPr b u (.slice ax nx cx)) := q3
            clear hJ hall hi hbu hb8 q0 q3
            refine wpOp_step rfl (fun K hK => ?_)
            go_simp
            exact hK _ _ ⟨bb0, bb1, bb2, bb3, bb4, bb5, bb6, bb7, bb8, true, bb10, v21, v22, v23, v24, v25, v26, v27, v28, _, _, v3, rfl, rfl, ⟨HJ.out.src, HJ.out.gr, HJ.out.c0, HJ.out.c1, HJ.out.c2, HJ.out.c3, HJ.out.c4, HJ.out.c5, HJ.out.c6, HJ.out.c7, HJ.out.c8, fun _ => HRX.out, HJ.out.c10⟩⟩
          · obtain rfl : bb10 = false := hf
            cases ho
            have hb9 : bb9 = true := hall { on := 9, ground := .data } (by simp) rfl
            obtain ⟨ax, nx, cx, ex⟩ := (hJ.c9 hb9).sl
            subst ex
            have HJ : Hid (RJ b a len cap u2 bb0 bb1 bb2 bb3 bb4 bb5 bb6 bb7 bb8 bb9 false v21 v22 v23 v24 v25 v26 v27 v28 v29 (.slice ax nx cx) v3 u) := hJ
            have HRX : Hid (RPr b u (.slice ax nx cx)) := hJ.c9 hb9
            clear hJ hall hi hbu hb9
            refine wpOp_step rfl (fun K hK => ?_)
            go_simp
            exact hK _ _ ⟨bb0, bb1, bb2, bb3, bb4, bb5, bb6, bb7, bb8, bb9, true, v21, v22, v23, v24, v25, v26, v27, v28, v29, _, _, rfl, rfl, ⟨HJ.out.src, HJ.out.gr, HJ.out.c0, HJ.out.c1, HJ.out.c2, HJ.out.c3, HJ.out.c4, HJ.out.c5, HJ.out.c6, HJ.out.c7, HJ.out.c8, HJ.out.c9, fun _ => HRX.out⟩⟩
        case hd =>
          rintro LL a9 u ⟨bb0, bb1, bb2, bb3, bb4, bb5, bb6, bb7, bb8, bb9, bb10, v21, v22, v23, v24, v25, v26, v27, v28, v29, v30, v3, rfl, rfl, hJ⟩ hr
          have hup := all_up (by kernel_rfl) rfl hr
          have h10 : bb10 = true := hup 10 (by decide)
          have HR9 : Hid (RPr b u v3) := hJ.c10 h10
          obtain ⟨ax, nx, cx, ex⟩ := (hJ.c10 h10).sl
          subst ex
          have HS9 : Hid (SrcOk u b a len cap) := hJ.src
          have HG9 : Hid (w.grownBy u (some b)) := Lib.grownBy_trans HG2.out hJ.gr
          clear hJ hup hr h10
          go_simp
          go_wp2
          go_ret
          obtain ⟨zs9, h91, h92⟩ := HR9.out
          exact ⟨_, zs9, rfl, h92, h91, HS9.out, HG9.out⟩
    · have hkp : (0 : Int) < (k : Int) := by omega
      have hkd : decide (0 < k) = true := decide_eq_true (by omega)
      go_wp2_with fail
      refine (src_num b a len cap wr HS.out).mono ?_
      rintro e u2 ⟨n2, rfl, n0, n1, hs2, hg2⟩
      have HS2 : Hid (SrcOk u2 b a len cap) := hs2
      have HG2 : Hid (w.grownBy u2 (some b)) := Lib.grownBy_trans HG.out hg2
      have HO2 : Hid (u2.ownsRow w.heap.size 2 1 (.slice ao zs.length co) zs.length (iR zs)) := HO.out.kept hg2 (by
        rcases hq : (Value.slice ao zs.length co).ownBlock with _ | k1
        · exact .inl rfl
        · exact .inr (fun e => by have := (HO.out.lt _ hq).1; have := HB.out; cases e; omega))
      clear hs2 hg2 HS HG HO n0 n1
      go_wp2_with fail
      refine (specWord_any _ _).mono ?_
      rintro e u3 ⟨rfl, hw3⟩
      rw [hw3]
      clear hw3
      generalize n2 % 4294967296 = x at *
      have HAP : Hid _ := app1I HO2.out x (by omega) HG2.out.size
      have HS3 : Hid (SrcOk (u2.alloc (.cells #[.int .i64 x] 2)) b a len cap) := src_own (r := none) HS2.out (World.grownBy_alloc u2 _ _) (fun k hk => by cases hk)
      have HG3 : Hid (w.grownBy (u2.alloc (.cells #[.int .i64 x] 2)) (some b)) := gb_own (r := none) HG2.out (World.grownBy_alloc u2 _ _) (fun k hk => by cases hk)
      have HOB : Hid (∀ j, (Value.slice ao zs.length co).ownBlock = some j → w.heap.size ≤ j) := fun j hj => (HO2.out.lt j hj).1
      go_wp2_with (at_builtin; (refine wl_append_ex rfl _ _ 27 rfl _ _ rfl rfl HAP.out ?_; rintro v' u4 ⟨ho4, hg4⟩; have HO4 : Hid (u4.ownsRow w.heap.size 2 1 v' (zs ++ [x]).length (iR (zs ++ [x]))) := (by rw [List.length_append]; unfold iR at ho4 ⊢; rw [List.map_append]; exact ho4); have HG4 : Hid (w.grownBy u4 (some b)) := gb_own HG3.out hg4 HOB.out; have HS4 : Hid (SrcOk u4 b a len cap) := src_own HS3.out hg4 (fun j hj => by have := HOB.out j hj; have := HB.out; omega); clear ho4 hg4 HAP HS3 HG3))
      exact ⟨⟨k - 1, zs ++ [x], by omega, by simp; omega, by simp; omega, HO4.out, HS4.out, HG4.out⟩, by simp [intOf]; omega⟩
end Go.Proofs.Ytcglpigmellfcab
