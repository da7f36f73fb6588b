import Derived.Test.YtcglpigmellfcaaEa8
import Derived.Test.YtcglpigmellfcaaOg8
import Derived.Test.YtcglpigmellfcaaRowRK3
namespace Go.Proofs.Ytcglpigmellfcaa
open Go.ChangeShapes Go.WideShapes Go.ChangeAt Go.RowKit

theorem GI.wide {lo hi lo' hi' : Nat} {w u : World} (h : GI lo hi w u) (h1 : lo' ≤ lo) (h2 : hi ≤ hi') : GI lo' hi' w u := ⟨h.os, h.tape, h.output, h.size, fun k hk hn => h.block k hk (by omega)⟩
theorem one_row {w : World} {B N : Nat} {v : Value} {zs : List Int} (h : w.ownsRow B 2 1 v zs.length (iR zs)) (hN : w.heap.size ≤ N) (hB : B ≤ N) : ∃ lo hi, Orow2 w lo hi v zs ∧ B ≤ lo ∧ lo ≤ hi ∧ hi ≤ N ∧ ((v.ownBlock = none ∧ lo = B ∧ hi = B) ∨ (v.ownBlock = some lo ∧ hi = lo + 1)) := by
  have h0 := Orow.of h
  rcases h.2 with ⟨rfl, e⟩ | ⟨g, cap, cur, rfl, hB, hg, hc, _⟩
  · refine ⟨B, B, .inl ⟨List.length_eq_zero_iff.1 e, none, 0, rfl⟩, Nat.le_refl _, Nat.le_refl _, hB, .inl ⟨rfl, rfl, rfl⟩⟩
  · have hgl := (Array.getElem?_eq_some_iff.1 hg).1
    refine ⟨g, g + 1, ?_, hB, by omega, by omega, .inr ⟨rfl, rfl⟩⟩
    rcases h0 with h0 | ⟨g2, o2, cap2, cur2, hv, hB2, hc2, hg2, ha⟩
    · exact .inl h0
    · have e := hv
      injection e with e1
      injection e1 with e2
      injection e2 with e3
      exact .inr ⟨g2, o2, cap2, cur2, hv, by omega, by omega, hc2, hg2, ha⟩
theorem RtAns.rows {w : World} {B N : Nat} {zs : List RK} {q : Int} {r : Value} (h : RtAns w B zs q r) (hN : w.heap.size ≤ N) (hB : B ≤ N) : ∃ sa ca ma cm l1 h1 l2 h2, r = .agg #[.int .i64 (rtC zs q), .slice sa (rtS zs q).length ca, .slice ma (rtM zs q).length cm] ∧ Orow2 w l1 h1 (.slice sa (rtS zs q).length ca) (rtS zs q) ∧ Orow2 w l2 h2 (.slice ma (rtM zs q).length cm) (rtM zs q) ∧ (h1 ≤ l2 ∨ h2 ≤ l1) ∧ B ≤ l1 ∧ l1 ≤ h1 ∧ h1 ≤ N ∧ B ≤ l2 ∧ l2 ≤ h2 ∧ h2 ≤ N := by
  obtain ⟨sv, mv, rfl, hs, hm, hd⟩ := h
  obtain ⟨l1, h1, o1, a1, a2, a3, a4⟩ := one_row hs hN hB
  obtain ⟨l2, h2, o2, b1, b2, b3, b4⟩ := one_row hm hN hB
  obtain ⟨sa, ca, rfl⟩ := own_sl8 hs
  obtain ⟨ma, cm, rfl⟩ := own_sl8 hm
  refine ⟨sa, ca, ma, cm, l1, h1, l2, h2, rfl, o1, o2, ?_, a1, a2, a3, b1, b2, b3⟩
  rcases a4 with ⟨e1, e2, e3⟩ | ⟨e1, e2⟩
  · omega
  · rcases b4 with ⟨f1, f2, f3⟩ | ⟨f1, f2⟩
    · omega
    · have hne : l1 ≠ l2 := fun e => by
        rcases hd with hd | hd
        · rw [e1] at hd
          cases hd
        · exact hd (by rw [e1, f1, e])
      omega
theorem rtS_len (zs : List RK) (q : Int) : (rtS zs q).length ≤ 1000 := by
  unfold rtS
  split
  · rename_i h
    rw [(runK_len _ _).2]
    unfold rtC at h
    split at h
    · omega
    · split at h <;> omega
  · exact Nat.zero_le _
theorem rtM_len (zs : List RK) (q : Int) : (rtM zs q).length ≤ 1000 := by
  unfold rtM
  split
  · rename_i h
    rw [List.length_map, (runK_len _ _).1, List.length_map]
    unfold rtC at h
    split at h
    · omega
    · omega
  · exact Nat.zero_le _
set_option maxRecDepth 100000 in
set_option maxHeartbeats 8000000 in
theorem eqRR_ok {w : World} {sa ma sb mb : Option Addr} {ca cm cb cn : Nat} {S M : List Int} (c : Int) (h1 : Irow w (.slice sa S.length ca) S) (h2 : Irow w (.slice ma M.length cm) M) (h3 : Irow w (.slice sb S.length cb) S) (h4 : Irow w (.slice mb M.length cn) M) (hS : S.length ≤ 1000) (hM : M.length ≤ 1000) :
    Calls Try.prog 21 #[.agg #[.int .i64 c, .slice sa S.length ca, .slice ma M.length cm], .agg #[.int .i64 c, .slice sb S.length cb, .slice mb M.length cn]] w fun e w' => e = .returned (.bool true) ∧ Below w.heap.size w w' := by
  have HE1 : Hid (∀ u, Below w.heap.size w u → Calls Try.prog 49 #[.slice sa S.length ca, .slice sb S.length cb] u fun e w' => e = .returned (.bool true) ∧ Below u.heap.size u w') := fun u hu => eqIS_ok (h1.below hu) (h3.below hu) (by omega)
  have HE2 : Hid (∀ u, Below w.heap.size w u → Calls Try.prog 49 #[.slice ma M.length cm, .slice mb M.length cn] u fun e w' => e = .returned (.bool true) ∧ Below u.heap.size u w') := fun u hu => eqIS_ok (h2.below hu) (h4.below hu) (by omega)
  have HA : Hid (LG w ((w.alloc (.cells #[.int .i64 c, .slice sa S.length ca, .slice ma M.length cm] 38)).alloc (.cells #[.int .i64 c, .slice sb S.length cb, .slice mb M.length cn] 38)) w.heap.size #[.int .i64 c, .slice sa S.length ca, .slice ma M.length cm] 38) := (LG.new w _ _).step (bx1 _ _)
  have HB : Hid (LG w ((w.alloc (.cells #[.int .i64 c, .slice sa S.length ca, .slice ma M.length cm] 38)).alloc (.cells #[.int .i64 c, .slice sb S.length cb, .slice mb M.length cn] 38)) (w.heap.size + 1) #[.int .i64 c, .slice sb S.length cb, .slice mb M.length cn] 38) := ⟨HA.out.bel, by simpa using heap_new (w.alloc (.cells #[.int .i64 c, .slice sa S.length ca, .slice ma M.length cm] 38)) (.cells #[.int .i64 c, .slice sb S.length cb, .slice mb M.length cn] 38), by omega⟩
  have hcc : (c != c) = false := by simp
  clear h1 h2 h3 h4 hS hM
  go_enter Try.func21, Try.ntmps21
  go_upto_region 1 with fail
  generalize ((w.alloc (.cells #[.int .i64 c, .slice sa S.length ca, .slice ma M.length cm] 38)).alloc (.cells #[.int .i64 c, .slice sb S.length cb, .slice mb M.length cn] 38)) = u0 at *
  have x0 := HA.out.cel 0 _ rfl
  have x1 := HA.out.cel 1 _ rfl
  have y0 := HB.out.cel 0 _ rfl
  have y1 := HB.out.cel 1 _ rfl
  have xl := HA.out.lt
  have yl := HB.out.lt
  go_wp2_with fail
  refine Calls.mono (HE1.out _ HA.out.bel) ?_
  rintro e u1 ⟨rfl, hb⟩
  have HA1 : Hid _ := HA.out.step hb
  have HB1 : Hid _ := HB.out.step hb
  have z2 := HA1.out.cel 2 _ rfl
  have t2 := HB1.out.cel 2 _ rfl
  have zl := HA1.out.lt
  have tl := HB1.out.lt
  clear hb x0 x1 y0 y1 xl yl
  go_wp2_with fail
  refine Calls.mono (HE2.out _ HA1.out.bel) ?_
  rintro e u2 ⟨rfl, hb⟩
  have HB2 : Hid (Below w.heap.size w u2) := HA1.out.bel.trans (hb.mono HA1.out.bel.size)
  clear hb
  go_wp2
  go_ret
  exact ⟨rfl, HB2.out⟩
set_option maxRecDepth 100000 in
set_option maxHeartbeats 8000000 in
theorem markRR_ok {w : World} {sa ma : Option Addr} {ca cm l1 h1 l2 h2 lo hi : Nat} {S M : List Int} (c : Int) (o1 : Orow2 w l1 h1 (.slice sa S.length ca) S) (o2 : Orow2 w l2 h2 (.slice ma M.length cm) M) (hd : h1 ≤ l2 ∨ h2 ≤ l1) (hb : lo ≤ l1 ∧ h1 ≤ hi ∧ lo ≤ l2 ∧ h2 ≤ hi ∧ hi ≤ w.heap.size) (hS : S.length ≤ 1000) (hM : M.length ≤ 1000) :
    Calls Try.prog 23 #[.agg #[.int .i64 c, .slice sa S.length ca, .slice ma M.length cm], .int .i64 1] w fun e u => e = .returned (.int .i64 (1 + (S.length : Int) + (M.length : Int))) ∧ Orow2 u l1 h1 (.slice sa S.length ca) (mkK 1 S.length) ∧ Orow2 u l2 h2 (.slice ma M.length cm) (mkK (1 + (S.length : Int)) M.length) ∧ GI lo hi w u := by
  have HA : Hid (LG w (w.alloc (.cells #[.int .i64 c, .slice sa S.length ca, .slice ma M.length cm] 38)) w.heap.size #[.int .i64 c, .slice sa S.length ca, .slice ma M.length cm] 38) := LG.new w _ _
  have HO1 : Hid (Orow2 (w.alloc (.cells #[.int .i64 c, .slice sa S.length ca, .slice ma M.length cm] 38)) l1 h1 (.slice sa S.length ca) S) := o1.gi (GI.of_below (lo := 0) (hi := 0) (bx1 _ _)) (Or.inr (Nat.zero_le _))
  have HO2 : Hid (Orow2 (w.alloc (.cells #[.int .i64 c, .slice sa S.length ca, .slice ma M.length cm] 38)) l2 h2 (.slice ma M.length cm) M) := o2.gi (GI.of_below (lo := 0) (hi := 0) (bx1 _ _)) (Or.inr (Nat.zero_le _))
  have HH : Hid (lo ≤ l1 ∧ h1 ≤ hi ∧ lo ≤ l2 ∧ h2 ≤ hi ∧ hi ≤ w.heap.size ∧ (h1 ≤ l2 ∨ h2 ≤ l1)) := ⟨hb.1, hb.2.1, hb.2.2.1, hb.2.2.2.1, hb.2.2.2.2, hd⟩
  have HG0 : Hid (GI lo hi w (w.alloc (.cells #[.int .i64 c, .slice sa S.length ca, .slice ma M.length cm] 38))) := GI.of_below (bx1 _ _)
  obtain ⟨K1, hK1⟩ : ∃ K : Int, (1 : Int) + (S.length : Int) = K := ⟨_, rfl⟩
  have hK0 : 0 ≤ K1 ∧ K1 ≤ 2000 := by omega
  have HK1 : Hid ((1 : Int) + (S.length : Int) = K1) := hK1
  clear o1 o2 hd hb hK1
  go_enter Try.func23, Try.ntmps23
  go_upto_region 1 with fail
  generalize (w.alloc (.cells #[.int .i64 c, .slice sa S.length ca, .slice ma M.length cm] 38)) = u0 at *
  have x1 := HA.out.cel 1 _ rfl
  have xl := HA.out.lt
  go_wp2_with fail
  refine Calls.mono (markO_ok 1 HO1.out (by omega) (by omega) (by omega)) ?_
  rintro e u1 ⟨rfl, ho, hg⟩
  rw [HK1.out]
  have hn := HH.out
  have HP1 : Hid (Orow2 u1 l1 h1 (.slice sa S.length ca) (mkK 1 S.length)) := ho
  have HP2 : Hid (Orow2 u1 l2 h2 (.slice ma M.length cm) M) := HO2.out.gi hg (by omega)
  have HG1 : Hid (GI lo hi w u1) := HG0.out.trans (hg.wide (by omega) (by omega))
  have bx : u1.heap[w.heap.size]? = some (.cells #[.int .i64 c, .slice sa S.length ca, .slice ma M.length cm] 38 (0, 0)) := (hg.block _ HA.out.lt (by omega)).trans HA.out.box
  have z2 : u1.cell? ⟨w.heap.size, 2, none⟩ = some (.slice ma M.length cm) := by simp [World.cell?, bx]
  have zl : w.heap.size < u1.heap.size := (Array.getElem?_eq_some_iff.1 bx).1
  clear hn ho hg bx x1 xl HO1 HO2
  go_wp2_with fail
  refine Calls.mono (markO_ok K1 HP2.out (by omega) (by omega) (by omega)) ?_
  rintro e u2 ⟨rfl, ho, hg⟩
  have hn := HH.out
  have HQ1 : Hid (Orow2 u2 l1 h1 (.slice sa S.length ca) (mkK 1 S.length)) := HP1.out.gi hg (by omega)
  have HQ2 : Hid (Orow2 u2 l2 h2 (.slice ma M.length cm) (mkK K1 M.length)) := ho
  have HG2 : Hid (GI lo hi w u2) := HG1.out.trans (hg.wide (by omega) (by omega))
  clear hn ho hg z2 zl
  go_wp2
  go_ret
  exact ⟨ret_int (by rw [HK1.out]), HQ1.out, by rw [HK1.out]; exact HQ2.out, HG2.out⟩
set_option maxRecDepth 100000 in
set_option maxHeartbeats 8000000 in
theorem heldRR_ok {w : World} {sa ma : Option Addr} {ca cm : Nat} {S M : List Int} (c : Int) (o1 : Irow w (.slice sa S.length ca) (mkK 1 S.length)) (o2 : Irow w (.slice ma M.length cm) (mkK (1 + (S.length : Int)) M.length)) (hS : S.length ≤ 1000) (hM : M.length ≤ 1000) :
    Calls Try.prog 24 #[.agg #[.int .i64 c, .slice sa S.length ca, .slice ma M.length cm], .int .i64 1] w fun e u => e = .returned (.int .i64 (1 + (S.length : Int) + (M.length : Int))) ∧ Below w.heap.size w u := by
  have HA : Hid (LG w (w.alloc (.cells #[.int .i64 c, .slice sa S.length ca, .slice ma M.length cm] 38)) w.heap.size #[.int .i64 c, .slice sa S.length ca, .slice ma M.length cm] 38) := LG.new w _ _
  have HO1 : Hid (Irow (w.alloc (.cells #[.int .i64 c, .slice sa S.length ca, .slice ma M.length cm] 38)) (.slice sa S.length ca) (mkK 1 S.length)) := o1.below (bx1 _ _)
  obtain ⟨K1, hK1⟩ : ∃ K : Int, (1 : Int) + (S.length : Int) = K := ⟨_, rfl⟩
  rw [hK1] at o2
  have hK0 : 0 ≤ K1 ∧ K1 ≤ 2000 := by omega
  have HK1 : Hid ((1 : Int) + (S.length : Int) = K1) := hK1
  have HO2 : Hid (∀ u, Below w.heap.size w u → Irow u (.slice ma M.length cm) (mkK K1 M.length)) := fun u hu => o2.below hu
  have hk1 : ¬ K1 < 0 := by omega
  obtain ⟨K2, hK2⟩ : ∃ K : Int, K1 + (M.length : Int) = K := ⟨_, rfl⟩
  have hk2 : ¬ K2 < 0 := by omega
  have HK2 : Hid (K1 + (M.length : Int) = K2) := hK2
  clear o1 o2 hK1 hK2
  go_enter Try.func24, Try.ntmps24
  go_upto_region 1 with fail
  generalize (w.alloc (.cells #[.int .i64 c, .slice sa S.length ca, .slice ma M.length cm] 38)) = u0 at *
  have x1 := HA.out.cel 1 _ rfl
  have xl := HA.out.lt
  go_wp2_with fail
  refine Calls.mono (heldK_ok 1 S.length HO1.out (by omega) (by omega) (by omega)) ?_
  rintro e u1 ⟨rfl, hb⟩
  rw [HK1.out]
  have HA1 : Hid _ := HA.out.step hb
  have z2 := HA1.out.cel 2 _ rfl
  have zl := HA1.out.lt
  clear hb x1 xl HO1
  go_wp2_with fail
  refine Calls.mono (heldK_ok K1 M.length (HO2.out _ HA1.out.bel) (by omega) (by omega) (by omega)) ?_
  rintro e u2 ⟨rfl, hb⟩
  rw [HK2.out]
  have HB2 : Hid (Below w.heap.size w u2) := HA1.out.bel.trans (hb.mono HA1.out.bel.size)
  clear hb
  go_wp2
  go_ret
  exact ⟨ret_int (by rw [HK1.out, HK2.out]), HB2.out⟩
set_option maxRecDepth 100000 in
set_option maxHeartbeats 8000000 in
theorem markRK_ok {w : World} {lo hi : Nat} {v : Value} {zs : List RK} (h : w.ownsRow lo 69 3 v zs.length (rkR zs)) (hh : ∀ k, v.ownBlock = some k → k < hi) (hn : zs.length ≤ 1048576) :
    Calls Try.prog 22 #[v, .int .i64 1] w fun e u => ∃ K : Int, e = .returned (.int .i64 K) ∧ 0 ≤ K ∧ GI lo hi w u := by
  have HO : Hid (w.ownsRow lo 69 3 v zs.length (rkR zs)) := h
  have HLT : Hid (∀ k, v.ownBlock = some k → lo ≤ k ∧ k < hi) := fun k hk => ⟨(h.lt k hk).1, hh k hk⟩
  obtain ⟨ao, cap, rfl⟩ := rk_sl h
  clear h hh
  go_enter Try.func22, Try.ntmps22
  go_wp2
  go_loopw [1, 5] (fun kv i wr => ∃ (j : Nat) (xs : List Value), j ≤ zs.length ∧ i = .int .i64 j ∧ kv = .int .i64 (1 + 3 * (j : Int)) ∧ wr.ownsRow lo 69 3 (.slice ao zs.length cap) zs.length xs ∧ GI lo hi w wr) (fun _ i _ => zs.length - (intOf i).toNat)
  case atStart => exact ⟨0, _, Nat.zero_le _, rfl, rfl, HO.out, GI.refl _ _ _⟩
  case round =>
    obtain ⟨j, xs, hj, rfl, rfl, hown, hgi⟩ := hrel
    by_cases hlt : j < zs.length
    · have hj0 : (0 : Int) ≤ (j : Int) := by omega
      have hj1 : (j : Int) < (zs.length : Int) := by omega
      have hown0 := hown
      obtain ⟨hl, ⟨_, he⟩ | ⟨g, c2, cur, e, hB, hg, hc, _⟩⟩ := hown
      · omega
      · injection e with e1 e2 e3
        subst e1 e3
        have hgl := HLT.out g rfl
        obtain ⟨K, hK⟩ : ∃ K : Int, 1 + 3 * (j : Int) = K := ⟨_, rfl⟩
        have hK0 : 0 ≤ K ∧ K ≤ 4000000 := by omega
        have HK : Hid (1 + 3 * (j : Int) = K) := hK
        have hxl : xs.length = zs.length * 3 := hown0.1
        rw [hK]
        clear hK
        have s1 := hown0.stored (j * 3) (.int .i64 K)
        have s2 := s1.1.stored (j * 3 + 1) (.int .i64 (K + 1))
        have s3 := s2.1.stored (j * 3 + 2) (.int .i64 (K + 1 + 1))
        have f0 := hown0.frozenAt (j * 3)
        have f1 := s1.1.frozenAt (j * 3 + 1)
        have f2 := s2.1.frozenAt (j * 3 + 2)
        have HS3 : Hid _ := s3.1
        have HGI : Hid (GI lo hi w (((wr.setCell ⟨g, j * 3, none⟩ (.int .i64 K)).setCell ⟨g, j * 3 + 1, none⟩ (.int .i64 (K + 1))).setCell ⟨g, j * 3 + 2, none⟩ (.int .i64 (K + 1 + 1)))) := ((hgi.trans (GI.set hgl.1 hgl.2)).trans (GI.set hgl.1 hgl.2)).trans (GI.set hgl.1 hgl.2)
        obtain ⟨y0, c0⟩ : ∃ y, wr.cell? ⟨g, j * 3, none⟩ = some y := ⟨_, (hown0.cellAt (j * 3) (by omega)).trans (List.getElem?_eq_getElem (by omega))⟩
        obtain ⟨y1, c1⟩ : ∃ y, (wr.setCell ⟨g, j * 3, none⟩ (.int .i64 K)).cell? ⟨g, j * 3 + 1, none⟩ = some y := ⟨_, (s1.1.cellAt (j * 3 + 1) (by omega)).trans (List.getElem?_eq_getElem (by rw [List.length_set]; omega))⟩
        obtain ⟨y2, c2⟩ : ∃ y, ((wr.setCell ⟨g, j * 3, none⟩ (.int .i64 K)).setCell ⟨g, j * 3 + 1, none⟩ (.int .i64 (K + 1))).cell? ⟨g, j * 3 + 2, none⟩ = some y := ⟨_, (s2.1.cellAt (j * 3 + 2) (by omega)).trans (List.getElem?_eq_getElem (by rw [List.length_set, List.length_set]; omega))⟩
        have gl := (Array.getElem?_eq_some_iff.1 hg).1
        clear s1 s2 s3 hown0 hgi hg hl hc hxl e2
        go_wp2
        exact ⟨⟨j + 1, _, hlt, by go_num, by rw [← HK.out]; go_num, HS3.out, HGI.out⟩, by simp [intOf]; omega⟩
    · obtain rfl : j = zs.length := by omega
      have HGI : Hid _ := hgi
      clear hown hgi
      go_wp2
      go_ret
      exact ⟨_, rfl, by omega, HGI.out⟩
end Go.Proofs.Ytcglpigmellfcaa
