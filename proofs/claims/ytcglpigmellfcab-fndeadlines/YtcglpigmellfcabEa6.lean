import Derived.Test.YtcglpigmellfcabEa5
namespace Go.Proofs.Ytcglpigmellfcab
open Go.ChangeShapes Go.WideShapes Go.ChangeAt Go.RowKit

theorem Try.info110 : (Try.prog.info? 110).map (fun i => (i.zero, i.size, i.bytes)) = some (some (.agg #[.int .i64 0, .int .i64 0, .int .i64 0, .int .i64 0, .int .i64 0, .int .i64 0]), 6, 48) := by kernel_rfl
/-- One task more. -/
theorem appTK {w : World} {lo : Nat} {v : Value} {ys : List TK} (h : TKv w lo v ys) (hn : ys.length ≤ 1048576) (hlo : lo ≤ w.heap.size) (z : RK) : ∃ v' u', (Builtin.append_ #[108, 108] 108 #[v, .slice (some ⟨w.heap.size, 0, none⟩) 1 1]).run Try.prog (w.alloc (.cells #[.int .i64 z.start, .int .i64 z.period, .int .i64 z.budget, .int .i64 0, .int .i64 0, .int .i64 0] 110)) = .ok v' u' ∧ (TKv u' lo v' (ys ++ [tkOf z]) ∧ (w.alloc (.cells #[.int .i64 z.start, .int .i64 z.period, .int .i64 z.budget, .int .i64 0, .int .i64 0, .int .i64 0] 110)).grownBy u' v.ownBlock) := by
  obtain ⟨i0, hi0, hz0, hz1, hz2⟩ := info_parts Try.info110
  have hl := LG.new w #[.int .i64 z.start, .int .i64 z.period, .int .i64 z.budget, .int .i64 0, .int .i64 0, .int .i64 0] 110
  obtain ⟨v', w', hr, h2, h3, _⟩ := run_append_own (P := Try.prog) (w.alloc (.cells #[.int .i64 z.start, .int .i64 z.period, .int .i64 z.budget, .int .i64 0, .int .i64 0, .int .i64 0] 110)) lo 108 108 110 i0 (.agg #[.int .i64 0, .int .i64 0, .int .i64 0, .int .i64 0, .int .i64 0, .int .i64 0]) 6 48 Try.underlying108 hi0 hz0 hz1 hz2 rfl (by decide) v ys.length (tkR ys) (World.ownsRow.alloc h _) ⟨w.heap.size, 0, none⟩ 1 1 (tkC (tkOf z)) rfl (fun j u hj => by
    match j, hj with
    | 0, hj => obtain rfl := Option.some.inj hj; exact hl.cel 0 _ rfl
    | 1, hj => obtain rfl := Option.some.inj hj; exact hl.cel 1 _ rfl
    | 2, hj => obtain rfl := Option.some.inj hj; exact hl.cel 2 _ rfl
    | 3, hj => obtain rfl := Option.some.inj hj; exact hl.cel 3 _ rfl
    | 4, hj => obtain rfl := Option.some.inj hj; exact hl.cel 4 _ rfl
    | 5, hj => obtain rfl := Option.some.inj hj; exact hl.cel 5 _ rfl
    | j + 6, hj => simp [tkC] at hj) (fun u hu => by
    simp [tkC] at hu
    rcases hu with rfl | rfl | rfl | rfl | rfl | rfl <;> rfl) (by unfold maxLen; omega) (by omega) (by simp; omega)
  refine ⟨v', w', hr, ?_, h3⟩
  unfold TKv
  rw [List.length_append, tkR_app]
  simpa [tkR] using h2
theorem blk_s8 {u : World} {b : Nat} {cs : Array Value} {t : TypeId} {z : Nat × Nat} (h : u.heap[b]? = some (.cells cs t z)) (o : Nat) (v : Value) : (u.setCell ⟨b, o, none⟩ v).heap[b]? = some (.cells (cs.setIfInBounds o v) t z) := by
  simp [World.setCell, Array.getElem?_modify, h]
theorem LG.put8 {w u : World} {b t : Nat} {cs : Array Value} (h : LG w u b cs t) (o : Nat) (v : Value) : LG w (u.setCell ⟨b, o, none⟩ v) b (cs.setIfInBounds o v) t :=
  ⟨h.bel.setCell (p := ⟨b, o, none⟩) h.ge _, blk_s8 h.box o v, h.ge⟩
theorem fin3 {w u : World} {b t : Nat} {c0 c1 c2 : Value} (h : LG w u b #[c0, c1, c2] t) (d0 d1 d2 : Value) : LG w (((u.setCell ⟨b, 0, none⟩ d0).setCell ⟨b, 1, none⟩ d1).setCell ⟨b, 2, none⟩ d2) b #[d0, d1, d2] t := by
  have h4 := ((h.put8 0 d0).put8 1 d1).put8 2 d2
  simpa using h4
def rtC (zs : List RK) (q : Int) : Int := if 1000 < (zs.length : Int) then 2 else if tasksB zs = true ∧ 0 ≤ q ∧ q ≤ 1000 then 0 else 1
def rtS (zs : List RK) (q : Int) : List Int := if rtC zs q = 0 then (runK (zs.map tkOf) q.toNat).2 else []
def rtM (zs : List RK) (q : Int) : List Int := if rtC zs q = 0 then (runK (zs.map tkOf) q.toNat).1.map (·.missed) else []
/-- What a run answers: rows of its own. -/
def RtAns (w : World) (B : Nat) (zs : List RK) (q : Int) (v : Value) : Prop := ∃ sv mv, v = .agg #[.int .i64 (rtC zs q), sv, mv] ∧ w.ownsRow B 2 1 sv (rtS zs q).length (iR (rtS zs q)) ∧ w.ownsRow B 2 1 mv (rtM zs q).length (iR (rtM zs q)) ∧ (sv.ownBlock = none ∨ sv.ownBlock ≠ mv.ownBlock)
theorem RtAns.bad {w : World} {B : Nat} {zs : List RK} {q c : Int} (hc : rtC zs q = c) (h0 : c ≠ 0) : RtAns w B zs q (.agg #[.int .i64 c, .slice none 0 0, .slice none 0 0]) := by
  have e1 : rtS zs q = [] := by unfold rtS; rw [if_neg (by rw [hc]; exact h0)]
  have e2 : rtM zs q = [] := by unfold rtM; rw [if_neg (by rw [hc]; exact h0)]
  refine ⟨_, _, by rw [hc], ?_, ?_, .inl rfl⟩
  · rw [e1]
    exact World.ownsRow_nil _ _ _ _
  · rw [e2]
    exact World.ownsRow_nil _ _ _ _
set_option maxRecDepth 100000 in
set_option maxHeartbeats 8000000 in
theorem implRD_any {w : World} {v : Value} {zs : List RK} (h : RKrow w v zs) (hl : zs.length ≤ 1048576) (q : Int) : Calls Try.prog 22 #[v, .int .i64 q] w fun e w' => ∃ r, e = .returned r ∧ RtAns w' w.heap.size zs q r ∧ Below w.heap.size w w' := by
  have HR : Hid (RKrow w v zs) := h
  have HT : Hid (∀ u, Aft w u → Calls Try.prog 51 #[v] u fun e w' => e = .returned (.bool (tasksB zs)) ∧ Below u.heap.size u w') := fun u hu => areTasks_any (h.below hu.out) hl
  obtain ⟨ao, cap, rfl⟩ := h.sl
  clear h
  have HL0 : Hid (LG w (w.alloc (.cells #[.int .i64 0, .slice none 0 0, .slice none 0 0] 45)) w.heap.size #[.int .i64 0, .slice none 0 0, .slice none 0 0] 45) := LG.new w _ _
  cases q0 : decide (1000 < (zs.length : Int))
  rotate_left
  · have HC : Hid (rtC zs q = 2) := (show rtC zs q = 2 by unfold rtC; rw [if_pos (of_decide_eq_true q0)])
    go_enter Try.func22, Try.ntmps22
    go_wp2
    refine bodyPost_ret (v := .agg #[.int .i64 2, .slice none 0 0, .slice none 0 0]) (by simp [results, Try.results22, go_sem]) rfl ?_
    exact ⟨_, rfl, RtAns.bad HC.out (by omega), bx1 _ _⟩
  have hln : ¬ 1000 < (zs.length : Int) := of_decide_eq_false q0
  cases ht : tasksB zs
  · have HC : Hid (rtC zs q = 1) := (show rtC zs q = 1 by unfold rtC; rw [if_neg hln, if_neg (by rw [ht]; simp)])
    rw [ht] at HT
    go_enter Try.func22, Try.ntmps22
    go_wp2_with fail
    generalize (w.alloc (.cells #[.int .i64 0, .slice none 0 0, .slice none 0 0] 45)) = u0 at *
    refine Calls.mono (HT.out _ HL0.out.aft) ?_
    rintro e u1 ⟨rfl, hb1⟩
    have HL1 : Hid (LG w u1 w.heap.size #[.int .i64 0, .slice none 0 0, .slice none 0 0] 45) := HL0.out.step hb1
    clear hb1
    have f0 := HL1.out.frz 0
    have f1 := HL1.out.frz 1
    have f2 := HL1.out.frz 2
    have x0 := HL1.out.cel 0 _ rfl
    have x1 := HL1.out.cel 1 _ rfl
    have x2 := HL1.out.cel 2 _ rfl
    have xl := HL1.out.lt
    go_wp2
    have HF : Hid (LG w (((u1.setCell ⟨w.heap.size, 0, none⟩ (.int .i64 1)).setCell ⟨w.heap.size, 1, none⟩ (.slice none 0 0)).setCell ⟨w.heap.size, 2, none⟩ (.slice none 0 0)) w.heap.size #[.int .i64 1, .slice none 0 0, .slice none 0 0] 45) := fin3 HL1.out _ _ _
    generalize (((u1.setCell ⟨w.heap.size, 0, none⟩ (.int .i64 1)).setCell ⟨w.heap.size, 1, none⟩ (.slice none 0 0)).setCell ⟨w.heap.size, 2, none⟩ (.slice none 0 0)) = W9 at *
    have y0 := HF.out.cel 0 _ rfl
    have y1 := HF.out.cel 1 _ rfl
    have y2 := HF.out.cel 2 _ rfl
    refine bodyPost_ret (v := .agg #[.int .i64 1, .slice none 0 0, .slice none 0 0]) (by simp [results, Try.results22, go_sem, y0, y1, y2]) rfl ?_
    exact ⟨_, rfl, RtAns.bad HC.out (by omega), HF.out.bel⟩
  cases q1 : decide (q < 0)
  rotate_left
  · have HC : Hid (rtC zs q = 1) := (show rtC zs q = 1 by unfold rtC; rw [if_neg hln, if_neg (by have := of_decide_eq_true q1; omega)])
    rw [ht] at HT
    go_enter Try.func22, Try.ntmps22
    go_wp2_with fail
    generalize (w.alloc (.cells #[.int .i64 0, .slice none 0 0, .slice none 0 0] 45)) = u0 at *
    refine Calls.mono (HT.out _ HL0.out.aft) ?_
    rintro e u1 ⟨rfl, hb1⟩
    have HL1 : Hid (LG w u1 w.heap.size #[.int .i64 0, .slice none 0 0, .slice none 0 0] 45) := HL0.out.step hb1
    clear hb1
    have f0 := HL1.out.frz 0
    have f1 := HL1.out.frz 1
    have f2 := HL1.out.frz 2
    have x0 := HL1.out.cel 0 _ rfl
    have x1 := HL1.out.cel 1 _ rfl
    have x2 := HL1.out.cel 2 _ rfl
    have xl := HL1.out.lt
    go_wp2
    have HF : Hid (LG w (((u1.setCell ⟨w.heap.size, 0, none⟩ (.int .i64 1)).setCell ⟨w.heap.size, 1, none⟩ (.slice none 0 0)).setCell ⟨w.heap.size, 2, none⟩ (.slice none 0 0)) w.heap.size #[.int .i64 1, .slice none 0 0, .slice none 0 0] 45) := fin3 HL1.out _ _ _
    generalize (((u1.setCell ⟨w.heap.size, 0, none⟩ (.int .i64 1)).setCell ⟨w.heap.size, 1, none⟩ (.slice none 0 0)).setCell ⟨w.heap.size, 2, none⟩ (.slice none 0 0)) = W9 at *
    have y0 := HF.out.cel 0 _ rfl
    have y1 := HF.out.cel 1 _ rfl
    have y2 := HF.out.cel 2 _ rfl
    refine bodyPost_ret (v := .agg #[.int .i64 1, .slice none 0 0, .slice none 0 0]) (by simp [results, Try.results22, go_sem, y0, y1, y2]) rfl ?_
    exact ⟨_, rfl, RtAns.bad HC.out (by omega), HF.out.bel⟩
  cases q2 : decide (1000 < q)
  rotate_left
  · have HC : Hid (rtC zs q = 1) := (show rtC zs q = 1 by unfold rtC; rw [if_neg hln, if_neg (by have := of_decide_eq_true q2; omega)])
    rw [ht] at HT
    go_enter Try.func22, Try.ntmps22
    go_wp2_with fail
    generalize (w.alloc (.cells #[.int .i64 0, .slice none 0 0, .slice none 0 0] 45)) = u0 at *
    refine Calls.mono (HT.out _ HL0.out.aft) ?_
    rintro e u1 ⟨rfl, hb1⟩
    have HL1 : Hid (LG w u1 w.heap.size #[.int .i64 0, .slice none 0 0, .slice none 0 0] 45) := HL0.out.step hb1
    clear hb1
    have f0 := HL1.out.frz 0
    have f1 := HL1.out.frz 1
    have f2 := HL1.out.frz 2
    have x0 := HL1.out.cel 0 _ rfl
    have x1 := HL1.out.cel 1 _ rfl
    have x2 := HL1.out.cel 2 _ rfl
    have xl := HL1.out.lt
    go_wp2
    have HF : Hid (LG w (((u1.setCell ⟨w.heap.size, 0, none⟩ (.int .i64 1)).setCell ⟨w.heap.size, 1, none⟩ (.slice none 0 0)).setCell ⟨w.heap.size, 2, none⟩ (.slice none 0 0)) w.heap.size #[.int .i64 1, .slice none 0 0, .slice none 0 0] 45) := fin3 HL1.out _ _ _
    generalize (((u1.setCell ⟨w.heap.size, 0, none⟩ (.int .i64 1)).setCell ⟨w.heap.size, 1, none⟩ (.slice none 0 0)).setCell ⟨w.heap.size, 2, none⟩ (.slice none 0 0)) = W9 at *
    have y0 := HF.out.cel 0 _ rfl
    have y1 := HF.out.cel 1 _ rfl
    have y2 := HF.out.cel 2 _ rfl
    refine bodyPost_ret (v := .agg #[.int .i64 1, .slice none 0 0, .slice none 0 0]) (by simp [results, Try.results22, go_sem, y0, y1, y2]) rfl ?_
    exact ⟨_, rfl, RtAns.bad HC.out (by omega), HF.out.bel⟩
  have hq0 : 0 ≤ q := by have := of_decide_eq_false q1; omega
  have hq1 : q ≤ 1000 := by have := of_decide_eq_false q2; omega
  obtain ⟨Q, rfl⟩ := Int.eq_ofNat_of_zero_le hq0
  have HC : Hid (rtC zs (Q : Int) = 0) := (show rtC zs (Q : Int) = 0 by unfold rtC; rw [if_neg hln, if_pos ⟨ht, hq0, hq1⟩])
  have HS : Hid (rtS zs (Q : Int) = (runK (zs.map tkOf) Q).2) := (show rtS zs (Q : Int) = _ by unfold rtS; rw [if_pos HC.out]; rfl)
  have HM : Hid (rtM zs (Q : Int) = (runK (zs.map tkOf) Q).1.map (·.missed)) := (show rtM zs (Q : Int) = _ by unfold rtM; rw [if_pos HC.out]; rfl)
  have hl8 : zs.length ≤ 8 := by
    simp only [tasksB, Bool.and_eq_true, decide_eq_true_eq] at ht
    omega
  have HALL : Hid (∀ z ∈ zs, rkB z = true) := (by
    simp only [tasksB, Bool.and_eq_true, List.all_eq_true] at ht
    exact ht.2)
  rw [ht] at HT
  clear ht hl
  go_enter Try.func22, Try.ntmps22
  go_wp2_with fail
  generalize (w.alloc (.cells #[.int .i64 0, .slice none 0 0, .slice none 0 0] 45)) = u0 at *
  refine Calls.mono (HT.out _ HL0.out.aft) ?_
  rintro e u1 ⟨rfl, hb1⟩
  have HL1 : Hid (LG w u1 w.heap.size #[.int .i64 0, .slice none 0 0, .slice none 0 0] 45) := HL0.out.step hb1
  have HR1 : Hid (RKrow u1 (.slice ao zs.length cap) zs) := HR.out.below HL1.out.bel
  clear hb1 HT HL0
  go_wp2
  go_loopw [5, 30] (fun av i wr => ∃ k : Nat, k ≤ zs.length ∧ i = .int .i64 k ∧ TKv wr u1.heap.size av ((zs.take k).map tkOf) ∧ Below u1.heap.size u1 wr) (fun _ i _ => zs.length - (intOf i).toNat)
  case atStart => exact ⟨0, Nat.zero_le _, rfl, World.ownsRow_nil _ _ _ _, Below.refl _ _⟩
  case round =>
    obtain ⟨k, hk, rfl, hat, hb⟩ := hrel
    have HAT : Hid (TKv wr u1.heap.size u5 ((zs.take k).map tkOf)) := hat
    have HB : Hid (Below u1.heap.size u1 wr) := hb
    clear hat hb
    by_cases hlt : k < zs.length
    · obtain ⟨g, o, cap2, hv, _, hg, hc⟩ := HR1.out.resolve_left (fun h => by rw [h.1] at hlt; simp at hlt)
      injection hv with hv1 hv2 hv3
      subst hv1 hv3
      obtain ⟨d0, d1, d2⟩ := hc.below HB.out hg k hlt
      have hgw : g < wr.heap.size := Nat.lt_of_lt_of_le hg HB.out.size
      have hk0 : (0 : Int) ≤ (k : Int) := by omega
      have hk1 : (k : Int) < (zs.length : Int) := by omega
      have HTS : Hid ((zs.take (k + 1)).map tkOf = (zs.take k).map tkOf ++ [tkOf zs[k]]) := (show _ = _ by rw [List.take_succ_eq_append_getElem hlt, List.map_append]; rfl)
      generalize zs[k] = z at *
      have HLN : Hid (LG u1 (wr.alloc (.cells #[.int .i64 z.start, .int .i64 z.period, .int .i64 z.budget] 49)) wr.heap.size #[.int .i64 z.start, .int .i64 z.period, .int .i64 z.budget] 49) := ⟨HB.out.trans ((bx1 wr _).mono HB.out.size), heap_new _ _, HB.out.size⟩
      have HAN : Hid (TKv (wr.alloc (.cells #[.int .i64 z.start, .int .i64 z.period, .int .i64 z.budget] 49)) u1.heap.size u5 ((zs.take k).map tkOf)) := HAT.out.kept (bx1 _ _)
      have HBK : Hid (∀ j, u5.ownBlock = some j → u1.heap.size ≤ j) := fun j hj => (HAT.out.lt j hj).1
      clear hc
      go_upto_region 9 with fail
      generalize (wr.alloc (.cells #[.int .i64 z.start, .int .i64 z.period, .int .i64 z.budget] 49)) = w5 at *
      generalize wr.heap.size = b7 at *
      have e0 := HLN.out.cel 0 _ rfl
      have e1 := HLN.out.cel 1 _ rfl
      have e2 := HLN.out.cel 2 _ rfl
      have el := HLN.out.lt
      have HAP : Hid _ := appTK HAN.out (by simp; omega) HLN.out.bel.size z
      have HB6 : Hid (Below u1.heap.size u1 (w5.alloc (.cells #[.int .i64 z.start, .int .i64 z.period, .int .i64 z.budget, .int .i64 0, .int .i64 0, .int .i64 0] 110))) := HLN.out.bel.alloc HLN.out.bel.size _
      clear d0 d1 d2 hgw
      go_wp2_with (at_builtin; (refine wl_append_ex rfl _ _ 108 rfl _ _ rfl rfl HAP.out ?_; rintro v' u6 ⟨ho, hg2⟩; have HO6 : Hid (TKv u6 u1.heap.size v' ((zs.take k).map tkOf ++ [tkOf z])) := ho; have HG6 : Hid ((w5.alloc (.cells #[.int .i64 z.start, .int .i64 z.period, .int .i64 z.budget, .int .i64 0, .int .i64 0, .int .i64 0] 110)).grownBy u6 u5.ownBlock) := hg2; clear ho hg2 HAP))
      go_roundw
      case rel => exact ⟨k + 1, hlt, by go_num, by rw [HTS.out]; exact HO6.out, HB6.out.grown HG6.out HB6.out.size (fun j hj => HBK.out j hj)⟩
      case measure => simp [intOf]; omega
    · obtain rfl : k = zs.length := by omega
      rw [List.take_length] at HAT
      obtain ⟨aa, ca, hav⟩ := tk_sl HAT.out
      rw [List.length_map] at hav
      subst hav
      have HBV : Hid (∀ j, (Value.slice aa zs.length ca).ownBlock = some j → u1.heap.size ≤ j) := fun j hj => (HAT.out.lt j hj).1
      have HRU : Hid _ := runTasks_any HAT.out (by simpa using hl8) (tkOf_ok HALL.out) Q (by omega)
      have hrl := runK_len (zs.map tkOf) Q
      obtain ⟨ks, hks⟩ : ∃ ks, (runK (zs.map tkOf) Q).1 = ks := ⟨_, rfl⟩
      obtain ⟨ss, hss⟩ : ∃ ss, (runK (zs.map tkOf) Q).2 = ss := ⟨_, rfl⟩
      rw [hks, hss] at HRU
      rw [hks, hss] at hrl
      rw [hss] at HS
      rw [hks] at HM
      have hkl : ks.length = zs.length := by simpa using hrl.1
      have HSL : Hid (ss.length = Q) := hrl.2
      clear hrl hks hss HAT
      go_wp2_with fail
      refine Calls.mono HRU.out ?_
      rintro e w4 ⟨sv, rfl, hso, htk, hg4⟩
      have HSO : Hid (w4.ownsRow wr.heap.size 2 1 sv Q (iR ss)) := hso
      have HTK : Hid (TKv w4 u1.heap.size (.slice aa zs.length ca) ks) := htk
      have HB4 : Hid (Below u1.heap.size u1 w4) := HB.out.grown hg4 HB.out.size (fun j hj => HBV.out j hj)
      have HWR : Hid (u1.heap.size ≤ wr.heap.size) := HB.out.size
      obtain ⟨sa, cs, hsv⟩ : ∃ sa cs, sv = .slice sa Q cs := (by
        rcases HSO.out.2 with ⟨rfl, e⟩ | ⟨g, cap, cur, rfl, _⟩
        · exact ⟨none, 0, by rw [e]⟩
        · exact ⟨_, cap, rfl⟩)
      subst hsv
      have HSB : Hid (∀ j, (Value.slice sa Q cs).ownBlock = some j → wr.heap.size ≤ j ∧ j < w4.heap.size) := HSO.out.lt
      clear hso htk hg4 HRU HB
      generalize wr = wa at *
      go_wp2
      go_loopw [9, 45] (fun mv i wr2 => ∃ k : Nat, k ≤ zs.length ∧ i = .int .i64 k ∧ wr2.ownsRow w4.heap.size 2 1 mv k (iR ((ks.take k).map (·.missed))) ∧ Below w4.heap.size w4 wr2) (fun _ i _ => zs.length - (intOf i).toNat)
      case atStart => exact ⟨0, Nat.zero_le _, rfl, World.ownsRow_nil _ _ _ _, Below.refl _ _⟩
      case round =>
        obtain ⟨k, hk, rfl, hmo, hb⟩ := hrel
        have HMO : Hid (wr.ownsRow w4.heap.size 2 1 u9 k (iR ((ks.take k).map (·.missed)))) := hmo
        have HB : Hid (Below w4.heap.size w4 wr) := hb
        clear hmo hb
        by_cases hlt : k < zs.length
        · have hkk : k < ks.length := by omega
          obtain ⟨g, rfl, -, hown⟩ := (HTK.out.kept HB.out).own (by omega)
          obtain ⟨d0, d1, d2, d3, d4, d5⟩ := hown.cells k hkk
          have hgw := hown.lt.1
          have hk0 : (0 : Int) ≤ (k : Int) := by omega
          have hk1 : (k : Int) < (zs.length : Int) := by omega
          have HTS : Hid ((ks.take (k + 1)).map (·.missed) = (ks.take k).map (·.missed) ++ [ks[k].missed]) := (show _ = _ by rw [List.take_succ_eq_append_getElem hkk, List.map_append]; rfl)
          generalize ks[k] = z at *
          have HLN : Hid (LG w4 (wr.alloc (.cells #[.int .i64 z.start, .int .i64 z.period, .int .i64 z.budget, .int .i64 z.left, .int .i64 z.fin, .int .i64 z.missed] 110)) wr.heap.size #[.int .i64 z.start, .int .i64 z.period, .int .i64 z.budget, .int .i64 z.left, .int .i64 z.fin, .int .i64 z.missed] 110) := ⟨HB.out.trans ((bx1 wr _).mono HB.out.size), heap_new _ _, HB.out.size⟩
          have HAN : Hid ((wr.alloc (.cells #[.int .i64 z.start, .int .i64 z.period, .int .i64 z.budget, .int .i64 z.left, .int .i64 z.fin, .int .i64 z.missed] 110)).ownsRow w4.heap.size 2 1 u9 k (iR ((ks.take k).map (·.missed)))) := HMO.out.alloc _
          have HBK : Hid (∀ j, u9.ownBlock = some j → w4.heap.size ≤ j) := fun j hj => (HMO.out.lt j hj).1
          clear hown
          go_upto_region 16 with fail
          generalize (wr.alloc (.cells #[.int .i64 z.start, .int .i64 z.period, .int .i64 z.budget, .int .i64 z.left, .int .i64 z.fin, .int .i64 z.missed] 110)) = w5 at *
          generalize wr.heap.size = b11 at *
          have e5 := HLN.out.cel 5 _ rfl
          have el := HLN.out.lt
          have HAP : Hid _ := appI HAN.out (by omega) HLN.out.bel.size z.missed
          have HB6 : Hid (Below w4.heap.size w4 (w5.alloc (.cells #[.int .i64 z.missed] 2))) := HLN.out.bel.alloc HLN.out.bel.size _
          clear d0 d1 d2 d3 d4 d5 hgw
          go_wp2_with (at_builtin; (refine wl_append_ex rfl _ _ 27 rfl _ _ rfl rfl HAP.out ?_; rintro v' u6 ⟨ho, hg2⟩; have HO6 : Hid (u6.ownsRow w4.heap.size 2 1 v' (k + 1) (iR ((ks.take k).map (·.missed) ++ [z.missed]))) := ho; have HG6 : Hid ((w5.alloc (.cells #[.int .i64 z.missed] 2)).grownBy u6 u9.ownBlock) := hg2; clear ho hg2 HAP))
          go_roundw
          case rel => exact ⟨k + 1, hlt, by go_num, by rw [HTS.out]; exact HO6.out, HB6.out.grown HG6.out HB6.out.size (fun j hj => HBK.out j hj)⟩
          case measure => simp [intOf]; omega
        · obtain rfl : k = zs.length := by omega
          have hta : ks.take zs.length = ks := by rw [← hkl]; exact List.take_length
          rw [hta] at HMO
          obtain ⟨am, cm, hmv⟩ : ∃ am cm, u9 = .slice am zs.length cm := (by
            rcases HMO.out.2 with ⟨rfl, e⟩ | ⟨g, cap, cur, rfl, _⟩
            · exact ⟨none, 0, by rw [e]⟩
            · exact ⟨_, cap, rfl⟩)
          subst hmv
          have HMB : Hid (∀ j, (Value.slice am zs.length cm).ownBlock = some j → w4.heap.size ≤ j ∧ j < wr.heap.size) := HMO.out.lt
          have HLF : Hid (LG w wr w.heap.size #[.int .i64 0, .slice none 0 0, .slice none 0 0] 45) := HL1.out.step (HB4.out.trans (HB.out.mono HB4.out.size))
          have f0 := HLF.out.frz 0
          have f1 := HLF.out.frz 1
          have f2 := HLF.out.frz 2
          have x0 := HLF.out.cel 0 _ rfl
          have x1 := HLF.out.cel 1 _ rfl
          have x2 := HLF.out.cel 2 _ rfl
          have xl := HLF.out.lt
          clear hta
          go_wp2
          have HU1 : Hid (w.heap.size < u1.heap.size) := HL1.out.lt
          have HSN : Hid (∀ x : Nat, (Value.slice sa Q cs).ownBlock ≠ some x ∨ w.heap.size < x) := fun x => (by
            by_cases hx : (Value.slice sa Q cs).ownBlock = some x
            · right
              have h1 := (HSB.out x hx).1
              have h2 := HWR.out
              have h3 := HU1.out
              omega
            · exact .inl hx)
          have HMN : Hid (∀ x : Nat, (Value.slice am zs.length cm).ownBlock ≠ some x ∨ w.heap.size < x) := fun x => (by
            by_cases hx : (Value.slice am zs.length cm).ownBlock = some x
            · right
              have h1 := (HMB.out x hx).1
              have h2 := HB4.out.size
              have h3 := HU1.out
              omega
            · exact .inl hx)
          have r1 := own_set (x := .slice am zs.length cm) (p := ⟨w.heap.size, 2, none⟩) (own_set (x := .slice sa Q cs) (p := ⟨w.heap.size, 1, none⟩) (own_set (x := .int .i64 0) (p := ⟨w.heap.size, 0, none⟩) (own_below HSO.out HB.out) (by have := HSN.out w.heap.size; simp at this; exact this)) (by have := HSN.out w.heap.size; simp at this; exact this)) (by have := HSN.out w.heap.size; simp at this; exact this)
          have r2 := own_set (x := .slice am zs.length cm) (p := ⟨w.heap.size, 2, none⟩) (own_set (x := .slice sa Q cs) (p := ⟨w.heap.size, 1, none⟩) (own_set (x := .int .i64 0) (p := ⟨w.heap.size, 0, none⟩) HMO.out (by have := HMN.out w.heap.size; simp at this; exact this)) (by have := HMN.out w.heap.size; simp at this; exact this)) (by have := HMN.out w.heap.size; simp at this; exact this)
          have HF : Hid (LG w (((wr.setCell ⟨w.heap.size, 0, none⟩ (.int .i64 0)).setCell ⟨w.heap.size, 1, none⟩ (.slice sa Q cs)).setCell ⟨w.heap.size, 2, none⟩ (.slice am zs.length cm)) w.heap.size #[.int .i64 0, .slice sa Q cs, .slice am zs.length cm] 45) := fin3 HLF.out _ _ _
          generalize (((wr.setCell ⟨w.heap.size, 0, none⟩ (.int .i64 0)).setCell ⟨w.heap.size, 1, none⟩ (.slice sa Q cs)).setCell ⟨w.heap.size, 2, none⟩ (.slice am zs.length cm)) = W9 at *
          have y0 := HF.out.cel 0 _ rfl
          have y1 := HF.out.cel 1 _ rfl
          have y2 := HF.out.cel 2 _ rfl
          refine bodyPost_ret (v := .agg #[.int .i64 0, .slice sa Q cs, .slice am zs.length cm]) (by simp [results, Try.results22, go_sem, y0, y1, y2]) rfl ?_
          refine ⟨_, rfl, ⟨_, _, by rw [HC.out], ?_, ?_, ?_⟩, HF.out.bel⟩
          · rw [HS.out, HSL.out]
            exact own_weak1 r1 (by have h2 := HWR.out; have h3 := HU1.out; omega)
          · rw [HM.out, List.length_map, hkl]
            exact own_weak1 r2 (by have h2 := HB4.out.size; have h3 := HU1.out; omega)
          · cases hx : (Value.slice sa Q cs).ownBlock with
            | none => exact .inl rfl
            | some x =>
              refine .inr (fun e => ?_)
              have h1 := (HSB.out x hx).2
              have h2 := (HMB.out x e.symm).1
              omega
end Go.Proofs.Ytcglpigmellfcab
