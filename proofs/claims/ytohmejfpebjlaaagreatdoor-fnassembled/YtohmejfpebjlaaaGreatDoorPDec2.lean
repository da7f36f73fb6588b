import Derived.Test.YtohmejfpebjlaaaGreatDoorPDec
namespace Go.Proofs.YtohmejfpebjlaaaGreatDoor
open Go.ChangeShapes Go.WideShapes Go.ChangeAt Go.RowKit

theorem wrapped_any (v a b : Int) (w : World) (h0 : 0 ≤ v) (h1 : v < 4294967296) (h2 : a ≤ 0) (h3 : -4294967296 ≤ a) (h4 : 1 ≤ b) (h5 : b ≤ 32) :
    Calls Tryz.prog 29 #[.int .i64 v, .int .i64 a, .int .i64 b] w fun e w' => e = .returned (.int .i64 (a + (v - a) % 2 ^ b.toNat)) ∧ w' = w := by
  have hl := and_low (v - a) b.toNat (by omega) (by omega) (by omega)
  obtain ⟨p1, p2⟩ := pow_b b (by omega) (by omega)
  have p3 := Int.emod_nonneg (v - a) (show (2 : Int) ^ b.toNat ≠ 0 by omega)
  have p4 := Int.emod_lt_of_pos (v - a) (show 0 < (2 : Int) ^ b.toNat by omega)
  go_enter Tryz.func29, Tryz.ntmps29
  go_wp2_with (go_at_call 47; refine (lowBits_any _ _ (by omega) (by omega)).mono ?_; rintro e u ⟨rfl, hu⟩; rw [hu]; clear hu u)
  go_ret
  exact ⟨rfl, rfl⟩
theorem boundsR (s n : Int) (l : ByteArray) (hf : (Opd.reg s l n).fit) (w : World) : Calls Tryz.prog 158 #[.agg #[.int .i64 s, .string l, .int .i64 n]] w fun e w' => e = .returned (.tuple #[.int .i64 (Opd.reg s l n).lo, .int .i64 (Opd.reg s l n).hi]) ∧ Below w.heap.size w w' := by
  simp only [Opd.fit] at hf
  exact regBounds s n l (by omega) (by omega) w
theorem boundsI (a b : Int) (hf : (Opd.imm a b).fit) (w : World) : Calls Tryz.prog 155 #[.agg #[.int .i64 a, .int .i64 b]] w fun e w' => e = .returned (.tuple #[.int .i64 (Opd.imm a b).lo, .int .i64 (Opd.imm a b).hi]) ∧ Below w.heap.size w w' := by
  obtain ⟨rfl, rfl⟩ | ⟨rfl, rfl⟩ | ⟨rfl, rfl⟩ := hf
  · exact immBounds12 _ (by omega) (by omega) w
  · exact immBounds20 _ (by omega) (by omega) w
  · exact immBounds20 _ (by omega) (by omega) w
theorem fieldF (o : Opd) (hf : o.fit) (n : Int) (w : World) : Calls Tryz.prog 30 #[.int .i64 n, .int .i64 o.from, .int .i64 o.bits] w fun e w' => e = .returned (.int .i64 (fz n o.from.toNat o.bits.toNat)) ∧ Below w.heap.size w w' := by
  obtain ⟨a, b, c⟩ := fit_bits hf
  refine (implField_yes _ _ _ _ (isFd_of hf) a b c).mono ?_
  rintro e u ⟨rfl, q, rfl⟩
  exact ⟨rfl, drewB _ _⟩
theorem fz_lt (o : Opd) (hf : o.fit) (n : Int) : 0 ≤ fz n o.from.toNat o.bits.toNat ∧ fz n o.from.toNat o.bits.toNat < 4294967296 := by
  obtain ⟨h0, h1⟩ := fz_b n o.from.toNat o.bits.toNat
  obtain ⟨a, b, c⟩ := fit_bits hf
  obtain ⟨p1, p2⟩ := pow_b o.bits (by omega) (by omega)
  omega
theorem fit_lo {o : Opd} (hf : o.fit) : o.lo ≤ 0 ∧ -4294967296 ≤ o.lo := by
  cases o with
  | reg s l n => simp [Opd.lo]
  | imm a b => simp only [Opd.fit] at hf; simp only [Opd.lo]; omega
theorem wrapF (o : Opd) (hf : o.fit) (n : Int) (w : World) : Calls Tryz.prog 29 #[.int .i64 (fz n o.from.toNat o.bits.toNat), .int .i64 o.lo, .int .i64 o.bits] w fun e w' => e = .returned (.int .i64 (o.rd n)) ∧ w' = w := by
  obtain ⟨a, b, c⟩ := fit_bits hf
  obtain ⟨h0, h1⟩ := fz_lt o hf n
  obtain ⟨h2, h3⟩ := fit_lo hf
  exact wrapped_any _ _ _ w h0 h1 h2 h3 b (by omega)

/-- What the loop keeps. -/
structure PD (w wr : World) (n : Int) (l : List Opd) (v : Value) (j : Nat) : Prop where
  res : wr.heap[w.heap.size]? = some (.cells #[.bool false, .int .i64 0, .int .i64 0, .int .i64 0, .int .i64 0, .int .i64 0] 29 (0, 0))
  ins : InsAt wr (w.heap.size + 1) (n / 16777216) (dcf (l.take j) n (0, 0, 0, 0))
  own : wr.ownsRow (w.heap.size + 2) 51 1 v l.length (l.map Opd.val)
  bel : Below w.heap.size w wr
  two : w.heap.size + 1 < wr.heap.size
theorem PD.step {w wr u : World} {n : Int} {l : List Opd} {v : Value} {j : Nat} (h : PD w wr n l v j) (hu : Below wr.heap.size wr u) : PD w u n l v j :=
  ⟨(hu.block _ (by have := h.two; omega)).trans h.res, h.ins.below hu h.two, own_belowB h.own hu, h.bel.trans (hu.mono (by have := h.two; omega)), by have := h.two; have := hu.size; omega⟩
theorem PD.next {w wr : World} {n : Int} {l : List Opd} {v : Value} {j : Nat} (h : PD w wr n l v j) (hj : j < l.length) (p : Nat) (hp : l[j].plc = p) (y : Int) (hy : l[j].rd n = y) :
    PD w (wr.setCell ⟨w.heap.size + 1, p, none⟩ (.int .i64 y)) n l v (j + 1) := by
  subst hp hy
  refine ⟨(Below.heap_setCell _ _ _ _ (by simp)).trans h.res, ?_, ownsRow_setCell_below h.own (by simp) _, h.bel.setCell (by simp) _, by have := h.two; simpa using this⟩
  rw [dcf_succ l n _ j hj]
  exact h.ins.put _ (plc_b _).1 (plc_b _).2 _

theorem res_cells {wr : World} {b : Nat} (h : wr.heap[b]? = some (.cells #[.bool false, .int .i64 0, .int .i64 0, .int .i64 0, .int .i64 0, .int .i64 0] 29 (0, 0))) :
    wr.cell? ⟨b, 0, none⟩ = some (.bool false) ∧ wr.cell? ⟨b, 1, none⟩ = some (.int .i64 0) ∧ wr.cell? ⟨b, 2, none⟩ = some (.int .i64 0) ∧ wr.cell? ⟨b, 3, none⟩ = some (.int .i64 0) ∧ wr.cell? ⟨b, 4, none⟩ = some (.int .i64 0) ∧ wr.cell? ⟨b, 5, none⟩ = some (.int .i64 0) ∧
    (∀ k, wr.frozen? ⟨b, k, none⟩ = false) ∧ (∀ k, k < 6 → ∃ x, wr.cell? ⟨b, k, none⟩ = some x) := by
  refine ⟨by simp [World.cell?, h], by simp [World.cell?, h], by simp [World.cell?, h], by simp [World.cell?, h], by simp [World.cell?, h], by simp [World.cell?, h], fun k => by simp [World.frozen?, h], fun k hk => ?_⟩
  obtain rfl | rfl | rfl | rfl | rfl | rfl : k = 0 ∨ k = 1 ∨ k = 2 ∨ k = 3 ∨ k = 4 ∨ k = 5 := by omega
  all_goals simp [World.cell?, h]
set_option maxRecDepth 100000 in
set_option maxHeartbeats 8000000 in
theorem implDecode_any (n : Int) (w : World) (hn : Names w) (hw : 0 < w.heap.size) (h0 : -9223372036854775808 ≤ n) (h1 : n ≤ 9223372036854775807) :
    Calls Tryz.prog 9 #[.int .i64 n] w fun e w' => e = .returned (decV n) ∧ Below w.heap.size w w' := by
  have HN : Hid (Names w) := hn
  clear hn
  rw [← decI_eq]
  have hD := decI_of n
  have hfit := opsOf_fit (n / 16777216)
  have hlen := opsOf_len (n / 16777216)
  have hops := fun w => operandsOf_any (n / 16777216) w (by omega) (by omega)
  unfold OpR at hops
  generalize opsOf (n / 16777216) = l at *
  have HF : Hid (∀ o ∈ l, o.fit) := hfit
  have HD : Hid (∀ (a b c i : Int), dcf l n (0, 0, 0, 0) = (a, b, c, i) → decI n = if n < 0 ∨ encV (n / 16777216) a b c i ≠ n then rdV false 0 0 0 0 0 else rdV true (n / 16777216) a b c i) := hD
  generalize decI n = r at *
  clear hfit hD
  go_enter Tryz.func9, Tryz.ntmps9
  go_wp2_with (first | (go_at_call 23; refine Calls.mono (hops _) ?_; rintro e u2 ⟨v, rfl, hown, hw2⟩; obtain ⟨p, cap, rfl⟩ := slice_any hown))
  have hpf : PD w u2 n l (.slice p l.length cap) 0 := by
    refine ⟨?_, InsAt.below (B := w.heap.size + 2) ?_ (hw2.mono (by simp)) (by omega), ?_, ?_, ?_⟩
    · exact (hw2.block _ (by simp; omega)).trans ((Below.heap_alloc _ _ _ (by simp)).trans (heap_new _ _))
    · exact (congrArg (fun k => (World.heap _)[k]?) (by simp)).trans (heap_new (w.alloc _) _)
    · simpa using hown
    · exact ((Below.refl _ _).alloc (Nat.le_refl _) _ |>.alloc (by simp) _).trans (hw2.mono (by simp; omega))
    · have := hw2.size; simp at this; omega
  clear hw2 hown hops
  go_loopw [17] (fun i wr => ∃ j : Nat, j ≤ l.length ∧ i = .int .i64 j ∧ PD w wr n l (.slice p l.length cap) j) (fun i _ => l.length - (intOf i).toNat)
  case atStart => exact ⟨0, Nat.zero_le _, rfl, hpf⟩
  case round =>
    obtain ⟨j, hj, rfl, hp⟩ := hrel
    clear hpf
    by_cases hjl : j < l.length
    · obtain ⟨g, cap', hpe, _, _⟩ := hp.own.form (by omega)
      cases hpe
      have hcell : wr.cell? ⟨g, j, none⟩ = some (l[j].val) := (hp.own.cellAt j (by omega)).trans (by simp [hjl])
      have hft := HF.out l[j] (List.getElem_mem hjl)
      have HP : Hid (PD w wr n l (.slice (some ⟨g, 0, none⟩) l.length cap) j) := hp
      clear hp
      generalize hol : l[j] = o at *
      have HO : Hid (l[j] = o) := hol
      clear hol
      cases o with
      | reg s lt n =>
        have hm := mPlaceR s n lt
        have hm2 := mFieldR s n lt
        have hm3 := mBoundsR s n lt
        unfold Opd.val at hcell
        go_wp2_with (first | (go_at_call 159; refine (fieldR _ _ _ hft _).mono ?_; rintro e u3 ⟨rfl, hu3⟩; replace HP : Hid _ := HP.out.step hu3) | (go_at_call 158; refine (boundsR _ _ _ hft _).mono ?_; rintro e u4 ⟨rfl, hu4⟩; replace HP : Hid _ := HP.out.step hu4) | (go_at_call 160; refine (regPlace _ _ _ _ _).mono ?_; rintro e u5 ⟨rfl, hu5⟩; replace HP : Hid _ := HP.out.step hu5) | (go_at_call 30; refine (fieldF (.reg s lt n) hft _ _).mono ?_; rintro e u6 ⟨rfl, hu6⟩; replace HP := HP.out.step hu6; have hC := HP.ins.cell _ (plc_b (.reg s lt n)).1 (plc_b _).2; have hZ := HP.ins.fz ((Opd.reg s lt n).plc); replace HP : Hid _ := HP) | (go_at_call 29; refine (wrapF (.reg s lt n) hft _ _).mono ?_; rintro e u7 ⟨rfl, hu7⟩; rw [hu7]; clear hu7 u7))
        go_roundw
        case rel => exact ⟨j + 1, by omega, by go_num, HP.out.next hjl _ (by rw [HO.out]) _ (by rw [HO.out])⟩
        case measure => simp [intOf]; omega
      | imm la lb =>
        have hm := mPlaceI la lb
        have hm2 := mFieldI la lb
        have hm3 := mBoundsI la lb
        unfold Opd.val at hcell
        go_wp2_with (first | (go_at_call 156; refine (fieldI _ _ _).mono ?_; rintro e u3 ⟨rfl, hu3⟩; replace HP : Hid _ := HP.out.step hu3) | (go_at_call 155; refine (boundsI _ _ hft _).mono ?_; rintro e u4 ⟨rfl, hu4⟩; replace HP : Hid _ := HP.out.step hu4) | (go_at_call 157; refine (immPlace _ _ _ _).mono ?_; rintro e u5 ⟨rfl, hu5⟩; replace HP : Hid _ := HP.out.step hu5) | (go_at_call 30; refine (fieldF (.imm la lb) hft _ _).mono ?_; rintro e u6 ⟨rfl, hu6⟩; replace HP := HP.out.step hu6; have hC := HP.ins.cell 4 (by omega) (by omega); have hZ := HP.ins.fz (4); replace HP : Hid _ := HP) | (go_at_call 29; refine (wrapF (.imm la lb) hft _ _).mono ?_; rintro e u7 ⟨rfl, hu7⟩; rw [hu7]; clear hu7 u7))
        go_roundw
        case rel => exact ⟨j + 1, by omega, by go_num, HP.out.next hjl _ (by rw [HO.out]; rfl) _ (by rw [HO.out])⟩
        case measure => simp [intOf]; omega
    · obtain rfl : j = l.length := by omega
      have hq := hp.ins
      rw [List.take_length] at hq
      have hD := HD.out
      generalize dcf l n (0, 0, 0, 0) = q at *
      obtain ⟨qa, qb, qc, qi⟩ := q
      have hr := hD _ _ _ _ rfl
      clear hD HD
      have d0 := hq.op
      have d1 := hq.cell 1 (by omega) (by omega)
      have d2 := hq.cell 2 (by omega) (by omega)
      have d3 := hq.cell 3 (by omega) (by omega)
      have d4 := hq.cell 4 (by omega) (by omega)
      simp [fld] at d1 d2 d3 d4
      by_cases hneg : n < 0
      · rw [if_pos (.inl hneg)] at hr
        subst hr
        obtain ⟨r0, r1, r2, r3, r4, r5, hZ, hx⟩ := res_cells hp.res
        have HB : Hid (Below w.heap.size w wr) := hp.bel
        clear hp hq
        go_wp2
        generalize hU : (((((wr.setCell _ _).setCell _ _).setCell _ _).setCell _ _).setCell _ _).setCell _ _ = U
        obtain ⟨f0, f1, f2, f3, f4, f5⟩ := six _ _ _ _ _ _ hx hU
        refine bodyPost_ret (v := rdV false 0 0 0 0 0) (by simp [results, Tryz.results9, go_sem, rdV, f0, f1, f2, f3, f4, f5]) rfl ⟨rfl, ?_⟩
        rw [← hU]
        iterate 6 (refine Below.setCell ?_ (by simp) _)
        exact HB.out
      · have HP : Hid (PD w wr n l (.slice p l.length cap) l.length) := hp
        have HQ : Hid (InsAt wr (w.heap.size + 1) (n / 16777216) (qa, qb, qc, qi)) := hq
        clear hp hq
        have hb0 : -9223372036854775808 ≤ n / 16777216 := by omega
        have hb1 : n / 16777216 ≤ 9223372036854775807 := by omega
        by_cases heq : encV (n / 16777216) qa qb qc qi = n
        · rw [if_neg (not_or.2 ⟨hneg, fun h => h heq⟩)] at hr
          subst hr
          have HE : Hid (encV (n / 16777216) qa qb qc qi = n) := heq
          clear heq
          generalize hop : n / 16777216 = op at *
          have HO : Hid (n / 16777216 = op) := hop
          clear hop
          go_wp2_with (go_at_call 7; refine (implEncode_any op qa qb qc qi _ (HN.out.below HP.out.bel hw) (by have := HP.out.two; omega) hb0 hb1).mono ?_; rintro e u6 ⟨rfl, hu6⟩; rw [HE.out]; replace HQ := HQ.out.below hu6 HP.out.two; replace HP := HP.out.step hu6; obtain ⟨r0, r1, r2, r3, r4, r5, hZ, hx⟩ := res_cells HP.res; have g0 := HQ.op; have g1 := HQ.cell 1 (by omega) (by omega); have g2 := HQ.cell 2 (by omega) (by omega); have g3 := HQ.cell 3 (by omega) (by omega); have g4 := HQ.cell 4 (by omega) (by omega); simp [fld] at g1 g2 g3 g4; have HB : Hid _ := HP.bel; clear HP HQ)
          generalize hU : (((((u6.setCell _ _).setCell _ _).setCell _ _).setCell _ _).setCell _ _).setCell _ _ = U
          obtain ⟨f0, f1, f2, f3, f4, f5⟩ := six _ _ _ _ _ _ hx hU
          refine bodyPost_ret (v := rdV true op qa qb qc qi) (by simp [results, Tryz.results9, go_sem, rdV, f0, f1, f2, f3, f4, f5]) rfl ⟨by rw [HO.out], ?_⟩
          rw [← hU]
          iterate 6 (refine Below.setCell ?_ (by simp) _)
          exact HB.out
        · rw [if_pos (.inr heq)] at hr
          subst hr
          generalize n / 16777216 = op at *
          go_wp2_with (go_at_call 7; refine (implEncode_any op qa qb qc qi _ (HN.out.below HP.out.bel hw) (by have := HP.out.two; omega) hb0 hb1).mono ?_; rintro e u6 ⟨rfl, hu6⟩; replace HQ := HQ.out.below hu6 HP.out.two; replace HP := HP.out.step hu6; obtain ⟨r0, r1, r2, r3, r4, r5, hZ, hx⟩ := res_cells HP.res; have g0 := HQ.op; have g1 := HQ.cell 1 (by omega) (by omega); have g2 := HQ.cell 2 (by omega) (by omega); have g3 := HQ.cell 3 (by omega) (by omega); have g4 := HQ.cell 4 (by omega) (by omega); simp [fld] at g1 g2 g3 g4; have HB : Hid _ := HP.bel; clear HP HQ)
          generalize hU : (((((u6.setCell _ _).setCell _ _).setCell _ _).setCell _ _).setCell _ _).setCell _ _ = U
          obtain ⟨f0, f1, f2, f3, f4, f5⟩ := six _ _ _ _ _ _ hx hU
          refine bodyPost_ret (v := rdV false 0 0 0 0 0) (by simp [results, Tryz.results9, go_sem, rdV, f0, f1, f2, f3, f4, f5]) rfl ⟨rfl, ?_⟩
          rw [← hU]
          iterate 6 (refine Below.setCell ?_ (by simp) _)
          exact HB.out
end Go.Proofs.YtohmejfpebjlaaaGreatDoor
