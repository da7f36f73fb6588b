import Derived.Test.YtlpkkclmcgnapaaDoorPText
namespace Go.Proofs.YtlpkkclmcgnapaaDoor
open Go.ChangeShapes Go.WideShapes Go.ChangeAt Go.RowKit

def Opd.letOk : Opd → Prop
  | .reg _ l _ => l.size ≤ 10
  | .imm _ _ => True
theorem opsOf_let0 (op : Int) : ∀ o ∈ opsOf op, o.letOk := by
  intro o ho
  unfold opsOf at ho
  split at ho
  all_goals (try split at ho)
  all_goals simp [rP, vP] at ho
  all_goals (first | (rcases ho with rfl | rfl | rfl) | (rcases ho with rfl | rfl) | subst ho)
  all_goals first | exact trivial | exact (show ByteArray.size _ ≤ 10 by decide)
theorem opsOf_let (op : Int) : ∀ o ∈ opsOf op, ∀ s l n, o = .reg s l n → l.size ≤ 10 := by
  intro o ho s l n e
  subst e
  exact opsOf_let0 op _ ho
theorem fld_bd {a b c i : Int} (p : Nat) {lo hi : Int} (ha : lo ≤ a ∧ a ≤ hi) (hb : lo ≤ b ∧ b ≤ hi) (hc : lo ≤ c ∧ c ≤ hi) (hi' : lo ≤ i ∧ i ≤ hi) : lo ≤ fld p (a, b, c, i) ∧ fld p (a, b, c, i) ≤ hi := by
  unfold fld
  split
  · exact ha
  split
  · exact hb
  split
  · exact hc
  · exact hi'
theorem opdT_size (o : Opd) (hl : ∀ s l n, o = .reg s l n → l.size ≤ 10) (f : Int × Int × Int × Int) (h0 : -9223372036854775808 ≤ fld o.plc f) (h1 : fld o.plc f ≤ 9223372036854775807) : (opdT o f).size ≤ 40 := by
  have hd := decB_size _ h0 h1
  unfold opdT
  cases o with
  | reg s l n =>
    have := hl s l n rfl
    rw [ByteArray.size_append]
    omega
  | imm a b => exact Nat.le_trans hd (by decide)
theorem joinB_size (ps : List ByteArray) (h : ps.length ≤ 3) (hs : ∀ p ∈ ps, p.size ≤ 40) : (joinB ps).size ≤ 200 := by
  have e : (joinB ps).size = (Lib.join (ps.map (·.data.toList)) [44, 32]).length := by simp [joinB, ByteArray.size]
  rw [e]
  match ps, h, hs with
  | [], _, _ => simp [Lib.join]
  | [x], _, hs =>
    have := hs x (by simp)
    simp [Lib.join]; omega
  | [x, y], _, hs =>
    have := hs x (by simp)
    have := hs y (by simp)
    simp [Lib.join]; omega
  | [x, y, z], _, hs =>
    have := hs x (by simp)
    have := hs y (by simp)
    have := hs z (by simp)
    simp [Lib.join]; omega
theorem joined3 (b : Nat) (x y z : ByteArray) (w : World) (hb : b < w.heap.size) (h0 : w.cell? ⟨b, 0, none⟩ = some (.string x)) (h1 : w.cell? ⟨b, 1, none⟩ = some (.string y)) (h2 : w.cell? ⟨b, 2, none⟩ = some (.string z)) (hx : x.size ≤ 1000) (hy : y.size ≤ 1000) (hz : z.size ≤ 1000) :
    Calls Tryd.prog 9 #[.slice (some ⟨b, 0, none⟩) 3 3] w fun e w' => e = .returned (.string ⟨(catB [x, y, z]).toArray⟩) ∧ Below w.heap.size w w' := by
  refine joined_any b 3 3 [x, y, z] w rfl hb ?_ (by decide) ?_
  · intro i hi
    obtain rfl | rfl | rfl : i = 0 ∨ i = 1 ∨ i = 2 := by omega
    · simpa using h0
    · simpa using h1
    · simpa using h2
  · simp [catB]; omega
theorem pts_succ (l : List Opd) (f : Int × Int × Int × Int) (j : Nat) (h : j < l.length) : strs (pts (l.take (j + 1)) f) = strs (pts (l.take j) f) ++ [.string (opdT l[j] f)] := by
  rw [List.take_succ_eq_append_getElem h]
  unfold pts strs
  rw [List.map_append, List.map_append]
  rfl
theorem pts_len (l : List Opd) (f : Int × Int × Int × Int) : (pts l f).length = l.length := by simp [pts]

set_option maxRecDepth 100000 in
set_option maxHeartbeats 8000000 in
theorem implText_any (op a b c imm : Int) (w : World) (hn : Names w) (ht : Tab w) (hw : 1 < w.heap.size) (hw0 : 0 < w.heap.size) (h0 : -9223372036854775808 ≤ op) (h1 : op ≤ 9223372036854775807) :
    Calls Tryd.prog 8 #[ins op a b c imm] w fun e w' => e = .returned (.string (iT op a b c imm)) ∧ Below w.heap.size w w' := by
  have HN : Hid (Names w) := hn
  have HT : Hid (Tab w) := ht
  clear hn ht
  unfold iT
  cases hok : isOk op a b c imm
  · rw [if_neg (by decide)]
    unfold ins
    go_enter Tryd.func8, Tryd.ntmps8
    go_wp2_with (go_at_call 10; refine (implFault_any _ _ _ _ _ _ (HN.out.alloc _ hw0) (by simp) (by omega) (by omega)).mono ?_; rintro e u1 ⟨rfl, hw1⟩; rw [hok])
    go_ret
    exact ⟨rfl, bstep (Below.refl _ _) _ hw1⟩
  · rw [if_pos rfl, txt_join op a b c imm hok]
    obtain ⟨bo, ba, bb, bc, bi⟩ := isOk_b hok
    have hfb := fun p => fld_bd (lo := -9223372036854775808) (hi := 9223372036854775807) p (a := a) (b := b) (c := c) (i := imm) (by omega) (by omega) (by omega) (by omega)
    have hfit := opsOf_fit op
    have hlet := opsOf_let op
    have hlen := opsOf_len op
    have hops := fun w => operandsOf_any op w h0 h1
    unfold OpR at hops
    generalize opsOf op = l at *
    have hsz : (joinB (pts l (a, b, c, imm))).size ≤ 200 := joinB_size _ (by rw [pts_len]; exact hlen) (by
      intro p hp
      simp only [pts, List.mem_map] at hp
      obtain ⟨o, ho, rfl⟩ := hp
      exact opdT_size o (hlet o ho) _ (hfb _).1 (hfb _).2)
    have HF : Hid ((∀ o ∈ l, o.fit) ∧ (∀ o ∈ l, ∀ s lt n, o = .reg s lt n → lt.size ≤ 10) ∧ ∀ p, -9223372036854775808 ≤ fld p (a, b, c, imm) ∧ fld p (a, b, c, imm) ≤ 9223372036854775807) := ⟨hfit, hlet, hfb⟩
    have HO : Hid (isOk op a b c imm = true) := hok
    clear hfit hok hlet hfb
    obtain ⟨r, hr⟩ : ∃ r, (if l.length = 0 then nm op else ⟨(catB [nm op, ⟨#[32]⟩, joinB (pts l (a, b, c, imm))]).toArray⟩) = r := ⟨_, rfl⟩
    rw [hr]
    have HR : Hid ((if l.length = 0 then nm op else ⟨(catB [nm op, ⟨#[32]⟩, joinB (pts l (a, b, c, imm))]).toArray⟩) = r) := hr
    clear hr
    obtain ⟨i0, hi, hz0, hz1, hz2⟩ := info_parts Tryd.info9
    unfold ins
    go_enter Tryd.func8, Tryd.ntmps8
    go_wp2_with (first | (go_at_call 10; refine (implFault_any _ _ _ _ _ _ (HN.out.alloc _ hw0) (by simp) (by omega) (by omega)).mono ?_; rintro e u1 ⟨rfl, hw1⟩; rw [HO.out]; have hia : InsAt u1 w.heap.size op (a, b, c, imm) := InsAt.below (B := w.heap.size + 1) (heap_new _ _) (hw1.mono (by simp)) (by omega); have hi00 := hia.op) | (go_at_call 11; refine Calls.mono (hops _) ?_; rintro e u2 ⟨v, rfl, hown, hw2⟩; obtain ⟨p, cap, rfl⟩ := slice_any hown))
    have hz : w.heap.size < u1.heap.size := by have := hw1.size; simp at this; omega
    have hz3 : w.heap.size < u2.heap.size := Nat.lt_of_lt_of_le hz hw2.size
    have HI : Hid (InsAt u2 w.heap.size op (a, b, c, imm)) := hia.below hw2 hz
    have HB : Hid (Below w.heap.size w u2) := (bstep (Below.refl _ _) _ hw1).trans (hw2.mono (by omega))
    have HW : Hid (u2.ownsRow u1.heap.size 36 1 (.slice p l.length cap) l.length (l.map Opd.val)) := hown
    clear hw1 hown hops hw2 hia hi00
    go_loopw [3, 13] (fun v i wr => ∃ j : Nat, j ≤ l.length ∧ i = .int .i64 j ∧ wr.ownsRow u2.heap.size 9 1 v j (strs (pts (l.take j) (a, b, c, imm))) ∧ Below u2.heap.size u2 wr) (fun _ i _ => l.length - (intOf i).toNat)
    case atStart => exact ⟨0, Nat.zero_le _, rfl, ⟨rfl, .inl ⟨rfl, rfl⟩⟩, Below.refl _ _⟩
    case round =>
      obtain ⟨j, hj, rfl, hown, hbl⟩ := hrel
      by_cases hjl : j < l.length
      · obtain ⟨g, cap', hpe, hg0, hg1⟩ := HW.out.form (by omega)
        cases hpe
        have hcell : wr.cell? ⟨g, j, none⟩ = some (l[j].val) := (hbl.cell (p := ⟨g, j, none⟩) hg1).trans ((HW.out.cellAt j (by omega)).trans (by simp [hjl]))
        have hsz2 := hbl.size
        have HS : Hid (strs (pts (l.take (j + 1)) (a, b, c, imm)) = strs (pts (l.take j) (a, b, c, imm)) ++ [.string (opdT l[j] (a, b, c, imm))]) := pts_succ _ _ _ hjl
        generalize hol : l[j] = o at *
        have HO2 : Hid (l[j] = o) := hol
        clear hol
        generalize strs (pts (l.take j) (a, b, c, imm)) = S at *
        cases o with
        | reg s lt n =>
          have hm := mPlaceR s n lt
          have hot := fun u hu => opdText_any (.reg s lt n) (HF.out.2.1 _ (by rw [← HO2.out]; exact List.getElem_mem hjl)) (a, b, c, imm) u hu (HF.out.2.2 _).1 (HF.out.2.2 _).2
          generalize opdT (.reg s lt n) (a, b, c, imm) = x at *
          unfold Opd.val at hcell hot
          go_wp2_with (first | (go_at_call 60; refine (regPlace _ _ _ _ _).mono ?_; rintro e u3 ⟨rfl, hu3⟩; have hC := (InsAt.below (HI.out.below hbl hz3) hu3 (by omega)).cell _ (plc_b (.reg s lt n)).1 (plc_b _).2) | (go_at_call 12; refine Calls.mono (hot _ ((HT.out.below HB.out hw).below hbl (by omega) |>.below hu3 (by omega))) ?_; rintro e u4 ⟨rfl, hu4⟩) | (at_builtin; refine wpList_append_own _ rfl _ _ 25 rfl u2.heap.size 9 i0 (.string ⟨#[]⟩) 1 16 Tryd.underlying25 hi hz0 hz1 hz2 rfl (by decide) _ _ _ rfl ((own_belowB (own_belowB hown hu3) hu4).alloc _) ⟨u4.heap.size, 0, none⟩ 1 1 [.string x] rfl rfl ?c1 ?c2 ?c3 ?c4 ?c5 ?_))
          case c1 => exact World.news_of_block (cs := #[.string x]) (heap_alloc_new u4 _)
          case c2 => intro u hu; simp at hu; subst hu; rfl
          case c3 => unfold maxLen; omega
          case c4 => omega
          case c5 => have := hbl.size; have := hu3.size; have := hu4.size; simp; omega
          intro v' w2 hown2 hgrow _
          go_wp2
          go_roundw
          case rel => exact ⟨j + 1, by omega, by go_num, own_cast' hown2 (by simp) (by rw [HS.out]), Below.grown ((hbl.trans (hu3.mono (by omega))).trans (hu4.mono (by have := hu3.size; omega)) |>.alloc (by have := hu3.size; have := hu4.size; omega) _) hgrow (by have := hu3.size; have := hu4.size; simp; omega) (fun k hk => (hown.lt k hk).1)⟩
          case measure => simp [intOf]; omega
        | imm la lb =>
          have hm := mPlaceI la lb
          have hot := fun u hu => opdText_any (.imm la lb) (HF.out.2.1 _ (by rw [← HO2.out]; exact List.getElem_mem hjl)) (a, b, c, imm) u hu (HF.out.2.2 _).1 (HF.out.2.2 _).2
          generalize opdT (.imm la lb) (a, b, c, imm) = x at *
          unfold Opd.val at hcell hot
          go_wp2_with (first | (go_at_call 56; refine (immPlace _ _ _ _).mono ?_; rintro e u3 ⟨rfl, hu3⟩; have hC := (InsAt.below (HI.out.below hbl hz3) hu3 (by omega)).cell 4 (by omega) (by omega)) | (go_at_call 12; refine Calls.mono (hot _ ((HT.out.below HB.out hw).below hbl (by omega) |>.below hu3 (by omega))) ?_; rintro e u4 ⟨rfl, hu4⟩) | (at_builtin; refine wpList_append_own _ rfl _ _ 25 rfl u2.heap.size 9 i0 (.string ⟨#[]⟩) 1 16 Tryd.underlying25 hi hz0 hz1 hz2 rfl (by decide) _ _ _ rfl ((own_belowB (own_belowB hown hu3) hu4).alloc _) ⟨u4.heap.size, 0, none⟩ 1 1 [.string x] rfl rfl ?c1 ?c2 ?c3 ?c4 ?c5 ?_))
          case c1 => exact World.news_of_block (cs := #[.string x]) (heap_alloc_new u4 _)
          case c2 => intro u hu; simp at hu; subst hu; rfl
          case c3 => unfold maxLen; omega
          case c4 => omega
          case c5 => have := hbl.size; have := hu3.size; have := hu4.size; simp; omega
          intro v' w2 hown2 hgrow _
          go_wp2
          go_roundw
          case rel => exact ⟨j + 1, by omega, by go_num, own_cast' hown2 (by simp) (by rw [HS.out]), Below.grown ((hbl.trans (hu3.mono (by omega))).trans (hu4.mono (by have := hu3.size; omega)) |>.alloc (by have := hu3.size; have := hu4.size; omega) _) hgrow (by have := hu3.size; have := hu4.size; simp; omega) (fun k hk => (hown.lt k hk).1)⟩
          case measure => simp [intOf]; omega
      · obtain rfl : j = l.length := by omega
        rw [List.take_length] at hown
        obtain ⟨q, cap2, rfl⟩ := slice_any hown
        have hi0 := (HI.out.below hbl hz3).op
        have HNw : Hid (Names wr) := (HN.out.below HB.out hw0).below hbl (by omega)
        have HBw : Hid (Below w.heap.size w wr) := HB.out.trans (hbl.mono (by omega))
        have hsz2 := hbl.size
        clear hbl
        by_cases hl0 : l.length = 0
        · have HE : Hid (r = nm op) := HR.out.symm.trans (if_pos hl0)
          rw [hl0]
          go_wp2_with (go_at_call 13; refine (opName_any _ _ HNw.out (by omega) (by omega)).mono ?_; rintro e u ⟨rfl, hu⟩; rw [hu]; clear hu u)
          go_ret
          exact ⟨ret_str HE.out.symm, HBw.out⟩
        · have HE : Hid (r = ⟨(catB [nm op, ⟨#[32]⟩, joinB (pts l (a, b, c, imm))]).toArray⟩) := HR.out.symm.trans (if_neg hl0)
          obtain ⟨g, cap', hpe, hg0, hg1⟩ := hown.form (by omega)
          cases hpe
          have hcap : l.length ≤ cap2 := by
            obtain ⟨_, h | ⟨_, _, _, h, _, _, h2, _⟩⟩ := id hown
            · exact absurd h.2 hl0
            · cases h
              exact h2
          have hjo := Tryd.strings_Join g 0 cap2 (pts l (a, b, c, imm)) ⟨#[44, 32]⟩ wr (by
            intro k x hx
            have hk : k < l.length := by
              have := (List.getElem?_eq_some_iff.1 hx).1
              rwa [pts_len] at this
            rw [Nat.zero_add]
            refine (hown.cellAt k (by omega)).trans ?_
            simp [strs, hx]) hg1 (by rw [pts_len]; omega) (by rw [pts_len]; exact hcap) (by
            have : (joinB (pts l (a, b, c, imm))).size = (Lib.join ((pts l (a, b, c, imm)).map (·.data.toList)) [44, 32]).length := by simp [joinB, ByteArray.size]
            show (Lib.join ((pts l (a, b, c, imm)).map (·.data.toList)) [44, 32]).length ≤ _
            omega)
          rw [pts_len] at hjo
          change Calls _ _ _ _ (fun e w' => e = .returned (.string (joinB (pts l (a, b, c, imm)))) ∧ _) at hjo
          generalize joinB (pts l (a, b, c, imm)) = J at *
          have hnz := nm_size op
          clear hown
          go_wp2_with (first | (go_at_call 13; refine (opName_any _ _ HNw.out (by omega) (by omega)).mono ?_; rintro e u ⟨rfl, hu⟩; rw [hu]; clear hu u) | (go_at_call 14; refine Calls.mono hjo ?_; rintro e u5 ⟨rfl, hu5⟩) | (go_at_call 9; refine (joined3 _ (nm op) ⟨#[32]⟩ J _ (by simp) (by simp [go_sem]) (by simp [go_sem]) (by simp [go_sem]) (by omega) (by decide) (by omega)).mono ?_; rintro e u6 ⟨rfl, hu6⟩))
          go_ret
          exact ⟨ret_str HE.out.symm, bstep (HBw.out.trans (hu5.mono (by omega))) _ hu6⟩
end Go.Proofs.YtlpkkclmcgnapaaDoor
