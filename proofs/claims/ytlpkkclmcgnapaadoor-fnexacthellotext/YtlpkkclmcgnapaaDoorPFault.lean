import Derived.Test.YtlpkkclmcgnapaaDoorOpsOf
import Derived.Test.YtlpkkclmcgnapaaDoorInsAt
namespace Go.Proofs.YtlpkkclmcgnapaaDoor
open Go.ChangeShapes Go.WideShapes Go.ChangeAt Go.RowKit

theorem own_belowB {w w' : World} {B e size n : Nat} {v : Value} {xs : List Value} (h : w.ownsRow B e size v n xs) (hb : Below w.heap.size w w') : w'.ownsRow B e size v n xs :=
  h.kept (row := none) ⟨hb.os, hb.tape, hb.output, hb.size, fun k hk _ => hb.block k hk⟩ (Classical.em _)
theorem slice_any {w : World} {B e size n : Nat} {v : Value} {xs : List Value} (h : w.ownsRow B e size v n xs) : ∃ p cap, v = .slice p n cap := by
  obtain ⟨_, ⟨rfl, rfl⟩ | ⟨g, cap, _, rfl, _⟩⟩ := h
  · exact ⟨_, _, rfl⟩
  · exact ⟨_, _, rfl⟩
theorem rst_succ (l : List Opd) (f : Int × Int × Int × Int) (j : Nat) (h : j < l.length) : rst (l.take (j + 1)) f = putF l[j].plc 0 (rst (l.take j) f) := by
  unfold rst
  rw [List.take_succ_eq_append_getElem h, List.foldl_append]
  rfl

theorem heap_new (w : World) (o : Obj) : (w.alloc o).heap[w.heap.size]? = some o := by
  show (w.heap.push o)[w.heap.size]? = some o
  simp
/-- What the loop keeps. -/
structure PF (w wr : World) (op : Int) (f : Int × Int × Int × Int) (l : List Opd) (v : Value) (j : Nat) : Prop where
  ins : InsAt wr w.heap.size op f
  rest : InsAt wr (w.heap.size + 1) 0 (rst (l.take j) f)
  own : wr.ownsRow (w.heap.size + 2) 36 1 v l.length (l.map Opd.val)
  bel : Below w.heap.size w wr
  two : w.heap.size + 1 < wr.heap.size
  good : ∀ k (_ : k < j) (h2 : k < l.length), l[k].inB f = true
theorem PF.step {w wr u : World} {op : Int} {f : Int × Int × Int × Int} {l : List Opd} {v : Value} {j : Nat} (h : PF w wr op f l v j) (hu : Below wr.heap.size wr u) : PF w u op f l v j :=
  ⟨h.ins.below hu (by have := h.two; omega), h.rest.below hu h.two, own_belowB h.own hu, h.bel.trans (hu.mono (by have := h.two; omega)), by have := h.two; have := hu.size; omega, h.good⟩
theorem PF.next {w wr : World} {op : Int} {f : Int × Int × Int × Int} {l : List Opd} {v : Value} {j : Nat} (h : PF w wr op f l v j) (hj : j < l.length) (hb : l[j].inB f = true) (p : Nat) (hp : l[j].plc = p) :
    PF w (wr.setCell ⟨w.heap.size + 1, p, none⟩ (.int .i64 0)) op f l v (j + 1) := by
  subst hp
  refine ⟨h.ins.other (by omega) _ _, ?_, ownsRow_setCell_below h.own (by simp) _, h.bel.setCell (by simp) _, by have := h.two; simpa using this, ?_⟩
  · rw [rst_succ l f j hj]
    exact h.rest.put _ (plc_b _).1 (plc_b _).2 0
  · intro k hk h2
    by_cases hkj : k = j
    · subst hkj; exact hb
    · exact h.good k (by omega) h2
theorem inB_f (o : Opd) (hf : o.fit) (f : Int × Int × Int × Int) (w : World) : Calls Tryd.prog 15 #[o.val, .int .i64 (fld o.plc f)] w fun e w' => e = .returned (.bool (o.inB f)) ∧ Below w.heap.size w w' := inB_any o hf _ w
theorem gOk_bad {l : List Opd} {f : Int × Int × Int × Int} {j : Nat} (h : j < l.length) (hb : l[j].inB f = false) : gOk l f = false := by
  unfold gOk
  have : (l.all fun o => o.inB f) = false := by
    rw [List.all_eq_false]
    exact ⟨l[j], List.getElem_mem h, by simp [hb]⟩
  simp [this]
theorem gOk_end {l : List Opd} {f : Int × Int × Int × Int} (h : ∀ k (_ : k < l.length) (h2 : k < l.length), l[k].inB f = true) : gOk l f = decide (rst l f = (0, 0, 0, 0)) := by
  unfold gOk
  have : (l.all fun o => o.inB f) = true := by
    rw [List.all_eq_true]
    intro o ho
    obtain ⟨k, hk, rfl⟩ := List.mem_iff_getElem.1 ho
    exact h k hk hk
  simp [this]

set_option maxRecDepth 100000 in
set_option maxHeartbeats 8000000 in
theorem implFault_any (op a b c imm : Int) (w : World) (hn : Names w) (hw : 0 < w.heap.size) (h0 : -9223372036854775808 ≤ op) (h1 : op ≤ 9223372036854775807) :
    Calls Tryd.prog 10 #[ins op a b c imm] w fun e w' => e = .returned (.int .i64 (if isOk op a b c imm = true then 0 else 1)) ∧ Below w.heap.size w w' := by
  have HN : Hid (Names w) := hn
  clear hn
  unfold ins
  cases hx : ((nm op).toList == [])
  · have hne := beqL_ne hx
    rw [← gOk_isOk op a b c imm hne]
    have hfit := opsOf_fit op
    have hlen := opsOf_len op
    have hops := fun w => operandsOf_any op w h0 h1
    unfold OpR at hops
    generalize opsOf op = l at *
    have HF : Hid (∀ o ∈ l, o.fit) := hfit
    obtain ⟨r, hr⟩ : ∃ r : Int, (if gOk l (a, b, c, imm) = true then 0 else 1) = r := ⟨_, rfl⟩
    rw [hr]
    have HR : Hid ((if gOk l (a, b, c, imm) = true then 0 else 1) = r) := hr
    clear hfit hne hr
    go_enter Tryd.func10, Tryd.ntmps10
    go_wp2_with (first | (go_at_call 13; refine (opName_any _ _ (HN.out.alloc _ hw) (by omega) (by omega)).mono ?_; rintro e u ⟨rfl, hu⟩; rw [hu]; clear hu u; generalize nm op = x at *) | (go_at_call 11; refine Calls.mono (hops _) ?_; rintro e u1 ⟨v, rfl, hown, hw1⟩; obtain ⟨p, cap, rfl⟩ := slice_any hown))
    have hpf : PF w u1 op (a, b, c, imm) l (.slice p l.length cap) 0 := by
      refine ⟨InsAt.below (B := w.heap.size + 2) ?_ (hw1.mono (by simp)) (by omega), InsAt.below (B := w.heap.size + 2) ?_ (hw1.mono (by simp)) (by omega), ?_, ?_, ?_, ?_⟩
      · exact (Below.heap_alloc _ _ _ (by simp)).trans (heap_new _ _)
      · exact (congrArg (fun k => (World.heap _)[k]?) (by simp)).trans (heap_new (w.alloc _) _)
      · simpa using hown
      · exact ((Below.refl _ _).alloc (Nat.le_refl _) _ |>.alloc (by simp) _).trans (hw1.mono (by simp; omega))
      · have := hw1.size; simp at this; omega
      · intro k hk; omega
    clear hw1 hown hops
    go_loopw [16] (fun i wr => ∃ j : Nat, j ≤ l.length ∧ i = .int .i64 j ∧ PF w wr op (a, b, c, imm) l (.slice p l.length cap) j) (fun i _ => l.length - (intOf i).toNat)
    case atStart => exact ⟨0, Nat.zero_le _, rfl, hpf⟩
    case round =>
      obtain ⟨j, hj, rfl, hp⟩ := hrel
      clear hpf
      by_cases hjl : j < l.length
      · obtain ⟨g, cap', hpe, _, _⟩ := hp.own.form (by omega)
        cases hpe
        have hcell : wr.cell? ⟨g, j, none⟩ = some (l[j].val) := (hp.own.cellAt j (by omega)).trans (by simp [hjl])
        have hft := HF.out l[j] (List.getElem_mem hjl)
        have HP : Hid (PF w wr op (a, b, c, imm) l (.slice (some ⟨g, 0, none⟩) l.length cap) j) := hp
        clear hp
        generalize hol : l[j] = o at *
        have HO : Hid (l[j] = o) := hol
        clear hol
        cases hin : o.inB (a, b, c, imm)
        · have HB : Hid (r = 1) := by rw [← HR.out, gOk_bad hjl (by rw [HO.out]; exact hin)]; rfl
          cases o with
          | reg s lt n =>
            have hm := mPlaceR s n lt
            unfold Opd.val at hcell
            go_wp2_with (first | (go_at_call 60; refine (regPlace _ _ _ _ _).mono ?_; rintro e u2 ⟨rfl, hu2⟩; replace HP := HP.out.step hu2; have hC := HP.ins.cell _ (plc_b (.reg s lt n)).1 (plc_b _).2; replace HP : Hid _ := HP) | (go_at_call 15; refine (inB_f (.reg s lt n) hft _ _).mono ?_; rintro e u3 ⟨rfl, hu3⟩))
            go_ret
            exact ⟨ret_int HB.out.symm, (HP.out.step hu3).bel⟩
          | imm la lb =>
            have hm := mPlaceI la lb
            unfold Opd.val at hcell
            go_wp2_with (first | (go_at_call 56; refine (immPlace _ _ _ _).mono ?_; rintro e u2 ⟨rfl, hu2⟩; replace HP := HP.out.step hu2; have hC := HP.ins.cell 4 (by omega) (by omega); replace HP : Hid _ := HP) | (go_at_call 15; refine (inB_f (.imm la lb) hft _ _).mono ?_; rintro e u3 ⟨rfl, hu3⟩))
            go_ret
            exact ⟨ret_int HB.out.symm, (HP.out.step hu3).bel⟩
        · have HI : Hid (l[j].inB (a, b, c, imm) = true) := by rw [HO.out]; exact hin
          cases o with
          | reg s lt n =>
            have hm := mPlaceR s n lt
            unfold Opd.val at hcell
            go_wp2_with (first | (go_at_call 60; refine (regPlace _ _ _ _ _).mono ?_; rintro e u2 ⟨rfl, hu2⟩; replace HP := HP.out.step hu2; have hC := HP.ins.cell _ (plc_b (.reg s lt n)).1 (plc_b _).2; have hC2 := HP.rest.cell _ (plc_b (.reg s lt n)).1 (plc_b _).2; have hZ := HP.rest.fz (Opd.reg s lt n).plc; replace HP : Hid _ := HP) | (go_at_call 15; refine (inB_f (.reg s lt n) hft _ _).mono ?_; rintro e u3 ⟨rfl, hu3⟩; replace HP : Hid _ := HP.out.step hu3))
            go_roundw
            case rel => exact ⟨j + 1, by omega, by go_num, HP.out.next hjl HI.out _ (by rw [HO.out])⟩
            case measure => simp [intOf]; omega
          | imm la lb =>
            have hm := mPlaceI la lb
            unfold Opd.val at hcell
            go_wp2_with (first | (go_at_call 56; refine (immPlace _ _ _ _).mono ?_; rintro e u2 ⟨rfl, hu2⟩; replace HP := HP.out.step hu2; have hC := HP.ins.cell 4 (by omega) (by omega); have hC2 := HP.rest.cell 4 (by omega) (by omega); have hZ := HP.rest.fz 4; replace HP : Hid _ := HP) | (go_at_call 15; refine (inB_f (.imm la lb) hft _ _).mono ?_; rintro e u3 ⟨rfl, hu3⟩; replace HP : Hid _ := HP.out.step hu3))
            go_roundw
            case rel => exact ⟨j + 1, by omega, by go_num, HP.out.next hjl HI.out _ (by rw [HO.out]; rfl)⟩
            case measure => simp [intOf]; omega
      · obtain rfl : j = l.length := by omega
        have hg := gOk_end hp.good
        rw [hg] at HR
        have hq := hp.rest
        rw [List.take_length] at hq
        have HB : Hid (Below w.heap.size w wr) := hp.bel
        clear hp hg
        generalize rst l (a, b, c, imm) = q at *
        obtain ⟨q1, q2, q3, q4⟩ := q
        have d0 := hq.op
        have d1 := hq.cell 1 (by omega) (by omega)
        have d2 := hq.cell 2 (by omega) (by omega)
        have d3 := hq.cell 3 (by omega) (by omega)
        have d4 := hq.cell 4 (by omega) (by omega)
        simp only [fld] at d1 d2 d3 d4
        simp at d1 d2 d3 d4
        clear hq
        go_wp2
        all_goals
          go_ret
          refine ⟨ret_int ?_, HB.out⟩
          rw [← HR.out]
          clear HR HB HF HN
          simp_all
  · rw [show isOk op a b c imm = false from by unfold isOk; rw [show kd op = 0 from if_pos (beqL_eq hx)]; rfl]
    go_enter Tryd.func10, Tryd.ntmps10
    go_wp2_with (first | (go_at_call 13; refine (opName_any _ _ (HN.out.alloc _ hw) (by omega) (by omega)).mono ?_; rintro e u ⟨rfl, hu⟩; rw [hu]; clear hu u; generalize nm op = x at *))
    go_ret
    exact ⟨rfl, (Below.refl _ _).alloc (Nat.le_refl _) _⟩
end Go.Proofs.YtlpkkclmcgnapaaDoor
