import Derived.Test.YtohmejfpebjlaaaGreatDoorPRead3
namespace Go.Proofs.YtohmejfpebjlaaaGreatDoor
open Go.ChangeShapes Go.WideShapes Go.ChangeAt Go.WideMaps Go.WideElems Go.RowKit Go.Maps

/-- What the loop over the operands keeps. -/
structure RN (w wr : World) (op : Int) (f : Int × Int × Int × Int) (l : List Opd) (g B j : Nat) : Prop where
  res : NamAt wr w.heap.size 0 (0, 0, 0, 0) ⟨#[]⟩
  box : NamAt wr B op (gF (l.take j) f) ⟨#[]⟩
  row : ∀ k (h : k < l.length), wr.cell? ⟨g, k, none⟩ = some l[k].val
  txt : ∀ k (h : k < l.length), wr.cell? ⟨B + 1, k, none⟩ = some (.string (opdT l[k] f))
  bel : Below w.heap.size w wr
  RB : w.heap.size < B
  gB : g < B
  lt : B + 1 < wr.heap.size
theorem RN.next {w wr u : World} {op : Int} {f : Int × Int × Int × Int} {l : List Opd} {g B j : Nat} (h : RN w wr op f l g B j) (hu : Below wr.heap.size wr u) (hj : j < l.length) (p : Nat) (hp : l[j].plc = p) (y : Int) (hy : fld l[j].plc f = y) :
    RN w (u.setCell ⟨B, p, none⟩ (.int .i64 y)) op f l g B (j + 1) := by
  subst hp hy
  have hlt := h.lt
  have hRB := h.RB
  have hgB := h.gB
  refine ⟨(h.res.below hu (by omega)).other (by omega) _ _, ?_, fun k hk => ?_, fun k hk => ?_, (h.bel.trans (hu.mono (by omega))).setCell (by simp; omega) _, hRB, hgB, by have := hu.size; simp; omega⟩
  · rw [gF_succ l f j hj]
    exact (h.box.below hu (by omega)).put _ (plc_b _).1 (plc_b _).2 _
  · rw [World.cell?_setCell_other _ _ _ _ (by simp <;> omega), hu.cell (p := ⟨g, k, none⟩) (by simp; omega)]
    exact h.row k hk
  · rw [World.cell?_setCell_other _ _ _ _ (by simp <;> omega), hu.cell (p := ⟨B + 1, k, none⟩) (by simp; omega)]
    exact h.txt k hk
set_option maxRecDepth 100000 in
set_option maxHeartbeats 2000000 in
theorem readNamed_some (op a b c imm : Int) (mb : Nat) (w : World) (hok : isOk op a b c imm = true) (hl0 : opsOf op ≠ []) (hm : MaxAt w) (hw : 2 < w.heap.size) (ht : Tab w) (hw1 : 1 < w.heap.size) (hown : w.ownsMap Tryz.prog 9 (plainElem Tryz.prog 2) mb 55 (nmD 55)) :
    Calls Tryz.prog 32 #[.string ⟨(catB [nm op, ⟨#[32]⟩, joinB (pts (opsOf op) (a, b, c, imm))]).toArray⟩, .map (some mb)] w fun e w' => e = .returned (.tuple #[namV op a b c imm ⟨#[]⟩, .bool true]) ∧ Below w.heap.size w w' := by
  obtain ⟨bo, ba, bb, bc, bi⟩ := isOk_b hok
  have hne := nm_ne op a b c imm hok
  have hgf := gF_all op a b c imm hok
  have hin := inB_all op a b c imm hok
  have hB0 : Below w.heap.size w (w.alloc (.cells #[.int .i64 0, .int .i64 0, .int .i64 0, .int .i64 0, .int .i64 0, .string ⟨#[]⟩] 65)) := (Below.refl _ _).alloc (Nat.le_refl _) _
  have hfb := fun p => fld_bd (lo := -1000000000) (hi := 1000000000) p (a := a) (b := b) (c := c) (i := imm) (by omega) (by omega) (by omega) (by omega)
  have hfit := opsOf_fit op
  have hlet := opsOf_let op
  have hltr := opsOf_ltr op
  have hlen := opsOf_len op
  have hops := fun w => operandsOf_any op w (by omega) (by omega)
  unfold OpR at hops
  generalize opsOf op = l at *
  have hsz : (joinB (pts l (a, b, c, imm))).size ≤ 200 := joinB_size _ (by rw [pts_len]; exact hlen) (by
    intro p hp
    simp only [pts, List.mem_map] at hp
    obtain ⟨o, ho, rfl⟩ := hp
    exact opdT_size o (hlet o ho) _ (by have := hfb o.plc; omega) (by have := hfb o.plc; omega))
  obtain ⟨m, hm1⟩ := hm.below hB0 hw
  have hcut := cutText (nm op) (joinB (pts l (a, b, c, imm))) (nm_no32 op) m _ (by have := nm_size op; omega) (by omega) hm1
  have hspl := fun u m hu => splitText (pts l (a, b, c, imm)) (by cases l with | nil => exact absurd rfl hl0 | cons o l => simp [pts]) (by
    intro p hp
    simp only [pts, List.mem_map] at hp
    obtain ⟨o, ho, rfl⟩ := hp
    exact opdT_no44 o (hltr o ho) _) (by omega) m u hu
  rw [pts_len] at hspl
  have hpos : 0 < l.length := List.length_pos_iff.2 hl0
  have hkey : keyOf Tryz.prog 9 (.string (nm op)) = some (.string (nm op).data.toList) := keyOf_string_mk Tryz.underlying9 (nm_max _)
  have HA : Hid (∀ c, (nmD 55).atKey (.string (nm op).data.toList) (.lit (.int .i64 0)) = .lit (.int .i64 c) → c = op) := fun c h => at_op hne h
  have HH : Hid (Maps.has (nmD 55) (.string (nm op).data.toList) = true) := (nmD_at op hne).2
  have HO : Hid (w.ownsMap Tryz.prog 9 (plainElem Tryz.prog 2) mb 55 (nmD 55)) := hown
  have HM : Hid (MaxAt w) := hm
  have HT : Hid (Tab w) := ht
  have HB : Hid _ := hB0
  have HF : Hid ((∀ o ∈ l, o.fit) ∧ (∀ o ∈ l, o.inB (a, b, c, imm) = true) ∧ (∀ p, -1000000000 ≤ fld p (a, b, c, imm) ∧ fld p (a, b, c, imm) ≤ 1000000000) ∧ gF l (a, b, c, imm) = (a, b, c, imm)) := ⟨hfit, hin, hfb, hgf⟩
  have HP : Hid (∀ k (h : k < l.length), ((pts l (a, b, c, imm)).map Value.string).toArray[k]? = some (.string (opdT l[k] (a, b, c, imm)))) := by
    intro k h
    simp [pts, h]
  clear hm hm1 hne hown hB0 hok ht hfit hlet hltr hin hfb hgf hl0 hsz
  generalize nm op = x at *
  generalize joinB (pts l (a, b, c, imm)) = J at *
  generalize (catB [x, ⟨#[32]⟩, J]) = T at *
  generalize hA : ((pts l (a, b, c, imm)).map Value.string).toArray = A at *
  clear hA
  go_enter Tryz.func32, Tryz.ntmps32
  go_wp2_with (first | (go_at_call 53; refine Calls.mono hcut ?_; rintro e u1 ⟨rfl, hu1⟩) | (at_lookup; refine wpList_lookup_own_ok_int _ rfl _ _ 68 rfl 9 2 .i64 lawS Tryz.underlying68 Tryz.underlying2 (zero64 _) mb 55 _ rfl (map_below (map_below HO.out HB.out) hu1) _ _ rfl hkey ?_; intro q hat hwc; obtain rfl := HA.out q hat; rw [HH.out]; clear hat hwc) | (go_at_call 23; refine Calls.mono (hops _) ?_; rintro e u2 ⟨v, rfl, hrow, hu2⟩; obtain ⟨p, cap, rfl⟩ := slice_any hrow; have hb2 : Below w.heap.size w u2 := (HB.out.trans (hu1.mono (by simp))).trans (hu2.mono (by have := hu1.size; simp at this; omega))) | (go_at_call 54; obtain ⟨m2, hm2⟩ := (HM.out.below hb2 hw).below (B := u2.heap.size) ((Below.refl _ _).alloc (Nat.le_refl _) (.cells #[.int .i64 q, .int .i64 0, .int .i64 0, .int .i64 0, .int .i64 0, .string ⟨#[]⟩] 65)) (by have := hb2.size; omega); refine Calls.mono (hspl _ m2 hm2) ?_; rintro e u3 ⟨rfl, rfl⟩))
  obtain ⟨g, cap', hpe, hg0, hg1⟩ := hrow.form hpos
  cases hpe
  have hz1 : w.heap.size < u1.heap.size := by have := hu1.size; simp at this; omega
  have hz2 : w.heap.size < u2.heap.size := by have := hu2.size; omega
  have hba : Below u2.heap.size u2 ((u2.alloc (.cells #[.int .i64 q, .int .i64 0, .int .i64 0, .int .i64 0, .int .i64 0, .string ⟨#[]⟩] 65)).alloc (.cells A 9)) := ((Below.refl _ _).alloc (Nat.le_refl _) _).alloc (by simp) _
  have hrn : RN w ((u2.alloc (.cells #[.int .i64 q, .int .i64 0, .int .i64 0, .int .i64 0, .int .i64 0, .string ⟨#[]⟩] 65)).alloc (.cells A 9)) q (a, b, c, imm) l g u2.heap.size 0 := by
    refine ⟨NamAt.below (NamAt.below (NamAt.below (heap_new _ _) hu1 (by simp)) hu2 hz1) hba hz2, ?_, fun k hk => ?_, fun k hk => ?_, hb2.trans (hba.mono (by omega)), hz2, hg1, by simp⟩
    · exact (Below.heap_alloc _ _ _ (by simp)).trans (heap_new _ _)
    · rw [hba.cell (p := ⟨g, k, none⟩) hg1]
      exact (hrow.cellAt k (by omega)).trans (by simp [hk])
    · have hh : ((u2.alloc (.cells #[.int .i64 q, .int .i64 0, .int .i64 0, .int .i64 0, .int .i64 0, .string ⟨#[]⟩] 65)).alloc (.cells A 9)).heap[u2.heap.size + 1]? = some (.cells A 9 (0, 0)) := (congrArg (fun k => (World.heap _)[k]?) (by simp)).trans (heap_new (u2.alloc (.cells #[.int .i64 q, .int .i64 0, .int .i64 0, .int .i64 0, .int .i64 0, .string ⟨#[]⟩] 65)) _)
      have := HP.out k hk
      simp only [World.cell?, hh]
      exact this
  clear hba hz1 hz2 hrow hu1 hu2 hb2 hspl hops hcut hkey
  have hBB : u2.heap.size + 1 < ((u2.alloc (.cells #[.int .i64 q, .int .i64 0, .int .i64 0, .int .i64 0, .int .i64 0, .string ⟨#[]⟩] 65)).alloc (.cells A 9)).heap.size := hrn.lt
  generalize ((u2.alloc (.cells #[.int .i64 q, .int .i64 0, .int .i64 0, .int .i64 0, .int .i64 0, .string ⟨#[]⟩] 65)).alloc (.cells A 9)) = V at *
  generalize u2.heap.size = B at *
  go_loopw [58] (fun i wr => ∃ j : Nat, j ≤ l.length ∧ i = .int .i64 j ∧ RN w wr q (a, b, c, imm) l g B j) (fun i _ => l.length - (intOf i).toNat)
  case atStart => exact ⟨0, Nat.zero_le _, rfl, hrn⟩
  case round =>
    obtain ⟨j, hj, rfl, hp⟩ := hrel
    clear hrn
    by_cases hjl : j < l.length
    · have hcr := hp.row j hjl
      have hct := hp.txt j hjl
      have hsz := hp.lt
      have hbel := hp.bel
      have hro := readOperand_ok l[j] (HF.out.1 _ (List.getElem_mem hjl)) (a, b, c, imm) (HF.out.2.1 _ (List.getElem_mem hjl)) B wr (HT.out.below hbel hw1) (by have := hbel.size; omega) (by omega) (NamAt.some hp.box _ (by have := (plc_b l[j]).2; omega)) (NamAt.fz hp.box _) (HF.out.2.2.1 _).1 (HF.out.2.2.1 _).2
      have HRN : Hid (RN w wr q (a, b, c, imm) l g B j) := hp
      clear hp hbel
      generalize hol : l[j] = o at *
      have HOL : Hid (l[j] = o) := hol
      clear hol
      generalize o.val = ov at *
      generalize opdT o (a, b, c, imm) = ot at *
      go_wp2_with (go_at_call 55; refine Calls.mono hro ?_; rintro e u4 ⟨rfl, u, hu, rfl⟩; replace HRN : Hid _ := HRN.out.next hu hjl _ (by rw [HOL.out]) _ (by rw [HOL.out]))
      go_roundw
      case rel => exact ⟨j + 1, by omega, by go_num, HRN.out⟩
      case measure => simp [intOf]; omega
    · obtain rfl : j = l.length := by omega
      have hbox := hp.box
      rw [List.take_length, HF.out.2.2.2] at hbox
      have hRB := hp.RB
      have hres := hp.res
      have hsz := hp.lt
      have HBL : Hid (Below w.heap.size w wr) := hp.bel
      obtain ⟨c0, c1, c2, c3, c4, c5⟩ := NamAt.cells hbox
      obtain ⟨s0, s1, s2, s3, s4, s5⟩ := NamAt.cells hres
      have hzR := NamAt.fz hres
      have HR : Hid (NamAt wr w.heap.size 0 (0, 0, 0, 0) ⟨#[]⟩) := hres
      clear hp hbox hres
      simp only [] at c1 c2 c3 c4
      go_wp2
      generalize hU : (((((wr.setCell _ _).setCell _ _).setCell _ _).setCell _ _).setCell _ _).setCell _ _ = U
      have hfin := nam_end HR.out hU
      obtain ⟨f0, f1, f2, f3, f4, f5⟩ := NamAt.cells hfin
      clear hfin
      refine bodyPost_ret (v := .tuple #[namV q a b c imm ⟨#[]⟩, .bool true]) (by simp [results, Tryz.results32, go_sem, namV, f0, f1, f2, f3, f4, f5]) rfl ⟨rfl, ?_⟩
      rw [← hU]
      iterate 6 (refine Below.setCell ?_ (by simp) _)
      exact HBL.out
end Go.Proofs.YtohmejfpebjlaaaGreatDoor
