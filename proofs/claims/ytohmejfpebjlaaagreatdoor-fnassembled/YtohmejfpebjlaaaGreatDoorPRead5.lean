import Derived.Test.YtohmejfpebjlaaaGreatDoorPRead4
import Derived.Test.YtohmejfpebjlaaaGreatDoorPDec2
namespace Go.Proofs.YtohmejfpebjlaaaGreatDoor
open Go.ChangeShapes Go.WideShapes Go.ChangeAt Go.WideMaps Go.WideElems Go.RowKit Go.Maps

theorem text_size (op a b c imm : Int) (hok : isOk op a b c imm = true) : (txt op a b c imm ⟨#[]⟩).size ≤ 1000 := by
  obtain ⟨bo, ba, bb, bc, bi⟩ := isOk_b hok
  have hn := nm_size op
  rw [txt_join op a b c imm hok]
  split
  · omega
  · have hfb := fun p => fld_bd (lo := -1000000000) (hi := 1000000000) p (a := a) (b := b) (c := c) (i := imm) (by omega) (by omega) (by omega) (by omega)
    have hsz : (joinB (pts (opsOf op) (a, b, c, imm))).size ≤ 200 := joinB_size _ (by rw [pts_len]; exact opsOf_len op) (by
      intro p hp
      simp only [pts, List.mem_map] at hp
      obtain ⟨o, ho, rfl⟩ := hp
      exact opdT_size o (opsOf_let op o ho) _ (by have := hfb o.plc; omega) (by have := hfb o.plc; omega))
    rw [size_list]
    have h1 := size_list (nm op)
    have h2 := size_list (joinB (pts (opsOf op) (a, b, c, imm)))
    simp [catB] at *
    omega
theorem readNamed_ok (op a b c imm : Int) (mb : Nat) (w : World) (hok : isOk op a b c imm = true) (hm : MaxAt w) (hw : 2 < w.heap.size) (ht : Tab w) (hw1 : 1 < w.heap.size) (hown : w.ownsMap Tryz.prog 9 (plainElem Tryz.prog 2) mb 55 (nmD 55)) :
    Calls Tryz.prog 32 #[.string (txt op a b c imm ⟨#[]⟩), .map (some mb)] w fun e w' => e = .returned (.tuple #[namV op a b c imm ⟨#[]⟩, .bool true]) ∧ Below w.heap.size w w' := by
  obtain ⟨bo, _⟩ := isOk_b hok
  rw [txt_join op a b c imm hok]
  by_cases hl : (opsOf op).length = 0
  · rw [if_pos hl]
    have hg := gF_all op a b c imm hok
    have hnil : opsOf op = [] := List.length_eq_zero_iff.1 hl
    rw [hnil] at hg
    have e : ((0 : Int), (0 : Int), (0 : Int), (0 : Int)) = (a, b, c, imm) := hg
    simp only [Prod.mk.injEq] at e
    obtain ⟨rfl, rfl, rfl, rfl⟩ := e
    exact readNamed_none op mb w (nm_ne _ _ _ _ _ hok) hnil hm hw hown (by omega) (by omega)
  · rw [if_neg hl]
    exact readNamed_some op a b c imm mb w hok (fun h => hl (by rw [h]; rfl)) hm hw ht hw1 hown
set_option maxRecDepth 100000 in
set_option maxHeartbeats 1000000 in
theorem readInstr_ok (op a b c imm : Int) (w : World) (hok : isOk op a b c imm = true) (hnb : NamesB w) (hm : MaxAt w) (hw : 2 < w.heap.size) (ht : Tab w) (hw1 : 1 < w.heap.size) (hw0 : 0 < w.heap.size) :
    Calls Tryz.prog 10 #[.string (txt op a b c imm ⟨#[]⟩)] w fun e w' => e = .returned (rdV true op a b c imm) ∧ Below w.heap.size w w' := by
  have hB0 : Below w.heap.size w (w.alloc (.cells #[.bool false, .int .i64 0, .int .i64 0, .int .i64 0, .int .i64 0, .int .i64 0] 29)) := (Below.refl _ _).alloc (Nat.le_refl _) _
  have hts := text_size op a b c imm hok
  have hby := opsByName_any _ (hnb.below hB0 hw0) (by simp)
  have hbk : (w.alloc (.cells #[.bool false, .int .i64 0, .int .i64 0, .int .i64 0, .int .i64 0, .int .i64 0] 29)).heap.size = w.heap.size + 1 := by simp
  rw [hbk] at hby
  clear hbk
  have hrd := fun mb u h1 h2 h3 h4 h5 => readNamed_ok op a b c imm mb u hok h1 h2 h3 h4 h5
  have HC : Hid (NamesB w ∧ MaxAt w ∧ Tab w) := ⟨hnb, hm, ht⟩
  clear hnb hm ht hok hB0
  generalize txt op a b c imm ⟨#[]⟩ = t at *
  go_enter Tryz.func10, Tryz.ntmps10
  go_wp2_with (first | (go_at_call 33; refine Calls.mono hby ?_; rintro e u1 ⟨rfl, hmap, hu1⟩; have hb1 : Below w.heap.size w u1 := ((Below.refl _ _).alloc (Nat.le_refl _) _).trans (hu1.mono (by omega)); have hs1 : w.heap.size < u1.heap.size := (by have := hu1.size; simp at this; omega)) | (go_at_call 32; refine Calls.mono (hrd (w.heap.size + 1) _ (HC.out.2.1.below hb1 hw) (by have := hb1.size; omega) (HC.out.2.2.below hb1 hw1) (by have := hb1.size; omega) hmap) ?_; rintro e u2 ⟨rfl, hu2⟩; unfold namV; have hz1 := hs1; have hz2 : w.heap.size < u2.heap.size := (by have := hu2.size; omega); have hR : u2.heap[w.heap.size]? = some (.cells #[.bool false, .int .i64 0, .int .i64 0, .int .i64 0, .int .i64 0, .int .i64 0] 29 (0, 0)) := ((hu2.block _ hz1).trans ((hu1.block _ (by omega)).trans (heap_new _ _))); obtain ⟨r0, r1, r2, r3, r4, r5, hZ, hx⟩ := res_cells hR; clear hR) | go_in)
  generalize hU : (((((u2.setCell _ _).setCell _ _).setCell _ _).setCell _ _).setCell _ _).setCell _ _ = U
  have hsz : U.heap.size = u2.heap.size := by rw [← hU]; simp
  obtain ⟨f0, f1, f2, f3, f4, f5⟩ := six _ _ _ _ _ _ hx hU
  have hA : ∀ k, (U.alloc (.cells #[.int .i64 op, .int .i64 a, .int .i64 b, .int .i64 c, .int .i64 imm, .string ⟨#[]⟩] 65)).cell? ⟨w.heap.size, k, none⟩ = U.cell? ⟨w.heap.size, k, none⟩ := fun k => ((Below.refl U.heap.size U).alloc (Nat.le_refl _) _).cell (p := ⟨w.heap.size, k, none⟩) (by show w.heap.size < U.heap.size; omega)
  have g0 := (hA 0).trans f0
  have g1 := (hA 1).trans f1
  have g2 := (hA 2).trans f2
  have g3 := (hA 3).trans f3
  have g4 := (hA 4).trans f4
  have g5 := (hA 5).trans f5
  clear hA f0 f1 f2 f3 f4 f5
  refine bodyPost_ret (v := rdV true op a b c imm) (by simp [results, Tryz.results10, go_sem, rdV, g0, g1, g2, g3, g4, g5]) rfl ⟨rfl, ?_⟩
  refine Below.alloc ?_ (by omega) _
  rw [← hU]
  iterate 6 (refine Below.setCell ?_ (by simp) _)
  exact hb1.trans (hu2.mono (by omega))
theorem dec_enc (op a b c imm : Int) (hok : isOk op a b c imm = true) : decV (encV op a b c imm) = rdV true op a b c imm := by
  obtain ⟨bo, ba, bb, bc, bi⟩ := isOk_b hok
  obtain ⟨hk0, _⟩ := kOk_b hok
  have hk := kd_lt op
  have hkd : kd op = kd2 op := by
    unfold kd at hk0 ⊢
    split at hk0
    · exact absurd rfl hk0
    · rw [if_neg (by assumption)]
  have h4 : kd op = 4 → op = 20 ∨ op = 36 := fun h5 => kd2_4 op (hkd.symm.trans h5)
  have hn : encV op a b c imm = if kd op = 4 then op * 16777216 + a * 1048576 + imm % 1048576 else op * 16777216 + a * 1048576 + b * 65536 + c * 4096 + imm % 4096 := if_pos hok
  have hw : isW (encV op a b c imm) = true := by
    rw [hn]
    simp only [isW]
    split <;> simp <;> omega
  have ho : fz (encV op a b c imm) 24 8 = op := by
    rw [hn]; unfold fz; simp only [Int.reducePow]; split <;> omega
  have ha : fz (encV op a b c imm) 20 4 = a := by
    rw [hn]; unfold fz; simp only [Int.reducePow]; split <;> omega
  have hd : dB (encV op a b c imm) = b ∧ dC (encV op a b c imm) = c ∧ dI (encV op a b c imm) = imm := by
    unfold dB dC dI dOp
    rw [ho, hn]
    unfold isOk at hok
    by_cases hk4 : kd op = 4
    · rw [if_pos hk4, if_pos hk4, if_pos hk4, if_pos hk4]
      rw [hk4] at hok
      rcases h4 hk4 with rfl | rfl
      · simp [kOk, reg, immOk] at hok
        simp [fz]
        omega
      · simp [kOk, reg, immOk] at hok
        simp only [if_true]
        have hs := sg20 (fz (36 * 16777216 + a * 1048576 + imm % 1048576) 0 20) (fz_b _ _ _).1 (by have := (fz_b (36 * 16777216 + a * 1048576 + imm % 1048576) 0 20).2; simpa using this)
        have hf : fz (36 * 16777216 + a * 1048576 + imm % 1048576) 0 20 = imm % 1048576 := by unfold fz; simp only [Int.reducePow]; omega
        rw [hf] at hs ⊢
        omega
    · rw [if_neg hk4, if_neg hk4, if_neg hk4, if_neg hk4]
      have n20 : ¬ op = 20 := by rintro rfl; exact hk4 (by decide +kernel)
      have n36 : ¬ op = 36 := by rintro rfl; exact hk4 (by decide +kernel)
      have him : -2048 ≤ imm ∧ imm ≤ 2047 := by
        generalize kd op = k at *
        obtain rfl | rfl | rfl | rfl | rfl | rfl | rfl : k = 1 ∨ k = 2 ∨ k = 3 ∨ k = 5 ∨ k = 6 ∨ k = 7 ∨ k = 8 := by omega
        all_goals
          simp [kOk, reg, immOk, n20, n36] at hok
          omega
      have hs := sg12 (fz (op * 16777216 + a * 1048576 + b * 65536 + c * 4096 + imm % 4096) 0 12) (fz_b _ _ _).1 (by have := (fz_b (op * 16777216 + a * 1048576 + b * 65536 + c * 4096 + imm % 4096) 0 12).2; simpa using this)
      have hf : fz (op * 16777216 + a * 1048576 + b * 65536 + c * 4096 + imm % 4096) 0 12 = imm % 4096 := by unfold fz; simp only [Int.reducePow]; omega
      have hfb : fz (op * 16777216 + a * 1048576 + b * 65536 + c * 4096 + imm % 4096) 16 4 = b := by unfold fz; simp only [Int.reducePow]; omega
      have hfc : fz (op * 16777216 + a * 1048576 + b * 65536 + c * 4096 + imm % 4096) 12 4 = c := by unfold fz; simp only [Int.reducePow]; omega
      rw [hf] at hs
      rw [hf, hfb, hfc]
      omega
  obtain ⟨d1, d2, d3⟩ := hd
  rw [decV_at _ b c imm hw d1 d2 d3, ho, ha, if_pos hok]
end Go.Proofs.YtohmejfpebjlaaaGreatDoor
