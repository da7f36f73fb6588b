import Derived.Test.YtjaekfnlihhoeaaDoorTr5
namespace Go.Proofs.YtjaekfnlihhoeaaDoor
open Go.ChangeShapes Go.WideShapes Go.ChangeAt Go.RowKit
set_option maxRecDepth 100000 in
set_option maxHeartbeats 8000000 in
theorem rw_e {s : ByteArray} (w : World) (hs : s.size ≤ 2000) (hn : nvB s = true) (hw : whOk s = true) (hf : 29 + uwN s ≤ s.size) (he0 : endC s (29 + uwN s) 51 = 0) (hr0 : frB (uwF s) = false) : Calls Tryd.prog 12 #[.string s] w fun e w' => RWno 1 w e w' := by
  have hnv : Hid (nvB s = true) := hn
  have hwo : Hid (whOk s = true) := hw
  have hsz : Hid (s.size ≤ 2000) := hs
  have hnN : Hid ((uwN s : Int) = hdV s 6) := (show (uwN s : Int) = hdV s 6 by have := hdV_b s 6; unfold uwN; omega)
  have hn15 : Hid (uwN s ≤ 1500) := (show uwN s ≤ 1500 by
    have h9 := hw
    unfold whOk at h9
    simp only [Bool.and_eq_true, decide_eq_true_eq] at h9
    have := hdV_b s 6
    unfold uwN
    omega)
  have h29 : Hid (29 ≤ s.size) := (show 29 ≤ s.size by
    have h9 := hw
    unfold whOk at h9
    simp only [Bool.and_eq_true, decide_eq_true_eq] at h9
    exact h9.1)
  have hfit : Hid (29 + uwN s ≤ s.size) := hf
  have hend : Hid (endC s (29 + uwN s) 51 = 0) := he0
  have hfr : Hid (frB (uwF s) = false) := hr0
  clear hf he0 hr0
  clear hn hw hs
  unfold RWno
  have H0 : Hid (Below w.heap.size w (w.alloc (.cells #[.int .i64 0, .int .i64 0, .int .i64 0, .int .i64 0, .int .i64 0, .int .i64 0, .int .i64 0, .string ⟨#[]⟩] 25))) := bx1 _ _
  have HR0 : Hid ((w.alloc (.cells #[.int .i64 0, .int .i64 0, .int .i64 0, .int .i64 0, .int .i64 0, .int .i64 0, .int .i64 0, .string ⟨#[]⟩] 25)).heap[w.heap.size]? = some (.cells #[.int .i64 0, .int .i64 0, .int .i64 0, .int .i64 0, .int .i64 0, .int .i64 0, .int .i64 0, .string ⟨#[]⟩] 25 (0, 0))) := heap_new _ _
  try unfold sTop
  go_enter Tryd.func12, Tryd.ntmps12
  go_upto_region 1 with fail
  generalize (w.alloc (.cells #[.int .i64 0, .int .i64 0, .int .i64 0, .int .i64 0, .int .i64 0, .int .i64 0, .int .i64 0, .string ⟨#[]⟩] 25)) = u0 at *
  generalize hrb : w.heap.size = rb at HR0 ⊢
  have HRB : Hid (w.heap.size = rb) := hrb
  clear hrb
  go_upto_region 2 with fail
  have HT0 : Hid (TR (u0.alloc (.cells #[.string s, .int .i64 0] 51)) (u0.alloc (.cells #[.string s, .int .i64 0] 51)) u0.heap.size s 0) := ⟨heap_new _ _, gb_rf _ _⟩
  have HB0 : Hid (Below w.heap.size w (u0.alloc (.cells #[.string s, .int .i64 0] 51))) := H0.out.trans ((bx1 _ _).mono H0.out.size)
  have HR1 : Hid ((u0.alloc (.cells #[.string s, .int .i64 0] 51)).heap[rb]? = some (.cells #[.int .i64 0, .int .i64 0, .int .i64 0, .int .i64 0, .int .i64 0, .int .i64 0, .int .i64 0, .string ⟨#[]⟩] 25 (0, 0))) := ((bx1 _ _).block _ (Array.getElem?_eq_some_iff.1 HR0.out).1).trans HR0.out
  have HBN : Hid (rb ≠ u0.heap.size ∧ w.heap.size ≤ u0.heap.size) := ⟨by have := (Array.getElem?_eq_some_iff.1 HR0.out).1; omega, H0.out.size⟩
  clear H0 HR0
  generalize (u0.alloc (.cells #[.string s, .int .i64 0] 51)) = u1 at *
  generalize u0.heap.size = b at *
  have HMK : Hid (Calls Tryd.prog 17 #[.pointer (some ⟨b, 0, none⟩), .string ⟨#[78, 86]⟩] u1 fun e w' => e = .returned .nilIface ∧ TR u1 w' b s 2) := (mark_any HT0.out).mono (by rintro e w' (⟨_, rfl, ht⟩ | ⟨h9, _⟩); exact ⟨rfl, ht⟩; exact absurd h9 (by rw [hnv.out]; decide))
  have HWH : Hid (∀ u, TR u1 u b s 2 → Calls Tryd.prog 18 #[.pointer (some ⟨b, 0, none⟩)] u fun e w' => e = .returned (.tuple #[.agg #[.int .i64 0, .int .i64 (hdV s 0), .int .i64 (hdV s 1), .int .i64 (hdV s 2), .int .i64 (hdV s 3), .int .i64 (hdV s 4), .int .i64 (hdV s 5), .string ⟨#[]⟩, .int .i64 (hdV s 6)], .nilIface]) ∧ TR u w' b s 29) := fun u hu => (wrapHead_any hu.same hsz.out (nv_sz hnv.out)).mono (by rintro e w' (⟨_, rfl, ht⟩ | ⟨h9, _⟩); exact ⟨rfl, ht⟩; exact absurd h9 (by rw [hwo.out]; decide))
  go_upto_region 5 with (go_at_call 17; refine Calls.mono HMK.out ?_; rintro e u2 ⟨rfl, ht⟩; have HT2 : Hid (TR u1 u2 b s 2) := ht; clear ht)
  go_upto_region 6 with (go_at_call 18; refine Calls.mono (HWH.out _ HT2.out) ?_; rintro e u3 ⟨rfl, ht⟩; have HT3 : Hid (TR u1 u3 b s 29) := HT2.out.trans ht; clear ht)
  have HT4 : Hid (TR u1 (u3.alloc (.cells #[.int .i64 0, .int .i64 (hdV s 0), .int .i64 (hdV s 1), .int .i64 (hdV s 2), .int .i64 (hdV s 3), .int .i64 (hdV s 4), .int .i64 (hdV s 5), .string ⟨#[]⟩, .int .i64 (hdV s 6)] 54)) b s 29) := HT3.out.step (bx1 _ _)
  have HH4 : Hid ((u3.alloc (.cells #[.int .i64 0, .int .i64 (hdV s 0), .int .i64 (hdV s 1), .int .i64 (hdV s 2), .int .i64 (hdV s 3), .int .i64 (hdV s 4), .int .i64 (hdV s 5), .string ⟨#[]⟩, .int .i64 (hdV s 6)] 54)).heap[u3.heap.size]? = some (.cells #[.int .i64 0, .int .i64 (hdV s 0), .int .i64 (hdV s 1), .int .i64 (hdV s 2), .int .i64 (hdV s 3), .int .i64 (hdV s 4), .int .i64 (hdV s 5), .string ⟨#[]⟩, .int .i64 (hdV s 6)] 54 (0, 0))) := heap_new _ _
  have HHN : Hid (u3.heap.size ≠ b ∧ u3.heap.size ≠ rb ∧ u1.heap.size ≤ u3.heap.size) := ⟨by have := HT3.out.lt; omega, by have := (Array.getElem?_eq_some_iff.1 (rbk HT3.out HR1.out HBN.out.1)).1; omega, HT3.out.gr.size⟩
  generalize (u3.alloc (.cells #[.int .i64 0, .int .i64 (hdV s 0), .int .i64 (hdV s 1), .int .i64 (hdV s 2), .int .i64 (hdV s 3), .int .i64 (hdV s 4), .int .i64 (hdV s 5), .string ⟨#[]⟩, .int .i64 (hdV s 6)] 54)) = u4 at *
  generalize u3.heap.size = hb at *
  have kh := HH4.out
  have k8 : u4.cell? ⟨hb, 8, none⟩ = some (.int .i64 (hdV s 6)) := cel9 kh 8 _ rfl
  have k7 : u4.cell? ⟨hb, 7, none⟩ = some (.string ⟨#[]⟩) := cel9 kh 7 _ rfl
  have kl := (Array.getElem?_eq_some_iff.1 kh).1
  have kf := frz9 kh
  clear kh
  have HBY : Hid (∀ u, TR u1 u b s 29 → Calls Tryd.prog 19 #[.pointer (some ⟨b, 0, none⟩), .int .i64 (hdV s 6)] u fun e w' => e = .returned (.tuple #[.string (s.extract 29 (29 + uwN s)), .nilIface]) ∧ TR u w' b s (29 + uwN s)) := fun u hu => by rw [← hnN.out]; exact bytes_yes hu.same (by have := hsz.out; omega) hfit.out
  go_upto_region 9 with (go_at_call 19; refine Calls.mono (HBY.out _ HT4.out) ?_; rintro e u5 ⟨rfl, ht⟩; have HT5 : Hid (TR u1 u5 b s (29 + uwN s)) := HT4.out.trans ht; have HH5 : Hid (u5.heap[hb]? = some (.cells #[.int .i64 0, .int .i64 (hdV s 0), .int .i64 (hdV s 1), .int .i64 (hdV s 2), .int .i64 (hdV s 3), .int .i64 (hdV s 4), .int .i64 (hdV s 5), .string ⟨#[]⟩, .int .i64 (hdV s 6)] 54 (0, 0))) := (ht.gr.block hb (Array.getElem?_eq_some_iff.1 HH4.out).1 (by simpa using HHN.out.1)).trans HH4.out; clear ht k8 k7 kl kf; have k7 : u5.cell? ⟨hb, 7, none⟩ = some (.string ⟨#[]⟩) := (cel9 HH5.out 7 _ rfl); have kl := (Array.getElem?_eq_some_iff.1 HH5.out).1; have kf := frz9 HH5.out)
  have HT6 : Hid (TR u1 (u5.setCell ⟨hb, 7, none⟩ (.string (s.extract 29 (29 + uwN s)))) b s (29 + uwN s)) := HT5.out.other HHN.out.1 HHN.out.2.2 _ _
  have HH6 : Hid ((u5.setCell ⟨hb, 7, none⟩ (.string (s.extract 29 (29 + uwN s)))).heap[hb]? = some (.cells #[.int .i64 0, .int .i64 (hdV s 0), .int .i64 (hdV s 1), .int .i64 (hdV s 2), .int .i64 (hdV s 3), .int .i64 (hdV s 4), .int .i64 (hdV s 5), .string (s.extract 29 (29 + uwN s)), .int .i64 (hdV s 6)] 54 (0, 0))) := blk9 HH5.out _
  generalize (u5.setCell ⟨hb, 7, none⟩ (.string (s.extract 29 (29 + uwN s)))) = u6 at *
  clear k7 kl kf HH5 HT5
  have HEN : Hid (∀ u, TR u1 u b s (29 + uwN s) → Calls Tryd.prog 20 #[.pointer (some ⟨b, 0, none⟩), .int .i64 51] u fun e w' => ∃ a', TR u w' b s a' ∧ e = .returned .nilIface) := fun u hu => (end_any hu.same (by have := hsz.out; omega) hfit.out 51).mono (by rintro e w' ⟨a', ht, (⟨h9, rfl⟩ | ⟨h9, q, rfl, he⟩)⟩ <;> first | exact ⟨a', ht, rfl⟩ | exact absurd h9 (by first | exact hend.out | (rw [hend.out]; decide) | (intro h8; exact h8 hend.out)))
  go_upto_region 12 with (go_at_call 20; refine Calls.mono (HEN.out _ HT6.out) ?_; rintro e u7 ⟨a7, ht, rfl⟩; have HT7 : Hid (TR u1 u7 b s a7) := HT6.out.trans ht; have HH7 : Hid (u7.heap[hb]? = some (.cells #[.int .i64 0, .int .i64 (hdV s 0), .int .i64 (hdV s 1), .int .i64 (hdV s 2), .int .i64 (hdV s 3), .int .i64 (hdV s 4), .int .i64 (hdV s 5), .string (s.extract 29 (29 + uwN s)), .int .i64 (hdV s 6)] 54 (0, 0))) := (ht.gr.block hb (Array.getElem?_eq_some_iff.1 HH6.out).1 (by simpa using HHN.out.1)).trans HH6.out; clear ht)
  have kh := HH7.out
  have k0 : u7.cell? ⟨hb, 0, none⟩ = some (.int .i64 0) := cel9 kh 0 _ rfl
  have k1 : u7.cell? ⟨hb, 1, none⟩ = some (.int .i64 (hdV s 0)) := cel9 kh 1 _ rfl
  have k2 : u7.cell? ⟨hb, 2, none⟩ = some (.int .i64 (hdV s 1)) := cel9 kh 2 _ rfl
  have k3 : u7.cell? ⟨hb, 3, none⟩ = some (.int .i64 (hdV s 2)) := cel9 kh 3 _ rfl
  have k4 : u7.cell? ⟨hb, 4, none⟩ = some (.int .i64 (hdV s 3)) := cel9 kh 4 _ rfl
  have k5 : u7.cell? ⟨hb, 5, none⟩ = some (.int .i64 (hdV s 4)) := cel9 kh 5 _ rfl
  have k6 : u7.cell? ⟨hb, 6, none⟩ = some (.int .i64 (hdV s 5)) := cel9 kh 6 _ rfl
  have k7 : u7.cell? ⟨hb, 7, none⟩ = some (.string (s.extract 29 (29 + uwN s))) := cel9 kh 7 _ rfl
  have kl := (Array.getElem?_eq_some_iff.1 kh).1
  have kf := frz9 kh
  clear kh
  have HFR : Hid (∀ u, Calls Tryd.prog 21 #[.agg #[.int .i64 (hdV s 3), .int .i64 (hdV s 4), .int .i64 (hdV s 5), .string (s.extract 29 (29 + uwN s))]] u fun e w' => e = .returned (.bool false) ∧ Below u.heap.size u w') := fun u => by have h9 := frRight_any (uwF s) u; rw [hfr.out] at h9; exact h9
  go_upto_region 13 with (go_at_call 21; refine Calls.mono (HFR.out _) ?_; rintro e u8 ⟨rfl, hb8⟩; have HT8 : Hid (TR u1 u8 b s a7) := HT7.out.step hb8; have HH8 : Hid (u8.heap[hb]? = some (.cells #[.int .i64 0, .int .i64 (hdV s 0), .int .i64 (hdV s 1), .int .i64 (hdV s 2), .int .i64 (hdV s 3), .int .i64 (hdV s 4), .int .i64 (hdV s 5), .string (s.extract 29 (29 + uwN s)), .int .i64 (hdV s 6)] 54 (0, 0))) := (hb8.block _ (Array.getElem?_eq_some_iff.1 HH7.out).1).trans HH7.out; clear hb8 k0 k1 k2 k3 k4 k5 k6 k7 kl kf)
  have kh := HH8.out
  have k0 : u8.cell? ⟨hb, 0, none⟩ = some (.int .i64 0) := cel9 kh 0 _ rfl
  have k1 : u8.cell? ⟨hb, 1, none⟩ = some (.int .i64 (hdV s 0)) := cel9 kh 1 _ rfl
  have k2 : u8.cell? ⟨hb, 2, none⟩ = some (.int .i64 (hdV s 1)) := cel9 kh 2 _ rfl
  have k3 : u8.cell? ⟨hb, 3, none⟩ = some (.int .i64 (hdV s 2)) := cel9 kh 3 _ rfl
  have k4 : u8.cell? ⟨hb, 4, none⟩ = some (.int .i64 (hdV s 3)) := cel9 kh 4 _ rfl
  have k5 : u8.cell? ⟨hb, 5, none⟩ = some (.int .i64 (hdV s 4)) := cel9 kh 5 _ rfl
  have k6 : u8.cell? ⟨hb, 6, none⟩ = some (.int .i64 (hdV s 5)) := cel9 kh 6 _ rfl
  have k7 : u8.cell? ⟨hb, 7, none⟩ = some (.string (s.extract 29 (29 + uwN s))) := cel9 kh 7 _ rfl
  have kl := (Array.getElem?_eq_some_iff.1 kh).1
  have kf := frz9 kh
  clear kh
  go_upto_region 14 with fail
  have HT9 : Hid (TR u1 (u8.alloc (.cells #[.int .i64 1, .int .i64 0] 45)) b s a7) := HT8.out.step (bx1 _ _)
  have HE9 : Hid (EX (u8.alloc (.cells #[.int .i64 1, .int .i64 0] 45)) u8.heap.size 1) := EX.new _ _ _
  have HH9 : Hid ((u8.alloc (.cells #[.int .i64 1, .int .i64 0] 45)).heap[hb]? = some (.cells #[.int .i64 0, .int .i64 (hdV s 0), .int .i64 (hdV s 1), .int .i64 (hdV s 2), .int .i64 (hdV s 3), .int .i64 (hdV s 4), .int .i64 (hdV s 5), .string (s.extract 29 (29 + uwN s)), .int .i64 (hdV s 6)] 54 (0, 0))) := ((bx1 _ _).block _ (Array.getElem?_eq_some_iff.1 HH8.out).1).trans HH8.out
  generalize (u8.alloc (.cells #[.int .i64 1, .int .i64 0] 45)) = u9 at *
  generalize u8.heap.size = q at *
  clear k0 k1 k2 k3 k4 k5 k6 k7 kl kf
  have kh := HH9.out
  have k0 : u9.cell? ⟨hb, 0, none⟩ = some (.int .i64 0) := cel9 kh 0 _ rfl
  have k1 : u9.cell? ⟨hb, 1, none⟩ = some (.int .i64 (hdV s 0)) := cel9 kh 1 _ rfl
  have k2 : u9.cell? ⟨hb, 2, none⟩ = some (.int .i64 (hdV s 1)) := cel9 kh 2 _ rfl
  have k3 : u9.cell? ⟨hb, 3, none⟩ = some (.int .i64 (hdV s 2)) := cel9 kh 3 _ rfl
  have k4 : u9.cell? ⟨hb, 4, none⟩ = some (.int .i64 (hdV s 3)) := cel9 kh 4 _ rfl
  have k5 : u9.cell? ⟨hb, 5, none⟩ = some (.int .i64 (hdV s 4)) := cel9 kh 5 _ rfl
  have k6 : u9.cell? ⟨hb, 6, none⟩ = some (.int .i64 (hdV s 5)) := cel9 kh 6 _ rfl
  have k7 : u9.cell? ⟨hb, 7, none⟩ = some (.string (s.extract 29 (29 + uwN s))) := cel9 kh 7 _ rfl
  have kl := (Array.getElem?_eq_some_iff.1 kh).1
  have kf := frz9 kh
  clear kh
  have HR9 : Hid _ := rbk HT9.out HR1.out HBN.out.1
  obtain ⟨g0, g1, g2, g3, g4, g5, g6, g7⟩ := eight (z := hd0) HR9.out
  simp only [hd0] at g0 g1 g2 g3 g4 g5 g6 g7
  have gf := frz9 HR9.out
  have gl := (Array.getElem?_eq_some_iff.1 HR9.out).1
  go_wp2
  have hbx := put8_box HR9.out (uwH s)
  have hef := put8_ex HE9.out HR9.out (uwH s)
  have hbf := put8_bel (p := rb) (belT HT9.out HB0.out HBN.out.2) (by have := HRB.out; omega) (uwH s)
  refine bodyPost_ret (v := .tuple #[.agg (frD (uwH s)), .iface 41 (.pointer (some ⟨q, 0, none⟩))]) ?_ rfl ⟨q, (uwH s), rfl, hef, hbf⟩
  obtain ⟨f0, f1, f2, f3, f4, f5, f6, f7⟩ := eight hbx
  simp only [put8, uwH] at f0 f1 f2 f3 f4 f5 f6 f7
  simp [results, Tryd.results12, go_sem, f0, f1, f2, f3, f4, f5, f6, f7, frD, uwH]
end Go.Proofs.YtjaekfnlihhoeaaDoor
