import Derived.Test.YtjaekfnlihhoeaaDoorTr5
namespace Go.Proofs.YtjaekfnlihhoeaaDoor
open Go.ChangeShapes Go.WideShapes Go.ChangeAt Go.RowKit
set_option maxRecDepth 100000 in
set_option maxHeartbeats 8000000 in
theorem rw_c {s : ByteArray} (w : World) (hs : s.size ≤ 2000) (hn : nvB s = true) (hw : whOk s = true) (hf : s.size < 29 + uwN s) : Calls Tryd.prog 12 #[.string s] w fun e w' => RWno 3 w e w' := by
  have hnv : Hid (nvB s = true) := hn
  have hwo : Hid (whOk s = true) := hw
  have hsz : Hid (s.size ≤ 2000) := hs
  have hnN : Hid ((uwN s : Int) = hdV s 6) := (show (uwN s : Int) = hdV s 6 by have := hdV_b s 6; unfold uwN; omega)
  have hn15 : Hid (uwN s ≤ 1500) := (show uwN s ≤ 1500 by
    have h9 := hw
    unfold whOk at h9
    simp only [Bool.and_eq_true, decide_eq_true_eq] at h9
    have := hdV_b s 6
    unfold uwN
    omega)
  have h29 : Hid (29 ≤ s.size) := (show 29 ≤ s.size by
    have h9 := hw
    unfold whOk at h9
    simp only [Bool.and_eq_true, decide_eq_true_eq] at h9
    exact h9.1)
  have hfit : Hid (s.size < 29 + uwN s) := hf
  clear hf
  clear hn hw hs
  unfold RWno
  have H0 : Hid (Below w.heap.size w (w.alloc (.cells #[.int .i64 0, .int .i64 0, .int .i64 0, .int .i64 0, .int .i64 0, .int .i64 0, .int .i64 0, .string ⟨#[]⟩] 25))) := bx1 _ _
  have HR0 : Hid ((w.alloc (.cells #[.int .i64 0, .int .i64 0, .int .i64 0, .int .i64 0, .int .i64 0, .int .i64 0, .int .i64 0, .string ⟨#[]⟩] 25)).heap[w.heap.size]? = some (.cells #[.int .i64 0, .int .i64 0, .int .i64 0, .int .i64 0, .int .i64 0, .int .i64 0, .int .i64 0, .string ⟨#[]⟩] 25 (0, 0))) := heap_new _ _
  unfold sTop
  go_enter Tryd.func12, Tryd.ntmps12
  go_upto_region 1 with fail
  generalize (w.alloc (.cells #[.int .i64 0, .int .i64 0, .int .i64 0, .int .i64 0, .int .i64 0, .int .i64 0, .int .i64 0, .string ⟨#[]⟩] 25)) = u0 at *
  generalize hrb : w.heap.size = rb at HR0 ⊢
  have HRB : Hid (w.heap.size = rb) := hrb
  clear hrb
  go_upto_region 2 with fail
  have HT0 : Hid (TR (u0.alloc (.cells #[.string s, .int .i64 0] 51)) (u0.alloc (.cells #[.string s, .int .i64 0] 51)) u0.heap.size s 0) := ⟨heap_new _ _, gb_rf _ _⟩
  have HB0 : Hid (Below w.heap.size w (u0.alloc (.cells #[.string s, .int .i64 0] 51))) := H0.out.trans ((bx1 _ _).mono H0.out.size)
  have HR1 : Hid ((u0.alloc (.cells #[.string s, .int .i64 0] 51)).heap[rb]? = some (.cells #[.int .i64 0, .int .i64 0, .int .i64 0, .int .i64 0, .int .i64 0, .int .i64 0, .int .i64 0, .string ⟨#[]⟩] 25 (0, 0))) := ((bx1 _ _).block _ (Array.getElem?_eq_some_iff.1 HR0.out).1).trans HR0.out
  have HBN : Hid (rb ≠ u0.heap.size ∧ w.heap.size ≤ u0.heap.size) := ⟨by have := (Array.getElem?_eq_some_iff.1 HR0.out).1; omega, H0.out.size⟩
  clear H0 HR0
  generalize (u0.alloc (.cells #[.string s, .int .i64 0] 51)) = u1 at *
  generalize u0.heap.size = b at *
  have HMK : Hid (Calls Tryd.prog 17 #[.pointer (some ⟨b, 0, none⟩), .string ⟨#[78, 86]⟩] u1 fun e w' => e = .returned .nilIface ∧ TR u1 w' b s 2) := (mark_any HT0.out).mono (by rintro e w' (⟨_, rfl, ht⟩ | ⟨h9, _⟩); exact ⟨rfl, ht⟩; exact absurd h9 (by rw [hnv.out]; decide))
  have HWH : Hid (∀ u, TR u1 u b s 2 → Calls Tryd.prog 18 #[.pointer (some ⟨b, 0, none⟩)] u fun e w' => e = .returned (.tuple #[.agg #[.int .i64 0, .int .i64 (hdV s 0), .int .i64 (hdV s 1), .int .i64 (hdV s 2), .int .i64 (hdV s 3), .int .i64 (hdV s 4), .int .i64 (hdV s 5), .string ⟨#[]⟩, .int .i64 (hdV s 6)], .nilIface]) ∧ TR u w' b s 29) := fun u hu => (wrapHead_any hu.same hsz.out (nv_sz hnv.out)).mono (by rintro e w' (⟨_, rfl, ht⟩ | ⟨h9, _⟩); exact ⟨rfl, ht⟩; exact absurd h9 (by rw [hwo.out]; decide))
  go_upto_region 5 with (go_at_call 17; refine Calls.mono HMK.out ?_; rintro e u2 ⟨rfl, ht⟩; have HT2 : Hid (TR u1 u2 b s 2) := ht; clear ht)
  go_upto_region 6 with (go_at_call 18; refine Calls.mono (HWH.out _ HT2.out) ?_; rintro e u3 ⟨rfl, ht⟩; have HT3 : Hid (TR u1 u3 b s 29) := HT2.out.trans ht; clear ht)
  have HT4 : Hid (TR u1 (u3.alloc (.cells #[.int .i64 0, .int .i64 (hdV s 0), .int .i64 (hdV s 1), .int .i64 (hdV s 2), .int .i64 (hdV s 3), .int .i64 (hdV s 4), .int .i64 (hdV s 5), .string ⟨#[]⟩, .int .i64 (hdV s 6)] 54)) b s 29) := HT3.out.step (bx1 _ _)
  have HH4 : Hid ((u3.alloc (.cells #[.int .i64 0, .int .i64 (hdV s 0), .int .i64 (hdV s 1), .int .i64 (hdV s 2), .int .i64 (hdV s 3), .int .i64 (hdV s 4), .int .i64 (hdV s 5), .string ⟨#[]⟩, .int .i64 (hdV s 6)] 54)).heap[u3.heap.size]? = some (.cells #[.int .i64 0, .int .i64 (hdV s 0), .int .i64 (hdV s 1), .int .i64 (hdV s 2), .int .i64 (hdV s 3), .int .i64 (hdV s 4), .int .i64 (hdV s 5), .string ⟨#[]⟩, .int .i64 (hdV s 6)] 54 (0, 0))) := heap_new _ _
  have HHN : Hid (u3.heap.size ≠ b ∧ u3.heap.size ≠ rb ∧ u1.heap.size ≤ u3.heap.size) := ⟨by have := HT3.out.lt; omega, by have := (Array.getElem?_eq_some_iff.1 (rbk HT3.out HR1.out HBN.out.1)).1; omega, HT3.out.gr.size⟩
  generalize (u3.alloc (.cells #[.int .i64 0, .int .i64 (hdV s 0), .int .i64 (hdV s 1), .int .i64 (hdV s 2), .int .i64 (hdV s 3), .int .i64 (hdV s 4), .int .i64 (hdV s 5), .string ⟨#[]⟩, .int .i64 (hdV s 6)] 54)) = u4 at *
  generalize u3.heap.size = hb at *
  have kh := HH4.out
  have k8 : u4.cell? ⟨hb, 8, none⟩ = some (.int .i64 (hdV s 6)) := cel9 kh 8 _ rfl
  have k7 : u4.cell? ⟨hb, 7, none⟩ = some (.string ⟨#[]⟩) := cel9 kh 7 _ rfl
  have kl := (Array.getElem?_eq_some_iff.1 kh).1
  have kf := frz9 kh
  clear kh
  have HBY : Hid (∀ u, TR u1 u b s 29 → Calls Tryd.prog 19 #[.pointer (some ⟨b, 0, none⟩), .int .i64 (hdV s 6)] u fun e w' => ∃ q, e = .returned (.tuple #[.string ⟨#[]⟩, .iface 41 (.pointer (some ⟨q, 0, none⟩))]) ∧ TR u w' b s 29 ∧ EX w' q 3) := fun u hu => bytes_no hu.same (by have := hsz.out; omega) (hdV_b s 6).1 (by have := hnN.out; have := hn15.out; omega) (by have := hnN.out; have := hfit.out; omega)
  go_upto_region 9 with (go_at_call 19; refine Calls.mono (HBY.out _ HT4.out) ?_; rintro e u5 ⟨q, rfl, ht, he⟩; have HT5 : Hid (TR u1 u5 b s 29) := HT4.out.trans ht; have HE5 : Hid (EX u5 q 3) := he; have HH5 : Hid (u5.heap[hb]? = some (.cells #[.int .i64 0, .int .i64 (hdV s 0), .int .i64 (hdV s 1), .int .i64 (hdV s 2), .int .i64 (hdV s 3), .int .i64 (hdV s 4), .int .i64 (hdV s 5), .string ⟨#[]⟩, .int .i64 (hdV s 6)] 54 (0, 0))) := (ht.gr.block hb (Array.getElem?_eq_some_iff.1 HH4.out).1 (by simpa using HHN.out.1)).trans HH4.out; clear ht he k8 k7 kl kf; have k7 : u5.cell? ⟨hb, 7, none⟩ = some (.string ⟨#[]⟩) := (cel9 HH5.out 7 _ rfl); have kl := (Array.getElem?_eq_some_iff.1 HH5.out).1; have kf := frz9 HH5.out)
  have HT6 : Hid (TR u1 (u5.setCell ⟨hb, 7, none⟩ (.string ⟨#[]⟩)) b s 29) := HT5.out.other HHN.out.1 HHN.out.2.2 _ _
  have HE6 : Hid (EX (u5.setCell ⟨hb, 7, none⟩ (.string ⟨#[]⟩)) q 3) := ex_other HE5.out HH5.out rfl _ _
  generalize (u5.setCell ⟨hb, 7, none⟩ (.string ⟨#[]⟩)) = u6 at *
  clear k7 kl kf
  have HR6 : Hid _ := rbk HT6.out HR1.out HBN.out.1
  obtain ⟨g0, g1, g2, g3, g4, g5, g6, g7⟩ := eight (z := hd0) HR6.out
  simp only [hd0] at g0 g1 g2 g3 g4 g5 g6 g7
  have gf := frz9 HR6.out
  have gl := (Array.getElem?_eq_some_iff.1 HR6.out).1
  go_wp2
  have hbx := put8_box HR6.out hd0
  have hef := put8_ex HE6.out HR6.out hd0
  have hbf := put8_bel (p := rb) (belT HT6.out HB0.out HBN.out.2) (by have := HRB.out; omega) hd0
  refine bodyPost_ret (v := .tuple #[.agg (frD hd0), .iface 41 (.pointer (some ⟨q, 0, none⟩))]) ?_ rfl ⟨q, hd0, rfl, hef, hbf⟩
  obtain ⟨f0, f1, f2, f3, f4, f5, f6, f7⟩ := eight hbx
  simp only [put8, hd0] at f0 f1 f2 f3 f4 f5 f6 f7
  simp [results, Tryd.results12, go_sem, f0, f1, f2, f3, f4, f5, f6, f7, frD, hd0]
end Go.Proofs.YtjaekfnlihhoeaaDoor
