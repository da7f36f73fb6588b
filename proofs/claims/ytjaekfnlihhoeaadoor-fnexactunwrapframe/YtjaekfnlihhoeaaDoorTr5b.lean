import Derived.Test.YtjaekfnlihhoeaaDoorTr5
namespace Go.Proofs.YtjaekfnlihhoeaaDoor
open Go.ChangeShapes Go.WideShapes Go.ChangeAt Go.RowKit
set_option maxRecDepth 100000 in
set_option maxHeartbeats 8000000 in
theorem rw_b {s : ByteArray} (w : World) (hs : s.size ≤ 2000) (hn : nvB s = true) (hw : whOk s = false) : Calls Tryd.prog 12 #[.string s] w fun e w' => RWno 3 w e w' := by
  have hnv : Hid (nvB s = true) := hn
  have hwo : Hid (whOk s = false) := hw
  have hsz : Hid (s.size ≤ 2000) := hs
  clear hn hw hs
  unfold RWno
  have H0 : Hid (Below w.heap.size w (w.alloc (.cells #[.int .i64 0, .int .i64 0, .int .i64 0, .int .i64 0, .int .i64 0, .int .i64 0, .int .i64 0, .string ⟨#[]⟩] 25))) := bx1 _ _
  have HR0 : Hid ((w.alloc (.cells #[.int .i64 0, .int .i64 0, .int .i64 0, .int .i64 0, .int .i64 0, .int .i64 0, .int .i64 0, .string ⟨#[]⟩] 25)).heap[w.heap.size]? = some (.cells #[.int .i64 0, .int .i64 0, .int .i64 0, .int .i64 0, .int .i64 0, .int .i64 0, .int .i64 0, .string ⟨#[]⟩] 25 (0, 0))) := heap_new _ _
  unfold sTop
  go_enter Tryd.func12, Tryd.ntmps12
  go_upto_region 1 with fail
  generalize (w.alloc (.cells #[.int .i64 0, .int .i64 0, .int .i64 0, .int .i64 0, .int .i64 0, .int .i64 0, .int .i64 0, .string ⟨#[]⟩] 25)) = u0 at *
  generalize hrb : w.heap.size = rb at HR0 ⊢
  have HRB : Hid (w.heap.size = rb) := hrb
  clear hrb
  go_upto_region 2 with fail
  have HT0 : Hid (TR (u0.alloc (.cells #[.string s, .int .i64 0] 51)) (u0.alloc (.cells #[.string s, .int .i64 0] 51)) u0.heap.size s 0) := ⟨heap_new _ _, gb_rf _ _⟩
  have HB0 : Hid (Below w.heap.size w (u0.alloc (.cells #[.string s, .int .i64 0] 51))) := H0.out.trans ((bx1 _ _).mono H0.out.size)
  have HR1 : Hid ((u0.alloc (.cells #[.string s, .int .i64 0] 51)).heap[rb]? = some (.cells #[.int .i64 0, .int .i64 0, .int .i64 0, .int .i64 0, .int .i64 0, .int .i64 0, .int .i64 0, .string ⟨#[]⟩] 25 (0, 0))) := ((bx1 _ _).block _ (Array.getElem?_eq_some_iff.1 HR0.out).1).trans HR0.out
  have HBN : Hid (rb ≠ u0.heap.size ∧ w.heap.size ≤ u0.heap.size) := ⟨by have := (Array.getElem?_eq_some_iff.1 HR0.out).1; omega, H0.out.size⟩
  clear H0 HR0
  generalize (u0.alloc (.cells #[.string s, .int .i64 0] 51)) = u1 at *
  generalize u0.heap.size = b at *
  have HMK : Hid (Calls Tryd.prog 17 #[.pointer (some ⟨b, 0, none⟩), .string ⟨#[78, 86]⟩] u1 fun e w' => e = .returned .nilIface ∧ TR u1 w' b s 2) := (mark_any HT0.out).mono (by rintro e w' (⟨_, rfl, ht⟩ | ⟨h9, _⟩); exact ⟨rfl, ht⟩; exact absurd h9 (by rw [hnv.out]; decide))
  have HWH : Hid (∀ u, TR u1 u b s 2 → Calls Tryd.prog 18 #[.pointer (some ⟨b, 0, none⟩)] u fun e w' => ∃ q a', e = .returned (.tuple #[.agg #[.int .i64 0, .int .i64 0, .int .i64 0, .int .i64 0, .int .i64 0, .int .i64 0, .int .i64 0, .string ⟨#[]⟩, .int .i64 0], .iface 41 (.pointer (some ⟨q, 0, none⟩))]) ∧ TR u w' b s a' ∧ EX w' q 3) := fun u hu => (wrapHead_any hu.same hsz.out (nv_sz hnv.out)).mono (by rintro e w' (⟨h9, _⟩ | ⟨_, q, a', rfl, ht, he⟩); exact absurd h9 (by rw [hwo.out]; decide); exact ⟨q, a', rfl, ht, he⟩)
  go_upto_region 5 with (go_at_call 17; refine Calls.mono HMK.out ?_; rintro e u2 ⟨rfl, ht⟩; have HT2 : Hid (TR u1 u2 b s 2) := ht; clear ht)
  go_upto_region 6 with (go_at_call 18; refine Calls.mono (HWH.out _ HT2.out) ?_; rintro e u3 ⟨q, a3, rfl, ht, he⟩; have HT3 : Hid (TR u1 u3 b s a3) := HT2.out.trans ht; have HE3 : Hid (EX u3 q 3) := he; clear ht he)
  have HT4 : Hid (TR u1 (u3.alloc (.cells #[.int .i64 0, .int .i64 0, .int .i64 0, .int .i64 0, .int .i64 0, .int .i64 0, .int .i64 0, .string ⟨#[]⟩, .int .i64 0] 54)) b s a3) := HT3.out.step (bx1 _ _)
  have HE4 : Hid (EX (u3.alloc (.cells #[.int .i64 0, .int .i64 0, .int .i64 0, .int .i64 0, .int .i64 0, .int .i64 0, .int .i64 0, .string ⟨#[]⟩, .int .i64 0] 54)) q 3) := HE3.out.step (bx1 _ _)
  generalize (u3.alloc (.cells #[.int .i64 0, .int .i64 0, .int .i64 0, .int .i64 0, .int .i64 0, .int .i64 0, .int .i64 0, .string ⟨#[]⟩, .int .i64 0] 54)) = u4 at *
  have HR4 : Hid _ := rbk HT4.out HR1.out HBN.out.1
  obtain ⟨g0, g1, g2, g3, g4, g5, g6, g7⟩ := eight (z := hd0) HR4.out
  simp only [hd0] at g0 g1 g2 g3 g4 g5 g6 g7
  have gf := frz9 HR4.out
  have gl := (Array.getElem?_eq_some_iff.1 HR4.out).1
  go_wp2
  have hbx := put8_box HR4.out hd0
  have hef := put8_ex HE4.out HR4.out hd0
  have hbf := put8_bel (p := rb) (belT HT4.out HB0.out HBN.out.2) (by have := HRB.out; omega) hd0
  refine bodyPost_ret (v := .tuple #[.agg (frD hd0), .iface 41 (.pointer (some ⟨q, 0, none⟩))]) ?_ rfl ⟨q, hd0, rfl, hef, hbf⟩
  obtain ⟨f0, f1, f2, f3, f4, f5, f6, f7⟩ := eight hbx
  simp only [put8, hd0] at f0 f1 f2 f3 f4 f5 f6 f7
  simp [results, Tryd.results12, go_sem, f0, f1, f2, f3, f4, f5, f6, f7, frD, hd0]
end Go.Proofs.YtjaekfnlihhoeaaDoor
