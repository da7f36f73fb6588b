import Derived.Test.YtjaekfnlihhoeaaDoorTr8
namespace Go.Proofs.YtjaekfnlihhoeaaDoor
open Go.ChangeShapes Go.WideShapes Go.ChangeAt Go.RowKit
set_option maxRecDepth 100000 in
set_option maxHeartbeats 16000000 in
theorem sw_mark {s : ByteArray} (w : World) (hs : s.size ≤ 2000) (hm : ((cX s (0, false) 2).toList == [78, 86]) = false) : Calls Tryd.prog 4 #[.string s] w fun e w' => e = .returned (.agg (uwZ s)) ∧ Below w.heap.size w w' := by
  have e : uwZ s = #[.int .i64 3, .int .i64 0, .int .i64 0, .int .i64 0, .int .i64 0, .int .i64 0, .int .i64 0, .string ⟨#[]⟩] := by unfold uwZ; rw [if_neg (by omega), if_pos hm]; rfl
  rw [e]
  have hq : ¬ (2000 : Int) < (s.size : Int) := by omega
  have hsz : Hid (s.size ≤ 2000) := hs
  clear hs e
  have H0 : Hid (Below w.heap.size w (w.alloc (.cells #[.int .i64 0, .int .i64 0, .int .i64 0, .int .i64 0, .int .i64 0, .int .i64 0, .int .i64 0, .string ⟨#[]⟩] 25))) := bx1 _ _
  have HO0 : Hid ((w.alloc (.cells #[.int .i64 0, .int .i64 0, .int .i64 0, .int .i64 0, .int .i64 0, .int .i64 0, .int .i64 0, .string ⟨#[]⟩] 25)).heap[w.heap.size]? = some (.cells #[.int .i64 0, .int .i64 0, .int .i64 0, .int .i64 0, .int .i64 0, .int .i64 0, .int .i64 0, .string ⟨#[]⟩] 25 (0, 0))) := heap_new _ _
  go_enter Tryd.func4, Tryd.ntmps4
  go_upto_region 1 with fail
  generalize (w.alloc (.cells #[.int .i64 0, .int .i64 0, .int .i64 0, .int .i64 0, .int .i64 0, .int .i64 0, .int .i64 0, .string ⟨#[]⟩] 25)) = u0 at *
  generalize hrb : w.heap.size = rb at HO0 ⊢
  have HRB : Hid (w.heap.size = rb) := hrb
  clear hrb
  go_upto_region 3 with fail
  clear hq
  go_upto_region 4 with fail
  have HC1 : Hid (CX (u0.alloc (.cells #[.string s, .int .i64 0, .bool false] 31)) (u0.alloc (.cells #[.string s, .int .i64 0, .bool false] 31)) u0.heap.size s 0 false) := ⟨heap_new _ _, gb_rf _ _⟩
  have HB1 : Hid (Below w.heap.size w (u0.alloc (.cells #[.string s, .int .i64 0, .bool false] 31))) := H0.out.trans ((bx1 _ _).mono H0.out.size)
  have HO1 : Hid ((u0.alloc (.cells #[.string s, .int .i64 0, .bool false] 31)).heap[rb]? = some (.cells #[.int .i64 0, .int .i64 0, .int .i64 0, .int .i64 0, .int .i64 0, .int .i64 0, .int .i64 0, .string ⟨#[]⟩] 25 (0, 0))) := ((bx1 _ _).block _ (Array.getElem?_eq_some_iff.1 HO0.out).1).trans HO0.out
  have HN1 : Hid (rb ≠ u0.heap.size ∧ w.heap.size ≤ u0.heap.size) := ⟨by have := (Array.getElem?_eq_some_iff.1 HO0.out).1; omega, H0.out.size⟩
  clear H0 HO0
  generalize (u0.alloc (.cells #[.string s, .int .i64 0, .bool false] 31)) = u1 at *
  generalize u0.heap.size = b at *
  have HM : Hid (Calls Tryd.prog 7 #[.pointer (some ⟨b, 0, none⟩), .int .i64 2] u1 fun e w' => e = .returned (.string (cX s (0, false) 2)) ∧ CX u1 w' b s (sA s 0).1 (sA s 0).2) := take_any (st := (0, false)) HC1.out (Nat.zero_le _) (by have := hsz.out; omega) 2
  generalize cX s (0, false) 2 = x at *
  go_upto_region 5 with (go_at_call 7; refine Calls.mono HM.out ?_; rintro e u2 ⟨rfl, hc⟩; have HC2 : Hid (CX u1 u2 b s (sA s 0).1 (sA s 0).2) := hc; have HO2 : Hid (u2.heap[rb]? = some (.cells #[.int .i64 0, .int .i64 0, .int .i64 0, .int .i64 0, .int .i64 0, .int .i64 0, .int .i64 0, .string ⟨#[]⟩] 25 (0, 0))) := hc.keep HO1.out HN1.out.1; clear hc)
  have HO9 : Hid _ := HO2.out
  obtain ⟨g0, g1, g2, g3, g4, g5, g6, g7⟩ := eightV HO9.out
  have gf := frz9 HO9.out
  have gl := (Array.getElem?_eq_some_iff.1 HO9.out).1
  go_wp2
  have hbx := putV_box HO9.out (.int .i64 3) (.int .i64 0) (.int .i64 0) (.int .i64 0) (.int .i64 0) (.int .i64 0) (.int .i64 0) (.string ⟨#[]⟩)
  have hbf := putV_bel (p := rb) (HB1.out.grown HC2.out.gr HB1.out.size (fun j hj => by injection hj with hj; have := HN1.out.2; omega)) (by have := HRB.out; omega) (.int .i64 3) (.int .i64 0) (.int .i64 0) (.int .i64 0) (.int .i64 0) (.int .i64 0) (.int .i64 0) (.string ⟨#[]⟩)
  refine bodyPost_ret (v := .agg #[.int .i64 3, .int .i64 0, .int .i64 0, .int .i64 0, .int .i64 0, .int .i64 0, .int .i64 0, .string ⟨#[]⟩]) ?_ rfl ⟨rfl, hbf⟩
  obtain ⟨f0, f1, f2, f3, f4, f5, f6, f7⟩ := eightV hbx
  simp only [putV] at f0 f1 f2 f3 f4 f5 f6 f7
  simp [results, Tryd.results4, go_sem, f0, f1, f2, f3, f4, f5, f6, f7]
end Go.Proofs.YtjaekfnlihhoeaaDoor
