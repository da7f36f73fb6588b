import Derived.Test.YtohmejfpebjlaaaGreatDoorDrawJ
namespace Go.Proofs.YtohmejfpebjlaaaGreatDoor
open Go.ChangeShapes Go.WideShapes Go.ChangeAt Go.RowKit

theorem CodeAt.alloc {w : World} {B : Nat} {a : Option Addr} {len : Nat} (h : CodeAt w w.heap.size a len) (o : Obj) (hB : B = w.heap.size + 1) : CodeAt (w.alloc o) B a len := by
  rcases h with h | ⟨cb, co, ha, hlt, hcc⟩
  · exact .inl h
  · refine .inr ⟨cb, co, ha, by omega, fun i hi => ?_⟩
    obtain ⟨x, h0, h1, hx⟩ := hcc i hi
    exact ⟨x, h0, h1, ((Below.refl w.heap.size w).alloc (Nat.le_refl _) o |>.cell (p := ⟨cb, co + i, none⟩) hlt).trans hx⟩
set_option maxRecDepth 100000 in
set_option maxHeartbeats 600000 in
theorem drawEncode_any (a : Option Addr) (len cap : Nat) (w : World) (hcode : CodeAt w w.heap.size a len) (hl : len ≤ 1048576) :
    Calls Tryz.prog 5 #[.slice a len cap] w fun e w' => ∃ op x1 x2 x3 x4 : Int, e = .returned (ins op x1 x2 x3 x4) ∧ In64 op x1 x2 x3 x4 ∧ Below w.heap.size w w' := by
  have hsrc := l01Source_any a len cap (w.alloc (.cells #[.int .i64 0, .int .i64 0, .int .i64 0, .int .i64 0, .int .i64 0] 24)) (hcode.alloc _ (by simp)) hl
  clear hcode
  go_enter Tryz.func5, Tryz.ntmps5
  go_wp2_with fail
  refine Calls.mono hsrc ?_
  rintro e u1 ⟨rfl, hs1, hb1⟩
  have hz : w.heap.size < u1.heap.size := by have := hb1.size; simp at this; omega
  have hR1 : InsAt u1 w.heap.size 0 (0, 0, 0, 0) := InsAt.below (B := w.heap.size + 1) (heap_new _ _) (hb1.mono (by simp)) (by omega)
  have h1 : Below w.heap.size w u1 := bstep (Below.refl _ _) _ hb1
  have hbk : (w.alloc (.cells #[.int .i64 0, .int .i64 0, .int .i64 0, .int .i64 0, .int .i64 0] 24)).heap.size = w.heap.size + 1 := by simp
  rw [hbk] at hs1 ⊢
  clear hsrc hb1 hbk
  go_wp2_with fail
  refine (src_any (w.heap.size + 1) a len cap u1 hs1).mono ?_
  rintro e u2 ⟨op, x1, x2, x3, x4, rfl, hin, hs2, hg2⟩
  have hR2 : InsAt u2 w.heap.size 0 (0, 0, 0, 0) := InsAt.kept hR1 hg2 hz (by omega)
  have hb2 : Below w.heap.size w u2 := h1.grown hg2 h1.size (fun k hk => by cases hk; omega)
  obtain ⟨s0, s1, s2, s3, s4, hzR⟩ := InsAt.all hR2
  unfold ins
  clear hs1 hs2 hg2 hR1 h1 hz
  have HIN : Hid (In64 op x1 x2 x3 x4) := hin
  have HR2 : Hid (InsAt u2 w.heap.size 0 (0, 0, 0, 0)) := hR2
  have HB2 : Hid (Below w.heap.size w u2) := hb2
  clear hin hR2 hb2
  go_wp2
  generalize hU : ((((u2.setCell _ _).setCell _ _).setCell _ _).setCell _ _).setCell _ _ = U
  have hfin : InsAt U w.heap.size op (x1, x2, x3, x4) := by
    rw [← hU]
    exact InsAt.put (InsAt.put (InsAt.put (InsAt.put (InsAt.setOp HR2.out op) 1 (by omega) (by omega) x1) 2 (by omega) (by omega) x2) 3 (by omega) (by omega) x3) 4 (by omega) (by omega) x4
  obtain ⟨f0, f1, f2, f3, f4, _⟩ := InsAt.all hfin
  refine bodyPost_ret (v := ins op x1 x2 x3 x4) (by simp [results, Tryz.results5, go_sem, ins, f0, f1, f2, f3, f4]) rfl ⟨_, _, _, _, _, rfl, HIN.out, ?_⟩
  rw [← hU]
  iterate 5 (refine Below.setCell ?_ (by simp) _)
  exact HB2.out
end Go.Proofs.YtohmejfpebjlaaaGreatDoor
