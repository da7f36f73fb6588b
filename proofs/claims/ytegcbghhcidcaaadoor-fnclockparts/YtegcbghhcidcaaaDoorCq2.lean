import Derived.Test.YtegcbghhcidcaaaDoorCq1
import Derived.Test.YtegcbghhcidcaaaDoorCp3
namespace Go.Proofs.YtegcbghhcidcaaaDoor
open Go.ChangeShapes Go.WideShapes Go.ChangeAt Go.RowKit

set_option maxRecDepth 100000 in
set_option maxHeartbeats 4000000 in
theorem specDo0 {w : World} {c : CK} {ao : Option Addr} {cap : Nat} {t : Int} (hm : May c t) : Calls Tryd.prog 17 #[ckA c (.slice ao 0 cap), opA t] w fun e w' => ∃ a2 k2, e = .returned (.tuple #[ckA (adv c t) (.slice a2 0 k2), outA (adv c t).guest]) ∧ Below w.heap.size w w' := by
  have HAD : Hid (∀ u, Calls Tryd.prog 27 #[ckA c (.slice ao 0 cap), .int .i64 t] u fun e w' => ∃ a2 k2, e = .returned (.tuple #[ckA (adv c t) (.slice a2 0 k2), outA (adv c t).guest]) ∧ Below u.heap.size u w') := fun u => specAdv0 hm
  have HB0 : Hid (Below w.heap.size w ((((w.alloc (.cells #[.int .i64 c.host, .int .i64 c.guest, .int .i64 c.num, .int .i64 c.den, .int .i64 c.part, .bool c.frz, .slice ao 0 cap] 25)).alloc (.cells #[.int .i64 1, .int .i64 t, .int .i64 0, .int .i64 0, .int .i64 0, .int .i64 0, .int .i64 0] 36)).alloc (.cells #[.int .i64 0, .int .i64 0, .int .i64 0, .int .i64 0, .int .i64 0, .bool false, .slice none 0 0] 25)).alloc (.cells #[.int .i64 0, .int .i64 0, .slice none 0 0] 55))) := ((((Below.refl _ _).alloc (Nat.le_refl _) _).alloc (by simp) _).alloc (by simp; omega) _).alloc (by simp; omega) _
  have HZ1 : Hid (((((w.alloc (.cells #[.int .i64 c.host, .int .i64 c.guest, .int .i64 c.num, .int .i64 c.den, .int .i64 c.part, .bool c.frz, .slice ao 0 cap] 25)).alloc (.cells #[.int .i64 1, .int .i64 t, .int .i64 0, .int .i64 0, .int .i64 0, .int .i64 0, .int .i64 0] 36)).alloc (.cells #[.int .i64 0, .int .i64 0, .int .i64 0, .int .i64 0, .int .i64 0, .bool false, .slice none 0 0] 25)).alloc (.cells #[.int .i64 0, .int .i64 0, .slice none 0 0] 55)).heap[w.heap.size + 1 + 1]? = some (.cells #[.int .i64 0, .int .i64 0, .int .i64 0, .int .i64 0, .int .i64 0, .bool false, .slice none 0 0] 25 (0, 0))) := (Below.heap_alloc _ _ _ (by simp)).trans (by simpa using heap_new ((w.alloc (.cells #[.int .i64 c.host, .int .i64 c.guest, .int .i64 c.num, .int .i64 c.den, .int .i64 c.part, .bool c.frz, .slice ao 0 cap] 25)).alloc (.cells #[.int .i64 1, .int .i64 t, .int .i64 0, .int .i64 0, .int .i64 0, .int .i64 0, .int .i64 0] 36)) (.cells #[.int .i64 0, .int .i64 0, .int .i64 0, .int .i64 0, .int .i64 0, .bool false, .slice none 0 0] 25))
  have hz2 : ((((w.alloc (.cells #[.int .i64 c.host, .int .i64 c.guest, .int .i64 c.num, .int .i64 c.den, .int .i64 c.part, .bool c.frz, .slice ao 0 cap] 25)).alloc (.cells #[.int .i64 1, .int .i64 t, .int .i64 0, .int .i64 0, .int .i64 0, .int .i64 0, .int .i64 0] 36)).alloc (.cells #[.int .i64 0, .int .i64 0, .int .i64 0, .int .i64 0, .int .i64 0, .bool false, .slice none 0 0] 25)).alloc (.cells #[.int .i64 0, .int .i64 0, .slice none 0 0] 55)).heap[w.heap.size + 1 + 1 + 1]? = some (.cells #[.int .i64 0, .int .i64 0, .slice none 0 0] 55 (0, 0)) := by simpa using heap_new (((w.alloc (.cells #[.int .i64 c.host, .int .i64 c.guest, .int .i64 c.num, .int .i64 c.den, .int .i64 c.part, .bool c.frz, .slice ao 0 cap] 25)).alloc (.cells #[.int .i64 1, .int .i64 t, .int .i64 0, .int .i64 0, .int .i64 0, .int .i64 0, .int .i64 0] 36)).alloc (.cells #[.int .i64 0, .int .i64 0, .int .i64 0, .int .i64 0, .int .i64 0, .bool false, .slice none 0 0] 25)) (.cells #[.int .i64 0, .int .i64 0, .slice none 0 0] 55)
  have HZ2 : Hid (((((w.alloc (.cells #[.int .i64 c.host, .int .i64 c.guest, .int .i64 c.num, .int .i64 c.den, .int .i64 c.part, .bool c.frz, .slice ao 0 cap] 25)).alloc (.cells #[.int .i64 1, .int .i64 t, .int .i64 0, .int .i64 0, .int .i64 0, .int .i64 0, .int .i64 0] 36)).alloc (.cells #[.int .i64 0, .int .i64 0, .int .i64 0, .int .i64 0, .int .i64 0, .bool false, .slice none 0 0] 25)).alloc (.cells #[.int .i64 0, .int .i64 0, .slice none 0 0] 55)).heap[w.heap.size + 1 + 1 + 1]? = some (.cells #[.int .i64 0, .int .i64 0, .slice none 0 0] 55 (0, 0))) := hz2
  clear hz2 hm
  generalize adv c t = cc at *
  unfold ckA outA at HAD
  unfold ckA opA outA
  go_enter Tryd.func17, Tryd.ntmps17
  go_wp2_with fail
  generalize ((((w.alloc (.cells #[.int .i64 c.host, .int .i64 c.guest, .int .i64 c.num, .int .i64 c.den, .int .i64 c.part, .bool c.frz, .slice ao 0 cap] 25)).alloc (.cells #[.int .i64 1, .int .i64 t, .int .i64 0, .int .i64 0, .int .i64 0, .int .i64 0, .int .i64 0] 36)).alloc (.cells #[.int .i64 0, .int .i64 0, .int .i64 0, .int .i64 0, .int .i64 0, .bool false, .slice none 0 0] 25)).alloc (.cells #[.int .i64 0, .int .i64 0, .slice none 0 0] 55)) = u0 at *
  refine Calls.mono (HAD.out u0) ?_
  rintro e u1 ⟨a2, k2, rfl, hb⟩
  have hlt : w.heap.size + 1 + 1 + 1 < u0.heap.size := (Array.getElem?_eq_some_iff.1 HZ2.out).1
  have HB1 : Hid (Below w.heap.size w u1) := HB0.out.trans (hb.mono HB0.out.size)
  have HY1 : Hid (u1.heap[w.heap.size + 1 + 1]? = some (.cells #[.int .i64 0, .int .i64 0, .int .i64 0, .int .i64 0, .int .i64 0, .bool false, .slice none 0 0] 25 (0, 0))) := (hb.block _ (by omega)).trans HZ1.out
  have HY2 : Hid (u1.heap[w.heap.size + 1 + 1 + 1]? = some (.cells #[.int .i64 0, .int .i64 0, .slice none 0 0] 55 (0, 0))) := (hb.block _ hlt).trans HZ2.out
  have hlt1 : w.heap.size + 1 + 1 + 1 < u1.heap.size := (Array.getElem?_eq_some_iff.1 HY2.out).1
  have hlt2 : w.heap.size + 1 + 1 < u1.heap.size := by omega
  clear hb hlt HAD HB0 HZ1 HZ2
  obtain ⟨d0, d1, d2, d3, d4, d5, d6, df⟩ := cel7 HY1.out
  obtain ⟨k0, k1, k2'⟩ := cel3x HY2.out
  have kf : ∀ x, u1.frozen? ⟨w.heap.size + 1 + 1 + 1, x, none⟩ = false := frz3 HY2.out
  go_wp2_with fail
  obtain ⟨e1, e2, e3⟩ := st7 HB1.out (by omega) HY1.out (.int .i64 cc.host) (.int .i64 cc.guest) (.int .i64 cc.num) (.int .i64 cc.den) (.int .i64 cc.part) (.bool cc.frz) (.slice a2 0 k2) rfl
  obtain ⟨e4, e5, e6⟩ := st3 e1 (by omega) ((e3 _ (by omega)).trans HY2.out) (.int .i64 0) (.int .i64 cc.guest) (.slice none 0 0) rfl
  obtain ⟨f0, f1, f2, f3, f4, f5, f6, _⟩ := cel7 ((e6 _ (by omega)).trans e2)
  obtain ⟨j0, j1, j2⟩ := cel3x e5
  refine bodyPost_ret (v := .tuple #[.agg #[.int .i64 cc.host, .int .i64 cc.guest, .int .i64 cc.num, .int .i64 cc.den, .int .i64 cc.part, .bool cc.frz, .slice a2 0 k2], .agg #[.int .i64 0, .int .i64 cc.guest, .slice none 0 0]]) ?_ rfl ⟨_, _, rfl, e4⟩
  clear e1 e2 e3 e4 e5 e6 d0 d1 d2 d3 d4 d5 d6 df k0 k1 k2' kf
  simp only [results, Tryd.results17, go_sem]
  simp [go_sem, f0, f1, f2, f3, f4, f5, f6, j0, j1, j2]
end Go.Proofs.YtegcbghhcidcaaaDoor
