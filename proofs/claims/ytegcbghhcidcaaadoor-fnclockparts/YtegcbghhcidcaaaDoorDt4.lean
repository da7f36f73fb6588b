import Derived.Test.YtegcbghhcidcaaaDoorDt3
import Derived.Test.YtegcbghhcidcaaaDoorSrc2
namespace Go.Proofs.YtegcbghhcidcaaaDoor
open Go.ChangeShapes Go.WideShapes Go.ChangeAt Go.RowKit

theorem CodeAt.alloc {w : World} {B : Nat} {a : Option Addr} {len : Nat} (h : CodeAt w w.heap.size a len) (o : Obj) (hB : B = w.heap.size + 1) : CodeAt (w.alloc o) B a len := by
  rcases h with h | ⟨cb, co, ha, hlt, hcc⟩
  · exact .inl h
  · refine .inr ⟨cb, co, ha, by omega, fun i hi => ?_⟩
    obtain ⟨x, h0, h1, hx⟩ := hcc i hi
    exact ⟨x, h0, h1, ((Below.refl w.heap.size w).alloc (Nat.le_refl _) o |>.cell (p := ⟨cb, co + i, none⟩) hlt).trans hx⟩
set_option maxRecDepth 100000 in
set_option maxHeartbeats 4000000 in
theorem drawCk_any (a : Option Addr) (len cap : Nat) (w : World) (hcode : CodeAt w w.heap.size a len) (hl : len ≤ 1048576) :
    Calls Tryd.prog 4 #[.slice a len cap] w fun e w' => ∃ (c : CK) (ax : Option Addr) (lx kx : Nat), e = .returned (ckA c (.slice ax lx kx)) ∧ Below w.heap.size w w' := by
  have HC : Hid (CodeAt (w.alloc (.cells #[.int .i64 0, .int .i64 0, .int .i64 0, .int .i64 0, .int .i64 0, .bool false, .slice none 0 0] 25)) (w.alloc (.cells #[.int .i64 0, .int .i64 0, .int .i64 0, .int .i64 0, .int .i64 0, .bool false, .slice none 0 0] 25)).heap.size a len) := hcode.alloc _ (by simp)
  have HB0 : Hid (Below w.heap.size w (w.alloc (.cells #[.int .i64 0, .int .i64 0, .int .i64 0, .int .i64 0, .int .i64 0, .bool false, .slice none 0 0] 25))) := (Below.refl _ _).alloc (Nat.le_refl _) _
  have HR0 : Hid ((w.alloc (.cells #[.int .i64 0, .int .i64 0, .int .i64 0, .int .i64 0, .int .i64 0, .bool false, .slice none 0 0] 25)).heap[w.heap.size]? = some (.cells #[.int .i64 0, .int .i64 0, .int .i64 0, .int .i64 0, .int .i64 0, .bool false, .slice none 0 0] 25 (0, 0))) := (MapKept.heap_alloc w _).1
  have HSZ : Hid ((w.alloc (.cells #[.int .i64 0, .int .i64 0, .int .i64 0, .int .i64 0, .int .i64 0, .bool false, .slice none 0 0] 25)).heap.size = w.heap.size + 1) := (show _ = _ by simp)
  clear hcode
  go_enter Tryd.func4, Tryd.ntmps4
  go_wp2_with fail
  generalize w.alloc (.cells #[.int .i64 0, .int .i64 0, .int .i64 0, .int .i64 0, .int .i64 0, .bool false, .slice none 0 0] 25) = W at *
  refine (l01Source_any a len cap W HC.out hl).mono ?_
  rintro e W1 ⟨rfl, hs1, hb1⟩
  have HS1 : Hid (SrcOk W1 W.heap.size a len cap) := hs1
  have HB1 : Hid (Below w.heap.size w W1) := HB0.out.trans (hb1.mono HB0.out.size)
  have HR1 : Hid (W1.heap[w.heap.size]? = some (.cells #[.int .i64 0, .int .i64 0, .int .i64 0, .int .i64 0, .int .i64 0, .bool false, .slice none 0 0] 25 (0, 0))) := (hb1.block _ (Array.getElem?_eq_some_iff.1 HR0.out).1).trans HR0.out
  clear hs1 hb1 HC HB0 HR0
  go_wp2_with fail
  refine (src_anyClock W.heap.size a len cap W1 HS1.out).mono ?_
  rintro e W2 ⟨⟨ho, gu, nu, de, pa, fz, ts0⟩, ax, n, kx, rfl, hg2⟩
  have hz := HSZ.out
  have hz1 := HS1.out.lt
  have HB2 : Hid (Below w.heap.size w W2) := HB1.out.grown hg2 HB1.out.size (fun k hk => by cases hk; omega)
  have HR2 : Hid (W2.heap[w.heap.size]? = some (.cells #[.int .i64 0, .int .i64 0, .int .i64 0, .int .i64 0, .int .i64 0, .bool false, .slice none 0 0] 25 (0, 0))) := (hg2.block _ (Array.getElem?_eq_some_iff.1 HR1.out).1 (by simp; omega)).trans HR1.out
  clear hg2
  obtain ⟨t0, t1, t2, t3, t4, t5, t6, tf⟩ := cel7 HR2.out
  have hlr := (Array.getElem?_eq_some_iff.1 HR2.out).1
  unfold ckA
  simp only
  go_wp2
  obtain ⟨hb9, hx9, _⟩ := st7 HB2.out (Nat.le_refl _) HR2.out (.int .i64 ho) (.int .i64 gu) (.int .i64 nu) (.int .i64 de) (.int .i64 pa) (.bool fz) (.slice ax n kx) rfl
  obtain ⟨f0, f1, f2, f3, f4, f5, f6, _⟩ := cel7 hx9
  exact bodyPost_ret (v := .agg #[.int .i64 ho, .int .i64 gu, .int .i64 nu, .int .i64 de, .int .i64 pa, .bool fz, .slice ax n kx]) (by simp [results, Tryd.results4, go_sem, f0, f1, f2, f3, f4, f5, f6]) rfl ⟨⟨ho, gu, nu, de, pa, fz, ts0⟩, ax, n, kx, rfl, hb9⟩
end Go.Proofs.YtegcbghhcidcaaaDoor
