import Derived.Test.YtfagohdmepnkkaaDr9
namespace Go.Proofs.Ytfagohdmepnkkaa
open Go.ChangeShapes Go.WideShapes Go.ChangeAt Go.RowKit

theorem CodeAt.alloc {w : World} {B : Nat} {a : Option Addr} {len : Nat} (h : CodeAt w w.heap.size a len) (o : Obj) (hB : B = w.heap.size + 1) : CodeAt (w.alloc o) B a len := by
  rcases h with h | ⟨cb, co, ha, hlt, hcc⟩
  · exact .inl h
  · refine .inr ⟨cb, co, ha, by omega, fun i hi => ?_⟩
    obtain ⟨x, h0, h1, hx⟩ := hcc i hi
    exact ⟨x, h0, h1, ((Below.refl w.heap.size w).alloc (Nat.le_refl _) o |>.cell (p := ⟨cb, co + i, none⟩) hlt).trans hx⟩
set_option maxRecDepth 100000 in
set_option maxHeartbeats 4000000 in
theorem drawTlb_any (a : Option Addr) (len cap : Nat) (w : World) (hcode : CodeAt w w.heap.size a len) (hl : len ≤ 1048576) :
    Calls Try.prog 30 #[.slice a len cap] w fun e w' => ∃ (ao : Option Addr) (zs : List TE) (cp : Nat) (nx : Int), e = .returned (.agg #[.slice ao zs.length cp, .int .i64 nx]) ∧ zs.length ≤ 17 ∧ w'.ownsRow (w.heap.size + 1) 66 5 (.slice ao zs.length cp) zs.length (teR zs) ∧ Below w.heap.size w w' := by
  have HC : Hid (CodeAt (w.alloc (.cells #[.slice none 0 0, .int .i64 0] 61)) (w.alloc (.cells #[.slice none 0 0, .int .i64 0] 61)).heap.size a len) := hcode.alloc _ (by simp)
  have HB0 : Hid (Below w.heap.size w (w.alloc (.cells #[.slice none 0 0, .int .i64 0] 61))) := (Below.refl _ _).alloc (Nat.le_refl _) _
  have HR0 : Hid ((w.alloc (.cells #[.slice none 0 0, .int .i64 0] 61)).heap[w.heap.size]? = some (.cells #[.slice none 0 0, .int .i64 0] 61 (0, 0))) := (MapKept.heap_alloc w _).1
  have HSZ : Hid ((w.alloc (.cells #[.slice none 0 0, .int .i64 0] 61)).heap.size = w.heap.size + 1) := (show _ = _ by simp)
  clear hcode
  go_enter Try.func30, Try.ntmps30
  go_wp2_with fail
  generalize w.alloc (.cells #[.slice none 0 0, .int .i64 0] 61) = W at *
  refine (l01Source_any a len cap W HC.out hl).mono ?_
  rintro e W1 ⟨rfl, hs1, hb1⟩
  have HS1 : Hid (SrcOk W1 W.heap.size a len cap) := hs1
  have HB1 : Hid (Below w.heap.size w W1) := HB0.out.trans (hb1.mono HB0.out.size)
  have HR1 : Hid (W1.heap[w.heap.size]? = some (.cells #[.slice none 0 0, .int .i64 0] 61 (0, 0))) := (hb1.block _ (Array.getElem?_eq_some_iff.1 HR0.out).1).trans HR0.out
  clear hs1 hb1 HC HB0 HR0
  go_wp2_with fail
  refine (src_anyTlb W.heap.size a len cap W1 HS1.out).mono ?_
  rintro e W2 ⟨ao, zs, cp, nx, rfl, l17, ho, hs2, hg2⟩
  have hz := HSZ.out
  have hz1 := HS1.out.lt
  have HB2 : Hid (Below w.heap.size w W2) := HB1.out.grown hg2 HB1.out.size (fun k hk => by cases hk; omega)
  have HR2 : Hid (W2.heap[w.heap.size]? = some (.cells #[.slice none 0 0, .int .i64 0] 61 (0, 0))) := (hg2.block _ (Array.getElem?_eq_some_iff.1 HR1.out).1 (by simp; omega)).trans HR1.out
  have HO2 : Hid (W2.ownsRow (w.heap.size + 1) 66 5 (.slice ao zs.length cp) zs.length (teR zs)) := te_weak ho (by omega)
  clear ho hs2 hg2
  obtain ⟨t0, t1, tf⟩ := cel2F HR2.out
  have hlr := (Array.getElem?_eq_some_iff.1 HR2.out).1
  go_wp2
  have z0 := heap_setCell_same W2 w.heap.size 0 _ _ (.slice ao zs.length cp) HR2.out
  have z1 := heap_setCell_same _ w.heap.size 1 _ _ (.int .i64 nx) z0
  have hfin : ((W2.setCell ⟨w.heap.size, 0, none⟩ (.slice ao zs.length cp)).setCell ⟨w.heap.size, 1, none⟩ (.int .i64 nx)).heap[w.heap.size]? = some (.cells #[.slice ao zs.length cp, .int .i64 nx] 61 (0, 0)) := by simpa using z1
  obtain ⟨f0, f1, _⟩ := cel2F hfin
  have hne : (Value.slice ao zs.length cp).ownBlock ≠ some w.heap.size := fun q => by have := (HO2.out.lt _ q).1; omega
  exact bodyPost_ret (v := .agg #[.slice ao zs.length cp, .int .i64 nx]) (by simp [results, Try.results30, go_sem, f0, f1]) rfl ⟨ao, zs, cp, nx, rfl, l17, own_set (own_set HO2.out hne) hne, (HB2.out.setCell (Nat.le_refl _) _).setCell (Nat.le_refl _) _⟩
end Go.Proofs.Ytfagohdmepnkkaa
