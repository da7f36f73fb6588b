import Derived.Test.YthncnffnjjclfabFq2
import Derived.Test.YthncnffnjjclfabFc2
namespace Go.Proofs.Ythncnffnjjclfab
open Go.ChangeShapes Go.WideShapes Go.ChangeAt Go.RowKit

def inB9 (lo hi : Int) (C : List Int) : Prop := ∀ x ∈ C, lo ≤ x ∧ x ≤ hi
theorem lit_cell9 {u : World} {p r : Nat} {C : List Int} {t : TypeId} (h : u.heap[p]? = some (.cells (C.map (Value.int .i64)).toArray t (0, 0))) (hr : r < C.length) : u.cell? ⟨p, r, none⟩ = some (.int .i64 C[r]) := by
  simp [World.cell?, h, List.getElem?_map, List.getElem?_eq_getElem hr]
theorem lit_draw9 {u u2 : World} {b t : Nat} {C : List Int} {lo hi : Int} (hb : b < u.heap.size) (hg : (u.alloc (.cells (C.map (Value.int .i64)).toArray t)).grownBy u2 (some b)) (Q : Nat) (hQ : Q < C.length) (hin : inB9 lo hi C) : ∃ y : Int, u2.cell? ⟨u.heap.size, Q, none⟩ = some (.int .i64 y) ∧ lo ≤ y ∧ y ≤ hi := by
  have h1 : u2.heap[u.heap.size]? = some (.cells (C.map (Value.int .i64)).toArray t (0, 0)) := (hg.block _ (by simp) (by simp; omega)).trans (MapKept.heap_alloc u _).1
  exact ⟨C[Q], lit_cell9 h1 hQ, (hin _ (List.getElem_mem hQ)).1, (hin _ (List.getElem_mem hQ)).2⟩
theorem code_up9 {w : World} {B B' : Nat} {a : Option Addr} {len : Nat} (h : CodeAt w B a len) (hB : B ≤ B') : CodeAt w B' a len := by
  rcases h with h | ⟨cb, co, h1, h2, h3⟩
  · exact .inl h
  · exact .inr ⟨cb, co, h1, by omega, h3⟩
theorem src_bel9 {w w' : World} {b : Nat} {a : Option Addr} {len cap : Nat} (h : SrcOk w b a len cap) (hb : Below w.heap.size w w') : SrcOk w' b a len cap :=
  src_own (r := none) h ⟨hb.os, hb.tape, hb.output, hb.size, fun k hk _ => hb.block k hk⟩ (fun k hk => by cases hk)
theorem bel_bel9 {w u u' : World} (h : Below w.heap.size w u) (h2 : Below u.heap.size u u') : Below w.heap.size w u' :=
  ⟨h2.os.trans h.os, h2.tape.trans h.tape, h2.output.trans h.output, Nat.le_trans h.size h2.size, fun k hk => (h2.block k (Nat.lt_of_lt_of_le hk h.size)).trans (h.block k hk)⟩
set_option maxRecDepth 100000 in
set_option maxHeartbeats 2000000 in
theorem drawPublic_any (a : Option Addr) (len cap : Nat) (w : World) (hcode : CodeAt w w.heap.size a len) (hl : len ≤ 1048576) :
    Calls Try.prog 66 #[.slice a len cap] w fun e w' => ∃ s : Int, e = .returned (.int .i64 s) ∧ -1 ≤ s ∧ s ≤ 1073741381 ∧ Below w.heap.size w w' := by
  go_enter Try.func66, Try.ntmps66
  go_wp2_with fail
  refine (l01Source_any a len cap w hcode hl).mono ?_
  rintro e w1 ⟨rfl, hs1, hb1⟩
  clear hcode
  go_wp2_with fail
  refine (src_n w.heap.size a len cap 1000000000 w1 hs1 (by omega)).mono ?_
  rintro e w2 ⟨r2, rfl, p2, q2, hs2, hg2⟩
  have hbw : w.heap.size < w2.heap.size := hs2.lt
  have HBW : Hid (w.heap.size < w2.heap.size) := hbw
  have HIN : Hid (inB9 (-1) 1073741381 [r2 + 1, 0, 1, 1073741381, 1073741380, -1]) := by
    intro x hx
    simp at hx
    omega
  have HS : Hid (SrcOk (w2.alloc (.cells ([r2 + 1, 0, 1, 1073741381, 1073741380, -1].map (Value.int .i64)).toArray 2)) w.heap.size a len cap) := src_own (r := none) hs2 (World.grownBy_alloc w2 _ _) (fun k hk => by cases hk)
  have HG : Hid (w1.grownBy (w2.alloc (.cells ([r2 + 1, 0, 1, 1073741381, 1073741380, -1].map (Value.int .i64)).toArray 2)) (some w.heap.size)) := Lib.grownBy_trans hg2 (World.grownBy_alloc w2 _ _)
  clear hs1 hg2 hs2 hbw
  go_wp2_with fail
  refine (src_n w.heap.size a len cap 6 _ HS.out (by omega)).mono ?_
  rintro e w3 ⟨r3, rfl, p3, q3, hs3, hg3⟩
  obtain ⟨R3, rfl⟩ := Int.eq_ofNat_of_zero_le p3
  have hR3 : R3 < 6 := by omega
  obtain ⟨y, y1, y2, y3⟩ := lit_draw9 HBW.out hg3 R3 (by simpa using hR3) HIN.out
  have HB : Hid (Below w.heap.size w w3) := hb1.grown (Lib.grownBy_trans HG.out hg3) hb1.size (fun k hk => by cases hk; exact Nat.le_refl _)
  clear hs3 hg3 HS HG hb1 HIN p3 q3
  go_wp2
  go_ret
  exact ⟨y, rfl, y2, y3, HB.out⟩
set_option maxRecDepth 100000 in
set_option maxHeartbeats 2000000 in
theorem drawQuote_any (a : Option Addr) (len cap : Nat) (w : World) (hcode : CodeAt w w.heap.size a len) (hl : len ≤ 1048576) :
    Calls Try.prog 26 #[.slice a len cap] w fun e w' => ∃ (s : Int) (nn : ByteArray) (v : Value) (zs : List Int), e = .returned (.tuple #[.int .i64 s, .string nn, v]) ∧ -1 ≤ s ∧ s ≤ 1073741381 ∧ nn.size ≤ 4097 ∧ Orow w' (w.heap.size + 1) v zs ∧ zs.length ≤ 9 ∧ Below w.heap.size w w' := by
  go_enter Try.func26, Try.ntmps26
  go_wp2_with fail
  refine (l01Source_any a len cap w hcode hl).mono ?_
  rintro e w1 ⟨rfl, hs1, hb1⟩
  have HS1 : Hid (SrcOk w1 w.heap.size a len cap) := hs1
  have HB1 : Hid (Below w.heap.size w w1) := hb1
  have HC1 : Hid (CodeAt w1 w1.heap.size a len) := code_up9 hs1.2.1 hb1.size
  clear hcode hs1 hb1
  go_wp2_with fail
  refine (drawPublic_any a len cap w1 HC1.out hl).mono ?_
  rintro e w2 ⟨s, rfl, s1, s2, hb2⟩
  have HS2 : Hid (SrcOk w2 w.heap.size a len cap) := src_bel9 HS1.out hb2
  have HB2 : Hid (Below w.heap.size w w2) := bel_bel9 HB1.out hb2
  clear hb2 HC1 HB1 HS1
  go_wp2_with fail
  refine (src_key w.heap.size a len cap w2 HS2.out).mono ?_
  rintro e w3 ⟨nn, rfl, hn, hs3, hg3⟩
  have HS3 : Hid (SrcOk w3 w.heap.size a len cap) := hs3
  have HG3 : Hid (w2.grownBy w3 (some w.heap.size)) := hg3
  clear hs3 hg3 HS2
  go_wp2_with fail
  refine (src_regs w.heap.size a len cap w3 HS3.out).mono ?_
  rintro e w4 ⟨v, zs, rfl, hv, hz, hs4, hg4⟩
  have HV : Hid (Orow w4 (w.heap.size + 1) v zs) := hv
  obtain ⟨av, cv, rfl⟩ := hv.irow.sl
  have HB4 : Hid (Below w.heap.size w w4) := HB2.out.grown (Lib.grownBy_trans HG3.out hg4) HB2.out.size (fun k hk => by cases hk; exact Nat.le_refl _)
  clear hv hs4 hg4 HS3 HG3 HB2
  go_wp2
  go_ret3
  exact ⟨s, nn, _, zs, rfl, s1, s2, hn, HV.out, hz, HB4.out⟩
end Go.Proofs.Ythncnffnjjclfab
