import Derived.Test.YtakacapcphbjiaaSt9
import Derived.Test.YtakacapcphbjiaaSrc2
namespace Go.Proofs.Ytakacapcphbjiaa
open Go.ChangeShapes Go.WideShapes Go.ChangeAt Go.RowKit

theorem lit_at {u u2 : World} {b t : Nat} (C : List Int) (hb : b < u.heap.size) (hg : (u.alloc (.cells (C.map (Value.int .i64)).toArray t)).grownBy u2 (some b)) (Q : Nat) (hQ : Q < C.length) : ∃ y : Int, u2.cell? ⟨u.heap.size, Q, none⟩ = some (.int .i64 y) := by
  have h1 : u2.heap[u.heap.size]? = some (.cells (C.map (Value.int .i64)).toArray t (0, 0)) := (hg.block _ (by simp) (by simp; omega)).trans (MapKept.heap_alloc u _).1
  refine ⟨C[Q], ed_cells _ _ _ _ h1 Q _ ?_⟩
  simp [List.getElem?_eq_getElem hQ]
theorem gB {w w1 w2 : World} (h : Below w.heap.size w w1) (hg : w1.grownBy w2 (some w.heap.size)) : Below w.heap.size w w2 :=
  ⟨hg.os.trans h.os, hg.tape.trans h.tape, hg.output.trans h.output, Nat.le_trans h.size hg.size, fun k hk => (hg.block k (Nat.lt_of_lt_of_le hk h.size) (by simp; omega)).trans (h.block k hk)⟩
set_option maxRecDepth 100000 in
set_option maxHeartbeats 4000000 in
theorem drawStamp_any (a : Option Addr) (len cap : Nat) (w : World) (hcode : CodeAt w w.heap.size a len) (hl : len ≤ 1048576) : Calls Try.prog 12 #[.slice a len cap] w fun e w' => ∃ n : Int, e = .returned (.int .i64 n) ∧ Below w.heap.size w w' := by
  go_enter Try.func12, Try.ntmps12
  go_wp2_with fail
  refine (l01Source_any a len cap w hcode hl).mono ?_
  rintro e u1 ⟨rfl, hs1, hb1⟩
  have HS1 : Hid (SrcOk u1 w.heap.size a len cap) := hs1
  have HB1 : Hid (Below w.heap.size w u1) := hb1
  clear hs1 hb1 hcode
  go_wp2_with fail
  refine (src_n w.heap.size a len cap 36525 u1 HS1.out (by omega)).mono ?_
  rintro e u2 ⟨r1, rfl, r10, r11, hs2, hg2⟩
  have HS2 : Hid (SrcOk u2 w.heap.size a len cap) := hs2
  have HB2 : Hid (Below w.heap.size w u2) := gB HB1.out hg2
  have lt2 := hs2.lt
  have HS2a : Hid (SrcOk (u2.alloc (.cells #[.int .i64 0, .int .i64 58, .int .i64 59, .int .i64 60, .int .i64 365, .int .i64 366, .int .i64 1460, .int .i64 1461, .int .i64 36524, .int .i64 36525, .int .i64 r1, .int .i64 (-1)] 2)) w.heap.size a len cap) := HS2.out.far (World.grownBy_alloc _ _ none)
  have HB2a : Hid (Below w.heap.size w (u2.alloc (.cells #[.int .i64 0, .int .i64 58, .int .i64 59, .int .i64 60, .int .i64 365, .int .i64 366, .int .i64 1460, .int .i64 1461, .int .i64 36524, .int .i64 36525, .int .i64 r1, .int .i64 (-1)] 2))) := HB2.out.alloc HB2.out.size _
  clear hs2 hg2 HS1 HB1 r10 r11
  go_wp2_with fail
  refine (src_n w.heap.size a len cap 12 _ HS2a.out (by omega)).mono ?_
  rintro e u3 ⟨q, rfl, q0, q1, hs3, hg3⟩
  obtain ⟨Q, rfl⟩ := Int.eq_ofNat_of_zero_le q0
  have hQ : Q < 12 := by omega
  have hQ1 : (Q : Int) < 12 := by omega
  obtain ⟨d, hd⟩ := lit_at [0, 58, 59, 60, 365, 366, 1460, 1461, 36524, 36525, r1, -1] lt2 hg3 Q hQ
  have HS3 : Hid (SrcOk u3 w.heap.size a len cap) := hs3
  have HB3 : Hid (Below w.heap.size w u3) := gB HB2a.out hg3
  clear hs3 hg3 HS2a HB2a HS2 HB2 q1
  go_wp2_with fail
  refine (src_n w.heap.size a len cap 86400 _ HS3.out (by omega)).mono ?_
  rintro e u4 ⟨r2, rfl, r20, r21, hs4, hg4⟩
  have HS4 : Hid (SrcOk u4 w.heap.size a len cap) := hs4
  have HB4 : Hid (Below w.heap.size w u4) := gB HB3.out hg4
  have lt4 := hs4.lt
  have HS4a : Hid (SrcOk (u4.alloc (.cells #[.int .i64 0, .int .i64 86399, .int .i64 r2] 2)) w.heap.size a len cap) := HS4.out.far (World.grownBy_alloc _ _ none)
  have HB4a : Hid (Below w.heap.size w (u4.alloc (.cells #[.int .i64 0, .int .i64 86399, .int .i64 r2] 2))) := HB4.out.alloc HB4.out.size _
  clear hs4 hg4 HS3 HB3 r20 r21 hd hQ hQ1 q0
  go_wp2_with fail
  refine (src_n w.heap.size a len cap 3 _ HS4a.out (by omega)).mono ?_
  rintro e u5 ⟨p, rfl, p0, p1, hs5, hg5⟩
  obtain ⟨R, rfl⟩ := Int.eq_ofNat_of_zero_le p0
  have hR : R < 3 := by omega
  have hR1 : (R : Int) < 3 := by omega
  obtain ⟨x, hx⟩ := lit_at [0, 86399, r2] lt4 hg5 R hR
  have HB5 : Hid (Below w.heap.size w u5) := gB HB4a.out hg5
  clear hs5 hg5 HS4 HB4 HS4a HB4a p1
  go_wp2_with fail
  go_ret
  exact ⟨_, rfl, HB5.out⟩
def StD (n y m d s : Int) : Prop := (StampAt n y m d s ∧ 0 ≤ n ∧ n < 3155760000) ∨ (¬ (0 ≤ n ∧ n < 3155760000) ∧ y = 0 ∧ m = 0 ∧ d = 0 ∧ s = 0)
theorem implStamp_D (n : Int) (w : World) : Calls Try.prog 7 #[.int .i64 n] w fun e w' => ∃ y m d s, e = .returned (sA y m d s) ∧ StD n y m d s ∧ Below w.heap.size w w' := by
  by_cases h : 0 ≤ n ∧ n < 3155760000
  · refine (implStamp_yes n w h.1 h.2).mono ?_
    rintro e w' ⟨y, m, d, s, rfl, h1, h2⟩
    exact ⟨y, m, d, s, rfl, .inl ⟨h1, h⟩, h2⟩
  · refine (implStamp_no n w (by omega)).mono ?_
    rintro e w' ⟨rfl, h2⟩
    exact ⟨0, 0, 0, 0, rfl, .inr ⟨h, rfl, rfl, rfl, rfl⟩, h2⟩
theorem specStamp_D {n y m d s : Int} (h : StD n y m d s) (w : World) : Calls Try.prog 6 #[.int .i64 n] w fun e w' => e = .returned (sA y m d s) ∧ Below w.heap.size w w' := by
  rcases h with ⟨h, h0, h1⟩ | ⟨h, rfl, rfl, rfl, rfl⟩
  · refine (specStamp_yes n w h0 h1).mono ?_
    rintro e w' ⟨y', m', d', s', rfl, g1, g2⟩
    obtain ⟨rfl, rfl, rfl, rfl⟩ := h.uniq g1
    exact ⟨rfl, g2⟩
  · exact specStamp_no n w (by omega)
theorem StD.back {n y m d s : Int} (h : StD n y m d s) : y = 0 ∨ (2000 ≤ y ∧ secV y m d s = n) := by
  rcases h with ⟨h, h0, h1⟩ | ⟨h, rfl, rfl, rfl, rfl⟩
  · exact .inr ⟨h.1, secV_back h⟩
  · exact .inl rfl
end Go.Proofs.Ytakacapcphbjiaa
