import Derived.Test.YtmmodmanfoipiaaDoorRows
import Derived.Test.YtmmodmanfoipiaaDoorPlain
import Derived.WalkLawsBesides
import Derived.Deep.QuietTactic
import Derived.BigQuiet
import Derived.BigRegion
import Derived.Laws.Rows
import Derived.Lib.BufferOwn
import Derived.Laws.BitsAllLaws
namespace Go.Proofs.YtmmodmanfoipiaaDoor
open Go.ChangeShapes Go.WideShapes Go.ChangeAt Go.RowKit

def srcCells (a : Option Addr) (len cap : Nat) (p m z : Int) : Array Value := #[.slice a len cap, .int .i64 p, .int .u64 m, .int .i64 z]

def SrcAt (w : World) (b : Nat) (a : Option Addr) (len cap : Nat) : Prop :=
  ∃ p m z : Int, w.heap[b]? = some (.cells (srcCells a len cap p m z) 65 (0, 0)) ∧ 0 ≤ p ∧ p ≤ len ∧ 0 ≤ z ∧ z ≤ 12

def CodeAt (w : World) (B : Nat) (a : Option Addr) (len : Nat) : Prop :=
  len = 0 ∨ ∃ cb co, a = some ⟨cb, co, none⟩ ∧ cb < B ∧ ∀ i, i < len → ∃ x : Int, 0 ≤ x ∧ x ≤ 255 ∧ w.cell? ⟨cb, co + i, none⟩ = some (.int .u8 x)

theorem src_cells {w : World} {b : Nat} {a : Option Addr} {len cap : Nat} {p m z : Int} (h : w.heap[b]? = some (.cells (srcCells a len cap p m z) 65 (0, 0))) :
    w.cell? ⟨b, 0, none⟩ = some (.slice a len cap) ∧ w.cell? ⟨b, 1, none⟩ = some (.int .i64 p) ∧ w.cell? ⟨b, 2, none⟩ = some (.int .u64 m) ∧ w.cell? ⟨b, 3, none⟩ = some (.int .i64 z) ∧
    w.frozen? ⟨b, 1, none⟩ = false ∧ w.frozen? ⟨b, 2, none⟩ = false ∧ w.frozen? ⟨b, 3, none⟩ = false :=
  ⟨cell_of_row w b 0 _ _ _ h, cell_of_row w b 1 _ _ _ h, cell_of_row w b 2 _ _ _ h, cell_of_row w b 3 _ _ _ h, frozen_of_row w b 1 _ _ h, frozen_of_row w b 2 _ _ h, frozen_of_row w b 3 _ _ h⟩

def SrcW (w : World) (b : Nat) (a : Option Addr) (len cap : Nat) (p m z : Int) : Prop := w.heap[b]? = some (.cells (srcCells a len cap p m z) 65 (0, 0))
theorem SrcW.set1 {w : World} {b : Nat} {a : Option Addr} {len cap : Nat} {p m z : Int} (h : SrcW w b a len cap p m z) (p' : Int) : SrcW (w.setCell ⟨b, 1, none⟩ (.int .i64 p')) b a len cap p' m z :=
  (heap_setCell_same w b 1 _ _ _ h).trans rfl
theorem SrcW.set2 {w : World} {b : Nat} {a : Option Addr} {len cap : Nat} {p m z : Int} (h : SrcW w b a len cap p m z) (m' : Int) : SrcW (w.setCell ⟨b, 2, none⟩ (.int .u64 m')) b a len cap p m' z :=
  (heap_setCell_same w b 2 _ _ _ h).trans rfl
theorem SrcW.set3 {w : World} {b : Nat} {a : Option Addr} {len cap : Nat} {p m z : Int} (h : SrcW w b a len cap p m z) (z' : Int) : SrcW (w.setCell ⟨b, 3, none⟩ (.int .i64 z')) b a len cap p m z' :=
  (heap_setCell_same w b 3 _ _ _ h).trans rfl
theorem SrcW.drewN {w : World} {b : Nat} {a : Option Addr} {len cap : Nat} {p m z : Int} (h : SrcW w b a len cap p m z) (q : Nat) : SrcW (w.drewN q) b a len cap p m z := h
theorem SrcW.cell2 {w : World} {b : Nat} {a : Option Addr} {len cap : Nat} {p m z : Int} (h : SrcW w b a len cap p m z) : w.cell? ⟨b, 2, none⟩ = some (.int .u64 m) := cell_of_row w b 2 _ _ _ h

theorem gset {u w : World} {b : Nat} (h : u.grownBy w (some b)) (i : Nat) (v : Value) : u.grownBy (w.setCell ⟨b, i, none⟩ v) (some b) := Lib.grownBy_setB h i v
theorem gdn {u w : World} {r : Option Nat} (h : u.grownBy w r) (q : Nat) : u.grownBy (w.drewN q) r := ⟨h.os, h.tape, h.output, h.size, h.block⟩

theorem gdr {u w : World} {r : Option Nat} (h : u.grownBy w r) : u.grownBy w.drew r := ⟨h.os, h.tape, h.output, h.size, h.block⟩
theorem rn (X most : Int) (hm : 1 < most) (hM : most ≤ 9223372036854775807) : 0 ≤ wrap64 ((IntKind.u64.wrap X).tmod most) ∧ wrap64 ((IntKind.u64.wrap X).tmod most) < most := by
  have h0 : 0 ≤ IntKind.u64.wrap X := by rw [IntKind.wrap_u64]; omega
  rw [Int.tmod_eq_emod_of_nonneg h0]
  have h1 := Int.emod_nonneg (IntKind.u64.wrap X) (by omega : most ≠ 0)
  have h2 := Int.emod_lt_of_pos (IntKind.u64.wrap X) (by omega : 0 < most)
  unfold wrap64
  omega

set_option maxHeartbeats 2000000 in
theorem src_n_end (b : Nat) (a : Option Addr) (len cap : Nat) (m z most : Int) (w : World) (h : SrcW w b a len cap len m z) (hl : len ≤ 1048576)
    (hz0 : 0 ≤ z) (hz1 : z ≤ 12) (hm : 1 < most) (hM : most ≤ 9223372036854775807) :
    Calls Tryd.prog 11 #[.pointer (some ⟨b, 0, none⟩), .int .i64 most] w fun e w' => ∃ r : Int, e = .returned (.int .i64 r) ∧ 0 ≤ r ∧ r < most ∧ SrcAt w' b a len cap ∧ w.grownBy w' (some b) := by
  obtain ⟨c0, c1, c2, c3, f1, f2, f3⟩ := src_cells h
  have hc : ∀ (q : Nat) (x y v : Int), ((((w.drewN q).setCell ⟨b, 2, none⟩ (.int .u64 x)).setCell ⟨b, 2, none⟩ (.int .u64 y)).setCell ⟨b, 2, none⟩ (.int .u64 v)).cell? ⟨b, 2, none⟩ = some (.int .u64 v) := fun q x y v => ((((h.drewN q).set2 x).set2 y).set2 v).cell2
  have HW : Hid (SrcW w b a len cap len m z) := h
  clear h
  go_enter Tryd.func11, Tryd.ntmps11
  go_wp2
  go_quiet (fail)
  go_wp2
  go_region
  all_goals go_wp2
  all_goals go_region
  all_goals go_wp2
  all_goals go_region
  all_goals go_wp2
  all_goals
    go_ret
    exact ⟨_, rfl, (rn _ _ hm hM).1, (rn _ _ hm hM).2, ⟨_, _, _, (((HW.out.drewN _).set2 _).set2 _).set2 _, by omega, by omega, hz0, hz1⟩, gdr (gdr (gset (gset (gset (gdn (World.grownBy.refl _ _) _) 2 _) 2 _) 2 _))⟩

set_option maxHeartbeats 2000000 in
theorem src_n_more (b : Nat) (cb co : Nat) (len cap p : Nat) (m z most x : Int) (w : World) (h : SrcW w b (some ⟨cb, co, none⟩) len cap p m z) (hl : len ≤ 1048576) (hp : p < len)
    (hz0 : 0 ≤ z) (hz1 : z ≤ 12) (hm : 1 < most) (hM : most ≤ 9223372036854775807) (hx0 : 0 ≤ x) (hx1 : x ≤ 255) (hx : w.cell? ⟨cb, co + p, none⟩ = some (.int .u8 x)) :
    Calls Tryd.prog 11 #[.pointer (some ⟨b, 0, none⟩), .int .i64 most] w fun e w' => ∃ r : Int, e = .returned (.int .i64 r) ∧ 0 ≤ r ∧ r < most ∧ SrcAt w' b (some ⟨cb, co, none⟩) len cap ∧ w.grownBy w' (some b) := by
  obtain ⟨c0, c1, c2, c3, f1, f2, f3⟩ := src_cells h
  have hc : ∀ (q : Nat) (t x y v : Int), (((((w.drewN q).setCell ⟨b, 1, none⟩ (.int .i64 t)).setCell ⟨b, 2, none⟩ (.int .u64 x)).setCell ⟨b, 2, none⟩ (.int .u64 y)).setCell ⟨b, 2, none⟩ (.int .u64 v)).cell? ⟨b, 2, none⟩ = some (.int .u64 v) := fun q t x y v => (((((h.drewN q).set1 t).set2 x).set2 y).set2 v).cell2
  have hc2 : ∀ (q : Nat) (t x y : Int), ((((w.drewN q).setCell ⟨b, 1, none⟩ (.int .i64 t)).setCell ⟨b, 2, none⟩ (.int .u64 x)).setCell ⟨b, 2, none⟩ (.int .u64 y)).cell? ⟨b, 2, none⟩ = some (.int .u64 y) := fun q t x y => ((((h.drewN q).set1 t).set2 x).set2 y).cell2
  have hc1 : ∀ (q : Nat) (t x : Int), (((w.drewN q).setCell ⟨b, 1, none⟩ (.int .i64 t)).setCell ⟨b, 2, none⟩ (.int .u64 x)).cell? ⟨b, 2, none⟩ = some (.int .u64 x) := fun q t x => (((h.drewN q).set1 t).set2 x).cell2
  have HW : Hid (SrcW w b (some ⟨cb, co, none⟩) len cap p m z) := h
  clear h
  go_enter Tryd.func11, Tryd.ntmps11
  go_wp2
  go_quiet (fail)
  go_wp2
  go_quiet (fail)
  go_wp2
  go_region
  all_goals go_wp2
  all_goals go_region
  all_goals go_wp2
  all_goals go_region
  all_goals go_wp2
  all_goals
    go_ret
    exact ⟨_, rfl, (rn _ _ hm hM).1, (rn _ _ hm hM).2, ⟨_, _, _, ((((HW.out.drewN _).set1 _).set2 _).set2 _).set2 _, by omega, by omega, hz0, hz1⟩, gdr (gdr (gdr (gset (gset (gset (gset (gdn (World.grownBy.refl _ _) _) 1 _) 2 _) 2 _) 2 _)))⟩

theorem src_n_one (p : Addr) (most : Int) (w : World) (hm : most ≤ 1) :
    Calls Tryd.prog 11 #[.pointer (some p), .int .i64 most] w fun e w' => e = .returned (.int .i64 0) ∧ w' = w := by
  go_enter Tryd.func11, Tryd.ntmps11
  go_wp2
  go_ret
  exact ⟨rfl, rfl⟩

/-- A source that lies in block b and draws from a row of bytes below b. -/
def SrcOk (w : World) (b : Nat) (a : Option Addr) (len cap : Nat) : Prop := SrcAt w b a len cap ∧ CodeAt w b a len ∧ len ≤ 1048576
theorem SrcOk.lt {w : World} {b : Nat} {a : Option Addr} {len cap : Nat} (h : SrcOk w b a len cap) : b < w.heap.size := by
  obtain ⟨⟨p, m, z, hb, _⟩, _⟩ := h
  rcases Nat.lt_or_ge b w.heap.size with h | h
  · exact h
  · rw [Array.getElem?_eq_none h] at hb; cases hb
theorem CodeAt.kept {w w' : World} {b : Nat} {a : Option Addr} {len : Nat} (h : CodeAt w b a len) (hg : w.grownBy w' (some b)) : CodeAt w' b a len := by
  rcases h with h | ⟨cb, co, ha, hlt, hc⟩
  · exact .inl h
  · refine .inr ⟨cb, co, ha, hlt, fun i hi => ?_⟩
    obtain ⟨x, h0, h1, hx⟩ := hc i hi
    exact ⟨x, h0, h1, hg.cell hx (by simp; omega)⟩

theorem src_n (b : Nat) (a : Option Addr) (len cap : Nat) (most : Int) (w : World) (h : SrcOk w b a len cap) (hM : most ≤ 9223372036854775807) :
    Calls Tryd.prog 11 #[.pointer (some ⟨b, 0, none⟩), .int .i64 most] w fun e w' => ∃ r : Int, e = .returned (.int .i64 r) ∧ 0 ≤ r ∧ (r < most ∨ r = 0) ∧ SrcOk w' b a len cap ∧ w.grownBy w' (some b) := by
  have h' := h
  obtain ⟨⟨p, m, z, hw, p0, p1, z0, z1⟩, hc, hl⟩ := h
  by_cases hm : most ≤ 1
  · refine (src_n_one _ most w hm).mono ?_
    rintro e w' ⟨rfl, rfl⟩
    exact ⟨0, rfl, by omega, .inr rfl, h', World.grownBy.refl _ _⟩
  · obtain ⟨P, rfl⟩ := Int.eq_ofNat_of_zero_le p0
    by_cases hp : P < len
    · rcases hc with hc0 | ⟨cb, co, rfl, hlt, hcc⟩
      · omega
      · obtain ⟨x, hx0, hx1, hx⟩ := hcc P hp
        refine (src_n_more b cb co len cap P m z most x w hw hl hp z0 z1 (by omega) hM hx0 hx1 hx).mono ?_
        rintro e w' ⟨r, rfl, r0, r1, hs, hg⟩
        exact ⟨r, rfl, r0, .inl r1, ⟨hs, CodeAt.kept (.inr ⟨cb, co, rfl, hlt, hcc⟩) hg, hl⟩, hg⟩
    · obtain rfl : P = len := by omega
      refine (src_n_end b a P cap m z most w hw hl z0 z1 (by omega) hM).mono ?_
      rintro e w' ⟨r, rfl, r0, r1, hs, hg⟩
      exact ⟨r, rfl, r0, .inl r1, ⟨hs, hc.kept hg, hl⟩, hg⟩

theorem src_one (b : Nat) (a : Option Addr) (len cap : Nat) (most : Int) (w : World) (h : SrcOk w b a len cap) (hM : most ≤ 9223372036854775807) :
    Calls Tryd.prog 12 #[.pointer (some ⟨b, 0, none⟩), .int .i64 most] w fun e w' => ∃ t : Bool, e = .returned (.bool t) ∧ SrcOk w' b a len cap ∧ w.grownBy w' (some b) := by
  go_enter Tryd.func12, Tryd.ntmps12
  go_wp2_with fail
  refine (src_n b a len cap most w h hM).mono ?_
  rintro e w' ⟨r, rfl, r0, r1, hs, hg⟩
  go_wp2
  go_ret
  exact ⟨_, rfl, hs, hg⟩
end Go.Proofs.YtmmodmanfoipiaaDoor
