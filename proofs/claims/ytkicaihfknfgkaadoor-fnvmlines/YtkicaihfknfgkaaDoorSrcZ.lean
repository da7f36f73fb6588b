import Derived.Test.YtkicaihfknfgkaaDoorRows
import Derived.Test.YtkicaihfknfgkaaDoorPlain
import Derived.WalkLawsBesides
import Derived.Deep.QuietTactic
import Derived.BigQuiet
import Derived.BigRegion
import Derived.Laws.Rows
import Derived.Lib.BufferOwn
import Derived.Laws.BitsAllLaws
import Derived.Deep.RegionWith
import Derived.RegionTactic
import Derived.OwnWalk
namespace Go.Proofs.YtkicaihfknfgkaaDoor
open Go.ChangeShapes Go.WideShapes Go.ChangeAt Go.RowKit

def srcCells (a : Option Addr) (len cap : Nat) (p m z : Int) : Array Value := #[.slice a len cap, .int .i64 p, .int .u64 m, .int .i64 z]

def SrcAt (w : World) (b : Nat) (a : Option Addr) (len cap : Nat) : Prop :=
  ∃ p m z : Int, w.heap[b]? = some (.cells (srcCells a len cap p m z) 55 (0, 0)) ∧ 0 ≤ p ∧ p ≤ len ∧ 0 ≤ z ∧ z ≤ 12

def CodeAt (w : World) (B : Nat) (a : Option Addr) (len : Nat) : Prop :=
  len = 0 ∨ ∃ cb co, a = some ⟨cb, co, none⟩ ∧ cb < B ∧ ∀ i, i < len → ∃ x : Int, 0 ≤ x ∧ x ≤ 255 ∧ w.cell? ⟨cb, co + i, none⟩ = some (.int .u8 x)

theorem src_cells {w : World} {b : Nat} {a : Option Addr} {len cap : Nat} {p m z : Int} (h : w.heap[b]? = some (.cells (srcCells a len cap p m z) 55 (0, 0))) :
    w.cell? ⟨b, 0, none⟩ = some (.slice a len cap) ∧ w.cell? ⟨b, 1, none⟩ = some (.int .i64 p) ∧ w.cell? ⟨b, 2, none⟩ = some (.int .u64 m) ∧ w.cell? ⟨b, 3, none⟩ = some (.int .i64 z) ∧
    w.frozen? ⟨b, 1, none⟩ = false ∧ w.frozen? ⟨b, 2, none⟩ = false ∧ w.frozen? ⟨b, 3, none⟩ = false :=
  ⟨cell_of_row w b 0 _ _ _ h, cell_of_row w b 1 _ _ _ h, cell_of_row w b 2 _ _ _ h, cell_of_row w b 3 _ _ _ h, frozen_of_row w b 1 _ _ h, frozen_of_row w b 2 _ _ h, frozen_of_row w b 3 _ _ h⟩

def SrcW (w : World) (b : Nat) (a : Option Addr) (len cap : Nat) (p m z : Int) : Prop := w.heap[b]? = some (.cells (srcCells a len cap p m z) 55 (0, 0))
theorem SrcW.set1 {w : World} {b : Nat} {a : Option Addr} {len cap : Nat} {p m z : Int} (h : SrcW w b a len cap p m z) (p' : Int) : SrcW (w.setCell ⟨b, 1, none⟩ (.int .i64 p')) b a len cap p' m z :=
  (heap_setCell_same w b 1 _ _ _ h).trans rfl
theorem SrcW.set2 {w : World} {b : Nat} {a : Option Addr} {len cap : Nat} {p m z : Int} (h : SrcW w b a len cap p m z) (m' : Int) : SrcW (w.setCell ⟨b, 2, none⟩ (.int .u64 m')) b a len cap p m' z :=
  (heap_setCell_same w b 2 _ _ _ h).trans rfl
theorem SrcW.set3 {w : World} {b : Nat} {a : Option Addr} {len cap : Nat} {p m z : Int} (h : SrcW w b a len cap p m z) (z' : Int) : SrcW (w.setCell ⟨b, 3, none⟩ (.int .i64 z')) b a len cap p m z' :=
  (heap_setCell_same w b 3 _ _ _ h).trans rfl
theorem SrcW.drewN {w : World} {b : Nat} {a : Option Addr} {len cap : Nat} {p m z : Int} (h : SrcW w b a len cap p m z) (q : Nat) : SrcW (w.drewN q) b a len cap p m z := h
theorem SrcW.cell2 {w : World} {b : Nat} {a : Option Addr} {len cap : Nat} {p m z : Int} (h : SrcW w b a len cap p m z) : w.cell? ⟨b, 2, none⟩ = some (.int .u64 m) := cell_of_row w b 2 _ _ _ h

theorem gset {u w : World} {b : Nat} (h : u.grownBy w (some b)) (i : Nat) (v : Value) : u.grownBy (w.setCell ⟨b, i, none⟩ v) (some b) := Lib.grownBy_setB h i v
theorem gdn {u w : World} {r : Option Nat} (h : u.grownBy w r) (q : Nat) : u.grownBy (w.drewN q) r := ⟨h.os, h.tape, h.output, h.size, h.block⟩

theorem gdr {u w : World} {r : Option Nat} (h : u.grownBy w r) : u.grownBy w.drew r := ⟨h.os, h.tape, h.output, h.size, h.block⟩
theorem rn (X most : Int) (hm : 1 < most) (hM : most ≤ 9223372036854775807) : 0 ≤ wrap64 ((IntKind.u64.wrap X).tmod most) ∧ wrap64 ((IntKind.u64.wrap X).tmod most) < most := by
  have h0 : 0 ≤ IntKind.u64.wrap X := by rw [IntKind.wrap_u64]; omega
  rw [Int.tmod_eq_emod_of_nonneg h0]
  have h1 := Int.emod_nonneg (IntKind.u64.wrap X) (by omega : most ≠ 0)
  have h2 := Int.emod_lt_of_pos (IntKind.u64.wrap X) (by omega : 0 < most)
  unfold wrap64
  omega

set_option maxHeartbeats 2000000 in
theorem src_n_end (b : Nat) (a : Option Addr) (len cap : Nat) (m z most : Int) (w : World) (h : SrcW w b a len cap len m z) (hl : len ≤ 1048576)
    (hz0 : 0 ≤ z) (hz1 : z ≤ 12) (hm : 1 < most) (hM : most ≤ 9223372036854775807) :
    Calls Tryd.prog 29 #[.pointer (some ⟨b, 0, none⟩), .int .i64 most] w fun e w' => ∃ r : Int, e = .returned (.int .i64 r) ∧ 0 ≤ r ∧ r < most ∧ SrcAt w' b a len cap ∧ w.grownBy w' (some b) := by
  obtain ⟨c0, c1, c2, c3, f1, f2, f3⟩ := src_cells h
  have hc : ∀ (q : Nat) (x y v : Int), ((((w.drewN q).setCell ⟨b, 2, none⟩ (.int .u64 x)).setCell ⟨b, 2, none⟩ (.int .u64 y)).setCell ⟨b, 2, none⟩ (.int .u64 v)).cell? ⟨b, 2, none⟩ = some (.int .u64 v) := fun q x y v => ((((h.drewN q).set2 x).set2 y).set2 v).cell2
  have HW : Hid (SrcW w b a len cap len m z) := h
  clear h
  go_enter Tryd.func29, Tryd.ntmps29
  go_wp2
  go_quiet (fail)
  go_wp2
  go_region
  all_goals go_wp2
  all_goals go_region
  all_goals go_wp2
  all_goals go_region
  all_goals go_wp2
  all_goals
    go_ret
    exact ⟨_, rfl, (rn _ _ hm hM).1, (rn _ _ hm hM).2, ⟨_, _, _, (((HW.out.drewN _).set2 _).set2 _).set2 _, by omega, by omega, hz0, hz1⟩, gdr (gdr (gset (gset (gset (gdn (World.grownBy.refl _ _) _) 2 _) 2 _) 2 _))⟩

set_option maxHeartbeats 2000000 in
theorem src_n_more (b : Nat) (cb co : Nat) (len cap p : Nat) (m z most x : Int) (w : World) (h : SrcW w b (some ⟨cb, co, none⟩) len cap p m z) (hl : len ≤ 1048576) (hp : p < len)
    (hz0 : 0 ≤ z) (hz1 : z ≤ 12) (hm : 1 < most) (hM : most ≤ 9223372036854775807) (hx0 : 0 ≤ x) (hx1 : x ≤ 255) (hx : w.cell? ⟨cb, co + p, none⟩ = some (.int .u8 x)) :
    Calls Tryd.prog 29 #[.pointer (some ⟨b, 0, none⟩), .int .i64 most] w fun e w' => ∃ r : Int, e = .returned (.int .i64 r) ∧ 0 ≤ r ∧ r < most ∧ SrcAt w' b (some ⟨cb, co, none⟩) len cap ∧ w.grownBy w' (some b) := by
  obtain ⟨c0, c1, c2, c3, f1, f2, f3⟩ := src_cells h
  have hc : ∀ (q : Nat) (t x y v : Int), (((((w.drewN q).setCell ⟨b, 1, none⟩ (.int .i64 t)).setCell ⟨b, 2, none⟩ (.int .u64 x)).setCell ⟨b, 2, none⟩ (.int .u64 y)).setCell ⟨b, 2, none⟩ (.int .u64 v)).cell? ⟨b, 2, none⟩ = some (.int .u64 v) := fun q t x y v => (((((h.drewN q).set1 t).set2 x).set2 y).set2 v).cell2
  have hc2 : ∀ (q : Nat) (t x y : Int), ((((w.drewN q).setCell ⟨b, 1, none⟩ (.int .i64 t)).setCell ⟨b, 2, none⟩ (.int .u64 x)).setCell ⟨b, 2, none⟩ (.int .u64 y)).cell? ⟨b, 2, none⟩ = some (.int .u64 y) := fun q t x y => ((((h.drewN q).set1 t).set2 x).set2 y).cell2
  have hc1 : ∀ (q : Nat) (t x : Int), (((w.drewN q).setCell ⟨b, 1, none⟩ (.int .i64 t)).setCell ⟨b, 2, none⟩ (.int .u64 x)).cell? ⟨b, 2, none⟩ = some (.int .u64 x) := fun q t x => (((h.drewN q).set1 t).set2 x).cell2
  have HW : Hid (SrcW w b (some ⟨cb, co, none⟩) len cap p m z) := h
  clear h
  go_enter Tryd.func29, Tryd.ntmps29
  go_wp2
  go_quiet (fail)
  go_wp2
  go_quiet (fail)
  go_wp2
  go_region
  all_goals go_wp2
  all_goals go_region
  all_goals go_wp2
  all_goals go_region
  all_goals go_wp2
  all_goals
    go_ret
    exact ⟨_, rfl, (rn _ _ hm hM).1, (rn _ _ hm hM).2, ⟨_, _, _, ((((HW.out.drewN _).set1 _).set2 _).set2 _).set2 _, by omega, by omega, hz0, hz1⟩, gdr (gdr (gdr (gset (gset (gset (gset (gdn (World.grownBy.refl _ _) _) 1 _) 2 _) 2 _) 2 _)))⟩

theorem src_n_one (p : Addr) (most : Int) (w : World) (hm : most ≤ 1) :
    Calls Tryd.prog 29 #[.pointer (some p), .int .i64 most] w fun e w' => e = .returned (.int .i64 0) ∧ w' = w := by
  go_enter Tryd.func29, Tryd.ntmps29
  go_wp2
  go_ret
  exact ⟨rfl, rfl⟩

/-- A source that lies in block b and draws from a row of bytes below b. -/
def SrcOk (w : World) (b : Nat) (a : Option Addr) (len cap : Nat) : Prop := SrcAt w b a len cap ∧ CodeAt w b a len ∧ len ≤ 1048576
theorem SrcOk.lt {w : World} {b : Nat} {a : Option Addr} {len cap : Nat} (h : SrcOk w b a len cap) : b < w.heap.size := by
  obtain ⟨⟨p, m, z, hb, _⟩, _⟩ := h
  rcases Nat.lt_or_ge b w.heap.size with h | h
  · exact h
  · rw [Array.getElem?_eq_none h] at hb; cases hb
theorem CodeAt.kept {w w' : World} {b : Nat} {a : Option Addr} {len : Nat} (h : CodeAt w b a len) (hg : w.grownBy w' (some b)) : CodeAt w' b a len := by
  rcases h with h | ⟨cb, co, ha, hlt, hc⟩
  · exact .inl h
  · refine .inr ⟨cb, co, ha, hlt, fun i hi => ?_⟩
    obtain ⟨x, h0, h1, hx⟩ := hc i hi
    exact ⟨x, h0, h1, hg.cell hx (by simp; omega)⟩

theorem src_n (b : Nat) (a : Option Addr) (len cap : Nat) (most : Int) (w : World) (h : SrcOk w b a len cap) (hM : most ≤ 9223372036854775807) :
    Calls Tryd.prog 29 #[.pointer (some ⟨b, 0, none⟩), .int .i64 most] w fun e w' => ∃ r : Int, e = .returned (.int .i64 r) ∧ 0 ≤ r ∧ (r < most ∨ r = 0) ∧ SrcOk w' b a len cap ∧ w.grownBy w' (some b) := by
  have h' := h
  obtain ⟨⟨p, m, z, hw, p0, p1, z0, z1⟩, hc, hl⟩ := h
  by_cases hm : most ≤ 1
  · refine (src_n_one _ most w hm).mono ?_
    rintro e w' ⟨rfl, rfl⟩
    exact ⟨0, rfl, by omega, .inr rfl, h', World.grownBy.refl _ _⟩
  · obtain ⟨P, rfl⟩ := Int.eq_ofNat_of_zero_le p0
    by_cases hp : P < len
    · rcases hc with hc0 | ⟨cb, co, rfl, hlt, hcc⟩
      · omega
      · obtain ⟨x, hx0, hx1, hx⟩ := hcc P hp
        refine (src_n_more b cb co len cap P m z most x w hw hl hp z0 z1 (by omega) hM hx0 hx1 hx).mono ?_
        rintro e w' ⟨r, rfl, r0, r1, hs, hg⟩
        exact ⟨r, rfl, r0, .inl r1, ⟨hs, CodeAt.kept (.inr ⟨cb, co, rfl, hlt, hcc⟩) hg, hl⟩, hg⟩
    · obtain rfl : P = len := by omega
      refine (src_n_end b a P cap m z most w hw hl z0 z1 (by omega) hM).mono ?_
      rintro e w' ⟨r, rfl, r0, r1, hs, hg⟩
      exact ⟨r, rfl, r0, .inl r1, ⟨hs, hc.kept hg, hl⟩, hg⟩

theorem src_one (b : Nat) (a : Option Addr) (len cap : Nat) (most : Int) (w : World) (h : SrcOk w b a len cap) (hM : most ≤ 9223372036854775807) :
    Calls Tryd.prog 28 #[.pointer (some ⟨b, 0, none⟩), .int .i64 most] w fun e w' => ∃ t : Bool, e = .returned (.bool t) ∧ SrcOk w' b a len cap ∧ w.grownBy w' (some b) := by
  go_enter Tryd.func28, Tryd.ntmps28
  go_wp2_with fail
  refine (src_n b a len cap most w h hM).mono ?_
  rintro e w' ⟨r, rfl, r0, r1, hs, hg⟩
  go_wp2
  go_ret
  exact ⟨_, rfl, hs, hg⟩

theorem SrcW.new (w : World) (a : Option Addr) (len cap : Nat) (p m z : Int) : SrcW (w.alloc (.cells #[.slice a len cap, .int .i64 p, .int .u64 m, .int .i64 z] 55)) w.heap.size a len cap p m z := heap_alloc_new w _
theorem SrcW.ok {w w' : World} {a : Option Addr} {len cap : Nat} {m z : Int} (h : SrcW w' w.heap.size a len cap 0 m z) (hc : CodeAt w w.heap.size a len) (hb : Below w.heap.size w w') (hl : len ≤ 1048576) (z0 : 0 ≤ z) (z1 : z ≤ 12) : SrcOk w' w.heap.size a len cap := by
  refine ⟨⟨0, m, z, h, by omega, by omega, z0, z1⟩, ?_, hl⟩
  rcases hc with hc | ⟨cb, co, ha, hlt, hcc⟩
  · exact .inl hc
  · refine .inr ⟨cb, co, ha, hlt, fun i hi => ?_⟩
    obtain ⟨x, h0, h1, hx⟩ := hcc i hi
    exact ⟨x, h0, h1, (hb.cell (p := ⟨cb, co + i, none⟩) hlt).trans hx⟩

set_option maxHeartbeats 1000000 in
theorem l01Source_any (a : Option Addr) (len cap : Nat) (w : World) (hcode : CodeAt w w.heap.size a len) (hl : len ≤ 1048576) :
    Calls Tryd.prog 16 #[.slice a len cap] w fun e w' => e = .returned (.pointer (some ⟨w.heap.size, 0, none⟩)) ∧ SrcOk w' w.heap.size a len cap ∧ Below w.heap.size w w' := by
  go_enter Tryd.func16, Tryd.ntmps16
  go_wp2
  go_loopw [4] (fun i wr => ∃ k : Nat, k ≤ len ∧ k ≤ 64 ∧ i = .int .i64 k ∧ (∃ m, SrcW wr w.heap.size a len cap 0 m 0) ∧ Below w.heap.size w wr) (fun i _ => 64 - (intOf i).toNat)
  case atStart => exact ⟨0, Nat.zero_le _, by omega, rfl, ⟨_, SrcW.new w a len cap 0 _ 0⟩, (Below.refl _ _).alloc (Nat.le_refl _) _⟩
  case round =>
    obtain ⟨k, hk, hk2, rfl, ⟨m, hsw⟩, hbl⟩ := hrel
    obtain ⟨c0, c1, c2, c3, f1, f2, f3⟩ := src_cells hsw
    have HW : Hid (SrcW wr w.heap.size a len cap 0 m 0) := hsw
    clear hsw
    by_cases hlt : k < len
    · by_cases h64 : k < 64
      · rcases hcode with hc0 | ⟨cb, co, rfl, hcb, hcc⟩
        · omega
        · obtain ⟨x, hx0, hx1, hx⟩ := hcc k hlt
          have hxr : wr.cell? ⟨cb, co + k, none⟩ = some (.int .u8 x) := (hbl.cell (p := ⟨cb, co + k, none⟩) hcb).trans hx
          clear hcc hx
          go_wp2
          go_region
          all_goals go_wp2
          all_goals exact ⟨⟨k + 1, by omega, by omega, by go_num, ⟨_, HW.out.set2 _⟩, (hbl.setCell (Nat.le_refl _) _).drew⟩, by simp [intOf]; omega⟩
      · by_cases h12 : 12 < len
        · go_wp2
          go_ret
          exact ⟨rfl, SrcW.ok ((HW.out.set3 _).set3 _) hcode ((hbl.setCell (Nat.le_refl _) _).setCell (Nat.le_refl _) _) hl (by omega) (by omega), (hbl.setCell (Nat.le_refl _) _).setCell (Nat.le_refl _) _⟩
        · omega
    · by_cases h12 : 12 < len
      · go_wp2
        go_ret
        exact ⟨rfl, SrcW.ok ((HW.out.set3 _).set3 _) hcode ((hbl.setCell (Nat.le_refl _) _).setCell (Nat.le_refl _) _) hl (by omega) (by omega), (hbl.setCell (Nat.le_refl _) _).setCell (Nat.le_refl _) _⟩
      · go_wp2
        go_ret
        exact ⟨rfl, SrcW.ok (HW.out.set3 _) hcode (hbl.setCell (Nat.le_refl _) _) hl (by omega) (by omega), hbl.setCell (Nat.le_refl _) _⟩

theorem SrcOk.far {w w' : World} {b : Nat} {a : Option Addr} {len cap : Nat} (h : SrcOk w b a len cap) (hg : w.grownBy w' none) : SrcOk w' b a len cap := by
  have hlt := h.lt
  obtain ⟨⟨p, m, z, hw, hr⟩, hc, hl⟩ := h
  refine ⟨⟨p, m, z, (hg.block b hlt (by simp)).trans hw, hr⟩, ?_, hl⟩
  rcases hc with hc | ⟨cb, co, ha, hlt, hcc⟩
  · exact .inl hc
  · refine .inr ⟨cb, co, ha, hlt, fun i hi => ?_⟩
    obtain ⟨x, h0, h1, hx⟩ := hcc i hi
    exact ⟨x, h0, h1, hg.cell hx (by simp)⟩
theorem ed_cells (w : World) (b : Nat) (cs : Array Value) (t : TypeId) (h : w.heap[b]? = some (.cells cs t (0, 0))) (R : Nat) (v : Value) (hv : cs[R]? = some v) : w.cell? ⟨b, R, none⟩ = some v := (cell_of_row w b R cs t (0, 0) h).trans hv

theorem ungr {u w : World} {r : Option Nat} (h : u.drew.grownBy w r) : u.grownBy w r := ⟨h.os, h.tape, h.output, h.size, h.block⟩
theorem w64_b (x : Int) : -9223372036854775808 ≤ wrap64 x ∧ wrap64 x ≤ 9223372036854775807 := by unfold wrap64; omega
def EDS : Array Value := #[.int .i64 0, .int .i64 1, .int .i64 2, .int .i64 255, .int .i64 256, .int .i64 4095, .int .i64 4096, .int .i64 65535, .int .i64 65536, .int .i64 2147483647, .int .i64 2147483648, .int .i64 4294967295, .int .i64 4294967296, .int .i64 9223372036854775807, .int .i64 (-9223372036854775808)]
theorem eds_at (R : Nat) (h : R < 15) : ∃ n : Int, EDS[R]? = some (.int .i64 n) ∧ -9223372036854775808 ≤ n ∧ n ≤ 9223372036854775807 := by
  have : R = 0 ∨ R = 1 ∨ R = 2 ∨ R = 3 ∨ R = 4 ∨ R = 5 ∨ R = 6 ∨ R = 7 ∨ R = 8 ∨ R = 9 ∨ R = 10 ∨ R = 11 ∨ R = 12 ∨ R = 13 ∨ R = 14 := by omega
  rcases this with rfl | rfl | rfl | rfl | rfl | rfl | rfl | rfl | rfl | rfl | rfl | rfl | rfl | rfl | rfl <;> exact ⟨_, rfl, by decide, by decide⟩


/-- How many have not come up yet. -/
def left (L : Array Bool) : Nat := L.toList.countP (fun b => !b)
theorem left_set {L : Array Bool} {i : Nat} (h : L.getD i true = false) : left (L.setIfInBounds i true) + 1 = left L := by
  have hi : i < L.size := by
    rcases Nat.lt_or_ge i L.size with h' | h'
    · exact h'
    · simp [Array.getD, Nat.not_lt.2 h'] at h
  have hv : L[i] = false := by simpa [Array.getD, hi] using h
  unfold left
  rw [Array.toList_setIfInBounds]
  have e : L.toList = L.toList.take i ++ (false :: L.toList.drop (i + 1)) := by
    have h2 : L.toList[i]'(by simpa using hi) = false := by simpa using hv
    rw [← h2, List.getElem_cons_drop, List.take_append_drop]
  have hl : (L.toList.take i).length = i := by rw [List.length_take]; simp; omega
  have e2 : L.toList.set i true = L.toList.take i ++ (true :: L.toList.drop (i + 1)) := by
    conv => lhs; rw [e]
    rw [List.set_append_right _ _ (by omega), hl, Nat.sub_self, List.set_cons_zero]
  rw [e2]
  conv => rhs; rw [e]
  simp [List.countP_append]
  omega
theorem ready_of_left {md : Region.Mode} {ops : Array Oper} {L : Array Bool} (h : left L = 0) : Region.ready md ops L = [] := by
  rw [List.eq_nil_iff_forall_not_mem]
  intro i hi
  have h1 := (mem_ready.1 hi).1
  have := left_set h1
  omega
/-- A region by what holds whichever operations have come up. -/
theorem wpAny_inv {P : Program} {md : Region.Mode} {ops : Array Oper} {Q : Exit → Act → World → Prop} (I : Array Bool → Act → World → Prop)
    (hs : ∀ L a w i, I L a w → i ∈ Region.ready md ops L → wpOp P ops Q i (fun a' w' => I (L.setIfInBounds i true) a' w') a w)
    (hd : ∀ L a w, I L a w → Region.ready md ops L = [] → Q .normal a w) : ∀ (fuel : Nat) (L : Array Bool) (a : Act) (w : World), left L ≤ fuel → I L a w → wpAny P md ops Q fuel L a w
  | 0, L, a, w, hl, hI => by
    have h0 := ready_of_left (md := md) (ops := ops) (Nat.le_zero.1 hl)
    exact ⟨h0, hd L a w hI h0⟩
  | fuel + 1, L, a, w, hl, hI => by
    refine ⟨hd L a w hI, fun i hi => wpOp_mono (fun a' w' h => wpAny_inv I hs hd fuel _ a' w' ?_ h) (hs L a w i hI hi)⟩
    have := left_set (mem_ready.1 hi).1
    omega

def early (ops : Array Oper) : Bool := (List.range ops.size).all fun i => match ops[i]? with | some o => o.after.all (fun e => decide (e.on < i)) | none => true
theorem all_up {md : Region.Mode} {ops : Array Oper} {L : Array Bool} (he : early ops = true) (hL : L.size = ops.size) (h : Region.ready md ops L = []) : ∀ i, i < ops.size → L.getD i false = true := by
  intro i
  induction i using Nat.strongRecOn with
  | ind i ih =>
    intro hi
    apply Classical.byContradiction
    intro hn
    have hf : L.getD i true = false := by
      have hi2 : i < L.size := by omega
      simp only [Array.getD, hi2, dite_true] at hn ⊢
      simpa using hn
    have hm : i ∈ Region.ready md ops L := mem_ready.2 ⟨hf, ops[i], Array.getElem?_eq_getElem hi, fun e hee _ => by
      have h1 := List.all_eq_true.1 he i (List.mem_range.2 hi)
      rw [Array.getElem?_eq_getElem hi] at h1
      simp only [Array.all_eq_true] at h1
      obtain ⟨j, hj, rfl⟩ := Array.getElem_of_mem hee
      have h2 := of_decide_eq_true (h1 j hj)
      exact ih _ h2 (by omega)⟩
    rw [h] at hm
    exact (List.not_mem_nil hm).elim
def KSrc (b : Nat) (v : Value) : Prop := v = .pointer (some ⟨b, 0, none⟩)
def KNum (lo hi : Int) (v : Value) : Prop := ∃ y : Int, v = .int .i64 y ∧ lo ≤ y ∧ y ≤ hi
def KLit (B : Nat) (C : List Int) (v : Value) (u : World) : Prop := ∃ p, v = .slice (some ⟨p, 0, none⟩) C.length C.length ∧ B ≤ p ∧ u.heap[p]? = some (.cells (C.map (Value.int .i64)).toArray 2 (0, 0))
def KPtr (B : Nat) (C : List Int) (v : Value) (u : World) : Prop := ∃ p r : Nat, v = .pointer (some ⟨p, r, none⟩) ∧ r < C.length ∧ B ≤ p ∧ u.heap[p]? = some (.cells (C.map (Value.int .i64)).toArray 2 (0, 0))
theorem KLit.grow {B b : Nat} {C : List Int} {v : Value} {u u' : World} (h : KLit B C v u) (hb : b < B) (hg : u.grownBy u' (some b)) : KLit B C v u' := by
  obtain ⟨p, h1, h2, h3⟩ := h
  exact ⟨p, h1, h2, (hg.block p (Array.getElem?_eq_some_iff.1 h3).1 (by simp; omega)).trans h3⟩
theorem KPtr.grow {B b : Nat} {C : List Int} {v : Value} {u u' : World} (h : KPtr B C v u) (hb : b < B) (hg : u.grownBy u' (some b)) : KPtr B C v u' := by
  obtain ⟨p, r, h1, h0, h2, h3⟩ := h
  exact ⟨p, r, h1, h0, h2, (hg.block p (Array.getElem?_eq_some_iff.1 h3).1 (by simp; omega)).trans h3⟩
theorem lit_cell {u : World} {p r : Nat} {C : List Int} {t : TypeId} (h : u.heap[p]? = some (.cells (C.map (Value.int .i64)).toArray t (0, 0))) (hr : r < C.length) : u.cell? ⟨p, r, none⟩ = some (.int .i64 C[r]) := by
  simp [World.cell?, h, List.getElem?_map, List.getElem?_eq_getElem hr]
/-- All of a list of numbers are within bounds. -/
def inB (lo hi : Int) (C : List Int) : Prop := ∀ x ∈ C, lo ≤ x ∧ x ≤ hi
theorem inB.at {lo hi : Int} {C : List Int} (h : inB lo hi C) {r : Nat} (hr : r < C.length) : lo ≤ C[r] ∧ C[r] ≤ hi := h _ (List.getElem_mem hr)
theorem gAl {u : World} {b : Nat} {o : Obj} : u.grownBy (u.alloc o) (some b) := World.grownBy_alloc u o _
end Go.Proofs.YtkicaihfknfgkaaDoor
