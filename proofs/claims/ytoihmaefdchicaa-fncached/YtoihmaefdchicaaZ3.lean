import Derived.Test.YtoihmaefdchicaaRows
import Derived.Test.YtoihmaefdchicaaZ1
import Derived.WalkLawsBesides
import Derived.Deep.QuietTactic
import Derived.BigQuiet
import Derived.BigRegion
import Derived.Laws.Rows
import Derived.Lib.BufferOwn
import Derived.Laws.BitsAllLaws
import Derived.Deep.RegionWith
import Derived.Test.YtoihmaefdchicaaZ2
import Derived.Test.YtoihmaefdchicaaPMem4
import Derived.OwnWalk
import Derived.Laws.OwnMore
import Derived.RegionTactic
import Derived.Laws.AppendOwn
import Derived.Deep.RegionHeld3
import Derived.Laws.MakeOwn
import Derived.Deep.Slices
namespace Go.Proofs.Ytoihmaefdchicaa
open Go.ChangeShapes Go.WideShapes Go.ChangeAt Go.RowKit

def srcCells (a : Option Addr) (len cap : Nat) (p m z : Int) : Array Value := #[.slice a len cap, .int .i64 p, .int .u64 m, .int .i64 z]

def SrcAt (w : World) (b : Nat) (a : Option Addr) (len cap : Nat) : Prop :=
  ∃ p m z : Int, w.heap[b]? = some (.cells (srcCells a len cap p m z) 112 (0, 0)) ∧ 0 ≤ p ∧ p ≤ len ∧ 0 ≤ z ∧ z ≤ 12

def CodeAt (w : World) (B : Nat) (a : Option Addr) (len : Nat) : Prop :=
  len = 0 ∨ ∃ cb co, a = some ⟨cb, co, none⟩ ∧ cb < B ∧ ∀ i, i < len → ∃ x : Int, 0 ≤ x ∧ x ≤ 255 ∧ w.cell? ⟨cb, co + i, none⟩ = some (.int .u8 x)

theorem src_cells {w : World} {b : Nat} {a : Option Addr} {len cap : Nat} {p m z : Int} (h : w.heap[b]? = some (.cells (srcCells a len cap p m z) 112 (0, 0))) :
    w.cell? ⟨b, 0, none⟩ = some (.slice a len cap) ∧ w.cell? ⟨b, 1, none⟩ = some (.int .i64 p) ∧ w.cell? ⟨b, 2, none⟩ = some (.int .u64 m) ∧ w.cell? ⟨b, 3, none⟩ = some (.int .i64 z) ∧
    w.frozen? ⟨b, 1, none⟩ = false ∧ w.frozen? ⟨b, 2, none⟩ = false ∧ w.frozen? ⟨b, 3, none⟩ = false :=
  ⟨cell_of_row w b 0 _ _ _ h, cell_of_row w b 1 _ _ _ h, cell_of_row w b 2 _ _ _ h, cell_of_row w b 3 _ _ _ h, frozen_of_row w b 1 _ _ h, frozen_of_row w b 2 _ _ h, frozen_of_row w b 3 _ _ h⟩

def SrcW (w : World) (b : Nat) (a : Option Addr) (len cap : Nat) (p m z : Int) : Prop := w.heap[b]? = some (.cells (srcCells a len cap p m z) 112 (0, 0))
theorem SrcW.set1 {w : World} {b : Nat} {a : Option Addr} {len cap : Nat} {p m z : Int} (h : SrcW w b a len cap p m z) (p' : Int) : SrcW (w.setCell ⟨b, 1, none⟩ (.int .i64 p')) b a len cap p' m z :=
  (heap_setCell_same w b 1 _ _ _ h).trans rfl
theorem SrcW.set2 {w : World} {b : Nat} {a : Option Addr} {len cap : Nat} {p m z : Int} (h : SrcW w b a len cap p m z) (m' : Int) : SrcW (w.setCell ⟨b, 2, none⟩ (.int .u64 m')) b a len cap p m' z :=
  (heap_setCell_same w b 2 _ _ _ h).trans rfl
theorem SrcW.set3 {w : World} {b : Nat} {a : Option Addr} {len cap : Nat} {p m z : Int} (h : SrcW w b a len cap p m z) (z' : Int) : SrcW (w.setCell ⟨b, 3, none⟩ (.int .i64 z')) b a len cap p m z' :=
  (heap_setCell_same w b 3 _ _ _ h).trans rfl
theorem SrcW.drewN {w : World} {b : Nat} {a : Option Addr} {len cap : Nat} {p m z : Int} (h : SrcW w b a len cap p m z) (q : Nat) : SrcW (w.drewN q) b a len cap p m z := h
theorem SrcW.cell2 {w : World} {b : Nat} {a : Option Addr} {len cap : Nat} {p m z : Int} (h : SrcW w b a len cap p m z) : w.cell? ⟨b, 2, none⟩ = some (.int .u64 m) := cell_of_row w b 2 _ _ _ h

theorem gset {u w : World} {b : Nat} (h : u.grownBy w (some b)) (i : Nat) (v : Value) : u.grownBy (w.setCell ⟨b, i, none⟩ v) (some b) := Lib.grownBy_setB h i v
theorem gdn {u w : World} {r : Option Nat} (h : u.grownBy w r) (q : Nat) : u.grownBy (w.drewN q) r := ⟨h.os, h.tape, h.output, h.size, h.block⟩

theorem gdr {u w : World} {r : Option Nat} (h : u.grownBy w r) : u.grownBy w.drew r := ⟨h.os, h.tape, h.output, h.size, h.block⟩
theorem rn (X most : Int) (hm : 1 < most) (hM : most ≤ 9223372036854775807) : 0 ≤ wrap64 ((IntKind.u64.wrap X).tmod most) ∧ wrap64 ((IntKind.u64.wrap X).tmod most) < most := by
  have h0 : 0 ≤ IntKind.u64.wrap X := by rw [IntKind.wrap_u64]; omega
  rw [Int.tmod_eq_emod_of_nonneg h0]
  have h1 := Int.emod_nonneg (IntKind.u64.wrap X) (by omega : most ≠ 0)
  have h2 := Int.emod_lt_of_pos (IntKind.u64.wrap X) (by omega : 0 < most)
  unfold wrap64
  omega

set_option maxHeartbeats 2000000 in
theorem src_n_end (b : Nat) (a : Option Addr) (len cap : Nat) (m z most : Int) (w : World) (h : SrcW w b a len cap len m z) (hl : len ≤ 1048576)
    (hz0 : 0 ≤ z) (hz1 : z ≤ 12) (hm : 1 < most) (hM : most ≤ 9223372036854775807) :
    Calls Try.prog 29 #[.pointer (some ⟨b, 0, none⟩), .int .i64 most] w fun e w' => ∃ r : Int, e = .returned (.int .i64 r) ∧ 0 ≤ r ∧ r < most ∧ SrcAt w' b a len cap ∧ w.grownBy w' (some b) := by
  obtain ⟨c0, c1, c2, c3, f1, f2, f3⟩ := src_cells h
  have hc : ∀ (q : Nat) (x y v : Int), ((((w.drewN q).setCell ⟨b, 2, none⟩ (.int .u64 x)).setCell ⟨b, 2, none⟩ (.int .u64 y)).setCell ⟨b, 2, none⟩ (.int .u64 v)).cell? ⟨b, 2, none⟩ = some (.int .u64 v) := fun q x y v => ((((h.drewN q).set2 x).set2 y).set2 v).cell2
  have HW : Hid (SrcW w b a len cap len m z) := h
  clear h
  go_enter Try.func29, Try.ntmps29
  go_wp2
  go_quiet (fail)
  go_wp2
  go_region
  all_goals go_wp2
  all_goals go_region
  all_goals go_wp2
  all_goals go_region
  all_goals go_wp2
  all_goals
    go_ret
    exact ⟨_, rfl, (rn _ _ hm hM).1, (rn _ _ hm hM).2, ⟨_, _, _, (((HW.out.drewN _).set2 _).set2 _).set2 _, by omega, by omega, hz0, hz1⟩, gdr (gdr (gset (gset (gset (gdn (World.grownBy.refl _ _) _) 2 _) 2 _) 2 _))⟩

set_option maxHeartbeats 2000000 in
theorem src_n_more (b : Nat) (cb co : Nat) (len cap p : Nat) (m z most x : Int) (w : World) (h : SrcW w b (some ⟨cb, co, none⟩) len cap p m z) (hl : len ≤ 1048576) (hp : p < len)
    (hz0 : 0 ≤ z) (hz1 : z ≤ 12) (hm : 1 < most) (hM : most ≤ 9223372036854775807) (hx0 : 0 ≤ x) (hx1 : x ≤ 255) (hx : w.cell? ⟨cb, co + p, none⟩ = some (.int .u8 x)) :
    Calls Try.prog 29 #[.pointer (some ⟨b, 0, none⟩), .int .i64 most] w fun e w' => ∃ r : Int, e = .returned (.int .i64 r) ∧ 0 ≤ r ∧ r < most ∧ SrcAt w' b (some ⟨cb, co, none⟩) len cap ∧ w.grownBy w' (some b) := by
  obtain ⟨c0, c1, c2, c3, f1, f2, f3⟩ := src_cells h
  have hc : ∀ (q : Nat) (t x y v : Int), (((((w.drewN q).setCell ⟨b, 1, none⟩ (.int .i64 t)).setCell ⟨b, 2, none⟩ (.int .u64 x)).setCell ⟨b, 2, none⟩ (.int .u64 y)).setCell ⟨b, 2, none⟩ (.int .u64 v)).cell? ⟨b, 2, none⟩ = some (.int .u64 v) := fun q t x y v => (((((h.drewN q).set1 t).set2 x).set2 y).set2 v).cell2
  have hc2 : ∀ (q : Nat) (t x y : Int), ((((w.drewN q).setCell ⟨b, 1, none⟩ (.int .i64 t)).setCell ⟨b, 2, none⟩ (.int .u64 x)).setCell ⟨b, 2, none⟩ (.int .u64 y)).cell? ⟨b, 2, none⟩ = some (.int .u64 y) := fun q t x y => ((((h.drewN q).set1 t).set2 x).set2 y).cell2
  have hc1 : ∀ (q : Nat) (t x : Int), (((w.drewN q).setCell ⟨b, 1, none⟩ (.int .i64 t)).setCell ⟨b, 2, none⟩ (.int .u64 x)).cell? ⟨b, 2, none⟩ = some (.int .u64 x) := fun q t x => (((h.drewN q).set1 t).set2 x).cell2
  have HW : Hid (SrcW w b (some ⟨cb, co, none⟩) len cap p m z) := h
  clear h
  go_enter Try.func29, Try.ntmps29
  go_wp2
  go_quiet (fail)
  go_wp2
  go_quiet (fail)
  go_wp2
  go_region
  all_goals go_wp2
  all_goals go_region
  all_goals go_wp2
  all_goals go_region
  all_goals go_wp2
  all_goals
    go_ret
    exact ⟨_, rfl, (rn _ _ hm hM).1, (rn _ _ hm hM).2, ⟨_, _, _, ((((HW.out.drewN _).set1 _).set2 _).set2 _).set2 _, by omega, by omega, hz0, hz1⟩, gdr (gdr (gdr (gset (gset (gset (gset (gdn (World.grownBy.refl _ _) _) 1 _) 2 _) 2 _) 2 _)))⟩

theorem src_n_one (p : Addr) (most : Int) (w : World) (hm : most ≤ 1) :
    Calls Try.prog 29 #[.pointer (some p), .int .i64 most] w fun e w' => e = .returned (.int .i64 0) ∧ w' = w := by
  go_enter Try.func29, Try.ntmps29
  go_wp2
  go_ret
  exact ⟨rfl, rfl⟩

/-- A source that lies in block b and draws from a row of bytes below b. -/
def SrcOk (w : World) (b : Nat) (a : Option Addr) (len cap : Nat) : Prop := SrcAt w b a len cap ∧ CodeAt w b a len ∧ len ≤ 1048576
theorem SrcOk.lt {w : World} {b : Nat} {a : Option Addr} {len cap : Nat} (h : SrcOk w b a len cap) : b < w.heap.size := by
  obtain ⟨⟨p, m, z, hb, _⟩, _⟩ := h
  rcases Nat.lt_or_ge b w.heap.size with h | h
  · exact h
  · rw [Array.getElem?_eq_none h] at hb; cases hb
theorem CodeAt.kept {w w' : World} {b : Nat} {a : Option Addr} {len : Nat} (h : CodeAt w b a len) (hg : w.grownBy w' (some b)) : CodeAt w' b a len := by
  rcases h with h | ⟨cb, co, ha, hlt, hc⟩
  · exact .inl h
  · refine .inr ⟨cb, co, ha, hlt, fun i hi => ?_⟩
    obtain ⟨x, h0, h1, hx⟩ := hc i hi
    exact ⟨x, h0, h1, hg.cell hx (by simp; omega)⟩

theorem src_n (b : Nat) (a : Option Addr) (len cap : Nat) (most : Int) (w : World) (h : SrcOk w b a len cap) (hM : most ≤ 9223372036854775807) :
    Calls Try.prog 29 #[.pointer (some ⟨b, 0, none⟩), .int .i64 most] w fun e w' => ∃ r : Int, e = .returned (.int .i64 r) ∧ 0 ≤ r ∧ (r < most ∨ r = 0) ∧ SrcOk w' b a len cap ∧ w.grownBy w' (some b) := by
  have h' := h
  obtain ⟨⟨p, m, z, hw, p0, p1, z0, z1⟩, hc, hl⟩ := h
  by_cases hm : most ≤ 1
  · refine (src_n_one _ most w hm).mono ?_
    rintro e w' ⟨rfl, rfl⟩
    exact ⟨0, rfl, by omega, .inr rfl, h', World.grownBy.refl _ _⟩
  · obtain ⟨P, rfl⟩ := Int.eq_ofNat_of_zero_le p0
    by_cases hp : P < len
    · rcases hc with hc0 | ⟨cb, co, rfl, hlt, hcc⟩
      · omega
      · obtain ⟨x, hx0, hx1, hx⟩ := hcc P hp
        refine (src_n_more b cb co len cap P m z most x w hw hl hp z0 z1 (by omega) hM hx0 hx1 hx).mono ?_
        rintro e w' ⟨r, rfl, r0, r1, hs, hg⟩
        exact ⟨r, rfl, r0, .inl r1, ⟨hs, CodeAt.kept (.inr ⟨cb, co, rfl, hlt, hcc⟩) hg, hl⟩, hg⟩
    · obtain rfl : P = len := by omega
      refine (src_n_end b a P cap m z most w hw hl z0 z1 (by omega) hM).mono ?_
      rintro e w' ⟨r, rfl, r0, r1, hs, hg⟩
      exact ⟨r, rfl, r0, .inl r1, ⟨hs, hc.kept hg, hl⟩, hg⟩

theorem src_one (b : Nat) (a : Option Addr) (len cap : Nat) (most : Int) (w : World) (h : SrcOk w b a len cap) (hM : most ≤ 9223372036854775807) :
    Calls Try.prog 26 #[.pointer (some ⟨b, 0, none⟩), .int .i64 most] w fun e w' => ∃ t : Bool, e = .returned (.bool t) ∧ SrcOk w' b a len cap ∧ w.grownBy w' (some b) := by
  go_enter Try.func26, Try.ntmps26
  go_wp2_with fail
  refine (src_n b a len cap most w h hM).mono ?_
  rintro e w' ⟨r, rfl, r0, r1, hs, hg⟩
  go_wp2
  go_ret
  exact ⟨_, rfl, hs, hg⟩

theorem SrcW.new (w : World) (a : Option Addr) (len cap : Nat) (p m z : Int) : SrcW (w.alloc (.cells #[.slice a len cap, .int .i64 p, .int .u64 m, .int .i64 z] 112)) w.heap.size a len cap p m z := heap_alloc_new w _
theorem SrcW.ok {w w' : World} {a : Option Addr} {len cap : Nat} {m z : Int} (h : SrcW w' w.heap.size a len cap 0 m z) (hc : CodeAt w w.heap.size a len) (hb : Below w.heap.size w w') (hl : len ≤ 1048576) (z0 : 0 ≤ z) (z1 : z ≤ 12) : SrcOk w' w.heap.size a len cap := by
  refine ⟨⟨0, m, z, h, by omega, by omega, z0, z1⟩, ?_, hl⟩
  rcases hc with hc | ⟨cb, co, ha, hlt, hcc⟩
  · exact .inl hc
  · refine .inr ⟨cb, co, ha, hlt, fun i hi => ?_⟩
    obtain ⟨x, h0, h1, hx⟩ := hcc i hi
    exact ⟨x, h0, h1, (hb.cell (p := ⟨cb, co + i, none⟩) hlt).trans hx⟩

set_option maxHeartbeats 1000000 in
theorem l01Source_any (a : Option Addr) (len cap : Nat) (w : World) (hcode : CodeAt w w.heap.size a len) (hl : len ≤ 1048576) :
    Calls Try.prog 24 #[.slice a len cap] w fun e w' => e = .returned (.pointer (some ⟨w.heap.size, 0, none⟩)) ∧ SrcOk w' w.heap.size a len cap ∧ Below w.heap.size w w' := by
  go_enter Try.func24, Try.ntmps24
  go_wp2
  go_loopw [4] (fun i wr => ∃ k : Nat, k ≤ len ∧ k ≤ 64 ∧ i = .int .i64 k ∧ (∃ m, SrcW wr w.heap.size a len cap 0 m 0) ∧ Below w.heap.size w wr) (fun i _ => 64 - (intOf i).toNat)
  case atStart => exact ⟨0, Nat.zero_le _, by omega, rfl, ⟨_, SrcW.new w a len cap 0 _ 0⟩, (Below.refl _ _).alloc (Nat.le_refl _) _⟩
  case round =>
    obtain ⟨k, hk, hk2, rfl, ⟨m, hsw⟩, hbl⟩ := hrel
    obtain ⟨c0, c1, c2, c3, f1, f2, f3⟩ := src_cells hsw
    have HW : Hid (SrcW wr w.heap.size a len cap 0 m 0) := hsw
    clear hsw
    by_cases hlt : k < len
    · by_cases h64 : k < 64
      · rcases hcode with hc0 | ⟨cb, co, rfl, hcb, hcc⟩
        · omega
        · obtain ⟨x, hx0, hx1, hx⟩ := hcc k hlt
          have hxr : wr.cell? ⟨cb, co + k, none⟩ = some (.int .u8 x) := (hbl.cell (p := ⟨cb, co + k, none⟩) hcb).trans hx
          clear hcc hx
          go_wp2
          go_region
          all_goals go_wp2
          all_goals exact ⟨⟨k + 1, by omega, by omega, by go_num, ⟨_, HW.out.set2 _⟩, (hbl.setCell (Nat.le_refl _) _).drew⟩, by simp [intOf]; omega⟩
      · by_cases h12 : 12 < len
        · go_wp2
          go_ret
          exact ⟨rfl, SrcW.ok ((HW.out.set3 _).set3 _) hcode ((hbl.setCell (Nat.le_refl _) _).setCell (Nat.le_refl _) _) hl (by omega) (by omega), (hbl.setCell (Nat.le_refl _) _).setCell (Nat.le_refl _) _⟩
        · omega
    · by_cases h12 : 12 < len
      · go_wp2
        go_ret
        exact ⟨rfl, SrcW.ok ((HW.out.set3 _).set3 _) hcode ((hbl.setCell (Nat.le_refl _) _).setCell (Nat.le_refl _) _) hl (by omega) (by omega), (hbl.setCell (Nat.le_refl _) _).setCell (Nat.le_refl _) _⟩
      · go_wp2
        go_ret
        exact ⟨rfl, SrcW.ok (HW.out.set3 _) hcode (hbl.setCell (Nat.le_refl _) _) hl (by omega) (by omega), hbl.setCell (Nat.le_refl _) _⟩

theorem SrcOk.far {w w' : World} {b : Nat} {a : Option Addr} {len cap : Nat} (h : SrcOk w b a len cap) (hg : w.grownBy w' none) : SrcOk w' b a len cap := by
  have hlt := h.lt
  obtain ⟨⟨p, m, z, hw, hr⟩, hc, hl⟩ := h
  refine ⟨⟨p, m, z, (hg.block b hlt (by simp)).trans hw, hr⟩, ?_, hl⟩
  rcases hc with hc | ⟨cb, co, ha, hlt, hcc⟩
  · exact .inl hc
  · refine .inr ⟨cb, co, ha, hlt, fun i hi => ?_⟩
    obtain ⟨x, h0, h1, hx⟩ := hcc i hi
    exact ⟨x, h0, h1, hg.cell hx (by simp)⟩
theorem ed_cells (w : World) (b : Nat) (cs : Array Value) (t : TypeId) (h : w.heap[b]? = some (.cells cs t (0, 0))) (R : Nat) (v : Value) (hv : cs[R]? = some v) : w.cell? ⟨b, R, none⟩ = some v := (cell_of_row w b R cs t (0, 0) h).trans hv

theorem ungr {u w : World} {r : Option Nat} (h : u.drew.grownBy w r) : u.grownBy w r := ⟨h.os, h.tape, h.output, h.size, h.block⟩

theorem SrcOk.keep {w w' : World} {b : Nat} {a : Option Addr} {len cap : Nat} (h : SrcOk w b a len cap) (hk : ∀ i, i ≤ b → w'.heap[i]? = w.heap[i]?) : SrcOk w' b a len cap := by
  obtain ⟨⟨p, m, z, hw, hr⟩, hc, hl⟩ := h
  refine ⟨⟨p, m, z, (hk b (Nat.le_refl _)).trans hw, hr⟩, ?_, hl⟩
  rcases hc with hc | ⟨cb, co, ha, hlt, hcc⟩
  · exact .inl hc
  · refine .inr ⟨cb, co, ha, hlt, fun i hi => ?_⟩
    obtain ⟨x, h0, h1, hx⟩ := hcc i hi
    exact ⟨x, h0, h1, (World.cell?_of_block (a := ⟨cb, co + i, none⟩) (hk cb (Nat.le_of_lt hlt))).trans hx⟩
theorem gfar {u w w' : World} {b : Nat} {row : Option Nat} (h : u.grownBy w (some b)) (hg : w.grownBy w' row) (hr : ∀ k, row = some k → u.heap.size ≤ k) : u.grownBy w' (some b) :=
  ⟨hg.os.trans h.os, hg.tape.trans h.tape, hg.output.trans h.output, Nat.le_trans h.size hg.size, fun k hk hne =>
    (hg.block k (Nat.lt_of_lt_of_le hk h.size) (fun e => by have := hr k e.symm; omega)).trans (h.block k hk hne)⟩
theorem gnone {u w w' : World} {b : Nat} (h : u.grownBy w (some b)) (hg : w.grownBy w' none) : u.grownBy w' (some b) := gfar h hg (fun k hk => by cases hk)
theorem gbel {u w w' : World} {b : Nat} (h : u.grownBy w (some b)) (hb : Below w.heap.size w w') : u.grownBy w' (some b) := gnone h ⟨hb.os, hb.tape, hb.output, hb.size, fun k hk _ => hb.block k hk⟩
theorem SrcOk.bel {w w' : World} {b : Nat} {a : Option Addr} {len cap : Nat} (h : SrcOk w b a len cap) (hb : Below w.heap.size w w') : SrcOk w' b a len cap := h.far ⟨hb.os, hb.tape, hb.output, hb.size, fun k hk _ => hb.block k hk⟩
theorem mcel_setE (s : ByteArray) (j : Nat) (x : Int) (h0 : 0 ≤ x) (h1 : x < 256) : ∃ s' : ByteArray, (mcel s).setIfInBounds j (.int .u8 x) = mcel s' ∧ s'.size = s.size := by
  refine ⟨⟨(s.data.toList.set j (UInt8.ofNat x.toNat)).toArray⟩, ?_, ?_⟩
  · have e : (((UInt8.ofNat x.toNat).toNat : Nat) : Int) = x := by rw [UInt8.toNat_ofNat']; omega
    unfold mcel cells8
    simp only [List.setIfInBounds_toArray, List.map_set, e]
  · show ((s.data.toList.set j (UInt8.ofNat x.toNat)).toArray).size = s.data.size
    simp
theorem zB_any (m : Nat) : ∃ s : ByteArray, (zrs m).toArray = mcel s ∧ s.size = m := by
  refine ⟨⟨(List.replicate m (0 : UInt8)).toArray⟩, ?_, ?_⟩
  · unfold mcel cells8 zrs
    simp
  · show ((List.replicate m (0 : UInt8)).toArray).size = m
    simp
set_option maxRecDepth 100000 in
set_option maxHeartbeats 2000000 in
theorem src_frames (b : Nat) (a : Option Addr) (len cap : Nat) (n : Nat) (w : World) (h : SrcOk w b a len cap) (hn0 : 1 ≤ n) (hn : n ≤ 40) :
    Calls Try.prog 75 #[.pointer (some ⟨b, 0, none⟩), .int .i64 n] w fun e w' => ∃ s : ByteArray, e = .returned (.string s) ∧ s.size = n * 256 ∧ SrcOk w' b a len cap ∧ w.grownBy w' (some b) := by
  have hlt := h.lt
  have hmk := mkBytes w (n * 256) (by omega)
  rw [show ((n * 256 : Nat) : Int) = (n : Int) * 256 from by omega] at hmk
  obtain ⟨s0, hs0, hz0⟩ := zB_any (n * 256)
  rw [hs0] at hmk
  have HS : Hid (SrcOk (w.alloc (.cells (mcel s0) 5)) b a len cap) := h.far (World.grownBy_alloc w _ none)
  have HG : Hid (w.grownBy (w.alloc (.cells (mcel s0) 5)) (some b)) := World.grownBy_alloc w _ _
  have HB : Hid ((w.alloc (.cells (mcel s0) 5)).heap[w.heap.size]? = some (.cells (mcel s0) 5 (0, 0))) := (MapKept.heap_alloc w _).1
  have HZ : Hid (s0.size = n * 256) := hz0
  clear h hs0 hz0
  go_enter Try.func75, Try.ntmps75
  go_wp2_with fail
  generalize w.alloc (.cells (mcel s0) 5) = W at *
  refine (src_n b a len cap 6 W HS.out (by omega)).mono ?_
  rintro e w1 ⟨r, rfl, r0, r1, hs1, hg1⟩
  have HS1 : Hid (SrcOk w1 b a len cap) := hs1
  have HG1 : Hid (w.grownBy w1 (some b)) := Lib.grownBy_trans HG.out hg1
  have HB1 : Hid (w1.heap[w.heap.size]? = some (.cells (mcel s0) 5 (0, 0))) := (hg1.block _ (Array.getElem?_eq_some_iff.1 HB.out).1 (by simp; omega)).trans HB.out
  clear hs1 hg1 HS HG HB hmk
  go_wp2
  go_loopw [6] (fun i wr => ∃ (k : Nat) (s : ByteArray), k ≤ 6 ∧ i = .int .i64 k ∧ s.size = n * 256 ∧ wr.heap[w.heap.size]? = some (.cells (mcel s) 5 (0, 0)) ∧ SrcOk wr b a len cap ∧ w.grownBy wr (some b)) (fun i _ => (intOf i).toNat)
  case atStart => exact ⟨r.toNat, s0, by omega, by rw [Int.toNat_of_nonneg r0], HZ.out, HB1.out, HS1.out, HG1.out⟩
  case round =>
    clear HS1 HG1 HB1 HZ
    obtain ⟨k, s, hk, rfl, hs, hb, hsr, hgr⟩ := hrel
    have HSZ : Hid (s.size = n * 256) := hs
    by_cases hk0 : k = 0
    · subst hk0
      have hcv := conv_own wr _ _ _ _ (own_block hb (by omega))
      rw [hs] at hcv
      have HQ : Hid (SrcOk wr b a len cap ∧ w.grownBy wr (some b)) := ⟨hsr, hgr⟩
      clear hsr hgr hb hs
      go_wp2
      go_ret
      exact ⟨_, rfl, by show s.data.toList.toArray.size = n * 256; rw [← HSZ.out]; simp, HQ.out.1, HQ.out.2⟩
    · have HSR : Hid (SrcOk wr b a len cap) := hsr
      have HGR : Hid (w.grownBy wr (some b)) := hgr
      have HBB : Hid (wr.heap[w.heap.size]? = some (.cells (mcel s) 5 (0, 0))) := hb
      have k1 : (0 : Int) < (k : Int) := by omega
      clear hsr hgr hb hs
      go_wp2_with fail
      refine (src_n b a len cap ((n : Int) * 256) wr HSR.out (by omega)).mono ?_
      rintro e w2 ⟨q, rfl, q0, q1, hs2, hg2⟩
      obtain ⟨Q, rfl⟩ := Int.eq_ofNat_of_zero_le q0
      have hQ : Q < n * 256 := by omega
      clear q0 q1
      go_wp2_with fail
      refine (src_n b a len cap 256 w2 hs2 (by omega)).mono ?_
      rintro e w3 ⟨x, rfl, x0, x1, hs3, hg3⟩
      have x2 : x < 256 := by omega
      have hb3 : w3.heap[w.heap.size]? = some (.cells (mcel s) 5 (0, 0)) := (hg3.block _ (Nat.lt_of_lt_of_le (Array.getElem?_eq_some_iff.1 HBB.out).1 hg2.size) (by simp; omega)).trans ((hg2.block _ (Array.getElem?_eq_some_iff.1 HBB.out).1 (by simp; omega)).trans HBB.out)
      obtain ⟨s', hs', hz'⟩ := mcel_setE s Q x x0 x2
      have hsame := heap_setCell_same w3 w.heap.size Q _ _ (.int .u8 x) hb3
      rw [hs'] at hsame
      have hms : Q < (mcel s).size := by rw [mcel_size, HSZ.out]; exact hQ
      have hcell : ∃ y, w3.cell? ⟨w.heap.size, Q, none⟩ = some y := ⟨(mcel s)[Q], by simp [World.cell?, hb3]⟩
      obtain ⟨y, hy⟩ := hcell
      have hfz : w3.frozen? ⟨w.heap.size, Q, none⟩ = false := by simp [World.frozen?, hb3]
      have HN : Hid ((w3.setCell ⟨w.heap.size, Q, none⟩ (.int .u8 x)).heap[w.heap.size]? = some (.cells (mcel s') 5 (0, 0))) := hsame
      have HZ2 : Hid (s'.size = n * 256) := hz'.trans HSZ.out
      have HG3 : Hid (w.grownBy (w3.setCell ⟨w.heap.size, Q, none⟩ (.int .u8 x)) (some b)) := gfar (Lib.grownBy_trans (Lib.grownBy_trans HGR.out hg2) hg3) (row := some w.heap.size) ⟨rfl, rfl, rfl, by simp [World.setCell], fun j _ hj => Below.heap_setCell _ _ _ _ (fun q => hj (by rw [q]))⟩ (fun j hj => by cases hj; exact Nat.le_refl _)
      have HS3 : Hid (SrcOk (w3.setCell ⟨w.heap.size, Q, none⟩ (.int .u8 x)) b a len cap) := hs3.keep (fun j hj => Below.heap_setCell _ _ _ _ (by simp only; omega))
      have hQ1 : (Q : Int) < (n : Int) * 256 := by omega
      have hQ2 : Q < n * 256 := hQ
      clear hs2 hg2 hs3 hg3 hb3 hs' hz' hsame hms HBB HGR HSR x1
      go_wp2
      refine ⟨⟨k - 1, s', by omega, by go_num, HZ2.out, HN.out, HS3.out, HG3.out⟩, by simp [intOf]; omega⟩

/-- How many have not come up yet. -/
def left (L : Array Bool) : Nat := L.toList.countP (fun b => !b)
theorem left_set {L : Array Bool} {i : Nat} (h : L.getD i true = false) : left (L.setIfInBounds i true) + 1 = left L := by
  have hi : i < L.size := by
    rcases Nat.lt_or_ge i L.size with h' | h'
    · exact h'
    · simp [Array.getD, Nat.not_lt.2 h'] at h
  have hv : L[i] = false := by simpa [Array.getD, hi] using h
  unfold left
  rw [Array.toList_setIfInBounds]
  have e : L.toList = L.toList.take i ++ (false :: L.toList.drop (i + 1)) := by
    have h2 : L.toList[i]'(by simpa using hi) = false := by simpa using hv
    rw [← h2, List.getElem_cons_drop, List.take_append_drop]
  have hl : (L.toList.take i).length = i := by rw [List.length_take]; simp; omega
  have e2 : L.toList.set i true = L.toList.take i ++ (true :: L.toList.drop (i + 1)) := by
    conv => lhs; rw [e]
    rw [List.set_append_right _ _ (by omega), hl, Nat.sub_self, List.set_cons_zero]
  rw [e2]
  conv => rhs; rw [e]
  simp [List.countP_append]
  omega
theorem ready_of_left {md : Region.Mode} {ops : Array Oper} {L : Array Bool} (h : left L = 0) : Region.ready md ops L = [] := by
  rw [List.eq_nil_iff_forall_not_mem]
  intro i hi
  have h1 := (mem_ready.1 hi).1
  have := left_set h1
  omega
/-- A region by what holds whichever operations have come up. -/
theorem wpAny_inv {P : Program} {md : Region.Mode} {ops : Array Oper} {Q : Exit → Act → World → Prop} (I : Array Bool → Act → World → Prop)
    (hs : ∀ L a w i, I L a w → i ∈ Region.ready md ops L → wpOp P ops Q i (fun a' w' => I (L.setIfInBounds i true) a' w') a w)
    (hd : ∀ L a w, I L a w → Region.ready md ops L = [] → Q .normal a w) : ∀ (fuel : Nat) (L : Array Bool) (a : Act) (w : World), left L ≤ fuel → I L a w → wpAny P md ops Q fuel L a w
  | 0, L, a, w, hl, hI => by
    have h0 := ready_of_left (md := md) (ops := ops) (Nat.le_zero.1 hl)
    exact ⟨h0, hd L a w hI h0⟩
  | fuel + 1, L, a, w, hl, hI => by
    refine ⟨hd L a w hI, fun i hi => wpOp_mono (fun a' w' h => wpAny_inv I hs hd fuel _ a' w' ?_ h) (hs L a w i hI hi)⟩
    have := left_set (mem_ready.1 hi).1
    omega

theorem memC_ok {s : ByteArray} (h : memOk s = true) : memC s = 0 := by simp [memC, h]
theorem memC_no {s : ByteArray} (h : memOk s = false) : memC s = 1 := by simp [memC, h]
theorem memOk_b {s : ByteArray} (h : memOk s = true) : s.size ≠ 0 ∧ s.size ≤ 65536 ∧ s.size % 256 = 0 := by simpa [memOk] using h
theorem Try.info2 : (Try.prog.info? 2).map (fun i => (i.zero, i.size, i.bytes)) = some (some (.int .i64 0), 1, 8) := by kernel_rfl
theorem drewN_alloc (w : World) (o : Obj) (n : Nat) : (w.alloc o).drewN n = (w.drewN n).alloc o := rfl
theorem own_below {w w' : World} {B e size n : Nat} {v : Value} {xs : List Value} (h : w.ownsRow B e size v n xs) (hb : Below w.heap.size w w') : w'.ownsRow B e size v n xs :=
  h.kept (row := none) ⟨hb.os, hb.tape, hb.output, hb.size, fun k hk _ => hb.block k hk⟩ (by cases v.ownBlock <;> simp)
theorem own_set {w : World} {B e size n : Nat} {v x : Value} {xs : List Value} {p : Addr} (h : w.ownsRow B e size v n xs) (hp : v.ownBlock ≠ some p.block) : (w.setCell p x).ownsRow B e size v n xs :=
  h.kept (row := some p.block) ⟨rfl, rfl, rfl, by simp [World.setCell], fun k _ hn => Below.heap_setCell _ _ _ _ (fun e => hn (congrArg some e))⟩ (.inr hp)
theorem heap_new (w : World) (o : Obj) : (w.alloc o).heap[w.heap.size]? = some o := (MapKept.heap_alloc w o).1
theorem own_weak1 {w : World} {B B' : Nat} {e : TypeId} {v : Value} {n : Nat} {xs : List Value} (h : w.ownsRow B e 1 v n xs) (hb : B' ≤ B) : w.ownsRow B' e 1 v n xs := by
  obtain ⟨hl, h | ⟨g, cap, cur, hv, hg, h1, h2, h3, h4, h5⟩⟩ := h
  · exact ⟨hl, .inl h⟩
  · exact ⟨hl, .inr ⟨g, cap, cur, hv, Nat.le_trans hb hg, h1, h2, h3, h4, h5⟩⟩

structure PM where
  va : Int
  frame : Int
  flags : Int
  large : Bool
def pmA (m : PM) : Value := .agg #[.int .i64 m.va, .int .i64 m.frame, .int .i64 m.flags, .bool m.large]
def pmC (m : PM) : List Value := [.int .i64 m.va, .int .i64 m.frame, .int .i64 m.flags, .bool m.large]
def pmR (zs : List PM) : List Value := zs.flatMap pmC
theorem pmR_app (xs ys : List PM) : pmR (xs ++ ys) = pmR xs ++ pmR ys := by simp [pmR]
theorem pmR_len (zs : List PM) : (pmR zs).length = zs.length * 4 := by
  induction zs with
  | nil => rfl
  | cons z zs ih =>
    have e : pmR (z :: zs) = pmC z ++ pmR zs := rfl
    rw [e, List.length_append, ih]
    simp [pmC]
    omega
theorem pmR_at (zs : List PM) (k : Nat) (hk : k < zs.length) (j : Nat) (hj : j < 4) : (pmR zs)[k * 4 + j]? = (pmC zs[k])[j]? := by
  induction zs generalizing k with
  | nil => simp at hk
  | cons z zs ih =>
    have e : pmR (z :: zs) = pmC z ++ pmR zs := rfl
    have hl : (pmC z).length = 4 := rfl
    rw [e]
    cases k with
    | zero =>
      rw [List.getElem?_append_left (by omega)]
      simp
    | succ k =>
      rw [List.getElem?_append_right (by omega), hl, show (k + 1) * 4 + j - 4 = k * 4 + j by omega, ih k (by simpa using hk)]
      simp
theorem pm_sl {w : World} {B n : Nat} {v : Value} {xs : List Value} (h : w.ownsRow B 32 4 v n xs) : ∃ ao cap, v = .slice ao n cap := by
  rcases h.2 with ⟨rfl, e⟩ | ⟨g, cap, cur, rfl, _⟩
  · exact ⟨none, 0, by rw [e]⟩
  · exact ⟨_, cap, rfl⟩
theorem pm_below {w w' : World} {B n : Nat} {v : Value} {xs : List Value} (h : w.ownsRow B 32 4 v n xs) (hb : Below w.heap.size w w') : w'.ownsRow B 32 4 v n xs :=
  h.kept (row := none) ⟨hb.os, hb.tape, hb.output, hb.size, fun k hk _ => hb.block k hk⟩ (by cases v.ownBlock <;> simp)
theorem pm_weak {w : World} {B B' : Nat} {v : Value} {n : Nat} {xs : List Value} (h : w.ownsRow B 32 4 v n xs) (hb : B' ≤ B) : w.ownsRow B' 32 4 v n xs := by
  obtain ⟨hl, h | ⟨g, cap, cur, hv, hg, h1, h2, h3, h4, h5⟩⟩ := h
  · exact ⟨hl, .inl h⟩
  · exact ⟨hl, .inr ⟨g, cap, cur, hv, Nat.le_trans hb hg, h1, h2, h3, h4, h5⟩⟩
theorem pm_cast {w : World} {B n n' : Nat} {v : Value} {xs xs' : List Value} (h : w.ownsRow B 32 4 v n xs) (hn : n = n') (hx : xs = xs') : w.ownsRow B 32 4 v n' xs' := by
  subst hn
  subst hx
  exact h
/-- Where a row lies. -/
def PMat (w : World) (g o : Nat) (zs : List PM) : Prop := ∀ (k : Nat) (hk : k < zs.length), w.cell? ⟨g, o + k * 4, none⟩ = some (.int .i64 zs[k].va) ∧ w.cell? ⟨g, o + k * 4 + 1, none⟩ = some (.int .i64 zs[k].frame) ∧ w.cell? ⟨g, o + k * 4 + 2, none⟩ = some (.int .i64 zs[k].flags) ∧ w.cell? ⟨g, o + k * 4 + 3, none⟩ = some (.bool zs[k].large)
/-- A row that may be read. -/
def PMrow (w : World) (v : Value) (zs : List PM) : Prop := (zs = [] ∧ ∃ ao cap, v = .slice ao 0 cap) ∨ ∃ g o cap, v = .slice (some ⟨g, o, none⟩) zs.length cap ∧ zs.length ≤ cap ∧ g < w.heap.size ∧ PMat w g o zs
theorem PMat.below {w w' : World} {g o : Nat} {zs : List PM} (h : PMat w g o zs) {B : Nat} (hb : Below B w w') (hg : g < B) : PMat w' g o zs := by
  intro k hk
  have h2 := h k hk
  have e : ∀ x, w'.cell? ⟨g, x, none⟩ = w.cell? ⟨g, x, none⟩ := fun x => World.cell?_of_block (hb.block g hg)
  simp only [e]
  exact h2
theorem PMrow.below {w w' : World} {v : Value} {zs : List PM} (h : PMrow w v zs) (hb : Below w.heap.size w w') : PMrow w' v zs := by
  rcases h with h | ⟨g, o, cap, hv, hc, hg, ha⟩
  · exact .inl h
  · exact .inr ⟨g, o, cap, hv, hc, Nat.lt_of_lt_of_le hg hb.size, ha.below hb hg⟩
theorem PMrow.sl {w : World} {v : Value} {zs : List PM} (h : PMrow w v zs) : ∃ ao cap, v = .slice ao zs.length cap := by
  rcases h with ⟨rfl, ao, cap, rfl⟩ | ⟨g, o, cap, rfl, _⟩
  · exact ⟨_, _, rfl⟩
  · exact ⟨_, _, rfl⟩
theorem PMrow.of {w : World} {B : Nat} {v : Value} {zs : List PM} (h : w.ownsRow B 32 4 v zs.length (pmR zs)) : PMrow w v zs := by
  rcases h.2 with ⟨rfl, e⟩ | ⟨g, cap, cur, rfl, hB, hg, hc, rest⟩
  · exact .inl ⟨List.length_eq_zero_iff.1 e, _, _, by rfl⟩
  · have h2 : w.ownsRow B 32 4 (.slice (some ⟨g, 0, none⟩) zs.length cap) zs.length (pmR zs) := h
    refine .inr ⟨g, 0, cap, rfl, hc, (Array.getElem?_eq_some_iff.1 hg).1, fun k hk => ?_⟩
    simp only [Nat.zero_add]
    have a0 := h2.cellAt (k * 4 + 0) (by omega)
    have a1 := h2.cellAt (k * 4 + 1) (by omega)
    have a2 := h2.cellAt (k * 4 + 2) (by omega)
    have a3 := h2.cellAt (k * 4 + 3) (by omega)
    rw [pmR_at zs k hk _ (by omega)] at a0 a1 a2 a3
    exact ⟨a0, a1, a2, a3⟩

/-- Each waits for earlier ones alone. -/
def early (ops : Array Oper) : Bool := (List.range ops.size).all fun i => match ops[i]? with | some o => o.after.all (fun e => decide (e.on < i)) | none => true
theorem all_up {md : Region.Mode} {ops : Array Oper} {L : Array Bool} (he : early ops = true) (hL : L.size = ops.size) (h : Region.ready md ops L = []) : ∀ i, i < ops.size → L.getD i false = true := by
  intro i
  induction i using Nat.strongRecOn with
  | ind i ih =>
    intro hi
    apply Classical.byContradiction
    intro hn
    have hf : L.getD i true = false := by
      have hi2 : i < L.size := by omega
      simp only [Array.getD, hi2, dite_true] at hn ⊢
      simpa using hn
    have hm : i ∈ Region.ready md ops L := mem_ready.2 ⟨hf, ops[i], Array.getElem?_eq_getElem hi, fun e hee _ => by
      have h1 := List.all_eq_true.1 he i (List.mem_range.2 hi)
      rw [Array.getElem?_eq_getElem hi] at h1
      simp only [Array.all_eq_true] at h1
      obtain ⟨j, hj, rfl⟩ := Array.getElem_of_mem hee
      have h2 := of_decide_eq_true (h1 j hj)
      exact ih _ h2 (by omega)⟩
    rw [h] at hm
    exact (List.not_mem_nil hm).elim
def KSrc (b : Nat) (v : Value) : Prop := v = .pointer (some ⟨b, 0, none⟩)
def KNum (lo hi : Int) (v : Value) : Prop := ∃ y : Int, v = .int .i64 y ∧ lo ≤ y ∧ y ≤ hi
def KLit (B : Nat) (C : List Int) (v : Value) (u : World) : Prop := ∃ p, v = .slice (some ⟨p, 0, none⟩) C.length C.length ∧ B ≤ p ∧ u.heap[p]? = some (.cells (C.map (Value.int .i64)).toArray 2 (0, 0))
def KPtr (B : Nat) (C : List Int) (v : Value) (u : World) : Prop := ∃ p r : Nat, v = .pointer (some ⟨p, r, none⟩) ∧ r < C.length ∧ B ≤ p ∧ u.heap[p]? = some (.cells (C.map (Value.int .i64)).toArray 2 (0, 0))
theorem KLit.grow {B b : Nat} {C : List Int} {v : Value} {u u' : World} (h : KLit B C v u) (hb : b < B) (hg : u.grownBy u' (some b)) : KLit B C v u' := by
  obtain ⟨p, h1, h2, h3⟩ := h
  exact ⟨p, h1, h2, (hg.block p (Array.getElem?_eq_some_iff.1 h3).1 (by simp; omega)).trans h3⟩
theorem KPtr.grow {B b : Nat} {C : List Int} {v : Value} {u u' : World} (h : KPtr B C v u) (hb : b < B) (hg : u.grownBy u' (some b)) : KPtr B C v u' := by
  obtain ⟨p, r, h1, h0, h2, h3⟩ := h
  exact ⟨p, r, h1, h0, h2, (hg.block p (Array.getElem?_eq_some_iff.1 h3).1 (by simp; omega)).trans h3⟩
theorem lit_cell {u : World} {p r : Nat} {C : List Int} {t : TypeId} (h : u.heap[p]? = some (.cells (C.map (Value.int .i64)).toArray t (0, 0))) (hr : r < C.length) : u.cell? ⟨p, r, none⟩ = some (.int .i64 C[r]) := by
  simp [World.cell?, h, List.getElem?_map, List.getElem?_eq_getElem hr]
/-- All of a list of numbers are within bounds. -/
def inB (lo hi : Int) (C : List Int) : Prop := ∀ x ∈ C, lo ≤ x ∧ x ≤ hi
theorem inB.at {lo hi : Int} {C : List Int} (h : inB lo hi C) {r : Nat} (hr : r < C.length) : lo ≤ C[r] ∧ C[r] ≤ hi := h _ (List.getElem_mem hr)
theorem gAl {u : World} {b : Nat} {o : Obj} : u.grownBy (u.alloc o) (some b) := World.grownBy_alloc u o _

structure VaR (B0 B : Nat) (w : World) (a : Option Addr) (len cap : Nat) (b0 b1 b2 b3 b4 b5 b6 b7 b8 b9 b10 : Bool) (v4 v5 v6 v7 v8 v9 v10 v11 v12 v13 v3 : Value) (u : World) : Prop where
  lt : B0 < B
  le : B ≤ w.heap.size
  src : SrcOk u B0 a len cap
  gr : w.grownBy u (some B0)
  c0 : b0 = true → KLit B [0, 1, 2, 31, 32, 33, 64, 1023, 5, 96] v4 u
  c1 : b1 = true → KSrc B0 v5
  c2 : b2 = true → KNum 0 9 v6
  c3 : b3 = true → KPtr B [0, 1, 2, 31, 32, 33, 64, 1023, 5, 96] v7 u
  c4 : b4 = true → KNum 0 1023 v8
  c5 : b5 = true → KNum 0 261888 v9
  c6 : b6 = true → KSrc B0 v10
  c7 : b7 = true → KNum 0 63 v11
  c8 : b8 = true → KNum 0 252 v12
  c9 : b9 = true → KNum 0 262140 v13
  c10 : b10 = true → KNum 0 262140 v3
set_option maxRecDepth 100000 in
set_option maxHeartbeats 4000000 in
theorem src_va (B0 : Nat) (a : Option Addr) (len cap : Nat) (w : World) (h : SrcOk w B0 a len cap) :
    Calls Try.prog 54 #[.pointer (some ⟨B0, 0, none⟩)] w fun e w' => ∃ y : Int, e = .returned (.int .i64 y) ∧ -1 ≤ y ∧ y ≤ 262144 ∧ SrcOk w' B0 a len cap ∧ w.grownBy w' (some B0) := by
  have hlt := h.lt
  obtain ⟨B, hB⟩ : ∃ B, B = w.heap.size := ⟨_, rfl⟩
  have HS : Hid (SrcOk w.drew B0 a len cap) := h.bel (Below.refl _ _).drew
  clear h
  go_enter Try.func54, Try.ntmps54
  go_wp2_with fail
  refine wp_region_any (by kernel_rfl) ?_
  refine wpAny_inv (fun L a9 u => ∃ (b0 b1 b2 b3 b4 b5 b6 b7 b8 b9 b10 : Bool) (v4 v5 v6 v7 v8 v9 v10 v11 v12 v13 v3 : Value), L = #[b0, b1, b2, b3, b4, b5, b6, b7, b8, b9, b10] ∧ a9 = { tmps := #[.pointer (some ⟨B0, 0, none⟩), undef, .int .i64 0, v3, v4, v5, v6, v7, v8, v9, v10, v11, v12, v13, undef, undef, undef, undef, undef, undef, undef, undef], defers := [] } ∧ VaR B0 B w a len cap b0 b1 b2 b3 b4 b5 b6 b7 b8 b9 b10 v4 v5 v6 v7 v8 v9 v10 v11 v12 v13 v3 u) ?hs ?hd _ _ _ _ (by decide) ?st
  case st => exact ⟨false, false, false, false, false, false, false, false, false, false, false, undef, undef, undef, undef, undef, undef, undef, undef, undef, undef, undef, rfl, rfl, ⟨by omega, by omega, HS.out, ⟨rfl, rfl, rfl, Nat.le_refl _, fun _ _ _ => rfl⟩, (fun e => by cases e), (fun e => by cases e), (fun e => by cases e), (fun e => by cases e), (fun e => by cases e), (fun e => by cases e), (fun e => by cases e), (fun e => by cases e), (fun e => by cases e), (fun e => by cases e), (fun e => by cases e)⟩⟩
  case hd =>
    rintro L a9 u ⟨b0, b1, b2, b3, b4, b5, b6, b7, b8, b9, b10, v4, v5, v6, v7, v8, v9, v10, v11, v12, v13, v3, rfl, rfl, hI⟩ hr
    have hall := fun he hL => all_up (md := _) he hL hr
    have hall2 := hall (by kernel_rfl) rfl
    obtain rfl : b10 = true := hall2 10 (by decide)
    obtain ⟨y, rfl, y0, y1⟩ := hI.c10 rfl
    have HS1 : Hid (SrcOk u B0 a len cap) := hI.src
    have HG1 : Hid (w.grownBy u (some B0)) := hI.gr
    clear hI hr hall hall2
    go_wp2_with fail
    refine (src_one B0 a len cap 30 u HS1.out (by omega)).mono ?_
    rintro e u1 ⟨t, rfl, hs1, hg1⟩
    have HS2 : Hid (SrcOk u1 B0 a len cap) := hs1
    have HG2 : Hid (w.grownBy u1 (some B0)) := Lib.grownBy_trans HG1.out hg1
    clear hs1 hg1 HS1 HG1
    cases t
    · go_wp2
      go_ret
      exact ⟨y, rfl, by omega, by omega, HS2.out, HG2.out⟩
    · have HS3 : Hid (SrcOk (u1.alloc (.cells #[.int .i64 (-1), .int .i64 262144, .int .i64 262140] 2)) B0 a len cap) := HS2.out.far (World.grownBy_alloc _ _ none)
      have HG3 : Hid (w.grownBy (u1.alloc (.cells #[.int .i64 (-1), .int .i64 262144, .int .i64 262140] 2)) (some B0)) := Lib.grownBy_trans HG2.out gAl
      have HL3 : Hid ((u1.alloc (.cells #[.int .i64 (-1), .int .i64 262144, .int .i64 262140] 2)).heap[u1.heap.size]? = some (.cells ([-1, 262144, 262140].map (Value.int .i64)).toArray 2 (0, 0))) := (MapKept.heap_alloc u1 _).1
      have HP : Hid (B0 < u1.heap.size) := (show B0 < u1.heap.size by have := HG2.out.size; omega)
      clear HS2 HG2
      go_wp2_with fail
      generalize u1.alloc (.cells #[.int .i64 (-1), .int .i64 262144, .int .i64 262140] 2) = U at *
      refine (src_n B0 a len cap 3 U HS3.out (by omega)).mono ?_
      rintro e u2 ⟨q, rfl, q0, q1, hs2, hg2⟩
      obtain ⟨Q, rfl⟩ := Int.eq_ofNat_of_zero_le q0
      have hQ : Q < 3 := by omega
      have hQ1 : (Q : Int) < 3 := by omega
      have hl2 : u2.heap[u1.heap.size]? = some (.cells ([-1, 262144, 262140].map (Value.int .i64)).toArray 2 (0, 0)) := (hg2.block _ (Array.getElem?_eq_some_iff.1 HL3.out).1 (by have := HP.out; simp; omega)).trans HL3.out
      have hcl := lit_cell hl2 (show Q < [-1, 262144, 262140].length from hQ)
      have hbd := inB.at (lo := -1) (hi := 262144) (by unfold inB; decide) (show Q < [-1, 262144, 262140].length from hQ)
      generalize ([-1, 262144, 262140] : List Int)[Q] = z at hcl hbd
      have HE : Hid (SrcOk u2 B0 a len cap ∧ w.grownBy u2 (some B0)) := ⟨hs2, Lib.grownBy_trans HG3.out hg2⟩
      clear hs2 hg2 hl2 HL3 HS3 HG3 q1
      go_wp2
      go_ret
      exact ⟨z, rfl, hbd.1, hbd.2, HE.out.1, HE.out.2⟩
  case hs =>
    rintro L a9 u i ⟨b0, b1, b2, b3, b4, b5, b6, b7, b8, b9, b10, v4, v5, v6, v7, v8, v9, v10, v11, v12, v13, v3, rfl, rfl, hI⟩ hi
    obtain ⟨hf, o, ho, hall⟩ := mem_ready.1 hi
    have hi8 : i < 11 := (Array.getElem?_eq_some_iff.1 ho).1
    obtain rfl | rfl | rfl | rfl | rfl | rfl | rfl | rfl | rfl | rfl | rfl : i = 0 ∨ i = 1 ∨ i = 2 ∨ i = 3 ∨ i = 4 ∨ i = 5 ∨ i = 6 ∨ i = 7 ∨ i = 8 ∨ i = 9 ∨ i = 10 := by omega
    · obtain rfl : b0 = false := hf
      have HI : Hid _ := hI
      clear hI hall hi
      refine wpOp_step rfl (fun K hK => ?_)
      go_simp
      have h := HI.out
      exact hK _ _ ⟨true, b1, b2, b3, b4, b5, b6, b7, b8, b9, b10, _, v5, v6, v7, v8, v9, v10, v11, v12, v13, v3, rfl, rfl, ⟨h.lt, h.le, h.src.far (World.grownBy_alloc _ _ none), Lib.grownBy_trans h.gr gAl, fun _ => ⟨u.heap.size, rfl, Nat.le_trans h.le h.gr.size, (MapKept.heap_alloc u _).1⟩, h.c1, h.c2, fun e => (h.c3 e).grow h.lt gAl, h.c4, h.c5, h.c6, h.c7, h.c8, h.c9, h.c10⟩⟩
    · obtain rfl : b1 = false := hf
      have HI : Hid _ := hI
      clear hI hall hi
      refine wpOp_step rfl (fun K hK => ?_)
      go_simp
      have h := HI.out
      exact hK _ _ ⟨b0, true, b2, b3, b4, b5, b6, b7, b8, b9, b10, v4, _, v6, v7, v8, v9, v10, v11, v12, v13, v3, rfl, rfl, ⟨h.lt, h.le, h.src, h.gr, h.c0, fun _ => rfl, h.c2, h.c3, h.c4, h.c5, h.c6, h.c7, h.c8, h.c9, h.c10⟩⟩
    · obtain rfl : b2 = false := hf
      cases ho
      have hb1 : b1 = true := hall { on := 1, ground := .data } (by simp) rfl
      have e1 : v5 = .pointer (some ⟨B0, 0, none⟩) := hI.c1 hb1
      subst e1
      have HN : Hid _ := src_n B0 a len cap 10 u hI.src (by omega)
      have HI : Hid _ := hI
      clear hI hall hi
      refine wpOp_step rfl (fun K hK => ?_)
      go_simp
      refine Calls.mono HN.out ?_
      rintro e9 u5 ⟨r, rfl, r0, r1, hs5, hg5⟩
      have h := HI.out
      exact hK _ _ ⟨b0, b1, true, b3, b4, b5, b6, b7, b8, b9, b10, v4, _, _, v7, v8, v9, v10, v11, v12, v13, v3, rfl, rfl, ⟨h.lt, h.le, hs5, Lib.grownBy_trans h.gr hg5, fun e => (h.c0 e).grow h.lt hg5, h.c1, fun _ => ⟨r, rfl, r0, by omega⟩, fun e => (h.c3 e).grow h.lt hg5, h.c4, h.c5, h.c6, h.c7, h.c8, h.c9, h.c10⟩⟩
    · obtain rfl : b3 = false := hf
      cases ho
      have hb0 : b0 = true := hall { on := 0, ground := .data } (by simp) rfl
      have hb2 : b2 = true := hall { on := 2, ground := .data } (by simp) rfl
      obtain ⟨p0, e0, p0b, p0c⟩ := hI.c0 hb0
      replace e0 : v4 = .slice (some ⟨p0, 0, none⟩) 10 10 := e0
      subst e0
      obtain ⟨y2, rfl, y2b, y2c⟩ := hI.c2 hb2
      obtain ⟨R, rfl⟩ := Int.eq_ofNat_of_zero_le y2b
      have R1 : (R : Int) < 10 := by omega
      have R0 : R < 10 := by omega
      have HI : Hid _ := hI
      clear hI hall hi
      refine wpOp_step rfl (fun K hK => ?_)
      go_simp
      have h := HI.out
      exact hK _ _ ⟨b0, b1, b2, true, b4, b5, b6, b7, b8, b9, b10, _, v5, _, _, v8, v9, v10, v11, v12, v13, v3, rfl, rfl, ⟨h.lt, h.le, h.src, h.gr, h.c0, h.c1, h.c2, fun _ => ⟨p0, R, rfl, R0, p0b, p0c⟩, h.c4, h.c5, h.c6, h.c7, h.c8, h.c9, h.c10⟩⟩
    · obtain rfl : b4 = false := hf
      cases ho
      have hb3 : b3 = true := hall { on := 3, ground := .data } (by simp) rfl
      obtain ⟨p3, r3, rfl, r3b, p3b, p3c⟩ := hI.c3 hb3
      have hcl := lit_cell p3c r3b
      have hbd := inB.at (lo := 0) (hi := 1023) (by unfold inB; decide) r3b
      generalize ([0, 1, 2, 31, 32, 33, 64, 1023, 5, 96] : List Int)[r3] = y at hcl hbd
      have HI : Hid _ := hI
      clear hI hall hi
      refine wpOp_step rfl (fun K hK => ?_)
      go_simp
      have h := HI.out
      exact hK _ _ ⟨b0, b1, b2, b3, true, b5, b6, b7, b8, b9, b10, v4, v5, v6, _, _, v9, v10, v11, v12, v13, v3, rfl, rfl, ⟨h.lt, h.le, h.src, h.gr, h.c0, h.c1, h.c2, h.c3, fun _ => ⟨y, rfl, hbd.1, hbd.2⟩, h.c5, h.c6, h.c7, h.c8, h.c9, h.c10⟩⟩
    · obtain rfl : b5 = false := hf
      cases ho
      have hb4 : b4 = true := hall { on := 4, ground := .data } (by simp) rfl
      obtain ⟨y4, rfl, y4b, y4c⟩ := hI.c4 hb4
      have HI : Hid _ := hI
      clear hI hall hi
      refine wpOp_step rfl (fun K hK => ?_)
      go_simp
      have h := HI.out
      exact hK _ _ ⟨b0, b1, b2, b3, b4, true, b6, b7, b8, b9, b10, v4, v5, v6, v7, _, _, v10, v11, v12, v13, v3, rfl, rfl, ⟨h.lt, h.le, h.src, h.gr, h.c0, h.c1, h.c2, h.c3, h.c4, fun _ => ⟨_, rfl, by first | omega | (rw [IntKind.wrap_i64]; omega), by first | omega | (rw [IntKind.wrap_i64]; omega)⟩, h.c6, h.c7, h.c8, h.c9, h.c10⟩⟩
    · obtain rfl : b6 = false := hf
      have HI : Hid _ := hI
      clear hI hall hi
      refine wpOp_step rfl (fun K hK => ?_)
      go_simp
      have h := HI.out
      exact hK _ _ ⟨b0, b1, b2, b3, b4, b5, true, b7, b8, b9, b10, v4, v5, v6, v7, v8, v9, _, v11, v12, v13, v3, rfl, rfl, ⟨h.lt, h.le, h.src, h.gr, h.c0, h.c1, h.c2, h.c3, h.c4, h.c5, fun _ => rfl, h.c7, h.c8, h.c9, h.c10⟩⟩
    · obtain rfl : b7 = false := hf
      cases ho
      have hb6 : b6 = true := hall { on := 6, ground := .data } (by simp) rfl
      have e6 : v10 = .pointer (some ⟨B0, 0, none⟩) := hI.c6 hb6
      subst e6
      have HN : Hid _ := src_n B0 a len cap 64 u hI.src (by omega)
      have HI : Hid _ := hI
      clear hI hall hi
      refine wpOp_step rfl (fun K hK => ?_)
      go_simp
      refine Calls.mono HN.out ?_
      rintro e9 u5 ⟨r, rfl, r0, r1, hs5, hg5⟩
      have h := HI.out
      exact hK _ _ ⟨b0, b1, b2, b3, b4, b5, b6, true, b8, b9, b10, v4, v5, v6, v7, v8, v9, _, _, v12, v13, v3, rfl, rfl, ⟨h.lt, h.le, hs5, Lib.grownBy_trans h.gr hg5, fun e => (h.c0 e).grow h.lt hg5, h.c1, h.c2, fun e => (h.c3 e).grow h.lt hg5, h.c4, h.c5, h.c6, fun _ => ⟨r, rfl, r0, by omega⟩, h.c8, h.c9, h.c10⟩⟩
    · obtain rfl : b8 = false := hf
      cases ho
      have hb7 : b7 = true := hall { on := 7, ground := .data } (by simp) rfl
      obtain ⟨y7, rfl, y7b, y7c⟩ := hI.c7 hb7
      have HI : Hid _ := hI
      clear hI hall hi
      refine wpOp_step rfl (fun K hK => ?_)
      go_simp
      have h := HI.out
      exact hK _ _ ⟨b0, b1, b2, b3, b4, b5, b6, b7, true, b9, b10, v4, v5, v6, v7, v8, v9, v10, _, _, v13, v3, rfl, rfl, ⟨h.lt, h.le, h.src, h.gr, h.c0, h.c1, h.c2, h.c3, h.c4, h.c5, h.c6, h.c7, fun _ => ⟨_, rfl, by first | omega | (rw [IntKind.wrap_i64]; omega), by first | omega | (rw [IntKind.wrap_i64]; omega)⟩, h.c9, h.c10⟩⟩
    · obtain rfl : b9 = false := hf
      cases ho
      have hb5 : b5 = true := hall { on := 5, ground := .data } (by simp) rfl
      have hb8 : b8 = true := hall { on := 8, ground := .data } (by simp) rfl
      obtain ⟨y5, rfl, y5b, y5c⟩ := hI.c5 hb5
      obtain ⟨y8, rfl, y8b, y8c⟩ := hI.c8 hb8
      have HI : Hid _ := hI
      clear hI hall hi
      refine wpOp_step rfl (fun K hK => ?_)
      go_simp
      have h := HI.out
      exact hK _ _ ⟨b0, b1, b2, b3, b4, b5, b6, b7, b8, true, b10, v4, v5, v6, v7, v8, _, v10, v11, _, _, v3, rfl, rfl, ⟨h.lt, h.le, h.src, h.gr, h.c0, h.c1, h.c2, h.c3, h.c4, h.c5, h.c6, h.c7, h.c8, fun _ => ⟨_, rfl, by first | omega | (rw [IntKind.wrap_i64]; omega), by first | omega | (rw [IntKind.wrap_i64]; omega)⟩, h.c10⟩⟩
    · obtain rfl : b10 = false := hf
      cases ho
      have hb9 : b9 = true := hall { on := 9, ground := .data } (by simp) rfl
      obtain ⟨y9, rfl, y9b, y9c⟩ := hI.c9 hb9
      have HI : Hid _ := hI
      clear hI hall hi
      refine wpOp_step rfl (fun K hK => ?_)
      go_simp
      have h := HI.out
      exact hK _ _ ⟨b0, b1, b2, b3, b4, b5, b6, b7, b8, b9, true, v4, v5, v6, v7, v8, v9, v10, v11, v12, _, _, rfl, rfl, ⟨h.lt, h.le, h.src, h.gr, h.c0, h.c1, h.c2, h.c3, h.c4, h.c5, h.c6, h.c7, h.c8, h.c9, fun _ => ⟨_, rfl, by first | omega | (rw [IntKind.wrap_i64]; omega), by first | omega | (rw [IntKind.wrap_i64]; omega)⟩⟩⟩

/-- The cells of a row of numbers. -/
def iR (zs : List Int) : List Value := zs.map (Value.int .i64)
theorem iR_len (zs : List Int) : (iR zs).length = zs.length * 1 := by simp [iR]
theorem i_sl {w : World} {B n : Nat} {v : Value} {xs : List Value} (h : w.ownsRow B 2 1 v n xs) : ∃ ao cap, v = .slice ao n cap := by
  rcases h.2 with ⟨rfl, e⟩ | ⟨g, cap, cur, rfl, _⟩
  · exact ⟨none, 0, by rw [e]⟩
  · exact ⟨_, cap, rfl⟩
def Iat (w : World) (g o : Nat) (zs : List Int) : Prop := ∀ (k : Nat) (hk : k < zs.length), w.cell? ⟨g, o + k, none⟩ = some (.int .i64 zs[k])
def Irow (w : World) (v : Value) (zs : List Int) : Prop := (zs = [] ∧ ∃ ao cap, v = .slice ao 0 cap) ∨ ∃ g o cap, v = .slice (some ⟨g, o, none⟩) zs.length cap ∧ zs.length ≤ cap ∧ g < w.heap.size ∧ Iat w g o zs
theorem Iat.below {w w' : World} {g o : Nat} {zs : List Int} (h : Iat w g o zs) {B : Nat} (hb : Below B w w') (hg : g < B) : Iat w' g o zs := by
  intro k hk
  have h2 := h k hk
  have e : ∀ x, w'.cell? ⟨g, x, none⟩ = w.cell? ⟨g, x, none⟩ := fun x => World.cell?_of_block (hb.block g hg)
  simp only [e]
  exact h2
theorem Irow.below {w w' : World} {v : Value} {zs : List Int} (h : Irow w v zs) (hb : Below w.heap.size w w') : Irow w' v zs := by
  rcases h with h | ⟨g, o, cap, hv, hc, hg, ha⟩
  · exact .inl h
  · exact .inr ⟨g, o, cap, hv, hc, Nat.lt_of_lt_of_le hg hb.size, ha.below hb hg⟩
theorem Irow.sl {w : World} {v : Value} {zs : List Int} (h : Irow w v zs) : ∃ ao cap, v = .slice ao zs.length cap := by
  rcases h with ⟨rfl, ao, cap, rfl⟩ | ⟨g, o, cap, rfl, _⟩
  · exact ⟨_, _, rfl⟩
  · exact ⟨_, _, rfl⟩
theorem Irow.of {w : World} {B : Nat} {v : Value} {zs : List Int} (h : w.ownsRow B 2 1 v zs.length (iR zs)) : Irow w v zs := by
  rcases h.2 with ⟨rfl, e⟩ | ⟨g, cap, cur, rfl, hB, hg, hc, rest⟩
  · exact .inl ⟨List.length_eq_zero_iff.1 e, _, _, by rfl⟩
  · have h2 : w.ownsRow B 2 1 (.slice (some ⟨g, 0, none⟩) zs.length cap) zs.length (iR zs) := h
    refine .inr ⟨g, 0, cap, rfl, hc, (Array.getElem?_eq_some_iff.1 hg).1, fun k hk => ?_⟩
    have a0 := h2.cellAt k (by omega)
    simp only [Nat.zero_add]
    rw [a0]
    simp [iR, List.getElem?_eq_getElem hk]
end Go.Proofs.Ytoihmaefdchicaa
