import Derived.Test.YtohmejfpebjlaaaGreatDoorRows
import Derived.Test.YtohmejfpebjlaaaGreatDoorPlain
import Derived.WalkLawsBesides
import Derived.Deep.QuietTactic
import Derived.BigQuiet
import Derived.BigRegion
import Derived.Laws.Rows
import Derived.Lib.BufferOwn
import Derived.Laws.BitsAllLaws
import Derived.Deep.RegionWith
import Derived.Test.YtohmejfpebjlaaaGreatDoorXorZ
import Derived.Test.YtohmejfpebjlaaaGreatDoorNums
namespace Go.Proofs.YtohmejfpebjlaaaGreatDoor
open Go.ChangeShapes Go.WideShapes Go.ChangeAt Go.RowKit

def srcCells (a : Option Addr) (len cap : Nat) (p m z : Int) : Array Value := #[.slice a len cap, .int .i64 p, .int .u64 m, .int .i64 z]

def SrcAt (w : World) (b : Nat) (a : Option Addr) (len cap : Nat) : Prop :=
  ∃ p m z : Int, w.heap[b]? = some (.cells (srcCells a len cap p m z) 82 (0, 0)) ∧ 0 ≤ p ∧ p ≤ len ∧ 0 ≤ z ∧ z ≤ 12

def CodeAt (w : World) (B : Nat) (a : Option Addr) (len : Nat) : Prop :=
  len = 0 ∨ ∃ cb co, a = some ⟨cb, co, none⟩ ∧ cb < B ∧ ∀ i, i < len → ∃ x : Int, 0 ≤ x ∧ x ≤ 255 ∧ w.cell? ⟨cb, co + i, none⟩ = some (.int .u8 x)

theorem src_cells {w : World} {b : Nat} {a : Option Addr} {len cap : Nat} {p m z : Int} (h : w.heap[b]? = some (.cells (srcCells a len cap p m z) 82 (0, 0))) :
    w.cell? ⟨b, 0, none⟩ = some (.slice a len cap) ∧ w.cell? ⟨b, 1, none⟩ = some (.int .i64 p) ∧ w.cell? ⟨b, 2, none⟩ = some (.int .u64 m) ∧ w.cell? ⟨b, 3, none⟩ = some (.int .i64 z) ∧
    w.frozen? ⟨b, 1, none⟩ = false ∧ w.frozen? ⟨b, 2, none⟩ = false ∧ w.frozen? ⟨b, 3, none⟩ = false :=
  ⟨cell_of_row w b 0 _ _ _ h, cell_of_row w b 1 _ _ _ h, cell_of_row w b 2 _ _ _ h, cell_of_row w b 3 _ _ _ h, frozen_of_row w b 1 _ _ h, frozen_of_row w b 2 _ _ h, frozen_of_row w b 3 _ _ h⟩

def SrcW (w : World) (b : Nat) (a : Option Addr) (len cap : Nat) (p m z : Int) : Prop := w.heap[b]? = some (.cells (srcCells a len cap p m z) 82 (0, 0))
theorem SrcW.set1 {w : World} {b : Nat} {a : Option Addr} {len cap : Nat} {p m z : Int} (h : SrcW w b a len cap p m z) (p' : Int) : SrcW (w.setCell ⟨b, 1, none⟩ (.int .i64 p')) b a len cap p' m z :=
  (heap_setCell_same w b 1 _ _ _ h).trans rfl
theorem SrcW.set2 {w : World} {b : Nat} {a : Option Addr} {len cap : Nat} {p m z : Int} (h : SrcW w b a len cap p m z) (m' : Int) : SrcW (w.setCell ⟨b, 2, none⟩ (.int .u64 m')) b a len cap p m' z :=
  (heap_setCell_same w b 2 _ _ _ h).trans rfl
theorem SrcW.set3 {w : World} {b : Nat} {a : Option Addr} {len cap : Nat} {p m z : Int} (h : SrcW w b a len cap p m z) (z' : Int) : SrcW (w.setCell ⟨b, 3, none⟩ (.int .i64 z')) b a len cap p m z' :=
  (heap_setCell_same w b 3 _ _ _ h).trans rfl
theorem SrcW.drewN {w : World} {b : Nat} {a : Option Addr} {len cap : Nat} {p m z : Int} (h : SrcW w b a len cap p m z) (q : Nat) : SrcW (w.drewN q) b a len cap p m z := h
theorem SrcW.cell2 {w : World} {b : Nat} {a : Option Addr} {len cap : Nat} {p m z : Int} (h : SrcW w b a len cap p m z) : w.cell? ⟨b, 2, none⟩ = some (.int .u64 m) := cell_of_row w b 2 _ _ _ h

theorem gset {u w : World} {b : Nat} (h : u.grownBy w (some b)) (i : Nat) (v : Value) : u.grownBy (w.setCell ⟨b, i, none⟩ v) (some b) := Lib.grownBy_setB h i v
theorem gdn {u w : World} {r : Option Nat} (h : u.grownBy w r) (q : Nat) : u.grownBy (w.drewN q) r := ⟨h.os, h.tape, h.output, h.size, h.block⟩

theorem gdr {u w : World} {r : Option Nat} (h : u.grownBy w r) : u.grownBy w.drew r := ⟨h.os, h.tape, h.output, h.size, h.block⟩
theorem rn (X most : Int) (hm : 1 < most) (hM : most ≤ 9223372036854775807) : 0 ≤ wrap64 ((IntKind.u64.wrap X).tmod most) ∧ wrap64 ((IntKind.u64.wrap X).tmod most) < most := by
  have h0 : 0 ≤ IntKind.u64.wrap X := by rw [IntKind.wrap_u64]; omega
  rw [Int.tmod_eq_emod_of_nonneg h0]
  have h1 := Int.emod_nonneg (IntKind.u64.wrap X) (by omega : most ≠ 0)
  have h2 := Int.emod_lt_of_pos (IntKind.u64.wrap X) (by omega : 0 < most)
  unfold wrap64
  omega

set_option maxHeartbeats 2000000 in
theorem src_n_end (b : Nat) (a : Option Addr) (len cap : Nat) (m z most : Int) (w : World) (h : SrcW w b a len cap len m z) (hl : len ≤ 1048576)
    (hz0 : 0 ≤ z) (hz1 : z ≤ 12) (hm : 1 < most) (hM : most ≤ 9223372036854775807) :
    Calls Tryz.prog 40 #[.pointer (some ⟨b, 0, none⟩), .int .i64 most] w fun e w' => ∃ r : Int, e = .returned (.int .i64 r) ∧ 0 ≤ r ∧ r < most ∧ SrcAt w' b a len cap ∧ w.grownBy w' (some b) := by
  obtain ⟨c0, c1, c2, c3, f1, f2, f3⟩ := src_cells h
  have hc : ∀ (q : Nat) (x y v : Int), ((((w.drewN q).setCell ⟨b, 2, none⟩ (.int .u64 x)).setCell ⟨b, 2, none⟩ (.int .u64 y)).setCell ⟨b, 2, none⟩ (.int .u64 v)).cell? ⟨b, 2, none⟩ = some (.int .u64 v) := fun q x y v => ((((h.drewN q).set2 x).set2 y).set2 v).cell2
  have HW : Hid (SrcW w b a len cap len m z) := h
  clear h
  go_enter Tryz.func40, Tryz.ntmps40
  go_wp2
  go_quiet (fail)
  go_wp2
  go_region
  all_goals go_wp2
  all_goals go_region
  all_goals go_wp2
  all_goals go_region
  all_goals go_wp2
  all_goals
    go_ret
    exact ⟨_, rfl, (rn _ _ hm hM).1, (rn _ _ hm hM).2, ⟨_, _, _, (((HW.out.drewN _).set2 _).set2 _).set2 _, by omega, by omega, hz0, hz1⟩, gdr (gdr (gset (gset (gset (gdn (World.grownBy.refl _ _) _) 2 _) 2 _) 2 _))⟩

set_option maxHeartbeats 2000000 in
theorem src_n_more (b : Nat) (cb co : Nat) (len cap p : Nat) (m z most x : Int) (w : World) (h : SrcW w b (some ⟨cb, co, none⟩) len cap p m z) (hl : len ≤ 1048576) (hp : p < len)
    (hz0 : 0 ≤ z) (hz1 : z ≤ 12) (hm : 1 < most) (hM : most ≤ 9223372036854775807) (hx0 : 0 ≤ x) (hx1 : x ≤ 255) (hx : w.cell? ⟨cb, co + p, none⟩ = some (.int .u8 x)) :
    Calls Tryz.prog 40 #[.pointer (some ⟨b, 0, none⟩), .int .i64 most] w fun e w' => ∃ r : Int, e = .returned (.int .i64 r) ∧ 0 ≤ r ∧ r < most ∧ SrcAt w' b (some ⟨cb, co, none⟩) len cap ∧ w.grownBy w' (some b) := by
  obtain ⟨c0, c1, c2, c3, f1, f2, f3⟩ := src_cells h
  have hc : ∀ (q : Nat) (t x y v : Int), (((((w.drewN q).setCell ⟨b, 1, none⟩ (.int .i64 t)).setCell ⟨b, 2, none⟩ (.int .u64 x)).setCell ⟨b, 2, none⟩ (.int .u64 y)).setCell ⟨b, 2, none⟩ (.int .u64 v)).cell? ⟨b, 2, none⟩ = some (.int .u64 v) := fun q t x y v => (((((h.drewN q).set1 t).set2 x).set2 y).set2 v).cell2
  have hc2 : ∀ (q : Nat) (t x y : Int), ((((w.drewN q).setCell ⟨b, 1, none⟩ (.int .i64 t)).setCell ⟨b, 2, none⟩ (.int .u64 x)).setCell ⟨b, 2, none⟩ (.int .u64 y)).cell? ⟨b, 2, none⟩ = some (.int .u64 y) := fun q t x y => ((((h.drewN q).set1 t).set2 x).set2 y).cell2
  have hc1 : ∀ (q : Nat) (t x : Int), (((w.drewN q).setCell ⟨b, 1, none⟩ (.int .i64 t)).setCell ⟨b, 2, none⟩ (.int .u64 x)).cell? ⟨b, 2, none⟩ = some (.int .u64 x) := fun q t x => (((h.drewN q).set1 t).set2 x).cell2
  have HW : Hid (SrcW w b (some ⟨cb, co, none⟩) len cap p m z) := h
  clear h
  go_enter Tryz.func40, Tryz.ntmps40
  go_wp2
  go_quiet (fail)
  go_wp2
  go_quiet (fail)
  go_wp2
  go_region
  all_goals go_wp2
  all_goals go_region
  all_goals go_wp2
  all_goals go_region
  all_goals go_wp2
  all_goals
    go_ret
    exact ⟨_, rfl, (rn _ _ hm hM).1, (rn _ _ hm hM).2, ⟨_, _, _, ((((HW.out.drewN _).set1 _).set2 _).set2 _).set2 _, by omega, by omega, hz0, hz1⟩, gdr (gdr (gdr (gset (gset (gset (gset (gdn (World.grownBy.refl _ _) _) 1 _) 2 _) 2 _) 2 _)))⟩

theorem src_n_one (p : Addr) (most : Int) (w : World) (hm : most ≤ 1) :
    Calls Tryz.prog 40 #[.pointer (some p), .int .i64 most] w fun e w' => e = .returned (.int .i64 0) ∧ w' = w := by
  go_enter Tryz.func40, Tryz.ntmps40
  go_wp2
  go_ret
  exact ⟨rfl, rfl⟩

/-- A source that lies in block b and draws from a row of bytes below b. -/
def SrcOk (w : World) (b : Nat) (a : Option Addr) (len cap : Nat) : Prop := SrcAt w b a len cap ∧ CodeAt w b a len ∧ len ≤ 1048576
theorem SrcOk.lt {w : World} {b : Nat} {a : Option Addr} {len cap : Nat} (h : SrcOk w b a len cap) : b < w.heap.size := by
  obtain ⟨⟨p, m, z, hb, _⟩, _⟩ := h
  rcases Nat.lt_or_ge b w.heap.size with h | h
  · exact h
  · rw [Array.getElem?_eq_none h] at hb; cases hb
theorem CodeAt.kept {w w' : World} {b : Nat} {a : Option Addr} {len : Nat} (h : CodeAt w b a len) (hg : w.grownBy w' (some b)) : CodeAt w' b a len := by
  rcases h with h | ⟨cb, co, ha, hlt, hc⟩
  · exact .inl h
  · refine .inr ⟨cb, co, ha, hlt, fun i hi => ?_⟩
    obtain ⟨x, h0, h1, hx⟩ := hc i hi
    exact ⟨x, h0, h1, hg.cell hx (by simp; omega)⟩

theorem src_n (b : Nat) (a : Option Addr) (len cap : Nat) (most : Int) (w : World) (h : SrcOk w b a len cap) (hM : most ≤ 9223372036854775807) :
    Calls Tryz.prog 40 #[.pointer (some ⟨b, 0, none⟩), .int .i64 most] w fun e w' => ∃ r : Int, e = .returned (.int .i64 r) ∧ 0 ≤ r ∧ (r < most ∨ r = 0) ∧ SrcOk w' b a len cap ∧ w.grownBy w' (some b) := by
  have h' := h
  obtain ⟨⟨p, m, z, hw, p0, p1, z0, z1⟩, hc, hl⟩ := h
  by_cases hm : most ≤ 1
  · refine (src_n_one _ most w hm).mono ?_
    rintro e w' ⟨rfl, rfl⟩
    exact ⟨0, rfl, by omega, .inr rfl, h', World.grownBy.refl _ _⟩
  · obtain ⟨P, rfl⟩ := Int.eq_ofNat_of_zero_le p0
    by_cases hp : P < len
    · rcases hc with hc0 | ⟨cb, co, rfl, hlt, hcc⟩
      · omega
      · obtain ⟨x, hx0, hx1, hx⟩ := hcc P hp
        refine (src_n_more b cb co len cap P m z most x w hw hl hp z0 z1 (by omega) hM hx0 hx1 hx).mono ?_
        rintro e w' ⟨r, rfl, r0, r1, hs, hg⟩
        exact ⟨r, rfl, r0, .inl r1, ⟨hs, CodeAt.kept (.inr ⟨cb, co, rfl, hlt, hcc⟩) hg, hl⟩, hg⟩
    · obtain rfl : P = len := by omega
      refine (src_n_end b a P cap m z most w hw hl z0 z1 (by omega) hM).mono ?_
      rintro e w' ⟨r, rfl, r0, r1, hs, hg⟩
      exact ⟨r, rfl, r0, .inl r1, ⟨hs, hc.kept hg, hl⟩, hg⟩

theorem SrcW.new (w : World) (a : Option Addr) (len cap : Nat) (p m z : Int) : SrcW (w.alloc (.cells #[.slice a len cap, .int .i64 p, .int .u64 m, .int .i64 z] 82)) w.heap.size a len cap p m z := heap_alloc_new w _
theorem SrcW.ok {w w' : World} {a : Option Addr} {len cap : Nat} {m z : Int} (h : SrcW w' w.heap.size a len cap 0 m z) (hc : CodeAt w w.heap.size a len) (hb : Below w.heap.size w w') (hl : len ≤ 1048576) (z0 : 0 ≤ z) (z1 : z ≤ 12) : SrcOk w' w.heap.size a len cap := by
  refine ⟨⟨0, m, z, h, by omega, by omega, z0, z1⟩, ?_, hl⟩
  rcases hc with hc | ⟨cb, co, ha, hlt, hcc⟩
  · exact .inl hc
  · refine .inr ⟨cb, co, ha, hlt, fun i hi => ?_⟩
    obtain ⟨x, h0, h1, hx⟩ := hcc i hi
    exact ⟨x, h0, h1, (hb.cell (p := ⟨cb, co + i, none⟩) hlt).trans hx⟩

set_option maxHeartbeats 1000000 in
theorem l01Source_any (a : Option Addr) (len cap : Nat) (w : World) (hcode : CodeAt w w.heap.size a len) (hl : len ≤ 1048576) :
    Calls Tryz.prog 16 #[.slice a len cap] w fun e w' => e = .returned (.pointer (some ⟨w.heap.size, 0, none⟩)) ∧ SrcOk w' w.heap.size a len cap ∧ Below w.heap.size w w' := by
  go_enter Tryz.func16, Tryz.ntmps16
  go_wp2
  go_loopw [4] (fun i wr => ∃ k : Nat, k ≤ len ∧ k ≤ 64 ∧ i = .int .i64 k ∧ (∃ m, SrcW wr w.heap.size a len cap 0 m 0) ∧ Below w.heap.size w wr) (fun i _ => 64 - (intOf i).toNat)
  case atStart => exact ⟨0, Nat.zero_le _, by omega, rfl, ⟨_, SrcW.new w a len cap 0 _ 0⟩, (Below.refl _ _).alloc (Nat.le_refl _) _⟩
  case round =>
    obtain ⟨k, hk, hk2, rfl, ⟨m, hsw⟩, hbl⟩ := hrel
    obtain ⟨c0, c1, c2, c3, f1, f2, f3⟩ := src_cells hsw
    have HW : Hid (SrcW wr w.heap.size a len cap 0 m 0) := hsw
    clear hsw
    by_cases hlt : k < len
    · by_cases h64 : k < 64
      · rcases hcode with hc0 | ⟨cb, co, rfl, hcb, hcc⟩
        · omega
        · obtain ⟨x, hx0, hx1, hx⟩ := hcc k hlt
          have hxr : wr.cell? ⟨cb, co + k, none⟩ = some (.int .u8 x) := (hbl.cell (p := ⟨cb, co + k, none⟩) hcb).trans hx
          clear hcc hx
          go_wp2
          go_region
          all_goals go_wp2
          all_goals exact ⟨⟨k + 1, by omega, by omega, by go_num, ⟨_, HW.out.set2 _⟩, (hbl.setCell (Nat.le_refl _) _).drew⟩, by simp [intOf]; omega⟩
      · by_cases h12 : 12 < len
        · go_wp2
          go_ret
          exact ⟨rfl, SrcW.ok ((HW.out.set3 _).set3 _) hcode ((hbl.setCell (Nat.le_refl _) _).setCell (Nat.le_refl _) _) hl (by omega) (by omega), (hbl.setCell (Nat.le_refl _) _).setCell (Nat.le_refl _) _⟩
        · omega
    · by_cases h12 : 12 < len
      · go_wp2
        go_ret
        exact ⟨rfl, SrcW.ok ((HW.out.set3 _).set3 _) hcode ((hbl.setCell (Nat.le_refl _) _).setCell (Nat.le_refl _) _) hl (by omega) (by omega), (hbl.setCell (Nat.le_refl _) _).setCell (Nat.le_refl _) _⟩
      · go_wp2
        go_ret
        exact ⟨rfl, SrcW.ok (HW.out.set3 _) hcode (hbl.setCell (Nat.le_refl _) _) hl (by omega) (by omega), hbl.setCell (Nat.le_refl _) _⟩

theorem SrcOk.far {w w' : World} {b : Nat} {a : Option Addr} {len cap : Nat} (h : SrcOk w b a len cap) (hg : w.grownBy w' none) : SrcOk w' b a len cap := by
  have hlt := h.lt
  obtain ⟨⟨p, m, z, hw, hr⟩, hc, hl⟩ := h
  refine ⟨⟨p, m, z, (hg.block b hlt (by simp)).trans hw, hr⟩, ?_, hl⟩
  rcases hc with hc | ⟨cb, co, ha, hlt, hcc⟩
  · exact .inl hc
  · refine .inr ⟨cb, co, ha, hlt, fun i hi => ?_⟩
    obtain ⟨x, h0, h1, hx⟩ := hcc i hi
    exact ⟨x, h0, h1, hg.cell hx (by simp)⟩
theorem ed_cells (w : World) (b : Nat) (cs : Array Value) (t : TypeId) (h : w.heap[b]? = some (.cells cs t (0, 0))) (R : Nat) (v : Value) (hv : cs[R]? = some v) : w.cell? ⟨b, R, none⟩ = some v := (cell_of_row w b R cs t (0, 0) h).trans hv

theorem ungr {u w : World} {r : Option Nat} (h : u.drew.grownBy w r) : u.grownBy w r := ⟨h.os, h.tape, h.output, h.size, h.block⟩
theorem w64_b (x : Int) : -9223372036854775808 ≤ wrap64 x ∧ wrap64 x ≤ 9223372036854775807 := by unfold wrap64; omega

theorem wrap_u64_nat (a : Nat) (h : a < 18446744073709551616) : IntKind.u64.wrap (a : Int) = a := by
  rw [IntKind.wrap_u64]; omega
theorem xor_u64 (a b : Int) : bits .xor .u64 a b = (((BitVec.ofInt 64 a) ^^^ (BitVec.ofInt 64 b)).toNat : Int) := by
  unfold bits
  simp only []
  exact wrap_u64_nat _ (BitVec.isLt _)
theorem ofInt_toNat (a : Int) : ((BitVec.ofInt 64 a).toNat : Int) = a % 18446744073709551616 := by
  rw [BitVec.toNat_ofInt]
  have := Int.emod_nonneg a (show (18446744073709551616 : Int) ≠ 0 by decide)
  omega
theorem ofInt_back (x : BitVec 64) : BitVec.ofInt 64 (x.toNat : Int) = x := by
  rw [BitVec.ofInt_natCast, BitVec.ofNat_toNat, BitVec.setWidth_eq]
theorem shl_u64 (a : Int) (k : Nat) (p : Int) (hp : p = ((2 ^ k : Nat) : Int)) : BitVec.ofInt 64 (IntKind.u64.wrap (a * p)) = (BitVec.ofInt 64 a) <<< k := by
  apply BitVec.eq_of_toNat_eq
  have h1 := ofInt_toNat (IntKind.u64.wrap (a * p))
  have h2 := ofInt_toNat a
  rw [BitVec.toNat_shiftLeft, Nat.shiftLeft_eq]
  have h3 : IntKind.u64.wrap (a * p) = (a * p) % 18446744073709551616 := by rw [IntKind.wrap_u64]
  rw [h3, Int.emod_emod_of_dvd _ (Int.dvd_refl _)] at h1
  have h4 : (((BitVec.ofInt 64 a).toNat * 2 ^ k % 2 ^ 64 : Nat) : Int) = (a * p) % 18446744073709551616 := by
    rw [Int.natCast_emod, Int.natCast_mul, h2, ← hp]
    show a % 18446744073709551616 * p % 18446744073709551616 = _
    rw [Int.mul_emod, Int.emod_emod_of_dvd _ (Int.dvd_refl _), ← Int.mul_emod]
  exact Int.ofNat_inj.1 (h1.trans h4.symm)
theorem shr_u64 (x : BitVec 64) : BitVec.ofInt 64 ((x.toNat : Int) / 128) = x >>> 7 := by
  apply BitVec.eq_of_toNat_eq
  rw [BitVec.toNat_ushiftRight, Nat.shiftRight_eq_div_pow, show ((x.toNat : Int) / 128) = ((x.toNat / 128 : Nat) : Int) from by omega, BitVec.ofInt_natCast, BitVec.toNat_ofNat]
  have := x.isLt
  omega
theorem xs1 (m : Int) : bits .xor .u64 m (IntKind.u64.wrap (m * 8192)) = ((s1 (BitVec.ofInt 64 m)).toNat : Int) := by
  rw [xor_u64, shl_u64 m 13 8192 rfl]
  rfl
theorem xs2 (x : BitVec 64) : bits .xor .u64 (x.toNat : Int) ((x.toNat : Int) / 128) = ((s2 x).toNat : Int) := by
  rw [xor_u64, shr_u64, ofInt_back]
  rfl
theorem xs3 (x : BitVec 64) : bits .xor .u64 (x.toNat : Int) (IntKind.u64.wrap ((x.toNat : Int) * 131072)) = ((s3 x).toNat : Int) := by
  rw [xor_u64, shl_u64 _ 17 131072 rfl, ofInt_back]
  rfl
theorem xs_r (y : BitVec 64) (most : Int) (hm : 1 < most) (hM : most ≤ 9223372036854775807) : wrap64 ((IntKind.u64.wrap ((y.toNat : Int) / 1048576)).tmod most) = (y.toNat : Int) / 1048576 % most := by
  have h := y.isLt
  have e : IntKind.u64.wrap ((y.toNat : Int) / 1048576) = (y.toNat : Int) / 1048576 := by rw [IntKind.wrap_u64]; omega
  have h0 : 0 ≤ (y.toNat : Int) / 1048576 := by omega
  rw [e, Int.tmod_eq_emod_of_nonneg h0]
  have h1 := Int.emod_nonneg ((y.toNat : Int) / 1048576) (by omega : most ≠ 0)
  have h2 := Int.emod_lt_of_pos ((y.toNat : Int) / 1048576) (by omega : 0 < most)
  unfold wrap64
  omega
set_option maxHeartbeats 2000000 in
theorem src_n_endX (b : Nat) (a : Option Addr) (len cap : Nat) (m z most : Int) (w : World) (h : SrcW w b a len cap len m z)
    (hm : 1 < most) (hM : most ≤ 9223372036854775807) :
    Calls Tryz.prog 40 #[.pointer (some ⟨b, 0, none⟩), .int .i64 most] w fun e w' => e = .returned (.int .i64 (((xT (BitVec.ofInt 64 m)).toNat : Int) / 1048576 % most)) ∧ SrcW w' b a len cap len ((xT (BitVec.ofInt 64 m)).toNat : Int) z ∧ w.grownBy w' (some b) := by
  obtain ⟨c0, c1, c2, c3, f1, f2, f3⟩ := src_cells h
  have hc : ∀ (q : Nat) (x y v : Int), ((((w.drewN q).setCell ⟨b, 2, none⟩ (.int .u64 x)).setCell ⟨b, 2, none⟩ (.int .u64 y)).setCell ⟨b, 2, none⟩ (.int .u64 v)).cell? ⟨b, 2, none⟩ = some (.int .u64 v) := fun q x y v => ((((h.drewN q).set2 x).set2 y).set2 v).cell2
  have HW : Hid (SrcW w b a len cap len m z) := h
  clear h
  go_enter Tryz.func40, Tryz.ntmps40
  go_wp2
  go_quiet (fail)
  go_wp2
  go_region
  all_goals go_wp2
  all_goals go_region
  all_goals go_wp2
  all_goals go_region
  all_goals go_wp2
  all_goals
    go_ret
    refine ⟨ret_int ?_, ?_, gdr (gdr (gset (gset (gset (gdn (World.grownBy.refl _ _) _) 2 _) 2 _) 2 _))⟩
    · rw [xs1, xs2, xs3]
      exact xs_r _ most hm hM
    · have e : ∀ q x y, SrcW ((((w.drewN q).setCell ⟨b, 2, none⟩ (.int .u64 x)).setCell ⟨b, 2, none⟩ (.int .u64 y)).setCell ⟨b, 2, none⟩ (.int .u64 ((xT (BitVec.ofInt 64 m)).toNat : Int))) b a len cap len ((xT (BitVec.ofInt 64 m)).toNat : Int) z := fun q x y => (((HW.out.drewN q).set2 x).set2 y).set2 _
      rw [xs1, xs2, xs3]
      exact e _ _ _
set_option maxHeartbeats 2000000 in
theorem src_n_moreX (b : Nat) (cb co : Nat) (len cap p : Nat) (m z most x : Int) (w : World) (h : SrcW w b (some ⟨cb, co, none⟩) len cap p m z) (hl : len ≤ 1048576) (hp : p < len)
    (hm : 1 < most) (hM : most ≤ 9223372036854775807) (hx0 : 0 ≤ x) (hx1 : x ≤ 255) (hx : w.cell? ⟨cb, co + p, none⟩ = some (.int .u8 x)) :
    Calls Tryz.prog 40 #[.pointer (some ⟨b, 0, none⟩), .int .i64 most] w fun e w' => ∃ r m' : Int, e = .returned (.int .i64 r) ∧ 0 ≤ r ∧ r < most ∧ SrcW w' b (some ⟨cb, co, none⟩) len cap (p + 1 : Nat) m' z ∧ w.grownBy w' (some b) := by
  obtain ⟨c0, c1, c2, c3, f1, f2, f3⟩ := src_cells h
  have hc : ∀ (q : Nat) (t x y v : Int), (((((w.drewN q).setCell ⟨b, 1, none⟩ (.int .i64 t)).setCell ⟨b, 2, none⟩ (.int .u64 x)).setCell ⟨b, 2, none⟩ (.int .u64 y)).setCell ⟨b, 2, none⟩ (.int .u64 v)).cell? ⟨b, 2, none⟩ = some (.int .u64 v) := fun q t x y v => (((((h.drewN q).set1 t).set2 x).set2 y).set2 v).cell2
  have hc2 : ∀ (q : Nat) (t x y : Int), ((((w.drewN q).setCell ⟨b, 1, none⟩ (.int .i64 t)).setCell ⟨b, 2, none⟩ (.int .u64 x)).setCell ⟨b, 2, none⟩ (.int .u64 y)).cell? ⟨b, 2, none⟩ = some (.int .u64 y) := fun q t x y => ((((h.drewN q).set1 t).set2 x).set2 y).cell2
  have hc1 : ∀ (q : Nat) (t x : Int), (((w.drewN q).setCell ⟨b, 1, none⟩ (.int .i64 t)).setCell ⟨b, 2, none⟩ (.int .u64 x)).cell? ⟨b, 2, none⟩ = some (.int .u64 x) := fun q t x => (((h.drewN q).set1 t).set2 x).cell2
  have HW : Hid (SrcW w b (some ⟨cb, co, none⟩) len cap p m z) := h
  clear h
  go_enter Tryz.func40, Tryz.ntmps40
  go_wp2
  go_quiet (fail)
  go_wp2
  go_quiet (fail)
  go_wp2
  go_region
  all_goals go_wp2
  all_goals go_region
  all_goals go_wp2
  all_goals go_region
  all_goals go_wp2
  all_goals
    go_ret
    exact ⟨_, _, rfl, (rn _ _ hm hM).1, (rn _ _ hm hM).2, ((((HW.out.drewN _).set1 _).set2 _).set2 _).set2 _, gdr (gdr (gdr (gset (gset (gset (gset (gdn (World.grownBy.refl _ _) _) 1 _) 2 _) 2 _) 2 _)))⟩

/-- The source at its place p, with its mixing number m. -/
structure SP (w : World) (b : Nat) (a : Option Addr) (len cap p : Nat) (m z : Int) : Prop where
  src : SrcW w b a len cap p m z
  code : CodeAt w b a len
  le : p ≤ len
  bnd : len ≤ 1048576
  z0 : 0 ≤ z
  z1 : z ≤ 12
theorem SP.ok {w : World} {b : Nat} {a : Option Addr} {len cap p : Nat} {m z : Int} (h : SP w b a len cap p m z) : SrcOk w b a len cap :=
  ⟨⟨p, m, z, h.src, by omega, by have := h.le; omega, h.z0, h.z1⟩, h.code, h.bnd⟩
theorem SP.of {w : World} {b : Nat} {a : Option Addr} {len cap : Nat} (h : SrcOk w b a len cap) : ∃ p m z, SP w b a len cap p m z := by
  obtain ⟨⟨p, m, z, hw, p0, p1, z0, z1⟩, hc, hl⟩ := h
  obtain ⟨P, rfl⟩ := Int.eq_ofNat_of_zero_le p0
  exact ⟨P, m, z, hw, hc, by omega, hl, z0, z1⟩
theorem src_nX (b : Nat) (a : Option Addr) (len cap p : Nat) (m z most : Int) (w : World) (h : SP w b a len cap p m z) (hm : 1 < most) (hM : most ≤ 9223372036854775807) :
    Calls Tryz.prog 40 #[.pointer (some ⟨b, 0, none⟩), .int .i64 most] w fun e w' => ∃ r m' : Int, ∃ p' : Nat, e = .returned (.int .i64 r) ∧ 0 ≤ r ∧ r < most ∧ SP w' b a len cap p' m' z ∧ w.grownBy w' (some b) ∧
      ((p < len ∧ p' = p + 1) ∨ (p = len ∧ p' = len ∧ m' = ((xT (BitVec.ofInt 64 m)).toNat : Int) ∧ r = ((xT (BitVec.ofInt 64 m)).toNat : Int) / 1048576 % most)) := by
  have hb := h.bnd
  have hle := h.le
  by_cases hp : p < len
  · rcases h.code with hc0 | ⟨cb, co, rfl, hlt, hcc⟩
    · omega
    · obtain ⟨x, hx0, hx1, hx⟩ := hcc p hp
      refine (src_n_moreX b cb co len cap p m z most x w h.src hb hp hm hM hx0 hx1 hx).mono ?_
      rintro e w' ⟨r, m', rfl, r0, r1, hs, hg⟩
      exact ⟨r, m', p + 1, rfl, r0, r1, ⟨hs, CodeAt.kept (.inr ⟨cb, co, rfl, hlt, hcc⟩) hg, by omega, hb, h.z0, h.z1⟩, hg, .inl ⟨hp, rfl⟩⟩
  · obtain rfl : p = len := by omega
    refine (src_n_endX b a p cap m z most w h.src hm hM).mono ?_
    rintro e w' ⟨rfl, hs, hg⟩
    have h0 := Int.emod_nonneg (((xT (BitVec.ofInt 64 m)).toNat : Int) / 1048576) (by omega : most ≠ 0)
    have h1 := Int.emod_lt_of_pos (((xT (BitVec.ofInt 64 m)).toNat : Int) / 1048576) (by omega : 0 < most)
    exact ⟨_, _, p, rfl, h0, h1, ⟨hs, h.code.kept hg, Nat.le_refl _, hb, h.z0, h.z1⟩, hg, .inr ⟨rfl, rfl, rfl, rfl⟩⟩
end Go.Proofs.YtohmejfpebjlaaaGreatDoor
