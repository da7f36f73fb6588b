import Derived.Test.YtmmodmanfoipiaaDoorSrc
import Derived.Deep.RegionWith
namespace Go.Proofs.YtmmodmanfoipiaaDoor
open Go.ChangeShapes Go.WideShapes Go.ChangeAt Go.RowKit

theorem SrcW.new (w : World) (a : Option Addr) (len cap : Nat) (p m z : Int) : SrcW (w.alloc (.cells #[.slice a len cap, .int .i64 p, .int .u64 m, .int .i64 z] 65)) w.heap.size a len cap p m z := heap_alloc_new w _
theorem SrcW.ok {w w' : World} {a : Option Addr} {len cap : Nat} {m z : Int} (h : SrcW w' w.heap.size a len cap 0 m z) (hc : CodeAt w w.heap.size a len) (hb : Below w.heap.size w w') (hl : len ≤ 1048576) (z0 : 0 ≤ z) (z1 : z ≤ 12) : SrcOk w' w.heap.size a len cap := by
  refine ⟨⟨0, m, z, h, by omega, by omega, z0, z1⟩, ?_, hl⟩
  rcases hc with hc | ⟨cb, co, ha, hlt, hcc⟩
  · exact .inl hc
  · refine .inr ⟨cb, co, ha, hlt, fun i hi => ?_⟩
    obtain ⟨x, h0, h1, hx⟩ := hcc i hi
    exact ⟨x, h0, h1, (hb.cell (p := ⟨cb, co + i, none⟩) hlt).trans hx⟩

set_option maxHeartbeats 1000000 in
theorem l01Source_any (a : Option Addr) (len cap : Nat) (w : World) (hcode : CodeAt w w.heap.size a len) (hl : len ≤ 1048576) :
    Calls Tryd.prog 10 #[.slice a len cap] w fun e w' => e = .returned (.pointer (some ⟨w.heap.size, 0, none⟩)) ∧ SrcOk w' w.heap.size a len cap ∧ Below w.heap.size w w' := by
  go_enter Tryd.func10, Tryd.ntmps10
  go_wp2
  go_loopw [4] (fun i wr => ∃ k : Nat, k ≤ len ∧ k ≤ 64 ∧ i = .int .i64 k ∧ (∃ m, SrcW wr w.heap.size a len cap 0 m 0) ∧ Below w.heap.size w wr) (fun i _ => 64 - (intOf i).toNat)
  case atStart => exact ⟨0, Nat.zero_le _, by omega, rfl, ⟨_, SrcW.new w a len cap 0 _ 0⟩, (Below.refl _ _).alloc (Nat.le_refl _) _⟩
  case round =>
    obtain ⟨k, hk, hk2, rfl, ⟨m, hsw⟩, hbl⟩ := hrel
    obtain ⟨c0, c1, c2, c3, f1, f2, f3⟩ := src_cells hsw
    have HW : Hid (SrcW wr w.heap.size a len cap 0 m 0) := hsw
    clear hsw
    by_cases hlt : k < len
    · by_cases h64 : k < 64
      · rcases hcode with hc0 | ⟨cb, co, rfl, hcb, hcc⟩
        · omega
        · obtain ⟨x, hx0, hx1, hx⟩ := hcc k hlt
          have hxr : wr.cell? ⟨cb, co + k, none⟩ = some (.int .u8 x) := (hbl.cell (p := ⟨cb, co + k, none⟩) hcb).trans hx
          clear hcc hx
          go_wp2
          go_region
          all_goals go_wp2
          all_goals exact ⟨⟨k + 1, by omega, by omega, by go_num, ⟨_, HW.out.set2 _⟩, (hbl.setCell (Nat.le_refl _) _).drew⟩, by simp [intOf]; omega⟩
      · by_cases h12 : 12 < len
        · go_wp2
          go_ret
          exact ⟨rfl, SrcW.ok ((HW.out.set3 _).set3 _) hcode ((hbl.setCell (Nat.le_refl _) _).setCell (Nat.le_refl _) _) hl (by omega) (by omega), (hbl.setCell (Nat.le_refl _) _).setCell (Nat.le_refl _) _⟩
        · omega
    · by_cases h12 : 12 < len
      · go_wp2
        go_ret
        exact ⟨rfl, SrcW.ok ((HW.out.set3 _).set3 _) hcode ((hbl.setCell (Nat.le_refl _) _).setCell (Nat.le_refl _) _) hl (by omega) (by omega), (hbl.setCell (Nat.le_refl _) _).setCell (Nat.le_refl _) _⟩
      · go_wp2
        go_ret
        exact ⟨rfl, SrcW.ok (HW.out.set3 _) hcode (hbl.setCell (Nat.le_refl _) _) hl (by omega) (by omega), hbl.setCell (Nat.le_refl _) _⟩

theorem SrcOk.far {w w' : World} {b : Nat} {a : Option Addr} {len cap : Nat} (h : SrcOk w b a len cap) (hg : w.grownBy w' none) : SrcOk w' b a len cap := by
  have hlt := h.lt
  obtain ⟨⟨p, m, z, hw, hr⟩, hc, hl⟩ := h
  refine ⟨⟨p, m, z, (hg.block b hlt (by simp)).trans hw, hr⟩, ?_, hl⟩
  rcases hc with hc | ⟨cb, co, ha, hlt, hcc⟩
  · exact .inl hc
  · refine .inr ⟨cb, co, ha, hlt, fun i hi => ?_⟩
    obtain ⟨x, h0, h1, hx⟩ := hcc i hi
    exact ⟨x, h0, h1, hg.cell hx (by simp)⟩
theorem ed_cells (w : World) (b : Nat) (cs : Array Value) (t : TypeId) (h : w.heap[b]? = some (.cells cs t (0, 0))) (R : Nat) (v : Value) (hv : cs[R]? = some v) : w.cell? ⟨b, R, none⟩ = some v := (cell_of_row w b R cs t (0, 0) h).trans hv

theorem ungr {u w : World} {r : Option Nat} (h : u.drew.grownBy w r) : u.grownBy w r := ⟨h.os, h.tape, h.output, h.size, h.block⟩
theorem w64_b (x : Int) : -9223372036854775808 ≤ wrap64 x ∧ wrap64 x ≤ 9223372036854775807 := by unfold wrap64; omega
def EDS : Array Value := #[.int .i64 0, .int .i64 1, .int .i64 2, .int .i64 255, .int .i64 256, .int .i64 4095, .int .i64 4096, .int .i64 65535, .int .i64 65536, .int .i64 2147483647, .int .i64 2147483648, .int .i64 4294967295, .int .i64 4294967296, .int .i64 9223372036854775807, .int .i64 (-9223372036854775808)]
theorem eds_at (R : Nat) (h : R < 15) : ∃ n : Int, EDS[R]? = some (.int .i64 n) ∧ -9223372036854775808 ≤ n ∧ n ≤ 9223372036854775807 := by
  have : R = 0 ∨ R = 1 ∨ R = 2 ∨ R = 3 ∨ R = 4 ∨ R = 5 ∨ R = 6 ∨ R = 7 ∨ R = 8 ∨ R = 9 ∨ R = 10 ∨ R = 11 ∨ R = 12 ∨ R = 13 ∨ R = 14 := by omega
  rcases this with rfl | rfl | rfl | rfl | rfl | rfl | rfl | rfl | rfl | rfl | rfl | rfl | rfl | rfl | rfl <;> exact ⟨_, rfl, by decide, by decide⟩

end Go.Proofs.YtmmodmanfoipiaaDoor
