import Derived.Test.YtmmodmanfoipiaaDoorSrc2
import Derived.Test.YtmmodmanfoipiaaDoorJoinedCore
import Derived.Test.YtmmodmanfoipiaaDoorPutBitL
import Derived.Deep.AppendLies
import Derived.OwnWalk
import Derived.Laws.OwnMore
namespace Go.Proofs.YtmmodmanfoipiaaDoor
open Go.ChangeShapes Go.WideShapes Go.ChangeAt Go.RowKit

theorem SrcOk.keep {w w' : World} {b : Nat} {a : Option Addr} {len cap : Nat} (h : SrcOk w b a len cap) (hk : ∀ i, i ≤ b → w'.heap[i]? = w.heap[i]?) : SrcOk w' b a len cap := by
  obtain ⟨⟨p, m, z, hw, hr⟩, hc, hl⟩ := h
  refine ⟨⟨p, m, z, (hk b (Nat.le_refl _)).trans hw, hr⟩, ?_, hl⟩
  rcases hc with hc | ⟨cb, co, ha, hlt, hcc⟩
  · exact .inl hc
  · refine .inr ⟨cb, co, ha, hlt, fun i hi => ?_⟩
    obtain ⟨x, h0, h1, hx⟩ := hcc i hi
    exact ⟨x, h0, h1, (World.cell?_of_block (a := ⟨cb, co + i, none⟩) (hk cb (Nat.le_of_lt hlt))).trans hx⟩
theorem gfar {u w w' : World} {b : Nat} {row : Option Nat} (h : u.grownBy w (some b)) (hg : w.grownBy w' row) (hr : ∀ k, row = some k → u.heap.size ≤ k) : u.grownBy w' (some b) :=
  ⟨hg.os.trans h.os, hg.tape.trans h.tape, hg.output.trans h.output, Nat.le_trans h.size hg.size, fun k hk hne =>
    (hg.block k (Nat.lt_of_lt_of_le hk h.size) (fun e => by have := hr k e.symm; omega)).trans (h.block k hk hne)⟩

theorem made_z (n : Nat) : (madeCells #[Value.int .u8 0] n).toList = cells8 (zer n) := by
  rw [toList_madeCells_one]
  simp [cells8, zer]
theorem zsz (M : Nat) : (⟨(zer M).toArray⟩ : ByteArray).size = M := by
  show (zer M).toArray.size = M
  rw [List.size_toArray]
  exact List.length_replicate

theorem src_zeros (p : Value) (n : Nat) (w : World) (hn : n ≤ 1048576) :
    Calls Tryd.prog 31 #[p, .int .i64 n] w fun e w' => e = .returned (.string ⟨(zer n).toArray⟩) ∧ w.grownBy w' none := by
  obtain ⟨i0, hi, hz0, hz1, hz2⟩ := info_parts Tryd.info5
  go_enter Tryd.func31, Tryd.ntmps31
  go_wp2_with (at_make; refine wpList_make_full _ rfl _ _ 22 rfl w.heap.size 5 i0 (.int .u8 0) 1 Tryd.underlying22 hi hz0 hz1 _ _ _ _ n rfl rfl rfl rfl ?b2 ?b3 (Nat.le_refl _) ?_)
  case b2 => rw [hz2]; omega
  case b3 => unfold maxLen; omega
  intro w1 hown1 hgrow1
  have hcv := conv_own w1 _ _ _ _ (own_cast hown1 rfl ((made_z n).trans rfl))
  clear hown1
  go_wp2
  go_ret
  exact ⟨rfl, hgrow1⟩

theorem gnone {u w w' : World} {b : Nat} (h : u.grownBy w (some b)) (hg : w.grownBy w' none) : u.grownBy w' (some b) := gfar h hg (fun k hk => by cases hk)

end Go.Proofs.YtmmodmanfoipiaaDoor
