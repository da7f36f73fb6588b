import Derived.Test.YtegcbghhcidcaaaDoorCk3
import Derived.Test.YtegcbghhcidcaaaDoorCk4
import Derived.Test.YtegcbghhcidcaaaDoorCk5
namespace Go.Proofs.YtegcbghhcidcaaaDoor
open Go.ChangeShapes Go.WideShapes Go.ChangeAt Go.RowKit

theorem indexFunc0 (ao : Option Addr) (cap : Nat) (f : Value) (w : World) : Calls Tryd.prog 44 #[.slice ao 0 cap, f] w fun e w' => e = .returned (.int .i64 (-1)) ∧ w' = w := by
  go_enter Tryd.func44, Tryd.ntmps44
  go_wp2
  go_loopw [8] (fun i wr => i = .int .i64 0 ∧ w = wr) (fun _ _ => 0)
  case atStart => exact ⟨rfl, rfl⟩
  case round =>
    obtain ⟨rfl, rfl⟩ := hrel
    go_wp2
    go_ret
    exact ⟨rfl, rfl⟩
theorem deleteFunc0 (ao : Option Addr) (cap : Nat) (f : Value) (w : World) : Calls Tryd.prog 42 #[.slice ao 0 cap, f] w fun e w' => e = .returned (.slice ao 0 cap) ∧ w' = w := by
  go_enter Tryd.func42, Tryd.ntmps42
  go_wp2_with (go_at_call 44; refine Calls.mono (indexFunc0 _ _ _ _) ?_; rintro e u1 ⟨rfl, hu1⟩; rw [hu1]; clear hu1)
  go_ret
  exact ⟨rfl, rfl⟩
theorem cel1 {u : World} {b t : Nat} {a0 : Value} (h : u.heap[b]? = some (.cells #[a0] t (0, 0))) : u.cell? ⟨b, 0, none⟩ = some a0 := by simp [World.cell?, h]
set_option maxRecDepth 100000 in
set_option maxHeartbeats 4000000 in
theorem tickAll0 {w : World} {B : Nat} {c : CK} {ao : Option Addr} {cap : Nat} (h : BoxK w B 25 c (.slice ao 0 cap)) : Calls Tryd.prog 38 #[.pointer (some ⟨B, 0, none⟩)] w fun e w' => e = .returned (.slice none 0 0) ∧ BoxK w' B 25 c (.slice ao 0 cap) ∧ w.grownBy w' (some B) := by
  have HX : Hid (BoxK w B 25 c (.slice ao 0 cap)) := h
  have hlt := h.lt
  have h1 : (w.alloc (.cells #[.pointer (some ⟨B, 0, none⟩)] 66)).heap[w.heap.size]? = some (.cells #[.pointer (some ⟨B, 0, none⟩)] 66 (0, 0)) := heap_new _ _
  have HB : Hid (Below w.heap.size w (w.alloc (.cells #[.pointer (some ⟨B, 0, none⟩)] 66))) := bx1 _ _
  have HX1 : Hid (BoxK (w.alloc (.cells #[.pointer (some ⟨B, 0, none⟩)] 66)) B 25 c (.slice ao 0 cap)) := h.below HB.out
  have p0 : (w.alloc (.cells #[.pointer (some ⟨B, 0, none⟩)] 66)).cell? ⟨w.heap.size, 0, none⟩ = some (.pointer (some ⟨B, 0, none⟩)) := cel1 h1
  clear h h1
  obtain ⟨c0, c1, c2, c3, c4, c5, c6, cf⟩ := HX.out.cel
  obtain ⟨d0, d1, d2, d3, d4, d5, d6, df⟩ := HX1.out.cel
  go_enter Tryd.func38, Tryd.ntmps38
  go_wp2
  have hlt1 : w.heap.size < (w.alloc (.cells #[.pointer (some ⟨B, 0, none⟩)] 66)).heap.size := by simp
  have hlt2 : B < (w.alloc (.cells #[.pointer (some ⟨B, 0, none⟩)] 66)).heap.size := by simp; omega
  generalize (w.alloc (.cells #[.pointer (some ⟨B, 0, none⟩)] 66)) = u at *
  go_loopw [3, 10] (fun t i wr => t = .slice none 0 0 ∧ i = .int .i64 0 ∧ u = wr) (fun _ _ _ => 0)
  case atStart => exact ⟨rfl, rfl, rfl⟩
  case round =>
    obtain ⟨rfl, rfl, rfl⟩ := hrel
    clear c0 c1 c2 c3 c4 c5 c6 cf d0 d1 d2 d3 d4 d5
    have HX2 : Hid (BoxK (u.setCell ⟨B, 6, none⟩ (.slice ao 0 cap)).drew B 25 c (.slice ao 0 cap)) := blk_set HX1.out 6 _
    have HG2 : Hid (w.grownBy (u.setCell ⟨B, 6, none⟩ (.slice ao 0 cap)).drew (some B)) := ⟨HB.out.os, HB.out.tape, HB.out.output, by simpa [World.setCell] using HB.out.size, fun k hk hn => (Below.heap_setCell u ⟨B, 6, none⟩ (.slice ao 0 cap) k (fun e => hn (congrArg some e))).trans (HB.out.block k hk)⟩
    have k1 : (u.setCell ⟨B, 6, none⟩ (.slice ao 0 cap)).drew.cell? ⟨w.heap.size, 0, none⟩ = some (.pointer (some ⟨B, 0, none⟩)) := (World.cell?_of_block (Below.heap_setCell u ⟨B, 6, none⟩ (.slice ao 0 cap) w.heap.size (by simp only; omega))).trans p0
    have k2 := HX2.out.cel.2.2.2.2.2.2.1
    go_wp2_with fail
    go_region_held3 (fun w' => w'.cell? ⟨w.heap.size, 0, none⟩ = some (.pointer (some ⟨B, 0, none⟩)) ∧ w'.cell? ⟨B, 6, none⟩ = some (.slice ao 0 cap) ∧ w'.frozen? ⟨B, 6, none⟩ = false) (go_keep) ((go_at_call 42; refine Calls.mono (deleteFunc0 _ _ _ _) ?_; rintro e u1 ⟨rfl, hu1⟩; rw [hu1]; clear hu1))
    all_goals go_wp2
    all_goals go_ret
    all_goals exact ⟨rfl, HX2.out, HG2.out⟩
end Go.Proofs.YtegcbghhcidcaaaDoor
