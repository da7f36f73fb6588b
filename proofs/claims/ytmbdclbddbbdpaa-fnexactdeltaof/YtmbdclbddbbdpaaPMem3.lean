import Derived.Test.YtmbdclbddbbdpaaPMem2
namespace Go.Proofs.Ytmbdclbddbbdpaa
open Go.ChangeShapes Go.WideShapes Go.ChangeAt Go.RowKit

theorem pw4 (n : Int) : Nat.min (pw n).size 4 = 4 := by rfl
/-- So many zeros. -/
def zrs (m : Nat) : List Value := List.replicate m (.int .u8 0)
theorem frInfo : (Try.prog.info? 52).map (fun i => (i.size, i.bytes)) = some (256, 256) := by kernel_rfl
theorem frZero : ((Try.prog.info? 52).bind (·.zero)).map (·.cells) = some (Array.replicate 256 (.int .u8 0)) := by kernel_rfl
theorem made256 (m : Nat) : (madeCells (Array.replicate 256 (.int .u8 0)) m).toList = zrs m := by
  unfold madeCells zrs
  apply List.ext_getElem
  · simp
  · intro i h1 h2
    have : i % 256 < 256 := Nat.mod_lt _ (by omega)
    simp [this]
theorem mkMem (w : World) (n : Nat) (hn : n ≤ 256) : (Instr.makeSlice 48 (.int .i64 n) (.int .i64 n)).run Try.prog w = .ok (.slice (some ⟨w.heap.size, 0, none⟩) n n) (w.alloc (.cells (zrs (n * 256)).toArray 52)) := by
  have h1 := frInfo
  have h2 := frZero
  cases hq : Try.prog.info? 52 with
  | none => simp [hq] at h1
  | some i =>
    simp [hq] at h1 h2
    obtain ⟨z, hz, hc⟩ := h2
    have hr := run_makeSlice (P := Try.prog) w 48 52 i z Try.underlying48 hq hz .i64 .i64 n n (by omega) (by omega) (by rw [h1.1]; omega) (by rw [h1.2]; omega) (by omega)
    rw [hr, hc, h1.1]
    simp only [Int.toNat_natCast]
    rw [← made256]
end Go.Proofs.Ytmbdclbddbbdpaa
