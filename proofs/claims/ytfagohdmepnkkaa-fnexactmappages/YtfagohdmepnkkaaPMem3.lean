import Derived.Test.YtfagohdmepnkkaaPMem2
namespace Go.Proofs.Ytfagohdmepnkkaa
open Go.ChangeShapes Go.WideShapes Go.ChangeAt Go.RowKit

theorem pw4 (n : Int) : Nat.min (pw n).size 4 = 4 := by rfl
set_option maxRecDepth 100000 in
set_option maxHeartbeats 1000000 in
theorem memPut_any (b n : Nat) (s : ByteArray) (k : Nat) (x : Int) (w : World) (h : MemAt w b s) (hn : s.size = n * 256) (hs : s.size ≤ 65536) (hk : k + 4 ≤ s.size) (h4 : k % 4 = 0) :
    Calls Try.prog 119 #[mv b n, .int .i64 k, .int .i64 x] w fun e w' => e = .returned (.tuple #[]) ∧ MemAt w' b (setv s k x) ∧ w.grownBy w' (some b) := by
  have HR : Hid _ := fun w => restOf_any b n k w (by omega) (by omega)
  unfold mv at HR ⊢
  obtain ⟨L, hL⟩ : ∃ L, 256 - k % 256 = L := ⟨_, rfl⟩
  have hL4 : 4 ≤ L := by omega
  rw [hL] at HR
  have hmin : Hid (Nat.min (pw x).size L = 4) := by
    show Nat.min 4 L = 4
    exact Nat.min_eq_left hL4
  have hfit : Hid (k + 4 ≤ (mcel s).size) := by
    show _ ≤ _
    rw [mcel_size]
    exact hk
  have HM : Hid (MemAt w b s) := h
  clear hL h
  go_enter Try.func119, Try.ntmps119
  go_wp2_with first
    | (go_at_call 122; refine Calls.mono (HR.out _) ?_; rintro e u1 ⟨rfl, rfl⟩)
    | (go_at_call 130; refine (implPutWord_any _ _).mono ?_; rintro e u2 ⟨rfl, hw2⟩; have HM2 : Hid (MemAt u2 b s) := HM.out.below hw2 HM.out.lt; have hcp := run_copy_str u2 3 b k L L 4 (pw x) (mcel s) 142 HM2.out hmin.out hfit.out; rw [mcel_set] at hcp)
  refine bodyPost_end (v := .tuple #[]) (by simp [results, Try.results119, go_sem]) rfl ⟨rfl, HM2.out.row rfl, ?_⟩
  exact ⟨hw2.os, hw2.tape, hw2.output, by rw [size_setRow]; exact hw2.size, fun k hk hne => (setRow_other _ _ _ _ (fun e => hne (by rw [e]))).trans (hw2.block k hk)⟩

/-- So many zeros. -/
def zrs (m : Nat) : List Value := List.replicate m (.int .u8 0)
theorem frInfo : (Try.prog.info? 142).map (fun i => (i.size, i.bytes)) = some (256, 256) := by kernel_rfl
theorem frZero : ((Try.prog.info? 142).bind (·.zero)).map (·.cells) = some (Array.replicate 256 (.int .u8 0)) := by kernel_rfl
theorem made256 (m : Nat) : (madeCells (Array.replicate 256 (.int .u8 0)) m).toList = zrs m := by
  unfold madeCells zrs
  apply List.ext_getElem
  · simp
  · intro i h1 h2
    have : i % 256 < 256 := Nat.mod_lt _ (by omega)
    simp [this]
theorem mkMem (w : World) (n : Nat) (hn : n ≤ 256) : (Instr.makeSlice 85 (.int .i64 n) (.int .i64 n)).run Try.prog w = .ok (.slice (some ⟨w.heap.size, 0, none⟩) n n) (w.alloc (.cells (zrs (n * 256)).toArray 142)) := by
  have h1 := frInfo
  have h2 := frZero
  cases hq : Try.prog.info? 142 with
  | none => simp [hq] at h1
  | some i =>
    simp [hq] at h1 h2
    obtain ⟨z, hz, hc⟩ := h2
    have hr := run_makeSlice (P := Try.prog) w 85 142 i z Try.underlying85 hq hz .i64 .i64 n n (by omega) (by omega) (by rw [h1.1]; omega) (by rw [h1.2]; omega) (by omega)
    rw [hr, hc, h1.1]
    simp only [Int.toNat_natCast]
    rw [← made256]
end Go.Proofs.Ytfagohdmepnkkaa
