import Derived.Test.YtfagohdmepnkkaaDe1
namespace Go.Proofs.Ytfagohdmepnkkaa
open Go.ChangeShapes Go.WideShapes Go.ChangeAt Go.RowKit

theorem gb_refl (w : World) (r : Option Nat) : w.grownBy w r := ⟨rfl, rfl, rfl, Nat.le_refl _, fun _ _ _ => rfl⟩
theorem gb_below {w0 w u : World} {r : Option Nat} (h : w0.grownBy w r) (hb : Below w.heap.size w u) : w0.grownBy u r :=
  ⟨hb.os.trans h.os, hb.tape.trans h.tape, hb.output.trans h.output, Nat.le_trans h.size hb.size, fun k hk hn => (hb.block k (Nat.lt_of_lt_of_le hk h.size)).trans (h.block k hk hn)⟩
theorem gb_grow {w0 w u : World} {r : Option Nat} (h : w0.grownBy w r) (hg : w.grownBy u r) : w0.grownBy u r :=
  ⟨hg.os.trans h.os, hg.tape.trans h.tape, hg.output.trans h.output, Nat.le_trans h.size hg.size, fun k hk hn => (hg.block k (Nat.lt_of_lt_of_le hk h.size) hn).trans (h.block k hk hn)⟩
theorem setv_size (s : ByteArray) (k : Nat) (n : Int) (h : k + 4 ≤ s.size) : (setv s k n).size = s.size := by
  unfold setv
  rw [ByteArray.size_append', ByteArray.size_append', ByteArray.size_extract, ByteArray.size_extract, pw_size]
  omega
/-- Four words put one behind the other. -/
def setd (s : ByteArray) (k : Nat) (a b c d : Int) : ByteArray := setv (setv (setv (setv s k a) (k + 4) b) (k + 8) c) (k + 12) d
theorem setd_size (s : ByteArray) (k : Nat) (a b c d : Int) (h : k + 16 ≤ s.size) : (setd s k a b c d).size = s.size := by
  have h1 := setv_size s k a (by omega)
  have h2 := setv_size (setv s k a) (k + 4) b (by omega)
  have h3 := setv_size (setv (setv s k a) (k + 4) b) (k + 8) c (by omega)
  have h4 := setv_size (setv (setv (setv s k a) (k + 4) b) (k + 8) c) (k + 12) d (by omega)
  unfold setd
  omega
theorem ix0 (a b c d : Int) (w : World) : Sem.run Try.prog (Instr.index 119 (.agg #[.int .i64 a, .int .i64 b, .int .i64 c, .int .i64 d]) (.int .i64 0)) w = .ok (.int .i64 a) w := by kernel_rfl
theorem ix1 (a b c d : Int) (w : World) : Sem.run Try.prog (Instr.index 119 (.agg #[.int .i64 a, .int .i64 b, .int .i64 c, .int .i64 d]) (.int .i64 1)) w = .ok (.int .i64 b) w := by kernel_rfl
theorem ix2 (a b c d : Int) (w : World) : Sem.run Try.prog (Instr.index 119 (.agg #[.int .i64 a, .int .i64 b, .int .i64 c, .int .i64 d]) (.int .i64 2)) w = .ok (.int .i64 c) w := by kernel_rfl
theorem ix3 (a b c d : Int) (w : World) : Sem.run Try.prog (Instr.index 119 (.agg #[.int .i64 a, .int .i64 b, .int .i64 c, .int .i64 d]) (.int .i64 3)) w = .ok (.int .i64 d) w := by kernel_rfl
/-- So many of four words are put. -/
def setn (s : ByteArray) (k : Nat) (a b c d : Int) : Nat → ByteArray
  | 0 => s
  | 1 => setv s k a
  | 2 => setv (setv s k a) (k + 4) b
  | 3 => setv (setv (setv s k a) (k + 4) b) (k + 8) c
  | _ => setd s k a b c d
theorem setn_size (s : ByteArray) (k : Nat) (a b c d : Int) (h : k + 16 ≤ s.size) (j : Nat) : (setn s k a b c d j).size = s.size := by
  have h1 := setv_size s k a (by omega)
  have h2 := setv_size (setv s k a) (k + 4) b (by omega)
  have h3 := setv_size (setv (setv s k a) (k + 4) b) (k + 8) c (by omega)
  have h4 := setd_size s k a b c d h
  match j with
  | 0 => rfl
  | 1 => exact h1
  | 2 => exact h2.trans h1
  | 3 => exact h3.trans (h2.trans h1)
  | _ + 4 => exact h4
set_option maxRecDepth 100000 in
set_option maxHeartbeats 4000000 in
theorem putDesc_any (b n : Nat) (s : ByteArray) (k : Nat) (d : DV) (w : World) (h : MemAt w b s) (hn : s.size = n * 256) (hs : s.size ≤ 65536) (hk : k + 16 ≤ s.size) (h4 : k % 4 = 0) :
    Calls Try.prog 109 #[mv b n, .int .i64 k, dA d] w fun e w' => e = .returned (.tuple #[]) ∧ MemAt w' b (setd s k d.pos d.len (dF d) d.number) ∧ w.grownBy w' (some b) := by
  have HW : Hid _ := fun u => words_any d u
  generalize dF d = F at *
  obtain ⟨p, l, wr, nx, id, av, us, nm⟩ := d
  have HM0 : Hid (MemAt (w.alloc (.cells #[.int .i64 p, .int .i64 l, .bool wr, .bool nx, .bool id, .bool av, .bool us, .int .i64 nm] 116)) b s) := h.below (bx1 _ _) h.lt
  have HG0 : Hid (Below w.heap.size w (w.alloc (.cells #[.int .i64 p, .int .i64 l, .bool wr, .bool nx, .bool id, .bool av, .bool us, .int .i64 nm] 116))) := bx1 _ _
  unfold dA at HW ⊢
  unfold wA at HW
  unfold mv
  simp only at *
  have HP : ∀ (j : Nat) (x : Int) (u : World) (y : Int), y = ((k + 4 * j : Nat) : Int) → j < 4 → MemAt u b (setn s k p l F nm j) → Calls Try.prog 119 #[.slice (some ⟨b, 0, none⟩) n n, .int .i64 y, .int .i64 x] u fun e w' => e = .returned (.tuple #[]) ∧ MemAt w' b (setv (setn s k p l F nm j) (k + 4 * j) x) ∧ u.grownBy w' (some b) := fun j x u y hy hj hm => hy ▸ memPut_any b n _ (k + 4 * j) x u hm (by rw [setn_size _ _ _ _ _ _ hk]; exact hn) (by rw [setn_size _ _ _ _ _ _ hk]; exact hs) (by rw [setn_size _ _ _ _ _ _ hk]; omega) (by omega)
  have HP0 : Hid _ := fun (u : World) => HP 0 p u (k : Int) (by omega) (by omega)
  have HP1 : Hid _ := fun (u : World) => HP 1 l u ((k : Int) + 4) (by omega) (by omega)
  have HP2 : Hid _ := fun (u : World) => HP 2 F u ((k : Int) + 8) (by omega) (by omega)
  have HP3 : Hid _ := fun (u : World) => HP 3 nm u ((k : Int) + 12) (by omega) (by omega)
  clear HP
  have i0 := fun u => ix0 p l F nm u
  have i1 := fun u => ix1 p l F nm u
  have i2 := fun u => ix2 p l F nm u
  have i3 := fun u => ix3 p l F nm u
  have hkb : (k : Int) ≤ 65536 := by omega
  clear h hn hs hk h4
  go_enter Try.func109, Try.ntmps109
  go_wp2_with fail
  refine Calls.mono (HW.out _) ?_
  rintro e u0 ⟨rfl, hb⟩
  have HM1 : Hid (MemAt u0 b (setn s k p l F nm 0)) := (show MemAt u0 b s from HM0.out.below hb HM0.out.lt)
  have HG1 : Hid (w.grownBy u0 (some b)) := gb_below (gb_below (gb_refl _ _) HG0.out) hb
  clear hb HM0 HG0 HW
  go_wp2_with fail
  go_loopw [10] (fun i wr => ∃ j : Nat, j ≤ 4 ∧ i = .int .i64 j ∧ MemAt wr b (setn s k p l F nm j) ∧ w.grownBy wr (some b)) (fun i _ => 4 - (intOf i).toNat)
  case atStart => exact ⟨0, by omega, rfl, HM1.out, HG1.out⟩
  case round =>
    obtain ⟨j, hj, rfl, hm, hg⟩ := hrel
    have HM2 : Hid _ := hm
    have HG2 : Hid _ := hg
    clear hm hg HM1 HG1
    have h5 : j = 0 ∨ j = 1 ∨ j = 2 ∨ j = 3 ∨ j = 4 := by omega
    clear hj
    rcases h5 with rfl | rfl | rfl | rfl | rfl
    · go_wp2_with (go_at_call 119; refine Calls.mono (HP0.out _ HM2.out) ?_; rintro e u1 ⟨rfl, hm, hg⟩; have HM3 : Hid (MemAt u1 b (setn s k p l F nm 1)) := hm; have HG3 : Hid (w.grownBy u1 (some b)) := gb_grow HG2.out hg; clear hm hg HM2 HG2)
      refine ⟨⟨1, by omega, by simp, HM3.out, HG3.out⟩, ?_⟩
      simp [intOf]
    · go_wp2_with (go_at_call 119; refine Calls.mono (HP1.out _ HM2.out) ?_; rintro e u1 ⟨rfl, hm, hg⟩; have HM3 : Hid (MemAt u1 b (setn s k p l F nm 2)) := hm; have HG3 : Hid (w.grownBy u1 (some b)) := gb_grow HG2.out hg; clear hm hg HM2 HG2)
      refine ⟨⟨2, by omega, by simp, HM3.out, HG3.out⟩, ?_⟩
      simp [intOf]
    · go_wp2_with (go_at_call 119; refine Calls.mono (HP2.out _ HM2.out) ?_; rintro e u1 ⟨rfl, hm, hg⟩; have HM3 : Hid (MemAt u1 b (setn s k p l F nm 3)) := hm; have HG3 : Hid (w.grownBy u1 (some b)) := gb_grow HG2.out hg; clear hm hg HM2 HG2)
      refine ⟨⟨3, by omega, by simp, HM3.out, HG3.out⟩, ?_⟩
      simp [intOf]
    · go_wp2_with (go_at_call 119; refine Calls.mono (HP3.out _ HM2.out) ?_; rintro e u1 ⟨rfl, hm, hg⟩; have HM3 : Hid (MemAt u1 b (setn s k p l F nm 4)) := hm; have HG3 : Hid (w.grownBy u1 (some b)) := gb_grow HG2.out hg; clear hm hg HM2 HG2)
      refine ⟨⟨4, by omega, by simp, HM3.out, HG3.out⟩, ?_⟩
      simp [intOf]
    · go_wp2_with fail
      refine bodyPost_end (v := .tuple #[]) (by simp [results, Try.results109, go_sem]) rfl ⟨rfl, HM2.out, HG2.out⟩
end Go.Proofs.Ytfagohdmepnkkaa
