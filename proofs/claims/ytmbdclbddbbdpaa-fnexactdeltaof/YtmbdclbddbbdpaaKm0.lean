import Derived.Test.YtmbdclbddbbdpaaFrM
import Derived.Test.YtmbdclbddbbdpaaPutBitS
import Derived.Test.YtmbdclbddbbdpaaPutBitI
import Derived.Test.YtmbdclbddbbdpaaKw1
import Derived.Test.YtmbdclbddbbdpaaLG
import Derived.Laws.StructEq
namespace Go.Proofs.Ytmbdclbddbbdpaa
open Go.ChangeShapes Go.WideShapes Go.ChangeAt Go.RowKit

theorem str_neM {a b : ByteArray} (h : a ≠ b) : (a.toList == b.toList) = false := by
  have hd : a.data.toList ≠ b.data.toList := fun e => h (by cases a; cases b; simpa using e)
  rw [ByteArray.toList_eq, ByteArray.toList_eq]
  exact beq_eq_false_iff_ne.2 hd
/-- Bytes 0. -/
def zB (m : Nat) : ByteArray := ⟨(zer m).toArray⟩
theorem zB_size (m : Nat) : (zB m).size = m := zsize m
theorem zrs_mcel (m : Nat) : (zrs m).toArray = mcel (zB m) := by
  unfold mcel zB zrs zer cells8
  simp
theorem conv_z (w : World) (m : Nat) (hm : m ≤ 65536) : Sem.run Try.prog (convert 61 9 (.slice (some ⟨w.heap.size, 0, none⟩) m m)) (w.alloc (.cells (zrs m).toArray 5)) = .ok (.string (zB m)) (w.alloc (.cells (zrs m).toArray 5)) := by
  have h := own_block (w := w.alloc (.cells (mcel (zB m)) 5)) (g := w.heap.size) (s := zB m) (heap_new _ _) (by rw [zB_size]; exact hm)
  rw [zB_size] at h
  rw [zrs_mcel]
  exact conv_own _ 0 _ m (zer m) h
theorem l20Frames_any (s : ByteArray) (n : Nat) (w : World) (hn : s.size = n * 256) (hs : n ≤ 256) : Calls Try.prog 12 #[.string s] w fun e w' => e = .returned (.int .i64 (n : Int)) ∧ w' = w := by
  have hq : (s.size : Int).tdiv 256 = (n : Int) := by
    rw [Int.tdiv_eq_ediv_of_nonneg (by omega)]
    omega
  have h0 : (0 : Int) ≤ (s.size : Int) := by omega
  have h1 : (s.size : Int) ≤ 65536 := by omega
  have h2 : IntKind.i64.wrap (n : Int) = (n : Int) := by rw [IntKind.wrap_i64]; omega
  have h3 : (s.size : Int) / 256 = (n : Int) := by omega
  go_enter Try.func12, Try.ntmps12
  go_wp2
  go_ret
  exact ⟨by first | rfl | (rw [h3]), rfl⟩
theorem l20Zero_any (w : World) : Calls Try.prog 15 #[] w fun e w' => e = .returned (.string (zB 256)) ∧ Below w.heap.size w w' := by
  have hmk : (Instr.makeSlice 61 (.int .i64 256) (.int .i64 256)).run Try.prog w = .ok (.slice (some ⟨w.heap.size, 0, none⟩) 256 256) (w.alloc (.cells (zrs 256).toArray 5)) := mkBytes w 256 (by omega)
  have hcv := conv_z w 256 (by omega)
  generalize zB 256 = z at *
  generalize (zrs 256).toArray = zz at *
  go_enter Try.func15, Try.ntmps15
  go_wp2
  go_ret
  exact ⟨rfl, bx1 _ _⟩
/-- The set of so many numbers, those that are so. -/
def sB (p : Nat → Bool) (z : Nat) : Nat → ByteArray
  | 0 => zB z
  | k + 1 => if p k = true then ⟨(pb (sB p z k) k true).toArray⟩ else sB p z k
theorem sB_size (p : Nat → Bool) (z : Nat) : ∀ k, k ≤ 8 * z → (sB p z k).size = z
  | 0, _ => zB_size z
  | k + 1, h => by
    have ih := sB_size p z k (by omega)
    unfold sB
    split
    · show (pb (sB p z k) k true).toArray.size = z
      rw [List.size_toArray]
      unfold pb
      rw [List.length_set, bl_len, ih]
      omega
    · exact ih
theorem sB_congr {p q : Nat → Bool} (z : Nat) : ∀ k, (∀ j, j < k → p j = q j) → sB p z k = sB q z k
  | 0, _ => rfl
  | k + 1, h => by
    have ih := sB_congr z k (fun j hj => h j (by omega))
    unfold sB
    rw [ih, h k (by omega)]
theorem sB_on {p : Nat → Bool} {z k : Nat} (h : p k = true) : sB p z (k + 1) = ⟨(pb (sB p z k) k true).toArray⟩ := by unfold sB; rw [if_pos h]; cases k <;> rfl
theorem sB_off {p : Nat → Bool} {z k : Nat} (h : p k = false) : sB p z (k + 1) = sB p z k := by
  show (if p k = true then _ else sB p z k) = _
  rw [if_neg (by rw [h]; decide)]
/-- Two memories have another frame there. -/
def dfB (s t : ByteArray) (f : Nat) : Bool := decide (fr s f ≠ fr t f)
set_option maxRecDepth 100000 in
set_option maxHeartbeats 4000000 in
theorem l20Set_any (s t : ByteArray) (n : Nat) (w : World) (hs : s.size = n * 256) (ht : t.size = n * 256) (hn : n ≤ 256) : Calls Try.prog 19 #[.string s, .string t] w fun e w' => e = .returned (.string (sB (dfB s t) ((n + 7) / 8) n)) ∧ Below w.heap.size w w' := by
  have HFR : Hid (∀ u, Calls Try.prog 12 #[.string s] u fun e w' => e = .returned (.int .i64 (n : Int)) ∧ w' = u) := fun u => l20Frames_any s n u hs hn
  have HFA : Hid (∀ (k : Nat) (u : World), k < n → Calls Try.prog 13 #[.string s, .int .i64 k] u fun e w' => e = .returned (.string (fr s k)) ∧ w' = u) := fun k u hk => l06Frame_any s k u (by omega) (by omega)
  have HFB : Hid (∀ (k : Nat) (u : World), k < n → Calls Try.prog 13 #[.string t, .int .i64 k] u fun e w' => e = .returned (.string (fr t k)) ∧ w' = u) := fun k u hk => l06Frame_any t k u (by omega) (by omega)
  obtain ⟨z, hz⟩ : ∃ z, (n + 7) / 8 = z := ⟨_, rfl⟩
  have hz9 : n ≤ 8 * z := by omega
  have hz8 : z ≤ 32 := by omega
  have hmk := mkBytes w z (by omega)
  have hcv := conv_z w z (by omega)
  have hqd : ((n : Int) + 7).tdiv 8 = (z : Int) := by rw [Int.tdiv_eq_ediv_of_nonneg (by omega)]; omega
  have hq2 : ((n : Int) + 7) / 8 = (z : Int) := by omega
  have hn0 : (n : Int) ≤ 256 := by omega
  rw [hz]
  clear hs ht
  have HD : Hid (∀ k, dfB s t k = decide (fr s k ≠ fr t k)) := fun k => rfl
  have H0 : Hid (zB z = sB (dfB s t) z 0) := (show _ = _ from rfl)
  rw [H0.out] at hcv
  generalize (zrs z).toArray = zz at *
  go_enter Try.func19, Try.ntmps19
  go_wp2_with (go_at_call 12; refine Calls.mono (HFR.out _) ?_; rintro e u1 ⟨rfl, hw1⟩; rw [hw1]; clear hw1 u1)
  go_loopw [6, 7] (fun v i wr => ∃ k : Nat, k ≤ n ∧ i = .int .i64 k ∧ v = .string (sB (dfB s t) z k) ∧ Below w.heap.size w wr) (fun _ i _ => n - (intOf i).toNat)
  case atStart => exact ⟨0, Nat.zero_le _, rfl, rfl, bx1 _ _⟩
  case round =>
    obtain ⟨k, hk, rfl, rfl, hb⟩ := hrel
    have HB : Hid (Below w.heap.size w wr) := hb
    clear hb hmk hcv
    by_cases hlt : k < n
    · have hk1 : (k : Int) < (n : Int) := by omega
      have HA : Hid _ := fun u => HFA.out k u hlt
      have HBB : Hid _ := fun u => HFB.out k u hlt
      have hsz := sB_size (dfB s t) z k (by omega)
      have HPB : Hid (∀ u, Calls Try.prog 42 #[.string (sB (dfB s t) z k), .int .i64 k, .bool true] u fun e w' => e = .returned (.string ⟨(pb (sB (dfB s t) z k) k true).toArray⟩) ∧ Below u.heap.size u w') := fun u => specPutBit_in _ k true u (by omega) (by omega)
      have hdk := HD.out k
      have hon := sB_on (p := dfB s t) (z := z) (k := k)
      have hoff := sB_off (p := dfB s t) (z := z) (k := k)
      have HON : Hid (dfB s t k = true → sB (dfB s t) z (k + 1) = _) := hon
      have HOFF : Hid (dfB s t k = false → sB (dfB s t) z (k + 1) = _) := hoff
      clear hon hoff hsz
      generalize fr s k = x at *
      generalize fr t k = y at *
      by_cases hxy : x = y
      · subst hxy
        have HE : Hid (sB (dfB s t) z (k + 1) = sB (dfB s t) z k) := HOFF.out (by rw [hdk]; simp)
        clear HON HOFF hdk
        go_wp2_with fail
        refine Calls.mono (HA.out _) ?_
        rintro e u1 ⟨rfl, hw1⟩
        rw [hw1]
        clear hw1 u1
        go_wp2_with fail
        refine Calls.mono (HBB.out _) ?_
        rintro e u1 ⟨rfl, hw1⟩
        rw [hw1]
        clear hw1 u1
        go_wp2
        exact ⟨⟨k + 1, hlt, by go_num, by rw [HE.out], HB.out⟩, by simp [intOf]; omega⟩
      · have HE : Hid (sB (dfB s t) z (k + 1) = _) := HON.out (by rw [hdk]; simpa using hxy)
        have hne := str_neM hxy
        clear HON HOFF hdk
        go_wp2_with fail
        refine Calls.mono (HA.out _) ?_
        rintro e u1 ⟨rfl, hw1⟩
        rw [hw1]
        clear hw1 u1
        go_wp2_with fail
        refine Calls.mono (HBB.out _) ?_
        rintro e u1 ⟨rfl, hw1⟩
        rw [hw1]
        clear hw1 u1
        go_wp2_with (go_at_call 42; refine Calls.mono (HPB.out _) ?_; rintro e u2 ⟨rfl, hu⟩; have HU : Hid (Below w.heap.size w u2) := HB.out.trans (hu.mono HB.out.size); clear hu)
        exact ⟨⟨k + 1, hlt, by go_num, by rw [HE.out], HU.out⟩, by simp [intOf]; omega⟩
    · obtain rfl : k = n := by omega
      have hk1 : ¬ (k : Int) < (k : Int) := by omega
      go_wp2
      go_ret
      exact ⟨rfl, HB.out⟩
end Go.Proofs.Ytmbdclbddbbdpaa
