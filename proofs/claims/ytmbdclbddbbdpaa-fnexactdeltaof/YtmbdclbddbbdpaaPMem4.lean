import Derived.Test.YtmbdclbddbbdpaaPMem3
import Derived.Deep.RegionWith
import Derived.Laws.CopyOwn
namespace Go.Proofs.Ytmbdclbddbbdpaa
open Go.ChangeShapes Go.WideShapes Go.ChangeAt Go.RowKit

def rdC (s : ByteArray) (k n : Nat) : Array Value := (cells8 (s.data.toList.take (k * 256)) ++ zrs ((n - k) * 256)).toArray
theorem rdC_size (s : ByteArray) (k n : Nat) (hn : s.size = n * 256) (hk : k ≤ n) : (rdC s k n).size = n * 256 := by
  have h := bsize s
  simp only [rdC, cells8, zrs, List.size_toArray, List.length_append, List.length_map, List.length_take, List.length_replicate, h]
  rw [Nat.sub_mul, Nat.min_eq_left (by rw [hn]; exact Nat.mul_le_mul_right _ hk)]
  have := Nat.mul_le_mul_right 256 hk
  omega
theorem two_drop {α : Type} (A Z C : List α) (m : Nat) (h : m = A.length + Z.length) : (A ++ (Z ++ C)).drop m = C := by
  subst h
  rw [← List.append_assoc, ← List.length_append]
  exact List.drop_left
theorem one_take {α : Type} (A D : List α) (m : Nat) (h : m = A.length) : (A ++ D).take m = A := by
  subst h
  exact List.take_left
theorem rdC_step (s : ByteArray) (k n : Nat) (hn : s.size = n * 256) (hk : k < n) :
    ((rdC s k n).toList.take (k * 256) ++ (cells8 (s.extract (k * 256) s.size).data.toList).take 256 ++ (rdC s k n).toList.drop (k * 256 + 256)).toArray = rdC s (k + 1) n := by
  have h := bsize s
  have hl : (cells8 (s.data.toList.take (k * 256))).length = k * 256 := by
    simp only [cells8, List.length_map, List.length_take, h]
    exact Nat.min_eq_left (by omega)
  have e5 : (s.extract (k * 256) s.size).data.toList = s.data.toList.drop (k * 256) := by
    simp only [ByteArray.data_extract, Array.toList_extract, List.extract_eq_take_drop]
    apply List.take_of_length_le
    rw [List.length_drop, h]
    exact Nat.le_refl _
  have e6 : s.data.toList.take ((k + 1) * 256) = s.data.toList.take (k * 256) ++ (s.data.toList.drop (k * 256)).take 256 := by
    rw [show (k + 1) * 256 = k * 256 + 256 by omega, List.take_add]
  have e7 : zrs ((n - k) * 256) = zrs 256 ++ zrs ((n - (k + 1)) * 256) := by
    rw [zrs, zrs, zrs, List.replicate_append_replicate, show (n - k) * 256 = 256 + (n - (k + 1)) * 256 by omega]
  have hz : (zrs 256).length = 256 := List.length_replicate
  rw [e5]
  unfold rdC
  rw [e6, e7, cells8_app]
  generalize cells8 (s.data.toList.take (k * 256)) = A at hl ⊢
  generalize zrs 256 = Z at hz ⊢
  generalize zrs ((n - (k + 1)) * 256) = C
  have e8 : (A ++ (Z ++ C)).drop (k * 256 + 256) = C := two_drop A Z C _ (by rw [hl, hz])
  have e9 : (A ++ (Z ++ C)).take (k * 256) = A := one_take A _ _ hl.symm
  show ((A ++ (Z ++ C)).take (k * 256) ++ _ ++ (A ++ (Z ++ C)).drop (k * 256 + 256)).toArray = _
  rw [e8, e9]
  simp [cells8]
theorem rdC_all (s : ByteArray) (n : Nat) (hn : s.size = n * 256) : rdC s n n = mcel s := by
  unfold rdC mcel zrs
  rw [List.take_of_length_le (by rw [bsize, hn]; exact Nat.le_refl _)]
  simp
theorem rdC_zero (s : ByteArray) (n : Nat) : rdC s 0 n = (zrs (n * 256)).toArray := by
  unfold rdC
  simp [cells8]
theorem sl_fromK (s : ByteArray) (k : Nat) (h : k ≤ s.size) (w : World) : Sem.run Try.prog (Instr.slice 9 (.string s) (some (.int .i64 (k : Int))) none none) w = .ok (.string (s.extract k s.size)) w := by
  rw [run_slice_string_from_if _ _ _ _ _ Try.underlying9, if_pos (by omega)]
  rfl
set_option maxRecDepth 100000 in
set_option maxHeartbeats 1000000 in
theorem readMemory_any (s : ByteArray) (n : Nat) (w : World) (hn : s.size = n * 256) (hn1 : n ≤ 256) :
    Calls Try.prog 23 #[.string s] w fun e w' => e = .returned (mv w.heap.size n) ∧ MemAt w' w.heap.size s ∧ Below w.heap.size w w' ∧ w'.heap.size = w.heap.size + 1 := by
  have hq : (s.size : Int) / 256 = (n : Int) := by omega
  have hmk := mkMem w n hn1
  unfold mv
  go_enter Try.func23, Try.ntmps23
  go_wp2
  go_loopw [11] (fun i wr => ∃ k : Nat, k ≤ n ∧ i = .int .i64 k ∧ wr.heap[w.heap.size]? = some (.cells (rdC s k n) 52 (0, 0)) ∧ Below w.heap.size w wr ∧ wr.heap.size = w.heap.size + 1) (fun i _ => n - (intOf i).toNat)
  case atStart => exact ⟨0, Nat.zero_le _, rfl, by rw [rdC_zero]; exact (MapKept.heap_alloc w _).1, (Below.refl _ _).alloc (Nat.le_refl _) _, by simp⟩
  case round =>
    obtain ⟨k, hk, rfl, hb, hbl, hsz⟩ := hrel
    clear hmk
    by_cases hlt : k < n
    · have hs0 := fun w' => sl_frame0 w.heap.size (k * 256) w'
      have p1 : 0 ≤ (k : Int) * 256 := by omega
      have p2 : (k : Int) * 256 ≤ (s.size : Int) := by omega
      have p3 : ((k : Int) * 256).toNat = k * 256 := by omega
      have q1 : IntKind.i64.wrap ((k : Int) * 256) = (k : Int) * 256 := by rw [IntKind.wrap_i64]; omega
      have hmin : Nat.min (s.extract (k * 256) s.size).size 256 = 256 := by
        rw [ByteArray.size_extract]
        exact Nat.min_eq_right (by omega)
      have hcp := run_copy_str wr.drew 3 w.heap.size (k * 256) 256 256 256 (s.extract (k * 256) s.size) (rdC s k n) 52 hb hmin (by rw [rdC_size s k n hn hk]; omega)
      rw [rdC_step s k n hn hlt] at hcp
      have HN : Hid (s.size = n * 256) := hn
      clear hn hq hmin
      go_wp2
      go_region
      go_wp2
      have h1 : Below w.heap.size w wr.drew := ⟨hbl.os, hbl.tape, hbl.output, hbl.size, hbl.block⟩
      refine ⟨⟨k + 1, by omega, by simp, setRow_heap _ _ _ _ _ _ hb, below_setRow h1 (Nat.le_refl _) _, by rw [size_setRow]; exact hsz⟩, ?_⟩
      simp [intOf]
      omega
    · obtain rfl : k = n := by omega
      go_wp2
      go_ret
      exact ⟨rfl, by rw [rdC_all s k hn] at hb; exact hb, hbl, hsz⟩

theorem mkBytes (w : World) (m : Nat) (hm : m ≤ 65536) : (Instr.makeSlice 61 (.int .i64 m) (.int .i64 m)).run Try.prog w = .ok (.slice (some ⟨w.heap.size, 0, none⟩) m m) (w.alloc (.cells (zrs m).toArray 5)) := by
  obtain ⟨i0, hi, hz0, hz1, hz2⟩ := info_parts Try.info5
  have hr := run_makeSlice (P := Try.prog) w 61 5 i0 (.int .u8 0) Try.underlying61 hi hz0 .i64 .i64 m m (by omega) (by omega) (by rw [hz1]; omega) (by rw [hz2]; omega) (by omega)
  rw [hr, hz1]
  have e : madeCells (Value.int .u8 0).cells (m * 1) = (zrs m).toArray := by
    rw [Nat.mul_one]
    exact Array.toList_inj.1 (toList_madeCells_one _ _)
  simp only [Int.toNat_natCast]
  rw [e]
theorem own_block {w : World} {g : Nat} {s : ByteArray} (h : w.heap[g]? = some (.cells (mcel s) 5 (0, 0))) (hs : s.size ≤ 65536) : w.ownsRow 0 5 1 (.slice (some ⟨g, 0, none⟩) s.size s.size) s.size (cells8 s.data.toList) := by
  refine ⟨?_, .inr ⟨g, s.size, mcel s, rfl, Nat.zero_le _, h, Nat.le_refl _, by unfold maxLen; omega, by rw [mcel_size]; omega, ?_⟩⟩
  · rw [← bsize]
    simp [cells8]
  · show (cells8 s.data.toList).take (s.size * 1) = _
    apply List.take_of_length_le
    rw [← bsize]
    simp [cells8]
set_option maxRecDepth 100000 in
set_option maxHeartbeats 1000000 in
theorem memText_any (b : Nat) (s : ByteArray) (n : Nat) (w : World) (hM : MemAt w b s) (hn : s.size = n * 256) (hn1 : n ≤ 256) :
    Calls Try.prog 26 #[mv b n] w fun e w' => e = .returned (.string s) ∧ Below w.heap.size w w' := by
  have hlt := hM.lt
  have hmk := mkBytes w (n * 256) (by omega)
  rw [show ((n * 256 : Nat) : Int) = (n : Int) * 256 from by omega] at hmk
  unfold mv
  have HM : Hid (MemAt w b s) := hM
  clear hM
  go_enter Try.func26, Try.ntmps26
  go_wp2
  go_loopw [11] (fun i wr => ∃ k : Nat, k ≤ n ∧ i = .int .i64 k ∧ wr.heap[w.heap.size]? = some (.cells (rdC s k n) 5 (0, 0)) ∧ Below w.heap.size w wr) (fun i _ => n - (intOf i).toNat)
  case atStart => exact ⟨0, Nat.zero_le _, rfl, by rw [rdC_zero]; exact (MapKept.heap_alloc w _).1, (Below.refl _ _).alloc (Nat.le_refl _) _⟩
  case round =>
    obtain ⟨k, hk, rfl, hb, hbl⟩ := hrel
    clear hmk
    have hM2 : MemAt wr b s := HM.out.below hbl hlt
    by_cases hlt2 : k < n
    · have hs0 := fun w' => sl_frame0 b (k * 256) w'
      have p1 : 0 ≤ (k : Int) * 256 := by omega
      have p2 : (k : Int) * 256 ≤ ((n * 256 : Nat) : Int) := by omega
      have p3 : ((k : Int) * 256).toNat = k * 256 := by omega
      have p4 : ¬ n * 256 = k * 256 := by omega
      have q1 : IntKind.i64.wrap ((k : Int) * 256) = (k : Int) * 256 := by rw [IntKind.wrap_i64]; omega
      have e5 : (s.extract (k * 256) s.size).data.toList = s.data.toList.drop (k * 256) := by
        simp only [ByteArray.data_extract, Array.toList_extract, List.extract_eq_take_drop]
        apply List.take_of_length_le
        rw [List.length_drop, bsize]
        exact Nat.le_refl _
      have hcl : ((cells8 (s.extract (k * 256) s.size).data.toList).take 256).length = 256 := by
        rw [e5, List.length_take]
        apply Nat.min_eq_left
        simp only [cells8, List.length_map, List.length_drop, bsize]
        omega
      have hsrc : ∀ j v, ((cells8 (s.extract (k * 256) s.size).data.toList).take 256)[j]? = some v → wr.drew.cell? ((⟨b, k * 256, none⟩ : Addr).add j) = some v := by
        intro j v hj
        rw [e5, List.getElem?_take] at hj
        split at hj
        · have e6 : (mcel s)[k * 256 + j]? = some v := by
            unfold mcel
            rw [List.getElem?_toArray]
            have e7 : (cells8 (s.data.toList.drop (k * 256))) = (cells8 s.data.toList).drop (k * 256) := by simp [cells8]
            rw [e7, List.getElem?_drop] at hj
            exact hj
          have h3 : wr.drew.heap[b]? = some (.cells (mcel s) 52 (0, 0)) := hM2
          rw [Addr.add_lit]
          simp [World.cell?, h3, e6]
        · cases hj
      have hmin : 256 = Nat.min 256 (n * 256 - k * 256) := (Nat.min_eq_left (by omega)).symm
      have hcp := run_copy_row (P := Try.prog) wr.drew 61 61 3 5 w.heap.size (k * 256) (n * 256 - k * 256) (n * 256 - k * 256) ⟨b, k * 256, none⟩ 256 256 (rdC s k n) 5 ((cells8 (s.extract (k * 256) s.size).data.toList).take 256) Try.underlying61 u8info hb (by rw [hcl]; exact hmin) hsrc (by rw [hcl, rdC_size s k n hn hk]; omega) (fun v hv => cells8_one _ v (List.mem_of_mem_take hv))
      rw [hcl, rdC_step s k n hn hlt2] at hcp
      have HN : Hid (s.size = n * 256) := hn
      clear hn hmin hsrc hcl e5
      go_wp2
      go_region
      go_wp2
      have h1 : Below w.heap.size w wr.drew := ⟨hbl.os, hbl.tape, hbl.output, hbl.size, hbl.block⟩
      refine ⟨⟨k + 1, by omega, by simp, setRow_heap _ _ _ _ _ _ hb, below_setRow h1 (Nat.le_refl _) _⟩, ?_⟩
      simp [intOf]
      omega
    · obtain rfl : k = n := by omega
      rw [rdC_all s k hn] at hb
      have hcv := conv_own wr 0 _ _ _ (own_block hb (by omega))
      rw [hn] at hcv
      have es : (⟨s.data.toList.toArray⟩ : ByteArray) = s := by simp
      rw [es] at hcv
      clear es
      go_wp2
      go_ret
      exact ⟨rfl, hbl⟩
end Go.Proofs.Ytmbdclbddbbdpaa
