import Derived.Test.YtcglpigmellfcabSk6
import Derived.Laws.AppendOwn
import Derived.Laws.DeepStrings4
namespace Go.Proofs.Ytcglpigmellfcab
open Go.ChangeShapes Go.WideShapes Go.ChangeAt Go.RowKit

theorem new_cellsB (w : World) (xs : List Value) (t : TypeId) : ∀ j u, xs[j]? = some u → (w.alloc (.cells xs.toArray t)).cell? ((⟨w.heap.size, 0, none⟩ : Addr).add j) = some u := by
  intro j u hu
  have hadd : (⟨w.heap.size, 0, none⟩ : Addr).add j = ⟨w.heap.size, j, none⟩ := by unfold Addr.add; split <;> simp_all
  rw [hadd, cell_of_row _ _ _ _ _ _ (heap_new w (.cells xs.toArray t))]
  simpa using hu
set_option maxRecDepth 100000 in
set_option maxHeartbeats 400000 in
theorem joinedB_any (b n cap : Nat) (ps : List ByteArray) (w : World) (hn : ps.length = n) (hb : b < w.heap.size) (hc : ∀ i, i < n → w.cell? ⟨b, i, none⟩ = some (.string (ps.getD i ByteArray.empty)))
    (hN : n ≤ 1048576) (hsz : (catB ps).length ≤ 1099511627776) :
    Calls Try.prog 140 #[.slice (some ⟨b, 0, none⟩) n cap] w fun e w' => e = .returned (.string ⟨(catB ps).toArray⟩) ∧ Below w.heap.size w w' := by
  obtain ⟨i0, hi, hz0, hz1, hz2⟩ := info_parts Try.info5
  go_enter Try.func140, Try.ntmps140
  go_wp2
  go_loopw [3, 8] (fun v i wr => ∃ k : Nat, k ≤ n ∧ i = .int .i64 k ∧ wr.ownsRow w.heap.size 5 1 v (catB (ps.take k)).length (cells8 (catB (ps.take k))) ∧ Below w.heap.size w wr) (fun _ i _ => n - (intOf i).toNat)
  case atStart => exact ⟨0, Nat.zero_le _, rfl, World.ownsRow_nil _ _ _ _, Below.refl _ _⟩
  case round =>
    obtain ⟨k, hk, rfl, hown, hbl⟩ := hrel
    by_cases hlt : k < n
    · have hcx : wr.cell? ⟨b, k, none⟩ = some (.string (ps.getD k ByteArray.empty)) := (hbl.cell (p := ⟨b, k, none⟩) hb).trans (hc k hlt)
      have hle := catB_le ps (k + 1)
      have hsu := catB_succ ps k (by omega)
      have hlen : (catB (ps.take (k + 1))).length = (catB (ps.take k)).length + (ps.getD k ByteArray.empty).size := by rw [hsu, List.length_append]; rfl
      have HS : Hid (catB (ps.take (k + 1)) = catB (ps.take k) ++ (ps.getD k ByteArray.empty).data.toList) := hsu
      have HL : Hid ((catB (ps.take (k + 1))).length = (catB (ps.take k)).length + (ps.getD k ByteArray.empty).size) := hlen
      have hbd : (catB (ps.take k)).length + (ps.getD k ByteArray.empty).size ≤ 1099511627776 := by omega
      clear hle hsu hlen
      generalize ps.getD k ByteArray.empty = p at *
      go_wp2_with (at_builtin; refine Lib.wpList_append_own_string _ rfl _ _ 22 9 rfl w.heap.size 5 i0 Try.underlying22 Try.underlying9 hi hz0 hz1 hz2 _ _ _ rfl hown p rfl (by unfold maxLen; omega) (by omega) hbl.size ?_)
      intro v' w1 hown' hgrow _
      go_wp2
      refine ⟨⟨k + 1, by omega, by go_num, own_cast hown' HL.out.symm (by rw [HS.out, cells8_app]; rfl), hbl.grown hgrow hbl.size (fun j hj => (hown.lt j hj).1)⟩, by simp [intOf]; omega⟩
    · obtain rfl : k = n := by omega
      have hcv := conv_own wr _ _ _ _ hown
      go_wp2
      go_ret
      exact ⟨by rw [List.take_of_length_le (by omega)]; rfl, hbl⟩
set_option maxRecDepth 100000 in
theorem joinedB_nil (w : World) : Calls Try.prog 140 #[.slice none 0 0] w fun e w' => e = .returned (.string ⟨#[]⟩) ∧ Below w.heap.size w w' := by
  go_enter Try.func140, Try.ntmps140
  go_wp2
  go_loopw [3, 8] (fun v i wr => v = .slice none 0 0 ∧ i = .int .i64 0 ∧ wr = w) (fun _ _ _ => 0)
  case atStart => exact ⟨rfl, rfl, rfl⟩
  case round =>
    obtain ⟨rfl, rfl, rfl⟩ := hrel
    have hcv := conv_own wr 0 _ 0 [] (World.ownsRow_nil _ _ _ _)
    go_wp2
    go_ret
    exact ⟨rfl, Below.refl _ _⟩
theorem joinedB_row {w : World} {v : Value} {B : Nat} {ps : List ByteArray} (h : w.ownsRow B 9 1 v ps.length (sR ps)) (hn : ps.length ≤ 1048576) (hsz : (catB ps).length ≤ 1099511627776) :
    Calls Try.prog 140 #[v] w fun e w' => e = .returned (.string (⟨(catB ps).toArray⟩)) ∧ Below w.heap.size w w' := by
  rcases h.2 with ⟨hv, e⟩ | ⟨g, cap, cur, hv, h1, h2, _⟩
  · subst hv
    have : ps = [] := List.eq_nil_of_length_eq_zero e
    subst this
    exact joinedB_nil w
  · subst hv
    refine joinedB_any g ps.length cap ps w rfl (Array.getElem?_eq_some_iff.1 h2).1 (fun i hi => ?_) hn hsz
    rw [h.cellAt i (by omega)]
    simp [sR, List.getElem?_eq_getElem hi]
theorem slTwo (s : ByteArray) (a b : Nat) (x y : Int) (hx : x = a) (hy : y = b) (h : a ≤ b) (h2 : b ≤ s.size) (w : World) : Sem.run Try.prog (Instr.slice 9 (.string s) (some (.int .i64 x)) (some (.int .i64 y)) none) w = .ok (.string (s.extract a b)) w := by
  subst hx
  subst hy
  rw [run_slice_string_if _ _ _ _ _ _ _ Try.underlying9, if_pos (by omega), if_pos (by omega)]
  rfl
/-- A cluster of a disk under its number, and the first k of them. -/
def clV (m d : ByteArray) (i : Nat) : ByteArray := crV m i (d.extract (i * 16) ((i + 1) * 16))
def cdL (m d : ByteArray) (k : Nat) : List ByteArray := (List.range k).map (clV m d)
theorem cdL_len (m d : ByteArray) (k : Nat) : (cdL m d k).length = k := by simp [cdL]
theorem cdL_succ (m d : ByteArray) (k : Nat) : cdL m d (k + 1) = cdL m d k ++ [clV m d k] := by simp [cdL, List.range_succ]
theorem clV_size (m d : ByteArray) (i : Nat) (h : (i + 1) * 16 ≤ d.size) : (clV m d i).size = 16 := by
  unfold clV crV
  show (crK _ _ _).toArray.size = 16
  rw [List.size_toArray, crK_len]
  simp
  omega
theorem catS (ps : List ByteArray) (p : ByteArray) : catB (ps ++ [p]) = catB ps ++ p.data.toList := by simp [catB]
theorem txadd (l : List UInt8) (p : ByteArray) : (⟨l.toArray⟩ : ByteArray) ++ p = ⟨(l ++ p.data.toList).toArray⟩ := by
  apply ByteArray.ext
  simp
theorem cdL_size (m d : ByteArray) : ∀ k, k * 16 ≤ d.size → (catB (cdL m d k)).length = 16 * k
  | 0, _ => rfl
  | k + 1, h => by
    have h2 : (clV m d k).data.toList.length = 16 := by
      have := clV_size m d k h
      simpa using this
    rw [cdL_succ, catS, List.length_append, cdL_size m d k (by omega), h2]
    omega
def cdB (m d : ByteArray) : Bool := !ovB m && decide (d.size ≤ 65536) && decide (d.size % 16 = 0)
def cdT (m d : ByteArray) (k : Nat) : ByteArray := ⟨(catB (cdL m d k)).toArray⟩
def cdV (m d : ByteArray) : ByteArray := if cdB m d = true then cdT m d (d.size / 16) else ⟨#[]⟩
theorem cdB_b {m d : ByteArray} (h : cdB m d = true) : ovB m = false ∧ d.size ≤ 65536 ∧ d.size % 16 = 0 := by
  simpa [cdB, and_assoc] using h
theorem cdT_succ (m d : ByteArray) (k : Nat) : cdT m d (k + 1) = cdT m d k ++ clV m d k := by
  unfold cdT
  rw [cdL_succ, catS, txadd]
theorem cdT_size (m d : ByteArray) (k : Nat) (h : k * 16 ≤ d.size) : (cdT m d k).size = 16 * k := by
  show (catB (cdL m d k)).toArray.size = 16 * k
  rw [List.size_toArray, cdL_size m d k h]
theorem cdB_no {m d : ByteArray} (h : cdB m d = false) : ovB m = true ∨ ovB m = false ∧ 65536 < d.size ∨ ovB m = false ∧ d.size ≤ 65536 ∧ d.size % 16 ≠ 0 := by
  cases h1 : ovB m
  · by_cases h2 : d.size ≤ 65536
    · by_cases h3 : d.size % 16 = 0
      · simp [cdB, h1, h2, h3] at h
      · exact .inr (.inr ⟨rfl, h2, h3⟩)
    · exact .inr (.inl ⟨rfl, by omega⟩)
  · exact .inl rfl
end Go.Proofs.Ytcglpigmellfcab
