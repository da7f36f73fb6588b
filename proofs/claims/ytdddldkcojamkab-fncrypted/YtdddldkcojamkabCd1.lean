import Derived.Test.YtdddldkcojamkabSk6
import Derived.Laws.AppendOwn
import Derived.Laws.DeepStrings4
namespace Go.Proofs.Ytdddldkcojamkab
open Go.ChangeShapes Go.WideShapes Go.ChangeAt Go.RowKit

theorem new_cellsB (w : World) (xs : List Value) (t : TypeId) : ∀ j u, xs[j]? = some u → (w.alloc (.cells xs.toArray t)).cell? ((⟨w.heap.size, 0, none⟩ : Addr).add j) = some u := by
  intro j u hu
  have hadd : (⟨w.heap.size, 0, none⟩ : Addr).add j = ⟨w.heap.size, j, none⟩ := by unfold Addr.add; split <;> simp_all
  rw [hadd, cell_of_row _ _ _ _ _ _ (heap_new w (.cells xs.toArray t))]
  simpa using hu
set_option maxRecDepth 100000 in
set_option maxHeartbeats 400000 in
theorem joinedB_any (b n cap : Nat) (ps : List ByteArray) (w : World) (hn : ps.length = n) (hb : b < w.heap.size) (hc : ∀ i, i < n → w.cell? ⟨b, i, none⟩ = some (.string (ps.getD i ByteArray.empty)))
    (hN : n ≤ 1048576) (hsz : (catB ps).length ≤ 1099511627776) :
    Calls Try.prog 49 #[.slice (some ⟨b, 0, none⟩) n cap] w fun e w' => e = .returned (.string ⟨(catB ps).toArray⟩) ∧ Below w.heap.size w w' := by
  obtain ⟨i0, hi, hz0, hz1, hz2⟩ := info_parts Try.info5
  go_enter Try.func49, Try.ntmps49
  go_wp2
  go_loopw [3, 8] (fun v i wr => ∃ k : Nat, k ≤ n ∧ i = .int .i64 k ∧ wr.ownsRow w.heap.size 5 1 v (catB (ps.take k)).length (cells8 (catB (ps.take k))) ∧ Below w.heap.size w wr) (fun _ i _ => n - (intOf i).toNat)
  case atStart => exact ⟨0, Nat.zero_le _, rfl, World.ownsRow_nil _ _ _ _, Below.refl _ _⟩
  case round =>
    obtain ⟨k, hk, rfl, hown, hbl⟩ := hrel
    by_cases hlt : k < n
    · have hcx : wr.cell? ⟨b, k, none⟩ = some (.string (ps.getD k ByteArray.empty)) := (hbl.cell (p := ⟨b, k, none⟩) hb).trans (hc k hlt)
      have hle := catB_le ps (k + 1)
      have hsu := catB_succ ps k (by omega)
      have hlen : (catB (ps.take (k + 1))).length = (catB (ps.take k)).length + (ps.getD k ByteArray.empty).size := by rw [hsu, List.length_append]; rfl
      have HS : Hid (catB (ps.take (k + 1)) = catB (ps.take k) ++ (ps.getD k ByteArray.empty).data.toList) := hsu
      have HL : Hid ((catB (ps.take (k + 1))).length = (catB (ps.take k)).length + (ps.getD k ByteArray.empty).size) := hlen
      have hbd : (catB (ps.take k)).length + (ps.getD k ByteArray.empty).size ≤ 1099511627776 := by omega
      clear hle hsu hlen
      generalize ps.getD k ByteArray.empty = p at *
      go_wp2_with (at_builtin; refine Lib.wpList_append_own_string _ rfl _ _ 49 9 rfl w.heap.size 5 i0 Try.underlying49 Try.underlying9 hi hz0 hz1 hz2 _ _ _ rfl hown p rfl (by unfold maxLen; omega) (by omega) hbl.size ?_)
      intro v' w1 hown' hgrow _
      go_wp2
      refine ⟨⟨k + 1, by omega, by go_num, own_cast hown' HL.out.symm (by rw [HS.out, cells8_app]; rfl), hbl.grown hgrow hbl.size (fun j hj => (hown.lt j hj).1)⟩, by simp [intOf]; omega⟩
    · obtain rfl : k = n := by omega
      have hcv := conv_own wr _ _ _ _ hown
      go_wp2
      go_ret
      exact ⟨by rw [List.take_of_length_le (by omega)]; rfl, hbl⟩
set_option maxRecDepth 100000 in
theorem joinedB_nil (w : World) : Calls Try.prog 49 #[.slice none 0 0] w fun e w' => e = .returned (.string ⟨#[]⟩) ∧ Below w.heap.size w w' := by
  go_enter Try.func49, Try.ntmps49
  go_wp2
  go_loopw [3, 8] (fun v i wr => v = .slice none 0 0 ∧ i = .int .i64 0 ∧ wr = w) (fun _ _ _ => 0)
  case atStart => exact ⟨rfl, rfl, rfl⟩
  case round =>
    obtain ⟨rfl, rfl, rfl⟩ := hrel
    have hcv := conv_own wr 0 _ 0 [] (World.ownsRow_nil _ _ _ _)
    go_wp2
    go_ret
    exact ⟨rfl, Below.refl _ _⟩
theorem joinedB_row {w : World} {v : Value} {B : Nat} {ps : List ByteArray} (h : w.ownsRow B 9 1 v ps.length (sR ps)) (hn : ps.length ≤ 1048576) (hsz : (catB ps).length ≤ 1099511627776) :
    Calls Try.prog 49 #[v] w fun e w' => e = .returned (.string (⟨(catB ps).toArray⟩)) ∧ Below w.heap.size w w' := by
  rcases h.2 with ⟨hv, e⟩ | ⟨g, cap, cur, hv, h1, h2, _⟩
  · subst hv
    have : ps = [] := List.eq_nil_of_length_eq_zero e
    subst this
    exact joinedB_nil w
  · subst hv
    refine joinedB_any g ps.length cap ps w rfl (Array.getElem?_eq_some_iff.1 h2).1 (fun i hi => ?_) hn hsz
    rw [h.cellAt i (by omega)]
    simp [sR, List.getElem?_eq_getElem hi]
theorem slTwo (s : ByteArray) (a b : Nat) (x y : Int) (hx : x = a) (hy : y = b) (h : a ≤ b) (h2 : b ≤ s.size) (w : World) : Sem.run Try.prog (Instr.slice 9 (.string s) (some (.int .i64 x)) (some (.int .i64 y)) none) w = .ok (.string (s.extract a b)) w := by
  subst hx
  subst hy
  rw [run_slice_string_if _ _ _ _ _ _ _ Try.underlying9, if_pos (by omega), if_pos (by omega)]
  rfl
/-- A cluster of a disk under its number, and the first k of them. -/
def clV (m d : ByteArray) (i : Nat) : ByteArray := crV m i (d.extract (i * 16) ((i + 1) * 16))
def cdL (m d : ByteArray) (k : Nat) : List ByteArray := (List.range k).map (clV m d)
theorem cdL_len (m d : ByteArray) (k : Nat) : (cdL m d k).length = k := by simp [cdL]
theorem cdL_succ (m d : ByteArray) (k : Nat) : cdL m d (k + 1) = cdL m d k ++ [clV m d k] := by simp [cdL, List.range_succ]
theorem clV_size (m d : ByteArray) (i : Nat) (h : (i + 1) * 16 ≤ d.size) : (clV m d i).size = 16 := by
  unfold clV crV
  show (crK _ _ _).toArray.size = 16
  rw [List.size_toArray, crK_len]
  simp
  omega
theorem catS (ps : List ByteArray) (p : ByteArray) : catB (ps ++ [p]) = catB ps ++ p.data.toList := by simp [catB]
theorem txadd (l : List UInt8) (p : ByteArray) : (⟨l.toArray⟩ : ByteArray) ++ p = ⟨(l ++ p.data.toList).toArray⟩ := by
  apply ByteArray.ext
  simp
theorem cdL_size (m d : ByteArray) : ∀ k, k * 16 ≤ d.size → (catB (cdL m d k)).length = 16 * k
  | 0, _ => rfl
  | k + 1, h => by
    have h2 : (clV m d k).data.toList.length = 16 := by
      have := clV_size m d k h
      simpa using this
    rw [cdL_succ, catS, List.length_append, cdL_size m d k (by omega), h2]
    omega
def cdB (m d : ByteArray) : Bool := !ovB m && decide (d.size ≤ 65536) && decide (d.size % 16 = 0)
def cdT (m d : ByteArray) (k : Nat) : ByteArray := ⟨(catB (cdL m d k)).toArray⟩
def cdV (m d : ByteArray) : ByteArray := if cdB m d = true then cdT m d (d.size / 16) else ⟨#[]⟩
theorem cdB_b {m d : ByteArray} (h : cdB m d = true) : ovB m = false ∧ d.size ≤ 65536 ∧ d.size % 16 = 0 := by
  simpa [cdB, and_assoc] using h
theorem cdT_succ (m d : ByteArray) (k : Nat) : cdT m d (k + 1) = cdT m d k ++ clV m d k := by
  unfold cdT
  rw [cdL_succ, catS, txadd]
theorem cdT_size (m d : ByteArray) (k : Nat) (h : k * 16 ≤ d.size) : (cdT m d k).size = 16 * k := by
  show (catB (cdL m d k)).toArray.size = 16 * k
  rw [List.size_toArray, cdL_size m d k h]
theorem cdB_no {m d : ByteArray} (h : cdB m d = false) : ovB m = true ∨ ovB m = false ∧ 65536 < d.size ∨ ovB m = false ∧ d.size ≤ 65536 ∧ d.size % 16 ≠ 0 := by
  cases h1 : ovB m
  · by_cases h2 : d.size ≤ 65536
    · by_cases h3 : d.size % 16 = 0
      · simp [cdB, h1, h2, h3] at h
      · exact .inr (.inr ⟨rfl, h2, h3⟩)
    · exact .inr (.inl ⟨rfl, by omega⟩)
  · exact .inl rfl
set_option maxRecDepth 100000 in
set_option maxHeartbeats 4000000 in
theorem implDiskC_in (m d : ByteArray) (w : World) (hm : m.size ≤ 4096) (hd : d.size ≤ 65536) (hd2 : d.size % 16 = 0) (ho : ovB m = false) :
    Calls Try.prog 25 #[.string m, .string d] w fun e w' => e = .returned (.string (cdT m d (d.size / 16))) ∧ Below w.heap.size w w' := by
  have HO : Hid _ := fun u => over_one m u
  rw [ho] at HO
  have HT : Hid _ := fun u => tooLong_any d u
  have hdd : decide (65536 < (d.size : Int)) = false := decide_eq_false (by omega)
  rw [hdd] at HT
  have hz : (d.size : Int) % 16 = 0 := by omega
  have HCV : Hid _ := fun u => bwk_conv u m
  have HCR : Hid (∀ (i : Nat) u r, KY u r m → (i + 1) * 16 ≤ d.size → Calls Try.prog 48 #[r, .int .i64 i, .string (d.extract (i * 16) ((i + 1) * 16))] u fun e w' => e = .returned (.string (clV m d i)) ∧ Below u.heap.size u w') := fun i u r hk hi => crypt_any hk i _ (by omega) (by rw [ByteArray.size_extract]; omega)
  obtain ⟨i0, hi0, hz0, hz1, hz2⟩ := info_parts Try.info9
  have HI0 : Hid _ := hi0
  have HZ0 : Hid _ := hz0
  have HZ1 : Hid _ := hz1
  have HZ2 : Hid _ := hz2
  clear hi0 hz0 hz1 hz2 hdd ho
  obtain ⟨T, hT⟩ : ∃ T, d.size = T * 16 := ⟨d.size / 16, by omega⟩
  have hTd : d.size / 16 = T := by omega
  have hTi : (d.size : Int) / 16 = (T : Int) := by omega
  rw [hTd]
  have HTT : Hid (d.size = T * 16) := hT
  clear hT hTd hd2
  go_enter Try.func25, Try.ntmps25
  go_wp2_with (first | (go_at_call 47; refine Calls.mono (HT.out _) ?_; rintro e u2 ⟨rfl, hu2⟩; rw [hu2]; clear hu2) | (go_at_call 36; refine Calls.mono (HO.out _) ?_; rintro e u1 ⟨rfl, hu1⟩; have HB1 : Hid (Below w.heap.size w u1) := hu1; clear hu1))
  clear hz
  go_loopw [5, 24] (fun st i wr => ∃ k : Nat, k ≤ T ∧ i = .int .i64 k ∧ wr.ownsRow w.heap.size 9 1 st k (sR (cdL m d k)) ∧ Below w.heap.size w wr) (fun _ i _ => T - (intOf i).toNat)
  case atStart => exact ⟨0, Nat.zero_le _, rfl, World.ownsRow_nil _ _ _ _, HB1.out⟩
  case round =>
    obtain ⟨k, hk, rfl, hown, hb⟩ := hrel
    obtain ⟨st0, kst, hst⟩ := s_sl hown
    subst hst
    have HOW : Hid (wr.ownsRow w.heap.size 9 1 (.slice st0 k kst) k (sR (cdL m d k))) := hown
    have HB : Hid (Below w.heap.size w wr) := hb
    clear hown
    have hTT := HTT.out
    by_cases hlt : k < T
    · have hk0 : (0 : Int) ≤ (k : Int) := by omega
      have hk1 : (k : Int) < (T : Int) := by omega
      have hk9 : (k : Int) ≤ 4096 := by omega
      have hsl := fun u => slTwo d (k * 16) ((k + 1) * 16) ((k : Int) * 16) (((k : Int) + 1) * 16) (by omega) (by omega) (by omega) (by omega) u
      have hcv := HCV.out wr
      have HC2 : Hid _ := HCR.out k (Lib.bytesWorld wr 5 m) _ (ky_conv wr m) (by omega)
      have HBw : Hid (Below wr.heap.size wr (Lib.bytesWorld wr 5 m)) := bw_below wr m
      have HS : Hid (cdL m d (k + 1) = cdL m d k ++ [clV m d k]) := cdL_succ m d k
      generalize clV m d k = p at *
      clear hb hTT
      go_wp2_with fail
      refine Calls.mono HC2.out ?_
      rintro e u1 ⟨rfl, hu⟩
      have hu' : Below wr.heap.size wr u1 := HBw.out.trans (hu.mono HBw.out.size)
      have HU : Hid (Below w.heap.size w u1) := HB.out.trans (hu'.mono HB.out.size)
      have HO1 : Hid (u1.ownsRow w.heap.size 9 1 (.slice st0 k kst) k (sR (cdL m d k))) := own_below HOW.out hu'
      clear hu hu' HC2 hcv hsl
      go_wp2_with (at_builtin; refine wpList_append_own _ rfl _ _ 70 rfl w.heap.size 9 i0 (.string ⟨#[]⟩) 1 16 Try.underlying70 HI0.out HZ0.out HZ1.out HZ2.out rfl (by decide) (.slice st0 k kst) k (sR (cdL m d k)) rfl (HO1.out.alloc _) ⟨u1.heap.size, 0, none⟩ 1 1 [.string p] rfl rfl ?c1 ?c2 ?c3 ?c4 ?c5 ?_)
      case c1 => exact new_cellsB u1 [.string p] 9
      case c2 => simp [Value.oneCell']
      case c3 => unfold maxLen; omega
      case c4 => omega
      case c5 => have := HU.out.size; simp; omega
      intro v' w2 hown2 hgrow _
      have HO2 : Hid (w2.ownsRow w.heap.size 9 1 v' (k + 1) (sR (cdL m d (k + 1)))) := (show w2.ownsRow w.heap.size 9 1 v' (k + 1) (sR (cdL m d (k + 1))) by
        rw [HS.out]
        simpa [sR] using hown2)
      have HB2 : Hid (Below w.heap.size w w2) := (HU.out.alloc HU.out.size _).grown hgrow (by simp; have := HU.out.size; omega) (fun j hj => (HO1.out.lt j hj).1)
      obtain ⟨st2, k2, hst2⟩ := s_sl HO2.out
      subst hst2
      clear hown2 hgrow
      go_wp2
      exact ⟨⟨k + 1, hlt, by simp, HO2.out, HB2.out⟩, by simp [intOf]; omega⟩
    · obtain rfl : k = T := by omega
      have hsl := cdL_size m d k (by omega)
      have HJ : Hid _ := joinedB_row (ps := cdL m d k) (v := .slice st0 k kst) (by rw [cdL_len]; exact HOW.out) (by rw [cdL_len]; omega) (by rw [hsl]; omega)
      have HG : Hid ((⟨(catB (cdL m d k)).toArray⟩ : ByteArray) = cdT m d k) := rfl
      rw [HG.out] at HJ
      clear hsl hTT
      go_wp2_with (go_at_call 49; refine Calls.mono HJ.out ?_; rintro e u1 ⟨rfl, hu⟩; have HU : Hid (Below w.heap.size w u1) := HB.out.trans (hu.mono HB.out.size); clear hu)
      go_ret
      exact ⟨rfl, HU.out⟩
set_option maxRecDepth 100000 in
set_option maxHeartbeats 4000000 in
theorem specDiskC_in (m d : ByteArray) (w : World) (hm : m.size ≤ 4096) (hd : d.size ≤ 65536) (hd2 : d.size % 16 = 0) :
    Calls Try.prog 24 #[.string m, .string d] w fun e w' => e = .returned (.string (cdT m d (d.size / 16))) ∧ Below w.heap.size w w' := by
  have q1 : decide (4096 < (m.size : Int)) = false := decide_eq_false (by omega)
  have q2 : decide (65536 < (d.size : Int)) = false := decide_eq_false (by omega)
  have hz : (d.size : Int) % 16 = 0 := by omega
  have HCR : Hid (∀ (i : Nat) u, (i + 1) * 16 ≤ d.size → Calls Try.prog 28 #[.string m, .int .i64 i, .string (d.extract (i * 16) ((i + 1) * 16))] u fun e w' => e = .returned (.string (clV m d i)) ∧ Below u.heap.size u w') := fun i u hi => specCrypt_in m i _ u hm (by rw [ByteArray.size_extract]; omega)
  obtain ⟨T, hT⟩ : ∃ T, d.size = T * 16 := ⟨d.size / 16, by omega⟩
  have hTd : d.size / 16 = T := by omega
  rw [hTd]
  have HTT : Hid (d.size = T * 16) := hT
  clear hT hTd hd2
  go_enter Try.func24, Try.ntmps24
  go_wp2
  clear hz
  go_loopw [5, 6] (fun out i wr => ∃ k : Nat, k ≤ T ∧ i = .int .i64 k ∧ out = .string (cdT m d k) ∧ Below w.heap.size w wr) (fun _ i _ => T - (intOf i).toNat)
  case atStart => exact ⟨0, Nat.zero_le _, rfl, rfl, Below.refl _ _⟩
  case round =>
    obtain ⟨k, hk, rfl, rfl, hb⟩ := hrel
    have HB : Hid (Below w.heap.size w wr) := hb
    clear hb
    have hTT := HTT.out
    by_cases hlt : k < T
    · have hk9 : (k : Int) ≤ 4096 := by omega
      have hk0 : (0 : Int) ≤ (k : Int) := by omega
      have hl : decide ((k : Int) * 16 < (d.size : Int)) = true := decide_eq_true (by omega)
      have hsl := fun u => slTwo d (k * 16) ((k + 1) * 16) ((k : Int) * 16) (((k : Int) + 1) * 16) (by omega) (by omega) (by omega) (by omega) u
      have HC2 : Hid _ := HCR.out k wr (by omega)
      have hps := clV_size m d k (by omega)
      have hts := cdT_size m d k (by omega)
      have HS : Hid (cdT m d (k + 1) = cdT m d k ++ clV m d k) := cdT_succ m d k
      have hadd := fun w => run_string_add_sum (P := Try.prog) w (cdT m d k) (clV m d k) (by omega)
      generalize clV m d k = p at *
      generalize cdT m d k = t at *
      clear hTT hps hts
      go_wp2_with (go_at_call 28; refine Calls.mono HC2.out ?_; rintro e u1 ⟨rfl, hu⟩; have HU : Hid (Below w.heap.size w u1) := HB.out.trans (hu.mono HB.out.size); clear hu)
      exact ⟨⟨k + 1, hlt, by simp, by rw [HS.out], HU.out⟩, by simp [intOf]; omega⟩
    · obtain rfl : k = T := by omega
      have hl : decide ((k : Int) * 16 < (d.size : Int)) = false := decide_eq_false (by omega)
      have hk9 : (k : Int) ≤ 4096 := by omega
      clear hTT
      go_wp2
      go_ret
      exact ⟨rfl, HB.out⟩
set_option maxRecDepth 100000 in
set_option maxHeartbeats 4000000 in
theorem implDiskC_any (m d : ByteArray) (w : World) :
    Calls Try.prog 25 #[.string m, .string d] w fun e w' => e = .returned (.string (cdV m d)) ∧ Below w.heap.size w w' := by
  cases hc : cdB m d
  · have E : Hid (cdV m d = ⟨#[]⟩) := (show cdV m d = ⟨#[]⟩ by simp [cdV, hc])
    have HO : Hid _ := fun u => over_one m u
    have HT : Hid _ := fun u => tooLong_any d u
    rcases cdB_no hc with h1 | ⟨h1, h2⟩ | ⟨h1, h2, h3⟩
    · rw [h1] at HO
      clear h1 hc
      go_enter Try.func25, Try.ntmps25
      go_wp2_with (go_at_call 36; refine Calls.mono (HO.out _) ?_; rintro e u1 ⟨rfl, hu1⟩; have HB1 : Hid (Below w.heap.size w u1) := hu1; clear hu1)
      go_ret
      exact ⟨str_eq E.out.symm, HB1.out⟩
    · rw [h1] at HO
      have hdd : decide (65536 < (d.size : Int)) = true := decide_eq_true (by omega)
      rw [hdd] at HT
      clear h1 hc h2 hdd
      go_enter Try.func25, Try.ntmps25
      go_wp2_with (first | (go_at_call 47; refine Calls.mono (HT.out _) ?_; rintro e u2 ⟨rfl, hu2⟩; rw [hu2]; clear hu2) | (go_at_call 36; refine Calls.mono (HO.out _) ?_; rintro e u1 ⟨rfl, hu1⟩; have HB1 : Hid (Below w.heap.size w u1) := hu1; clear hu1))
      go_ret
      exact ⟨str_eq E.out.symm, HB1.out⟩
    · rw [h1] at HO
      have hdd : decide (65536 < (d.size : Int)) = false := decide_eq_false (by omega)
      rw [hdd] at HT
      have hz : ((d.size : Int) % 16 != 0) = true := by simp; omega
      clear h1 hc hdd h3
      go_enter Try.func25, Try.ntmps25
      go_wp2_with (first | (go_at_call 47; refine Calls.mono (HT.out _) ?_; rintro e u2 ⟨rfl, hu2⟩; rw [hu2]; clear hu2) | (go_at_call 36; refine Calls.mono (HO.out _) ?_; rintro e u1 ⟨rfl, hu1⟩; have HB1 : Hid (Below w.heap.size w u1) := hu1; clear hu1))
      go_ret
      exact ⟨str_eq E.out.symm, HB1.out⟩
  · obtain ⟨h1, h2, h3⟩ := cdB_b hc
    have E : cdV m d = cdT m d (d.size / 16) := by simp [cdV, hc]
    rw [E]
    exact implDiskC_in m d w (ovB_le h1) h2 h3 h1
set_option maxRecDepth 100000 in
set_option maxHeartbeats 4000000 in
theorem specDiskC_any (m d : ByteArray) (w : World) :
    Calls Try.prog 24 #[.string m, .string d] w fun e w' => e = .returned (.string (cdV m d)) ∧ Below w.heap.size w w' := by
  cases hc : cdB m d
  · have E : Hid (cdV m d = ⟨#[]⟩) := (show cdV m d = ⟨#[]⟩ by simp [cdV, hc])
    rcases cdB_no hc with h1 | ⟨h1, h2⟩ | ⟨h1, h2, h3⟩
    · have q1 : decide (4096 < (m.size : Int)) = true := h1
      clear h1 hc
      go_enter Try.func24, Try.ntmps24
      go_wp2
      go_ret
      exact ⟨str_eq E.out.symm, Below.refl _ _⟩
    · have q1 : decide (4096 < (m.size : Int)) = false := h1
      have q2 : decide (65536 < (d.size : Int)) = true := decide_eq_true (by omega)
      clear h1 hc h2
      go_enter Try.func24, Try.ntmps24
      go_wp2
      go_ret
      exact ⟨str_eq E.out.symm, Below.refl _ _⟩
    · have q1 : decide (4096 < (m.size : Int)) = false := h1
      have q2 : decide (65536 < (d.size : Int)) = false := decide_eq_false (by omega)
      have hz : ((d.size : Int) % 16 != 0) = true := by simp; omega
      clear h1 hc h3
      go_enter Try.func24, Try.ntmps24
      go_wp2
      go_ret
      exact ⟨str_eq E.out.symm, Below.refl _ _⟩
  · obtain ⟨h1, h2, h3⟩ := cdB_b hc
    have E : cdV m d = cdT m d (d.size / 16) := by simp [cdV, hc]
    rw [E]
    exact specDiskC_in m d w (ovB_le h1) h2 h3
end Go.Proofs.Ytdddldkcojamkab
