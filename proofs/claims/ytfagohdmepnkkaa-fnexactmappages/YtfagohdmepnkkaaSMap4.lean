import Derived.Test.YtfagohdmepnkkaaSMap2
import Derived.Deep.DeepCutAuto
namespace Go.Proofs.Ytfagohdmepnkkaa
open Go.ChangeShapes Go.WideShapes Go.ChangeAt Go.RowKit

/-- A frame of zeros. -/
def zB : ByteArray := ⟨(List.replicate 256 (0 : UInt8)).toArray⟩
theorem zB_size : zB.size = 256 := by
  show (List.replicate 256 (0 : UInt8)).toArray.size = 256
  rw [List.size_toArray, List.length_replicate]
theorem zB_cells : mcel zB = (zrs 256).toArray := by
  unfold mcel zB zrs cells8
  rw [List.toList_toArray, List.map_replicate]
  rfl
/-- A memory with a frame of zeros. -/
def zfr (s : ByteArray) (f : Nat) : ByteArray := s.extract 0 (f * 256) ++ zB ++ s.extract ((f + 1) * 256) s.size
theorem zfr_size (s : ByteArray) (f : Nat) (h : f * 256 + 256 ≤ s.size) : (zfr s f).size = s.size := by
  unfold zfr
  simp only [ByteArray.size_append, ByteArray.size_extract, zB_size]
  omega
theorem conv_zB (u : World) : Sem.run Try.prog (convert 52 9 (.slice (some ⟨u.heap.size, 0, none⟩) 256 256)) (u.alloc (.cells (zrs 256).toArray 5)) = .ok (.string zB) (u.alloc (.cells (zrs 256).toArray 5)) := by
  have h1 : (u.alloc (.cells (zrs 256).toArray 5)).heap[u.heap.size]? = some (.cells (mcel zB) 5 (0, 0)) := by rw [zB_cells]; exact (MapKept.heap_alloc u _).1
  have h2 := conv_own _ 0 _ _ _ (own_block h1 (by rw [zB_size]; omega))
  rw [zB_size] at h2
  have e : (⟨zB.data.toList.toArray⟩ : ByteArray) = zB := by simp
  rw [e] at h2
  exact h2
theorem sl_tailI (g o n cap : Nat) (hn : 1 ≤ n) (hc : n ≤ cap) : ∃ ao2 : Option Addr, (∀ w : World, Sem.run Try.prog (Instr.slice 28 (.slice (some ⟨g, o, none⟩) n cap) (some (.int .i64 1)) none none) w = .ok (.slice ao2 (n - 1) (cap - 1)) w) ∧ (1 < n → ao2 = some ⟨g, o + 1, none⟩) := by
  by_cases h : cap = 1
  · refine ⟨some ⟨g, o, none⟩, fun w => ?_, fun q => by omega⟩
    have h1 : (1 : Int) ≤ (n : Int) := by omega
    subst h
    go_simp
  · refine ⟨some ⟨g, o + 1, none⟩, fun w => ?_, fun _ => rfl⟩
    have h1 : (1 : Int) ≤ (n : Int) := by omega
    have h2 : ¬ cap - 1 = 0 := by omega
    go_simp
theorem setv_sz (s : ByteArray) (k : Nat) (n : Int) (h : k + 4 ≤ s.size) : (setv s k n).size = s.size := by
  unfold setv
  rw [ByteArray.size_append', ByteArray.size_append', ByteArray.size_extract, ByteArray.size_extract, pw_size]
  omega
theorem cel4P {u : World} {b t : Nat} {a0 a1 a2 a3 : Value} (h : u.heap[b]? = some (.cells #[a0, a1, a2, a3] t (0, 0))) : u.cell? ⟨b, 0, none⟩ = some a0 ∧ u.cell? ⟨b, 1, none⟩ = some a1 ∧ u.cell? ⟨b, 2, none⟩ = some a2 ∧ u.cell? ⟨b, 3, none⟩ = some a3 := by
  simp [World.cell?, h]
theorem or1k (f : Nat) (h : f ≤ 255) : bits .or .i64 ((f : Int) * 256) 1 = (f : Int) * 256 + 1 := by
  have := Nat.lt_succ_of_le h
  revert f
  decide +kernel
set_option maxRecDepth 100000 in
set_option maxHeartbeats 4000000 in
theorem l03Map_n9 (mem : ByteArray) (root : Nat) (m : PM) (ao : Option Addr) (n cap : Nat) (w : World) (hs : mem.size ≤ 65536) (hr : root * 256 + 256 ≤ mem.size) (h : pmOk m = true) (hlg : m.large = false) (he : wv mem (atM root m) % 2 = 0) (g o f : Nat) (hg : w.cell? ⟨g, o, none⟩ = some (.int .i64 (f : Int))) (hgw : g < w.heap.size) (hn1 : 1 ≤ n) (hnc : n ≤ cap) (hao : ao = some ⟨g, o, none⟩) (hf : f * 256 + 256 ≤ mem.size) (ao2 : Option Addr) (hsl : ∀ u : World, Sem.run Try.prog (Instr.slice 28 (.slice (some ⟨g, o, none⟩) n cap) (some (.int .i64 1)) none none) u = .ok (.slice ao2 (n - 1) (cap - 1)) u) (hy : wv (setv (zfr mem f) (atM root m) ((f : Int) * 256 + 1)) (f * 256 + 4 * (m.va.toNat / 256 % 32)) % 2 = 1) : MapAns 54 mem root m (.slice ao n cap) (setv (zfr mem f) (atM root m) ((f : Int) * 256 + 1)) (.slice ao2 (n - 1) (cap - 1)) 9 w := by
  obtain ⟨va, fr, fl, lg⟩ := m
  unfold MapAns pmA
  unfold pmOk at h
  simp only at h hlg he ⊢
  subst hlg
  obtain ⟨g1, g2, g3, g4, g5, g6, g7, g8⟩ := of_decide_eq_true h
  obtain ⟨v, rfl⟩ : ∃ v : Nat, va = (v : Int) := ⟨va.toNat, by omega⟩
  have h1 : ¬ (v : Int) < 0 := by omega
  have h2 : ¬ 262144 ≤ (v : Int) := by omega
  have ht : (v : Int).tmod 256 = (v : Int) % 256 := Int.tmod_eq_emod_of_nonneg (by omega)
  have h3 : (v : Int) % 256 = 0 := by simpa using g3
  have h4 : ¬ fr < 0 := by omega
  have h5 : ¬ 1023 < fr := by omega
  have h7 : (bits .and .i64 fl 14 == 0) = false := by simpa using g7
  have h8 : (fl != bits .and .i64 fl 158) = false := by rw [g8]; simp
  have E : Hid ((root : Int) * 256 + 4 * ((v : Int) / 8192) = ((root * 256 + 4 * (v / 8192) : Nat) : Int)) := (show (root : Int) * 256 + 4 * ((v : Int) / 8192) = ((root * 256 + 4 * (v / 8192) : Nat) : Int) by omega)
  have HAT : Hid (root * 256 + 4 * (v / 8192) + 4 ≤ mem.size) := (show root * 256 + 4 * (v / 8192) + 4 ≤ mem.size by omega)
  have HB : Hid (Below w.heap.size w (w.alloc (.cells #[.int .i64 v, .int .i64 fr, .int .i64 fl, .bool false] 101))) := (Below.refl _ _).alloc (Nat.le_refl _) _
  have e0 : atM root ⟨(v : Int), fr, fl, false⟩ = root * 256 + 4 * (v / 8192) := by simp [atM]
  rw [e0] at he
  obtain ⟨x, hx⟩ : ∃ x, wv mem (root * 256 + 4 * (v / 8192)) = x := ⟨_, rfl⟩
  have hxb := wv_b mem (root * 256 + 4 * (v / 8192))
  rw [hx] at he hxb
  have k1 : bits .and .i64 x 1 = 0 := by rw [and1 x hxb.1 (by omega)]; exact he
  have HX : Hid (wv mem (root * 256 + 4 * (v / 8192)) = x) := hx
  clear h g1 g2 g3 g7 g8 hx he
  subst hao
  have n0 : ((n : Int) == 0) = false := by
    have : ¬ (n : Int) = 0 := by omega
    simpa using this
  have n1 : (0 : Int) < (n : Int) := by omega
  have HYH : Hid _ := hy
  have HF : Hid (f * 256 + 256 ≤ mem.size) := hf
  have HNC : Hid (n ≤ cap) := hnc
  have HXB : Hid _ := hxb
  clear hy hf g6 hnc hxb
  go_enter Try.func54, Try.ntmps54
  go_upto_region 20 with (go_at_call 40; rw [E.out]; refine (l01Word_any _ _ _ HAT.out hs).mono ?_; rintro r u1 ⟨rfl, q, hu1⟩; subst u1; rw [HX.out])
  have HBV : Hid (Below w.heap.size w ((w.alloc (.cells #[.int .i64 v, .int .i64 fr, .int .i64 fl, .bool false] 101)).drewN q)) := bdn HB.out q
  have HBX : Hid (((w.alloc (.cells #[.int .i64 v, .int .i64 fr, .int .i64 fl, .bool false] 101)).drewN q).heap[w.heap.size]? = some (.cells #[.int .i64 v, .int .i64 fr, .int .i64 fl, .bool false] 101 (0, 0))) := (MapKept.heap_alloc w _).1
  generalize (w.alloc (.cells #[.int .i64 v, .int .i64 fr, .int .i64 fl, .bool false] 101)).drewN q = V at *
  clear HB hg hgw hsl
  have hy := HYH.out
  have hf := HF.out
  have hxb := HXB.out
  rw [e0] at hy
  simp only [Int.toNat_natCast] at hy
  have hk2 : ((v : Int) / 256).tmod 32 = (v : Int) / 256 % 32 := Int.tmod_eq_emod_of_nonneg (by omega)
  have hor : bits .or .i64 ((f : Int) * 256) 1 = (f : Int) * 256 + 1 := or1k f (by omega)
  have hdv : ((f : Int) * 256 + 1) / 256 = (f : Int) := by omega
  have z0 := zfr_size mem f hf
  have z1 : (mem.extract 0 (f * 256)).size = f * 256 := by rw [ByteArray.size_extract]; omega
  have z2 : (mem.extract ((f + 1) * 256) mem.size).size ≤ mem.size := by rw [ByteArray.size_extract]; omega
  have c1 := fun w => run_string_add_sum (P := Try.prog) w (mem.extract 0 (f * 256)) zB (by rw [zB_size]; omega)
  have c2 := fun w => run_string_add_sum (P := Try.prog) w (mem.extract 0 (f * 256) ++ zB) (mem.extract ((f + 1) * 256) mem.size) (by rw [ByteArray.size_append, zB_size]; omega)
  have s1 := fun w => run_slice_string_to_if (P := Try.prog) (w := w) 9 mem .i64 ((f : Int) * 256) Try.underlying9
  have s2 := fun w => run_slice_string_from_if (P := Try.prog) (w := w) 9 mem .i64 (((f : Int) + 1) * 256) Try.underlying9
  simp only [if_pos (show 0 ≤ (f : Int) * 256 ∧ (f : Int) * 256 ≤ (mem.size : Int) by omega)] at s1
  simp only [if_pos (show 0 ≤ ((f : Int) + 1) * 256 ∧ ((f : Int) + 1) * 256 ≤ (mem.size : Int) by omega)] at s2
  rw [show ((f : Int) * 256).toNat = f * 256 by omega] at s1
  rw [show (((f : Int) + 1) * 256).toNat = (f + 1) * 256 by omega] at s2
  have HZF : Hid (mem.extract 0 (f * 256) ++ zB ++ mem.extract ((f + 1) * 256) mem.size = zfr mem f) := rfl
  have hmk : ∀ u : World, (Instr.makeSlice 52 (.int .i64 256) (.int .i64 256)).run Try.prog u = .ok (.slice (some ⟨u.heap.size, 0, none⟩) 256 256) (u.alloc (.cells (zrs 256).toArray 5)) := fun u => mkBytes u 256 (by omega)
  have w1 : IntKind.i64.wrap ((f : Int) * 256) = (f : Int) * 256 := by rw [IntKind.wrap_i64]; omega
  have w2 : IntKind.i64.wrap ((f : Int) + 1) = (f : Int) + 1 := by rw [IntKind.wrap_i64]; omega
  have w3 : IntKind.i64.wrap (((f : Int) + 1) * 256) = ((f : Int) + 1) * 256 := by rw [IntKind.wrap_i64]; omega
  have hcv : Sem.run Try.prog (convert 52 9 (.slice (some ⟨V.heap.size, 0, none⟩) 256 256)) (V.alloc (.cells (zrs 256).toArray 5)).drew = .ok (.string zB) (V.alloc (.cells (zrs 256).toArray 5)).drew := conv_zB V.drew
  have E2 : Hid ((v : Int) / 256 % 32 = ((v / 256 % 32 : Nat) : Int)) := (show (v : Int) / 256 % 32 = ((v / 256 % 32 : Nat) : Int) by omega)
  have HKK : Hid (v / 256 % 32 ≤ 31) := (show v / 256 % 32 ≤ 31 by omega)
  obtain ⟨M2, hM2⟩ : ∃ M2, setv (zfr mem f) (root * 256 + 4 * (v / 8192)) ((f : Int) * 256 + 1) = M2 := ⟨_, rfl⟩
  rw [hM2] at hy
  have hs2 : M2.size = mem.size := by rw [← hM2, setv_sz _ _ _ (by omega), z0]
  have HM2 : Hid (setv (zfr mem f) (root * 256 + 4 * (v / 8192)) ((f : Int) * 256 + 1) = M2) := hM2
  have HA2 : Hid (root * 256 + 4 * (v / 8192) + 4 ≤ (zfr mem f).size) := (show root * 256 + 4 * (v / 8192) + 4 ≤ (zfr mem f).size by omega)
  have HZ2 : Hid ((zfr mem f).size ≤ 65536) := (show (zfr mem f).size ≤ 65536 by omega)
  have HTT : Hid ((f + 1) * 256 ≤ M2.size) := (show (f + 1) * 256 ≤ M2.size by omega)
  have HS2 : Hid (M2.size ≤ 65536) := (show M2.size ≤ 65536 by omega)
  obtain ⟨y, hyy⟩ : ∃ y, wv M2 (f * 256 + 4 * (v / 256 % 32)) = y := ⟨_, rfl⟩
  have hyb := wv_b M2 (f * 256 + 4 * (v / 256 % 32))
  rw [hyy] at hy hyb
  have HY : Hid (wv M2 (f * 256 + 4 * (v / 256 % 32)) = y) := hyy
  have ky : bits .and .i64 y 1 = 1 := by rw [and1 y hyb.1 (by omega)]; exact hy
  have E3 : Hid ((f : Int) * 256 + 4 * ((v : Int) / 256 % 32) = ((f * 256 + 4 * (v / 256 % 32) : Nat) : Int)) := (show (f : Int) * 256 + 4 * ((v : Int) / 256 % 32) = ((f * 256 + 4 * (v / 256 % 32) : Nat) : Int) by omega)
  have HPL : Hid (f * 256 + 4 * (v / 256 % 32) + 4 ≤ M2.size) := (show f * 256 + 4 * (v / 256 % 32) + 4 ≤ M2.size by omega)
  have tb : (f : Int) ≤ 255 := by omega
  clear hyy hy z0 z1 z2 hM2 hs2 hf hxb HYH HXB
  go_region
  go_upto_region 22 with fail
  have HBM : Hid (Below w.heap.size w (V.alloc (.cells (zrs 256).toArray 5)).drew) := (HBV.out.alloc HBV.out.size _).drew
  have HBX2 : Hid ((V.alloc (.cells (zrs 256).toArray 5)).drew.heap[w.heap.size]? = some (.cells #[.int .i64 v, .int .i64 fr, .int .i64 fl, .bool false] 101 (0, 0))) := (Below.heap_alloc _ _ _ (Array.getElem?_eq_some_iff.1 HBX.out).1).trans HBX.out
  generalize (V.alloc (.cells (zrs 256).toArray 5)).drew = V2 at *
  clear hmk hcv c1 c2 s1 s2 w1 w2 w3
  obtain ⟨b0, b1, b2, b3⟩ := cel4P HBX2.out
  go_wp2_with (first
    | (go_at_call 42; rw [E.out, HZF.out]; refine (specSetWord_yes _ _ _ _ HA2.out HZ2.out).mono ?_; rintro r u3 ⟨rfl, hu3⟩; rw [HM2.out]; have HB3 : Hid (Below w.heap.size w u3) := HBM.out.trans (hu3.mono HBM.out.size); have HBX3 : Hid (u3.heap[w.heap.size]? = some (.cells #[.int .i64 v, .int .i64 fr, .int .i64 fl, .bool false] 101 (0, 0))) := (hu3.block _ (Array.getElem?_eq_some_iff.1 HBX2.out).1).trans HBX2.out; clear b0 b1 b2 b3 hu3 HBM HBX2; obtain ⟨b0, b1, b2, b3⟩ := cel4P HBX3.out)
    | (go_at_call 77; rw [E2.out]; refine (l03Entry_yes M2 f (v / 256 % 32) _ HTT.out HKK.out HS2.out).mono ?_; rintro r u4 ⟨rfl, q4, hu4⟩; subst u4; rw [HY.out])
    | (go_at_call 42; rw [E3.out]; refine (specSetWord_yes _ _ _ _ HPL.out HS2.out).mono ?_; rintro r u5 ⟨rfl, hu5⟩; have HB5 : Hid (Below w.heap.size w u5) := (bdn HB3.out q4).trans (hu5.mono (bdn HB3.out q4).size); clear hu5))
  exact bodyPost_ret (v := .tuple #[.string M2, .slice ao2 (n - 1) (cap - 1), .int .i64 9]) (by simp [results, Try.results54, go_sem]) rfl ⟨by rw [e0, HM2.out], bdn HB3.out _⟩
set_option maxRecDepth 100000 in
set_option maxHeartbeats 4000000 in
theorem l03Map_n0 (mem : ByteArray) (root : Nat) (m : PM) (ao : Option Addr) (n cap : Nat) (w : World) (hs : mem.size ≤ 65536) (hr : root * 256 + 256 ≤ mem.size) (h : pmOk m = true) (hlg : m.large = false) (he : wv mem (atM root m) % 2 = 0) (g o f : Nat) (hg : w.cell? ⟨g, o, none⟩ = some (.int .i64 (f : Int))) (hgw : g < w.heap.size) (hn1 : 1 ≤ n) (hnc : n ≤ cap) (hao : ao = some ⟨g, o, none⟩) (hf : f * 256 + 256 ≤ mem.size) (ao2 : Option Addr) (hsl : ∀ u : World, Sem.run Try.prog (Instr.slice 28 (.slice (some ⟨g, o, none⟩) n cap) (some (.int .i64 1)) none none) u = .ok (.slice ao2 (n - 1) (cap - 1)) u) (hy : wv (setv (zfr mem f) (atM root m) ((f : Int) * 256 + 1)) (f * 256 + 4 * (m.va.toNat / 256 % 32)) % 2 = 0) : MapAns 54 mem root m (.slice ao n cap) (setv (setv (zfr mem f) (atM root m) ((f : Int) * 256 + 1)) (f * 256 + 4 * (m.va.toNat / 256 % 32)) (enM m)) (.slice ao2 (n - 1) (cap - 1)) 0 w := by
  obtain ⟨va, fr, fl, lg⟩ := m
  unfold MapAns pmA
  unfold pmOk at h
  simp only at h hlg he ⊢
  subst hlg
  obtain ⟨g1, g2, g3, g4, g5, g6, g7, g8⟩ := of_decide_eq_true h
  obtain ⟨v, rfl⟩ : ∃ v : Nat, va = (v : Int) := ⟨va.toNat, by omega⟩
  have h1 : ¬ (v : Int) < 0 := by omega
  have h2 : ¬ 262144 ≤ (v : Int) := by omega
  have ht : (v : Int).tmod 256 = (v : Int) % 256 := Int.tmod_eq_emod_of_nonneg (by omega)
  have h3 : (v : Int) % 256 = 0 := by simpa using g3
  have h4 : ¬ fr < 0 := by omega
  have h5 : ¬ 1023 < fr := by omega
  have h7 : (bits .and .i64 fl 14 == 0) = false := by simpa using g7
  have h8 : (fl != bits .and .i64 fl 158) = false := by rw [g8]; simp
  have E : Hid ((root : Int) * 256 + 4 * ((v : Int) / 8192) = ((root * 256 + 4 * (v / 8192) : Nat) : Int)) := (show (root : Int) * 256 + 4 * ((v : Int) / 8192) = ((root * 256 + 4 * (v / 8192) : Nat) : Int) by omega)
  have HAT : Hid (root * 256 + 4 * (v / 8192) + 4 ≤ mem.size) := (show root * 256 + 4 * (v / 8192) + 4 ≤ mem.size by omega)
  have HB : Hid (Below w.heap.size w (w.alloc (.cells #[.int .i64 v, .int .i64 fr, .int .i64 fl, .bool false] 101))) := (Below.refl _ _).alloc (Nat.le_refl _) _
  have e0 : atM root ⟨(v : Int), fr, fl, false⟩ = root * 256 + 4 * (v / 8192) := by simp [atM]
  rw [e0] at he
  obtain ⟨x, hx⟩ : ∃ x, wv mem (root * 256 + 4 * (v / 8192)) = x := ⟨_, rfl⟩
  have hxb := wv_b mem (root * 256 + 4 * (v / 8192))
  rw [hx] at he hxb
  have k1 : bits .and .i64 x 1 = 0 := by rw [and1 x hxb.1 (by omega)]; exact he
  have HX : Hid (wv mem (root * 256 + 4 * (v / 8192)) = x) := hx
  clear h g1 g2 g3 g7 g8 hx he
  subst hao
  have n0 : ((n : Int) == 0) = false := by
    have : ¬ (n : Int) = 0 := by omega
    simpa using this
  have n1 : (0 : Int) < (n : Int) := by omega
  have HYH : Hid _ := hy
  have HF : Hid (f * 256 + 256 ≤ mem.size) := hf
  have HNC : Hid (n ≤ cap) := hnc
  have HXB : Hid _ := hxb
  clear hy hf g6 hnc hxb
  go_enter Try.func54, Try.ntmps54
  go_upto_region 20 with (go_at_call 40; rw [E.out]; refine (l01Word_any _ _ _ HAT.out hs).mono ?_; rintro r u1 ⟨rfl, q, hu1⟩; subst u1; rw [HX.out])
  have HBV : Hid (Below w.heap.size w ((w.alloc (.cells #[.int .i64 v, .int .i64 fr, .int .i64 fl, .bool false] 101)).drewN q)) := bdn HB.out q
  have HBX : Hid (((w.alloc (.cells #[.int .i64 v, .int .i64 fr, .int .i64 fl, .bool false] 101)).drewN q).heap[w.heap.size]? = some (.cells #[.int .i64 v, .int .i64 fr, .int .i64 fl, .bool false] 101 (0, 0))) := (MapKept.heap_alloc w _).1
  generalize (w.alloc (.cells #[.int .i64 v, .int .i64 fr, .int .i64 fl, .bool false] 101)).drewN q = V at *
  clear HB hg hgw hsl
  have hy := HYH.out
  have hf := HF.out
  have hxb := HXB.out
  rw [e0] at hy
  simp only [Int.toNat_natCast] at hy
  have hk2 : ((v : Int) / 256).tmod 32 = (v : Int) / 256 % 32 := Int.tmod_eq_emod_of_nonneg (by omega)
  have hor : bits .or .i64 ((f : Int) * 256) 1 = (f : Int) * 256 + 1 := or1k f (by omega)
  have hdv : ((f : Int) * 256 + 1) / 256 = (f : Int) := by omega
  have z0 := zfr_size mem f hf
  have z1 : (mem.extract 0 (f * 256)).size = f * 256 := by rw [ByteArray.size_extract]; omega
  have z2 : (mem.extract ((f + 1) * 256) mem.size).size ≤ mem.size := by rw [ByteArray.size_extract]; omega
  have c1 := fun w => run_string_add_sum (P := Try.prog) w (mem.extract 0 (f * 256)) zB (by rw [zB_size]; omega)
  have c2 := fun w => run_string_add_sum (P := Try.prog) w (mem.extract 0 (f * 256) ++ zB) (mem.extract ((f + 1) * 256) mem.size) (by rw [ByteArray.size_append, zB_size]; omega)
  have s1 := fun w => run_slice_string_to_if (P := Try.prog) (w := w) 9 mem .i64 ((f : Int) * 256) Try.underlying9
  have s2 := fun w => run_slice_string_from_if (P := Try.prog) (w := w) 9 mem .i64 (((f : Int) + 1) * 256) Try.underlying9
  simp only [if_pos (show 0 ≤ (f : Int) * 256 ∧ (f : Int) * 256 ≤ (mem.size : Int) by omega)] at s1
  simp only [if_pos (show 0 ≤ ((f : Int) + 1) * 256 ∧ ((f : Int) + 1) * 256 ≤ (mem.size : Int) by omega)] at s2
  rw [show ((f : Int) * 256).toNat = f * 256 by omega] at s1
  rw [show (((f : Int) + 1) * 256).toNat = (f + 1) * 256 by omega] at s2
  have HZF : Hid (mem.extract 0 (f * 256) ++ zB ++ mem.extract ((f + 1) * 256) mem.size = zfr mem f) := rfl
  have hmk : ∀ u : World, (Instr.makeSlice 52 (.int .i64 256) (.int .i64 256)).run Try.prog u = .ok (.slice (some ⟨u.heap.size, 0, none⟩) 256 256) (u.alloc (.cells (zrs 256).toArray 5)) := fun u => mkBytes u 256 (by omega)
  have w1 : IntKind.i64.wrap ((f : Int) * 256) = (f : Int) * 256 := by rw [IntKind.wrap_i64]; omega
  have w2 : IntKind.i64.wrap ((f : Int) + 1) = (f : Int) + 1 := by rw [IntKind.wrap_i64]; omega
  have w3 : IntKind.i64.wrap (((f : Int) + 1) * 256) = ((f : Int) + 1) * 256 := by rw [IntKind.wrap_i64]; omega
  have hcv : Sem.run Try.prog (convert 52 9 (.slice (some ⟨V.heap.size, 0, none⟩) 256 256)) (V.alloc (.cells (zrs 256).toArray 5)).drew = .ok (.string zB) (V.alloc (.cells (zrs 256).toArray 5)).drew := conv_zB V.drew
  have E2 : Hid ((v : Int) / 256 % 32 = ((v / 256 % 32 : Nat) : Int)) := (show (v : Int) / 256 % 32 = ((v / 256 % 32 : Nat) : Int) by omega)
  have HKK : Hid (v / 256 % 32 ≤ 31) := (show v / 256 % 32 ≤ 31 by omega)
  obtain ⟨M2, hM2⟩ : ∃ M2, setv (zfr mem f) (root * 256 + 4 * (v / 8192)) ((f : Int) * 256 + 1) = M2 := ⟨_, rfl⟩
  rw [hM2] at hy
  have hs2 : M2.size = mem.size := by rw [← hM2, setv_sz _ _ _ (by omega), z0]
  have HM2 : Hid (setv (zfr mem f) (root * 256 + 4 * (v / 8192)) ((f : Int) * 256 + 1) = M2) := hM2
  have HA2 : Hid (root * 256 + 4 * (v / 8192) + 4 ≤ (zfr mem f).size) := (show root * 256 + 4 * (v / 8192) + 4 ≤ (zfr mem f).size by omega)
  have HZ2 : Hid ((zfr mem f).size ≤ 65536) := (show (zfr mem f).size ≤ 65536 by omega)
  have HTT : Hid ((f + 1) * 256 ≤ M2.size) := (show (f + 1) * 256 ≤ M2.size by omega)
  have HS2 : Hid (M2.size ≤ 65536) := (show M2.size ≤ 65536 by omega)
  obtain ⟨y, hyy⟩ : ∃ y, wv M2 (f * 256 + 4 * (v / 256 % 32)) = y := ⟨_, rfl⟩
  have hyb := wv_b M2 (f * 256 + 4 * (v / 256 % 32))
  rw [hyy] at hy hyb
  have HY : Hid (wv M2 (f * 256 + 4 * (v / 256 % 32)) = y) := hyy
  have ky : bits .and .i64 y 1 = 0 := by rw [and1 y hyb.1 (by omega)]; exact hy
  have E3 : Hid ((f : Int) * 256 + 4 * ((v : Int) / 256 % 32) = ((f * 256 + 4 * (v / 256 % 32) : Nat) : Int)) := (show (f : Int) * 256 + 4 * ((v : Int) / 256 % 32) = ((f * 256 + 4 * (v / 256 % 32) : Nat) : Int) by omega)
  have HPL : Hid (f * 256 + 4 * (v / 256 % 32) + 4 ≤ M2.size) := (show f * 256 + 4 * (v / 256 % 32) + 4 ≤ M2.size by omega)
  have tb : (f : Int) ≤ 255 := by omega
  clear hyy hy z0 z1 z2 hM2 hs2 hf hxb HYH HXB
  go_region
  go_upto_region 22 with fail
  have HBM : Hid (Below w.heap.size w (V.alloc (.cells (zrs 256).toArray 5)).drew) := (HBV.out.alloc HBV.out.size _).drew
  have HBX2 : Hid ((V.alloc (.cells (zrs 256).toArray 5)).drew.heap[w.heap.size]? = some (.cells #[.int .i64 v, .int .i64 fr, .int .i64 fl, .bool false] 101 (0, 0))) := (Below.heap_alloc _ _ _ (Array.getElem?_eq_some_iff.1 HBX.out).1).trans HBX.out
  generalize (V.alloc (.cells (zrs 256).toArray 5)).drew = V2 at *
  clear hmk hcv c1 c2 s1 s2 w1 w2 w3
  obtain ⟨b0, b1, b2, b3⟩ := cel4P HBX2.out
  go_wp2_with (first
    | (go_at_call 42; rw [E.out, HZF.out]; refine (specSetWord_yes _ _ _ _ HA2.out HZ2.out).mono ?_; rintro r u3 ⟨rfl, hu3⟩; rw [HM2.out]; have HB3 : Hid (Below w.heap.size w u3) := HBM.out.trans (hu3.mono HBM.out.size); have HBX3 : Hid (u3.heap[w.heap.size]? = some (.cells #[.int .i64 v, .int .i64 fr, .int .i64 fl, .bool false] 101 (0, 0))) := (hu3.block _ (Array.getElem?_eq_some_iff.1 HBX2.out).1).trans HBX2.out; clear b0 b1 b2 b3 hu3 HBM HBX2; obtain ⟨b0, b1, b2, b3⟩ := cel4P HBX3.out)
    | (go_at_call 77; rw [E2.out]; refine (l03Entry_yes M2 f (v / 256 % 32) _ HTT.out HKK.out HS2.out).mono ?_; rintro r u4 ⟨rfl, q4, hu4⟩; subst u4; rw [HY.out])
    | (go_at_call 42; rw [E3.out]; refine (specSetWord_yes _ _ _ _ HPL.out HS2.out).mono ?_; rintro r u5 ⟨rfl, hu5⟩; have HB5 : Hid (Below w.heap.size w u5) := (bdn HB3.out q4).trans (hu5.mono (bdn HB3.out q4).size); clear hu5))
  exact bodyPost_ret (v := .tuple #[.string (setv M2 (f * 256 + 4 * (v / 256 % 32)) (bits .or .i64 (bits .or .i64 (fr * 256) fl) 1)), .slice ao2 (n - 1) (cap - 1), .int .i64 0]) (by simp [results, Try.results54, go_sem]) rfl ⟨by rw [e0, HM2.out]; rfl, HB5.out⟩
end Go.Proofs.Ytfagohdmepnkkaa
