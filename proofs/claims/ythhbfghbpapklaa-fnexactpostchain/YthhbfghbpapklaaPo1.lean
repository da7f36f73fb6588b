import Derived.Test.YthhbfghbpapklaaRowDD3
import Derived.Test.YthhbfghbpapklaaRowBU1
import Derived.Test.YthhbfghbpapklaaGc1
import Derived.Test.YthhbfghbpapklaaRc1
namespace Go.Proofs.Ythhbfghbpapklaa
open Go.ChangeShapes Go.WideShapes Go.ChangeAt Go.RowKit

set_option maxRecDepth 100000
theorem ddR_set1 (zs : List DD) (k j : Nat) (z0 : DD) (hk : zs[k]? = some z0) (hj : j < 8) (v : Value) (z : DD) (h : (ddC z0).set j v = ddC z) : (ddR zs).set (k * 8 + j) v = ddR (zs.set k z) := by
  induction zs generalizing k with
  | nil => simp at hk
  | cons y zs ih =>
    have e : ddR (y :: zs) = ddC y ++ ddR zs := rfl
    have hl : (ddC y).length = 8 := rfl
    cases k with
    | zero =>
      rw [e, List.set_cons_zero, Nat.zero_mul, Nat.zero_add, List.set_append_left _ _ (by omega)]
      show _ = ddC z ++ ddR zs
      obtain rfl : y = z0 := by simpa using hk
      rw [← h]
    | succ k =>
      rw [e, List.set_cons_succ]
      show _ = ddC y ++ ddR (zs.set k z)
      rw [List.set_append_right _ _ (by omega), hl, show (k + 1) * 8 + j - 8 = k * 8 + j by omega, ih k (by simpa using hk)]
/-- The descriptor of a buffer that is posted. -/
def pdE (S F n : Nat) (z : BU) (k : Nat) : DD := ⟨z.pos, z.len, z.write, decide (k + 1 < n), false, false, false, if k + 1 < n then (((F + k + 1) % S : Nat) : Int) else 0⟩
def bz0 : BU := ⟨0, 0, false⟩
def pdJ (S F : Nat) (zs : List BU) (k : Nat) : List DD := (List.range zs.length).map (fun i => if i < k then pdE S F zs.length (zs.getD i bz0) i else dd0)
def pdL (S F : Nat) (zs : List BU) : List DD := (List.range zs.length).map (fun i => pdE S F zs.length (zs.getD i bz0) i)
theorem pdJ_len (S F : Nat) (zs : List BU) (k : Nat) : (pdJ S F zs k).length = zs.length := by simp [pdJ]
theorem pdL_len (S F : Nat) (zs : List BU) : (pdL S F zs).length = zs.length := by simp [pdL]
theorem pdJ_zero (S F : Nat) (zs : List BU) : pdJ S F zs 0 = List.replicate zs.length dd0 := by
  apply List.ext_getElem (by simp [pdJ])
  intro i h1 h2
  simp [pdJ]
theorem pdJ_all (S F : Nat) (zs : List BU) : pdJ S F zs zs.length = pdL S F zs := by
  apply List.ext_getElem (by simp [pdJ, pdL])
  intro i h1 h2
  simp [pdL] at h2
  simp [pdJ, pdL, h2]
theorem pdJ_at (S F : Nat) (zs : List BU) (k : Nat) (hk : k < zs.length) : (pdJ S F zs k)[k]'(by rw [pdJ_len]; exact hk) = dd0 := by simp [pdJ]
theorem pdL_at (S F : Nat) (zs : List BU) (k : Nat) (hk : k < zs.length) : (pdL S F zs)[k]'(by rw [pdL_len]; exact hk) = pdE S F zs.length zs[k] k := by simp [pdL, List.getD, List.getElem?_eq_getElem hk]
theorem pdJ_next (S F : Nat) (zs : List BU) (k : Nat) (hk : k < zs.length) : (pdJ S F zs k).set k (pdE S F zs.length zs[k] k) = pdJ S F zs (k + 1) := by
  apply List.ext_getElem (by simp [pdJ])
  intro i h1 h2
  simp [pdJ] at h2
  rw [List.getElem_set]
  by_cases he : k = i
  · subst he
    simp [pdJ, List.getD, List.getElem?_eq_getElem hk]
  · rw [if_neg he]
    have hh : (i < k) = (i < k + 1) := by apply propext; omega
    simp only [pdJ, List.getElem_map, List.getElem_range, hh]
theorem LBx.gr {w u v : World} {b g : Nat} {cs : Array Value} {t : Nat} (h : LBx w u b cs t) (hg : u.grownBy v (some g)) (h1 : w.heap.size ≤ g) (h2 : b ≠ g) : LBx w v b cs t :=
  ⟨h.bel.grown hg h.bel.size (fun j hj => by cases hj; exact h1), (hg.block _ h.lt (fun e => h2 (Option.some.inj e))).trans h.box⟩
theorem ddC_at2 {w : World} {B g cap n : Nat} {J : List DD} {z : DD} (h : w.ownsRow B 99 8 (.slice (some ⟨g, 0, none⟩) n cap) n (ddR J)) (k : Nat) (hz : J[k]? = some z) (j : Nat) (v : Value) (hv : (ddC z)[j]? = some v) : w.cell? ⟨g, k * 8 + j, none⟩ = some v := by
  have hj : j < 8 := (List.getElem?_eq_some_iff.1 hv).1
  obtain ⟨hk, hz⟩ := List.getElem?_eq_some_iff.1 hz
  have hl := h.1
  rw [ddR_len] at hl
  have hn : J.length = n := by omega
  have h2 := h.cellAt (k * 8 + j) (by omega)
  rw [ddR_at J k hk j hj, hz, hv] at h2
  exact h2
theorem ddC_at {w : World} {B g cap n : Nat} {J : List DD} (h : w.ownsRow B 99 8 (.slice (some ⟨g, 0, none⟩) n cap) n (ddR J)) (k : Nat) (hz : J[k]? = some dd0) (j : Nat) (v : Value) (hv : (ddC dd0)[j]? = some v) : w.cell? ⟨g, k * 8 + j, none⟩ = some v := ddC_at2 h k hz j v hv
set_option maxHeartbeats 4000000 in
theorem postDesc_any {w : World} {v : Value} {zs : List BU} (S F : Nat) (d a u t g : Int) (h : BUrow w v zs) (hl : zs.length ≤ 1000) (hS : 1 ≤ S) (hS2 : S ≤ 16) (hF : F < S) :
    Calls Try.prog 29 #[qA ⟨S, d, a, u, t, g⟩, .int .i64 F, v] w fun e w' => ∃ x, e = .returned x ∧ w'.ownsRow w.heap.size 99 8 x zs.length (ddR (pdL S F zs)) ∧ Below w.heap.size w w' := by
  obtain ⟨a1, c1, rfl⟩ := h.sl
  have HR : Hid (BUrow w (.slice a1 zs.length c1) zs) := h
  have HL0 : Hid (LBx w (w.alloc (.cells #[.int .i64 S, .int .i64 d, .int .i64 a, .int .i64 u, .int .i64 t, .int .i64 g] 26)) w.heap.size #[.int .i64 S, .int .i64 d, .int .i64 a, .int .i64 u, .int .i64 t, .int .i64 g] 26) := LBx.new w _ _
  have hmk := fun x => dd_mk x zs.length (by omega)
  have HOW : Hid _ := fun x => dd_own0 x zs.length (by omega)
  have HC : Hid (1 ≤ S ∧ S ≤ 16 ∧ F < S ∧ zs.length ≤ 1000) := ⟨hS, hS2, hF, hl⟩
  clear h hS hS2 hF
  unfold qA
  simp only
  go_enter Try.func29, Try.ntmps29
  go_upto_region 1 with fail
  generalize (w.alloc (.cells #[.int .i64 S, .int .i64 d, .int .i64 a, .int .i64 u, .int .i64 t, .int .i64 g] 26)) = u0 at *
  go_wp2_with fail
  have HO1 : Hid _ := HOW.out u0
  have HL1 : Hid _ := HL0.out.step (bx1 u0 (.cells (ddR (List.replicate zs.length dd0)).toArray 99))
  have HG0 : Hid (w.heap.size < u0.heap.size) := HL0.out.lt
  clear hmk HOW HL0
  generalize (u0.alloc (.cells (ddR (List.replicate zs.length dd0)).toArray 99)) = u1 at *
  generalize u0.heap.size = gB at *
  go_loopw [15] (fun i wr => ∃ k : Nat, k ≤ zs.length ∧ i = .int .i64 k ∧ Hid (wr.ownsRow gB 99 8 (.slice (some ⟨gB, 0, none⟩) zs.length zs.length) zs.length (ddR (pdJ S F zs k))) ∧ Hid (LBx w wr w.heap.size #[.int .i64 S, .int .i64 d, .int .i64 a, .int .i64 u, .int .i64 t, .int .i64 g] 26)) (fun i _ => zs.length - (intOf i).toNat)
  case atStart => exact ⟨0, Nat.zero_le _, rfl, by rw [pdJ_zero]; exact HO1, HL1⟩
  case round =>
    obtain ⟨k, hk, rfl, HO, HL⟩ := hrel
    clear HO1 HL1
    by_cases hlt : k < zs.length
    · obtain ⟨g1, o1, cap2, hv, _, hg1, hc⟩ := HR.out.resolve_left (fun h => by rw [h.1] at hlt; simp at hlt)
      injection hv with hv1 hv2 hv3
      subst hv1 hv3
      obtain ⟨d0, d1, d2⟩ := hc.below HL.out.bel hg1 k hlt
      clear hc
      have HE : Hid (pdJ S F zs (k + 1) = (pdJ S F zs k).set k (pdE S F zs.length zs[k] k)) := (pdJ_next S F zs k hlt).symm
      have hJl := pdJ_len S F zs k
      have hJk : k < (pdJ S F zs k).length := by omega
      have hJ0 : (pdJ S F zs k)[k]? = some dd0 := by rw [List.getElem?_eq_getElem hJk, pdJ_at S F zs k hlt]
      generalize zs[k] = z at *
      obtain ⟨zp, zl, zw⟩ := z
      simp only at d0 d1 d2
      have hk0 : (0 : Int) ≤ (k : Int) := by omega
      have hk1 : (k : Int) < (zs.length : Int) := by omega
      have HL3 : Hid _ := HL.out.step (bx1 wr (.cells #[.int .i64 zp, .int .i64 zl, .bool zw] 48))
      have HO3 : Hid ((wr.alloc (.cells #[.int .i64 zp, .int .i64 zl, .bool zw] 48)).ownsRow gB 99 8 (.slice (some ⟨gB, 0, none⟩) zs.length zs.length) zs.length (ddR (pdJ S F zs k))) := HO.out.alloc _
      have HX3 : Hid ((wr.alloc (.cells #[.int .i64 zp, .int .i64 zl, .bool zw] 48)).heap[wr.heap.size]? = some (.cells #[.int .i64 zp, .int .i64 zl, .bool zw] 48 (0, 0))) := heap_new _ _
      have hgw : g1 < wr.heap.size := Nat.lt_of_lt_of_le hg1 HL.out.bel.size
      generalize pdJ S F zs k = J at *
      go_upto_region 5 with fail
      generalize (wr.alloc (.cells #[.int .i64 zp, .int .i64 zl, .bool zw] 48)) = y3 at *
      generalize wr.heap.size = B3 at *
      clear HO HL d0 d1 d2
      have x0 := bC HX3.out 0 (.int .i64 zp) rfl
      have x1 := bC HX3.out 1 (.int .i64 zl) rfl
      have x2 := bC HX3.out 2 (.bool zw) rfl
      have xl : B3 < y3.heap.size := (Array.getElem?_eq_some_iff.1 HX3.out).1
      have hf := fun j => HO3.out.frozenAt j
      have s0 := HO3.out.stored (k * 8) (.int .i64 zp)
      have e0 := ddR_set1 J k 0 dd0 hJ0 (by omega) (.int .i64 zp) ⟨zp, 0, false, false, false, false, false, 0⟩ rfl
      rw [Nat.add_zero] at e0
      rw [e0] at s0
      have s1 := s0.1.stored (k * 8 + 1) (.int .i64 zl)
      rw [ddR_set1 _ k 1 ⟨zp, 0, false, false, false, false, false, 0⟩ (List.getElem?_set_self hJk) (by omega) (.int .i64 zl) ⟨zp, zl, false, false, false, false, false, 0⟩ rfl, List.set_set] at s1
      have s2 := s1.1.stored (k * 8 + 2) (.bool zw)
      rw [ddR_set1 _ k 2 ⟨zp, zl, false, false, false, false, false, 0⟩ (List.getElem?_set_self hJk) (by omega) (.bool zw) ⟨zp, zl, zw, false, false, false, false, 0⟩ rfl, List.set_set] at s2
      have HO4 : Hid ((((y3.setCell ⟨gB, k * 8, none⟩ (.int .i64 zp)).setCell ⟨gB, k * 8 + 1, none⟩ (.int .i64 zl)).setCell ⟨gB, k * 8 + 2, none⟩ (.bool zw)).ownsRow gB 99 8 (.slice (some ⟨gB, 0, none⟩) zs.length zs.length) zs.length (ddR (J.set k ⟨zp, zl, zw, false, false, false, false, 0⟩))) := s2.1
      have HG4 : Hid (y3.grownBy (((y3.setCell ⟨gB, k * 8, none⟩ (.int .i64 zp)).setCell ⟨gB, k * 8 + 1, none⟩ (.int .i64 zl)).setCell ⟨gB, k * 8 + 2, none⟩ (.bool zw)) (some gB)) := gbDD (gbDD s0.2 s1.2) s2.2
      have c0 := ddC_at HO3.out k hJ0 0 _ rfl
      have c1 := ddC_at HO3.out k hJ0 1 _ rfl
      have c2 := ddC_at HO3.out k hJ0 2 _ rfl
      rw [Nat.add_zero] at c0
      clear s0 s1 s2 e0
      go_upto_region 6 with fail
      have HL4 : Hid _ := HL3.out.gr HG4.out (by have := HG0.out; omega) (by have := HG0.out; omega)
      clear HO3 HL3 HG4 HX3 x0 x1 x2 xl hf c0 c1 c2
      generalize (((y3.setCell ⟨gB, k * 8, none⟩ (.int .i64 zp)).setCell ⟨gB, k * 8 + 1, none⟩ (.int .i64 zl)).setCell ⟨gB, k * 8 + 2, none⟩ (.bool zw)) = y4 at *
      have hJ5 : (J.set k ⟨zp, zl, zw, false, false, false, false, 0⟩)[k]? = some ⟨zp, zl, zw, false, false, false, false, 0⟩ := List.getElem?_set_self hJk
      by_cases hmore : k + 1 < zs.length
      · have hm2 : (k : Int) < (zs.length : Int) - 1 := by omega
        have hFb := HC.out
        have e1 : ((F : Int) + k + 1).tmod (S : Int) = (((F + k + 1) % S : Nat) : Int) := by
          rw [Int.tmod_eq_emod_of_nonneg (by omega)]
          simp
        have h0 : ¬ (S : Int) = 0 := by omega
        have kS := HL4.out.cel 0 _ rfl
        have kl := HL4.out.lt
        have ho4 : y4.ownsRow gB 99 8 (.slice (some ⟨gB, 0, none⟩) zs.length zs.length) zs.length (ddR (J.set k ⟨zp, zl, zw, false, false, false, false, 0⟩)) := HO4.out
        have hf := fun j => ho4.frozenAt j
        have c3 := ddC_at2 HO4.out k hJ5 3 _ rfl
        have c7 := ddC_at2 HO4.out k hJ5 7 _ rfl
        have s3 := ho4.stored (k * 8 + 3) (.bool true)
        rw [ddR_set1 _ k 3 _ hJ5 (by omega) (.bool true) ⟨zp, zl, zw, true, false, false, false, 0⟩ rfl, List.set_set] at s3
        have s4 := s3.1.stored (k * 8 + 7) (.int .i64 (((F + k + 1) % S : Nat) : Int))
        rw [ddR_set1 _ k 7 ⟨zp, zl, zw, true, false, false, false, 0⟩ (List.getElem?_set_self hJk) (by omega) (.int .i64 (((F + k + 1) % S : Nat) : Int)) ⟨zp, zl, zw, true, false, false, false, (((F + k + 1) % S : Nat) : Int)⟩ rfl, List.set_set] at s4
        have HO5 : Hid _ := s4.1
        have HL5 : Hid _ := HL4.out.gr (gbDD s3.2 s4.2) (by have := HG0.out; omega) (by have := HG0.out; omega)
        have HE2 : Hid (pdE S F zs.length ⟨zp, zl, zw⟩ k = ⟨zp, zl, zw, true, false, false, false, (((F + k + 1) % S : Nat) : Int)⟩) := by
          show _ = _
          unfold pdE
          rw [decide_eq_true hmore, if_pos hmore]
        clear s3 s4 ho4
        have hMM : 0 ≤ (((F + k + 1) % S : Nat) : Int) := by omega
        generalize (((F + k + 1) % S : Nat) : Int) = MM at *
        go_wp2_with fail
        go_roundw
        case rel => exact ⟨k + 1, hlt, by go_num, by rw [HE.out, HE2.out]; exact HO5, HL5⟩
        case measure => simp [intOf]; omega
      · have hm2 : ¬ (k : Int) < (zs.length : Int) - 1 := by omega
        have HE2 : Hid (pdE S F zs.length ⟨zp, zl, zw⟩ k = ⟨zp, zl, zw, false, false, false, false, 0⟩) := by
          show _ = _
          unfold pdE
          rw [decide_eq_false hmore, if_neg hmore]
        go_wp2_with fail
        go_roundw
        case rel => exact ⟨k + 1, hlt, by go_num, by rw [HE.out, HE2.out]; exact HO4, HL4⟩
        case measure => simp [intOf]; omega
    · obtain rfl : k = zs.length := by omega
      rw [pdJ_all] at HO
      go_wp2_with fail
      go_ret
      exact ⟨_, rfl, dd_weak HO.out (by have := HG0.out; omega), HL.out.bel⟩
end Go.Proofs.Ythhbfghbpapklaa
