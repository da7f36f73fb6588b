import Derived.Test.YtfagohdmepnkkaaSTwoA
import Derived.Test.YtfagohdmepnkkaaSTwoQ
import Derived.Test.YtfagohdmepnkkaaSTwoC
namespace Go.Proofs.Ytfagohdmepnkkaa
open Go.ChangeShapes Go.WideShapes Go.ChangeAt Go.RowKit

theorem finG_no (f : FG) (host va : Nat) (acc : Int) (user : Bool) (h : ¬ f.code = 0) : finG f host va acc user = ⟨f.code, 0, f.zs, f.mem, f.steps, f.place⟩ := if_neg h
theorem tv_steps (a b c d d' : Int) (m : ByteArray) (h : d = d') : (⟨a, b, c, d, m⟩ : TV) = ⟨a, b, c, d', m⟩ := by rw [h]
theorem specTwo_yes (s : ByteArray) (host root va : Nat) (acc : Int) (user : Bool) (w : World) (hm : memOk s = true) (r0 : host ≤ 255) (r1 : root ≤ 255) (v1 : va ≤ 262143) (a1 : 1 ≤ acc) (a2 : acc ≤ 3) :
    Calls Try.prog 8 #[.string s, .int .i64 host, .int .i64 root, .int .i64 va, .int .i64 acc, .bool user] w fun e w' => e = .returned (twA (twoV s host root va acc user)) ∧ Below w.heap.size w w' := by
  have hk1 : k1V root va = root * 256 + 4 * (va / 8192) := rfl
  have hkb : k1V root va ≤ 262143 := by omega
  have hk4 : k1V root va % 4 = 0 := by omega
  have hsz1 := walkV_size s host (k1V root va) 1 false hkb
  have hln1 := walkV_len s host (k1V root va) 1 false
  have hpa1 := fun hf => walkV_pa s host (k1V root va) 1 false hf hk4
  have hsm1 := walkV_same s host (k1V root va) 1 false
  have hms := memOk_b hm
  unfold twoV feG
  by_cases hf1 : (walkV s host (k1V root va) 1 false).fault = 0
  case neg =>
    rw [if_neg hf1, finG_no _ _ _ _ _ (show ¬ (3 : Int) = 0 by decide), twoF_3]
    have h := specTwo_A s host root va acc user w hm r0 r1 v1 a1 a2 (k1V root va) hk1 (0 + ((walkV s host (k1V root va) 1 false).reads.length : Int)) (PL_no w s host 0 0 (k1V root va) 1 hm r0 hkb (by decide) (by decide) (by decide) (by decide) hf1)
    rw [hsm1 hf1, tv_steps _ _ _ _ (0 + ((walkV s host (k1V root va) 1 false).reads.length : Int)) _ (by simp)]
    exact h
  rw [if_pos hf1]
  obtain ⟨q0, q1, q2⟩ := hpa1 hf1
  obtain ⟨p1, hp1⟩ := Int.eq_ofNat_of_zero_le q0
  have HP1 := PL_yes w s host 0 0 (k1V root va) 1 hm r0 hkb (by decide) (by decide) (by decide) (by decide) hf1
  rw [hp1] at HP1 q1 ⊢
  have ht : Int.toNat (p1 : Int) = p1 := rfl
  rw [ht]
  obtain ⟨x1, hx1⟩ : ∃ r, (walkV s host (k1V root va) 1 false) = r := ⟨_, rfl⟩
  rw [hx1] at HP1 hsz1 hln1 hf1 hp1 ⊢
  clear hx1 hpa1 hsm1
  have hm1 : memOk x1.mem = true := memOk_size hm hsz1
  obtain ⟨z, hz⟩ : ∃ z, wv x1.mem p1 = z := ⟨_, rfl⟩
  obtain ⟨z0, z1⟩ := wv_b x1.mem p1
  rw [hz] at z0 z1 ⊢
  unfold fe1
  by_cases h16 : z % 16 = 1
  case neg =>
    rw [if_neg h16, twoF_tail _ _ _ _ _ rfl]
    exact specTwo_C s host root va acc user w hm r0 r1 v1 a1 a2 (k1V root va) hk1 x1.mem (0 + (x1.reads.length : Int)) p1 z hz (by omega) (by omega) (by omega) (by omega) HP1 h16 hm1 hkb hk4
  rw [if_pos h16]
  by_cases hT : z / 256 < 1024
  case neg =>
    rw [if_neg hT, finG_no _ _ _ _ _ (show ¬ (2 : Int) = 0 by decide), twoF_2]
    exact specTwo_B1 s host root va acc user w hm r0 r1 v1 a1 a2 (k1V root va) hk1 x1.mem (0 + (x1.reads.length : Int)) p1 z hz (by omega) (by omega) (by omega) (by omega) HP1 h16 (by omega)
  rw [if_pos hT]
  obtain ⟨T, hTT⟩ := Int.eq_ofNat_of_zero_le (show 0 ≤ z / 256 by omega)
  have ht2 : (z / 256).toNat = T := by omega
  rw [ht2]
  have hk2 : k2V T va = T * 256 + 4 * (va / 256 % 32) := rfl
  have hkb2 : k2V T va ≤ 262143 := by omega
  have hk42 : k2V T va % 4 = 0 := by omega
  have hsz2 := walkV_size x1.mem host (k2V T va) 1 false hkb2
  have hln2 := walkV_len x1.mem host (k2V T va) 1 false
  have hpa2 := fun hf => walkV_pa x1.mem host (k2V T va) 1 false hf hk42
  have hsm2 := walkV_same x1.mem host (k2V T va) 1 false
  unfold fe2
  by_cases hf2 : (walkV x1.mem host (k2V T va) 1 false).fault = 0
  case neg =>
    rw [if_neg hf2, finG_no _ _ _ _ _ (show ¬ (3 : Int) = 0 by decide), twoF_3]
    have h := specTwo_B2 s host root va acc user w hm r0 r1 v1 a1 a2 (k1V root va) hk1 x1.mem (0 + (x1.reads.length : Int)) p1 z hz (by omega) (by omega) (by omega) (by omega) HP1 h16 T hTT (by omega) (k2V T va) hk2 _ (PL_no w x1.mem host (0 + (x1.reads.length : Int) + 1) 0 (k2V T va) 1 hm1 r0 hkb2 (by decide) (by decide) (by omega) (by omega) hf2)
    rw [hsm2 hf2, tv_steps _ _ _ _ (0 + (x1.reads.length : Int) + 1 + ((walkV x1.mem host (k2V T va) 1 false).reads.length : Int)) _ (by simp; omega)]
    exact h
  rw [if_pos hf2, twoF_tail _ _ _ _ _ rfl]
  obtain ⟨v0, v2, v3⟩ := hpa2 hf2
  obtain ⟨p2, hp2⟩ := Int.eq_ofNat_of_zero_le v0
  have HP2 := PL_yes w x1.mem host (0 + (x1.reads.length : Int) + 1) 0 (k2V T va) 1 hm1 r0 hkb2 (by decide) (by decide) (by omega) (by omega) hf2
  rw [hp2] at HP2 v2
  simp only
  rw [hp2]
  have ht3 : Int.toNat (p2 : Int) = p2 := rfl
  rw [ht3]
  obtain ⟨x2, hx2⟩ : ∃ r, walkV x1.mem host (k2V T va) 1 false = r := ⟨_, rfl⟩
  rw [hx2] at HP2 hsz2 hln2 ⊢
  have hst : 0 + (x1.reads.length : Int) + (x2.reads.length : Int) + (([(root : Int), (T : Int)].length : Nat) : Int) = 0 + (x1.reads.length : Int) + 1 + (x2.reads.length : Int) + 1 := by
    simp
    omega
  rw [hst]
  exact specTwo_B s host root va acc user w hm r0 r1 v1 a1 a2 (k1V root va) hk1 x1.mem (0 + (x1.reads.length : Int)) p1 z hz (by omega) (by omega) (by omega) (by omega) HP1 h16 T hTT (by omega) (k2V T va) hk2 x2.mem (0 + (x1.reads.length : Int) + 1 + (x2.reads.length : Int)) p2 _ rfl (by omega) (by omega) (by omega) (by omega) HP2 (memOk_size hm1 hsz2) hkb2 hk42
end Go.Proofs.Ytfagohdmepnkkaa
