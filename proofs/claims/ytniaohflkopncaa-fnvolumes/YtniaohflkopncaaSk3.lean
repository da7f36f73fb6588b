import Derived.Test.YtniaohflkopncaaSk2
import Derived.BigRegion
namespace Go.Proofs.Ytniaohflkopncaa
open Go.ChangeShapes Go.WideShapes Go.ChangeAt Go.RowKit

/-- The word of a stream whose key has come to the sum x. -/
def stW (x : Int) (n : Nat) : Int := mixE (mixR x (pw n) 4)
theorem stW_b (x : Int) (n : Nat) : 0 ≤ stW x n ∧ stW x n ≤ 2147483628 := mixE_b _
/-- The word that stands ahead of byte k. -/
def stK (x : Int) : Nat → Int
  | 0 => 0
  | k + 1 => stW x (k / 3)
theorem stK_b (x : Int) : ∀ k, 0 ≤ stK x k ∧ stK x k ≤ 2147483628
  | 0 => by simp [stK]
  | k + 1 => stW_b x _
theorem stK_on (x : Int) (k : Nat) (h : ¬ k % 3 = 0) : stK x (k + 1) = stK x k := by
  match k, h with
  | 0, h => exact absurd rfl h
  | k + 1, h =>
    show stW x ((k + 1) / 3) = stW x (k / 3)
    rw [show (k + 1) / 3 = k / 3 by omega]
/-- A byte under the word's byte of its place. -/
def cx (b : UInt8) (x : Int) (p : Nat) : UInt8 := UInt8.ofNat (bits .xor .u8 b.toNat (x / 2 ^ (8 * p) % 256)).toNat
theorem u8_bits (a b : Int) : ((UInt8.ofNat (bits .xor .u8 a b).toNat).toNat : Int) = bits .xor .u8 a b := by
  have h1 : 0 ≤ bits .xor .u8 a b := (wrap_within .u8 _).1
  have h2 : bits .xor .u8 a b ≤ 255 := (wrap_within .u8 _).2
  rw [UInt8.toNat_ofNat']
  omega
/-- The first k bytes are crypted. -/
def crK (x : Int) (d : List UInt8) : Nat → List UInt8
  | 0 => d
  | k + 1 => (crK x d k).set k (cx ((crK x d k).getD k 0) (stK x (k + 1)) (k % 3))
theorem crK_len (x : Int) (d : List UInt8) : ∀ k, (crK x d k).length = d.length
  | 0 => rfl
  | k + 1 => by rw [crK, List.length_set, crK_len x d k]
def hdS (s : ByteArray) (tw : Int) : Int := mixR (mixS 11) (s ++ pw tw) (s ++ pw tw).size
theorem hdS_b (s : ByteArray) (tw : Int) : 0 ≤ hdS s tw ∧ hdS s tw ≤ 2147483629 := mixR_b _ (mixS_b 11).1 (mixS_b 11).2 _
def crV (s : ByteArray) (tw : Int) (d : ByteArray) : ByteArray := ⟨(crK (hdS s tw) d.data.toList d.size).toArray⟩
theorem row8_at {B : Nat} {w : World} {g cap n : Nat} {bs : List UInt8} (h : Row8 B w (.slice (some ⟨g, 0, none⟩) n cap) bs) (k : Nat) (hk : k < bs.length) : n = bs.length ∧ w.cell? ⟨g, k, none⟩ = some (.int .u8 (bs.getD k 0).toNat) ∧ w.frozen? ⟨g, k, none⟩ = false := by
  obtain ⟨g', cap', hv, hB, h1, h2, h3, h4⟩ := h
  simp only [Value.slice.injEq, Option.some.injEq, Addr.mk.injEq, and_true] at hv
  obtain ⟨rfl, rfl, rfl⟩ := hv
  exact ⟨rfl, h3 k _ (by simp [cells8, List.getElem?_eq_getElem hk, List.getD]), (h4 k (by omega)).2⟩
theorem row8_put {B : Nat} {w : World} {g cap n : Nat} {bs : List UInt8} (h : Row8 B w (.slice (some ⟨g, 0, none⟩) n cap) bs) (hn : bs.length = n) (k : Nat) (hk : k < n) (x : UInt8) (z : Int) (hz : (x.toNat : Int) = z) : Row8 B (w.setCell ⟨g, k, none⟩ (.int .u8 z)) (.slice (some ⟨g, 0, none⟩) n cap) (bs.set k x) := by
  subst hn
  subst hz
  exact h.set k hk x
theorem cx0 (b : UInt8) (Y : Int) : ((cx b Y 0).toNat : Int) = bits .xor .u8 b.toNat (Y % 256) := by
  unfold cx
  rw [u8_bits]
  simp
theorem cx1 (b : UInt8) (Y : Int) : ((cx b Y 1).toNat : Int) = bits .xor .u8 b.toNat (Y / 256 % 256) := by
  unfold cx
  rw [u8_bits]
  simp
theorem cx2 (b : UInt8) (Y : Int) : ((cx b Y 2).toNat : Int) = bits .xor .u8 b.toNat (Y / 65536 % 256) := by
  unfold cx
  rw [u8_bits]
  simp
set_option maxRecDepth 100000 in
set_option maxHeartbeats 4000000 in
theorem crypt_any {w : World} {v : Value} {s : ByteArray} (h : KY w v s) (tw : Int) (d : ByteArray) (hs : s.size ≤ 1000000) (hd : d.size ≤ 1048576) :
    Calls Try.prog 102 #[v, .int .i64 tw, .string d] w fun e w' => e = .returned (.string (crV s tw d)) ∧ Below w.heap.size w w' := by
  obtain ⟨g, cap, rfl, hc⟩ := h.sl
  have HK : Hid (KY w (.slice (some ⟨g, 0, none⟩) s.size cap) s) := h
  have HPS : Hid (s.size + (pw tw).size ≤ 1048576) := (show s.size + (pw tw).size ≤ 1048576 by rw [pw_size]; omega)
  have hhd : (s ++ pw tw).size ≤ 1048576 := by rw [ByteArray.size_append, pw_size]; omega
  obtain ⟨m0, m1⟩ := mixS_b 11
  obtain ⟨x0, x1⟩ := hdS_b s tw
  obtain ⟨X, hX⟩ : ∃ X, hdS s tw = X := ⟨_, rfl⟩
  have HC : Hid (crV s tw d = ⟨(crK X d.data.toList d.size).toArray⟩) := (show crV s tw d = ⟨(crK X d.data.toList d.size).toArray⟩ by rw [← hX]; rfl)
  have HX0 : Hid (mixR (mixS 11) (s ++ pw tw) (s ++ pw tw).size = X) := hX
  rw [hX] at x0 x1
  generalize crV s tw d = R at *
  obtain ⟨S, hS⟩ : ∃ S, s ++ pw tw = S := ⟨_, rfl⟩
  have HS : Hid (s ++ pw tw = S) := hS
  rw [hS] at hhd HX0
  clear h hS hX
  go_enter Try.func102, Try.ntmps102
  go_wp2_with (first | (go_at_call 132; refine (mixStart_any _ _).mono ?_; rintro e u1 ⟨rfl, hw1⟩; subst hw1) | (go_at_call 134; refine (implPutWord_any _ _).mono ?_; rintro e u2 ⟨rfl, hb2⟩; have HB2 : Hid _ := hb2; clear hb2) | (go_at_call 133; refine (with_one (HK.out.below HB2.out) _ HPS.out).mono ?_; rw [HS.out]; rintro e u3 ⟨r, rfl, hk3, hb3⟩; have HB3 : Hid _ := HB2.out.trans (hb3.mono HB2.out.size); have hcv := ky_back hk3; obtain ⟨g3, c3, rfl, _⟩ := hk3.sl; clear hk3 hb3) | (go_at_call 131; refine (mixOn_any _ _ _ m0 m1 hhd).mono ?_; rw [HX0.out]; rintro e u4 ⟨rfl, hw4⟩; rw [hw4]; clear hw4 hcv; have hcv2 := bw_conv u3 d))
  have HR0 : Hid (Row8 u3.heap.size (Lib.bytesWorld u3 5 d) (.slice (some ⟨u3.heap.size, 0, none⟩) d.size (grownCap u3 d.size 0 5)) d.data.toList) := row8_conv u3 d hd
  have HB4 : Hid (Below u1.heap.size u1 (Lib.bytesWorld u3 5 d)) := HB3.out.trans ((bw_below u3 d).mono HB3.out.size)
  have hG : u1.heap.size ≤ u3.heap.size := HB3.out.size
  have hG2 : u3.heap.size < (Lib.bytesWorld u3 5 d).heap.size := by rw [Lib.bytesWorld_size]; omega
  have hdl : d.data.toList.length = d.size := by simp
  clear hcv2 HB2 HB3 HK HS HX0 HPS
  generalize Lib.bytesWorld u3 5 d = u5 at *
  generalize grownCap u3 d.size 0 5 = cap5 at *
  generalize u3.heap.size = G at *
  have HDL : Hid (d.data.toList.length = d.size) := hdl
  generalize d.data.toList = dl at *
  clear hdl
  go_loopw [9, 24] (fun y i wr => ∃ k : Nat, k ≤ d.size ∧ y = .int .i64 (stK X k) ∧ i = .int .i64 k ∧ Row8 G wr (.slice (some ⟨G, 0, none⟩) d.size cap5) (crK X dl k) ∧ G < wr.heap.size ∧ Below u1.heap.size u1 wr) (fun _ i _ => d.size - (intOf i).toNat)
  case atStart => exact ⟨0, Nat.zero_le _, rfl, rfl, HR0.out, hG2, HB4.out⟩
  case round =>
    obtain ⟨k, hk, rfl, rfl, hrb, hgw, hb⟩ := hrel
    clear HR0 HB4 hG2
    have HRB : Hid (Row8 G wr (.slice (some ⟨G, 0, none⟩) d.size cap5) (crK X dl k)) := hrb
    have HB : Hid (Below u1.heap.size u1 wr) := hb
    have HL : Hid ((crK X dl k).length = d.size) := (show (crK X dl k).length = d.size by rw [crK_len]; exact HDL.out)
    clear hrb hb
    by_cases hlt : k < d.size
    · have HN : Hid (crK X dl (k + 1) = (crK X dl k).set k (cx ((crK X dl k).getD k 0) (stK X (k + 1)) (k % 3))) := rfl
      have HAT := row8_at HRB.out k (by rw [HL.out]; exact hlt)
      have HAT2 : Hid _ := HAT
      clear HAT
      rcases (show k % 3 = 0 ∨ k % 3 = 1 ∨ k % 3 = 2 by omega) with h3 | h3 | h3
      · have hp : (k : Int) % 3 = 0 := by omega
        have HST : Hid (stK X (k + 1) = mixE (mixR X (pw (k / 3 : Nat)) (pw (k / 3 : Nat)).size)) := (show stK X (k + 1) = _ by rw [pw_size]; rfl)
        have hpw : (pw (k / 3 : Nat)).size ≤ 1048576 := by rw [pw_size]; omega
        obtain ⟨r0, r1⟩ := mixR_b (pw (k / 3 : Nat)) x0 x1 (pw (k / 3 : Nat)).size
        rw [h3] at HN
        obtain ⟨y0, y1⟩ := stK_b X (k + 1)
        obtain ⟨Y, hY⟩ : ∃ Y, stK X (k + 1) = Y := ⟨_, rfl⟩
        have HY : Hid (stK X (k + 1) = Y) := hY
        rw [hY] at HN HST y0 y1
        clear hY
        go_wp2_with (first | (go_at_call 134; refine (implPutWord_any _ _).mono ?_; rintro e u2 ⟨rfl, hb2⟩; have HB2 : Hid _ := hb2; clear hb2) | (go_at_call 131; refine (mixOn_any _ _ _ x0 x1 hpw).mono ?_; rintro e u6 ⟨rfl, hw4⟩; rw [hw4]; clear hw4) | (go_at_call 135; refine (mixEnd_any _ _ r0 r1).mono ?_; rw [← HST.out]; rintro e u6 ⟨rfl, hw4⟩; rw [hw4]; clear hw4))
        have HRB2 : Hid (Row8 G u2 (.slice (some ⟨G, 0, none⟩) d.size cap5) (crK X dl k)) := HRB.out.carry (fun g _ hg => HB2.out.block g hg)
        have HB3 : Hid (Below u1.heap.size u1 u2) := HB.out.trans (HB2.out.mono HB.out.size)
        have hgw2 : G < u2.heap.size := Nat.lt_of_lt_of_le hgw HB2.out.size
        obtain ⟨-, c0, f0⟩ := row8_at HRB2.out k (by rw [HL.out]; exact hlt)
        generalize (crK X dl k).getD k 0 = b at *
        have hk0 : (0 : Int) ≤ (k : Int) := by omega
        have hk1 : (k : Int) < (d.size : Int) := by omega
        clear HRB HB HB2 r0 r1 hpw HAT2
        generalize crK X dl k = L0 at *
        go_region
        all_goals go_wp2
        go_roundw
        case rel =>
          refine ⟨k + 1, hlt, by rw [HY.out], by go_num, ?_, by simp; exact hgw2, ?_⟩
          · rw [HN.out]
            exact (row8_put HRB2.out HL.out k hlt _ _ (cx0 b Y)).carry (fun _ _ _ => rfl)
          · exact bdn ((HB3.out.setCell hG _)) 1
        case measure => simp [intOf]; omega
      · have hp : (k : Int) % 3 = 1 := by omega
        have HST : Hid (stK X k = stK X (k + 1)) := (stK_on X k (by omega)).symm
        rw [h3] at HN
        obtain ⟨y0, y1⟩ := stK_b X (k + 1)
        obtain ⟨Y, hY⟩ : ∃ Y, stK X (k + 1) = Y := ⟨_, rfl⟩
        have HY : Hid (stK X (k + 1) = Y) := hY
        rw [hY] at HN HST y0 y1
        clear hY
        rw [HST.out]
        go_wp2
        have HRB2 : Hid (Row8 G wr (.slice (some ⟨G, 0, none⟩) d.size cap5) (crK X dl k)) := HRB.out.carry (fun g _ hg => rfl)
        have HB3 : Hid (Below u1.heap.size u1 wr) := HB.out
        have hgw2 : G < wr.heap.size := hgw
        obtain ⟨-, c0, f0⟩ := row8_at HRB2.out k (by rw [HL.out]; exact hlt)
        generalize (crK X dl k).getD k 0 = b at *
        have hk0 : (0 : Int) ≤ (k : Int) := by omega
        have hk1 : (k : Int) < (d.size : Int) := by omega
        clear HRB HB HAT2
        generalize crK X dl k = L0 at *
        go_region
        all_goals go_wp2
        go_roundw
        case rel =>
          refine ⟨k + 1, hlt, by rw [HY.out], by go_num, ?_, by simp; exact hgw2, ?_⟩
          · rw [HN.out]
            exact (row8_put HRB2.out HL.out k hlt _ _ (cx1 b Y)).carry (fun _ _ _ => rfl)
          · exact bdn ((HB3.out.setCell hG _)) 1
        case measure => simp [intOf]; omega
      · have hp : (k : Int) % 3 = 2 := by omega
        have HST : Hid (stK X k = stK X (k + 1)) := (stK_on X k (by omega)).symm
        rw [h3] at HN
        obtain ⟨y0, y1⟩ := stK_b X (k + 1)
        obtain ⟨Y, hY⟩ : ∃ Y, stK X (k + 1) = Y := ⟨_, rfl⟩
        have HY : Hid (stK X (k + 1) = Y) := hY
        rw [hY] at HN HST y0 y1
        clear hY
        rw [HST.out]
        go_wp2
        have HRB2 : Hid (Row8 G wr (.slice (some ⟨G, 0, none⟩) d.size cap5) (crK X dl k)) := HRB.out.carry (fun g _ hg => rfl)
        have HB3 : Hid (Below u1.heap.size u1 wr) := HB.out
        have hgw2 : G < wr.heap.size := hgw
        obtain ⟨-, c0, f0⟩ := row8_at HRB2.out k (by rw [HL.out]; exact hlt)
        generalize (crK X dl k).getD k 0 = b at *
        have hk0 : (0 : Int) ≤ (k : Int) := by omega
        have hk1 : (k : Int) < (d.size : Int) := by omega
        clear HRB HB HAT2
        generalize crK X dl k = L0 at *
        go_region
        all_goals go_wp2
        go_roundw
        case rel =>
          refine ⟨k + 1, hlt, by rw [HY.out], by go_num, ?_, by simp; exact hgw2, ?_⟩
          · rw [HN.out]
            exact (row8_put HRB2.out HL.out k hlt _ _ (cx2 b Y)).carry (fun _ _ _ => rfl)
          · exact bdn ((HB3.out.setCell hG _)) 1
        case measure => simp [intOf]; omega
    · obtain rfl : k = d.size := by omega
      have hcv := row8_back HRB.out
      go_wp2
      go_ret
      exact ⟨by rw [HC.out]; rfl, HB.out⟩
end Go.Proofs.Ytniaohflkopncaa
