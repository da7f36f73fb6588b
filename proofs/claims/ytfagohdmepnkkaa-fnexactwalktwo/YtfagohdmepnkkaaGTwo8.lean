import Derived.Test.YtfagohdmepnkkaaGTwo7
namespace Go.Proofs.Ytfagohdmepnkkaa
open Go.ChangeShapes Go.WideShapes Go.ChangeAt Go.RowKit

set_option maxRecDepth 100000 in
set_option maxHeartbeats 4000000 in
theorem findEntryG_B2 {w0 wr : World} {b G B n : Nat} {s : ByteArray} {y : GS} {rv : Value} {x : WS} (h : GW w0 b G B n s y wr rv [] x) (hn : s.size = n * 256) (hs : s.size ≤ 65536) (root : Nat) (hr : root ≤ 255) (hv : x.va ≤ 262143) (hh : y.host ≤ 255) (hst0 : 0 ≤ y.steps) (hst : y.steps ≤ 100)
    (hf : (walkV s y.host (k1V root x.va) 1 false).fault = 0) (h16 : wv (walkV s y.host (k1V root x.va) 1 false).mem (walkV s y.host (k1V root x.va) 1 false).pa.toNat % 16 = 1) (hT : wv (walkV s y.host (k1V root x.va) 1 false).mem (walkV s y.host (k1V root x.va) 1 false).pa.toNat / 256 < 1024) :
    Calls Try.prog 91 #[.pointer (some ⟨B, 0, none⟩), .int .i64 root] wr fun e u => e = .returned (.int .i64 (feG s y.host root x.va y.steps).code) ∧ ∃ rv' x', GW w0 b G B n (feG s y.host root x.va y.steps).mem { y with steps := (feG s y.host root x.va y.steps).steps, place := (feG s y.host root x.va y.steps).place } u rv' (feG s y.host root x.va y.steps).zs x' ∧ x'.va = x.va ∧ x'.acc = x.acc ∧ x'.user = x.user ∧ ((feG s y.host root x.va y.steps).code = 0 → x'.at_ = ((feG s y.host root x.va y.steps).k : Int) ∧ x'.e = (feG s y.host root x.va y.steps).e ∧ x'.lg = (feG s y.host root x.va y.steps).lg) := by
  obtain ⟨c0, c1, c2, c3, c4, c5, c6, c7, c8, cf⟩ := h.box.cells
  obtain ⟨va, acc, user, at_, e, lg, pa⟩ := x
  simp only at *
  have hF := fun w => firstIndex_any va w hv
  have V : Hid (va ≤ 262143) := hv
  have hlen := walkV_len s y.host (k1V root va) 1 false
  have hsz := walkV_size s y.host (k1V root va) 1 false (by unfold k1V; omega)
  have HR : Hid (∀ q, _) := fun q => readG_yes (h.below (bdn (Below.refl _ _) q)) hn hs root (va / 8192) root ((va : Int) / 8192) rfl (by omega) (by omega) (by omega) (by simp) hh hst0 (by omega)
  have ek : root * 256 + 4 * (va / 8192) = k1V root va := rfl
  rw [ek] at HR
  obtain ⟨r, hr1⟩ : ∃ r, walkV s y.host (k1V root va) 1 false = r := ⟨_, rfl⟩
  rw [hr1] at HR hf hlen hsz
  obtain ⟨z, hzz⟩ : ∃ z, wv r.mem r.pa.toNat = z := ⟨_, rfl⟩
  obtain ⟨z0, z1⟩ := wv_b r.mem r.pa.toNat
  rw [hzz] at z0 z1
  have HZ : Hid (wv r.mem r.pa.toNat = z) := hzz
  have ht := fun w => isTable_any z w z0 z1
  rw [hr1, hzz] at h16 hT
  have hd : decide (z % 16 = 1) = true := decide_eq_true h16
  rw [hd] at ht
  obtain ⟨T, hTT⟩ := Int.eq_ofNat_of_zero_le (show 0 ≤ z / 256 by omega)
  have E : Hid (feG s y.host root va y.steps = fe2 r.mem y.host root T va (y.steps + (r.reads.length : Int))) := by
    show feG s y.host root va y.steps = _
    unfold feG fe1
    rw [hr1, if_pos hf, hzz, if_pos h16, if_pos hT, hTT, Int.toNat_natCast]
  rw [E.out]
  have HHn : Hid (r.mem.size = n * 256 ∧ r.mem.size ≤ 65536) := ⟨by omega, by omega⟩
  clear hv h hd h16 hzz hn hs hr1 ek hsz
  go_enter Try.func91, Try.ntmps91
  go_wp2_with (first | (go_at_call 98; refine Calls.mono (hF _) ?_; rintro e u ⟨rfl, q, hu⟩; rw [hu]; clear hu u) | (go_at_call 117; refine Calls.mono (HR.out q) ?_; rintro e u ⟨hyes, _⟩; obtain ⟨rfl, rv', hst2⟩ := hyes hf; rw [HZ.out] at hst2; have HS : Hid _ := hst2; obtain ⟨d0, d1, d2, d3, d4, d5, d6, d7, d8, df⟩ := hst2.box.cells; (try simp only at d1 d5); clear hst2 hyes HR) | (go_at_call 102; refine Calls.mono (ht _) ?_; rintro e u ⟨rfl, hu⟩; rw [hu]; clear hu u))
  have H6 : Hid (GW w0 b G B n r.mem { y with steps := y.steps + (r.reads.length : Int), place := (k1V root va : Int) } (u.setCell ⟨B, 6, none⟩ (.bool false)) rv' ([] ++ [(root : Int)]) _) := HS.out.set 6 _ (HS.out.box.put6 false)
  have HX : Hid (∃ Q : Int → World → Prop, (∀ v, Below (u.setCell ⟨B, 6, none⟩ (.bool false)).heap.size (u.setCell ⟨B, 6, none⟩ (.bool false)) v → Calls Try.prog 117 #[.pointer (some ⟨B, 0, none⟩), .int .i64 (z / 256), .int .i64 ((va : Int) / 256 % 32)] v fun e u' => ∃ c, e = .returned (.int .i64 c) ∧ Q c u') ∧
      ∀ c u', Q c u' → ∃ rv2 x2, c = (fe2 r.mem y.host root T va (y.steps + (r.reads.length : Int))).code ∧ GW w0 b G B n (fe2 r.mem y.host root T va (y.steps + (r.reads.length : Int))).mem { y with steps := (fe2 r.mem y.host root T va (y.steps + (r.reads.length : Int))).steps, place := (fe2 r.mem y.host root T va (y.steps + (r.reads.length : Int))).place } u' rv2 (fe2 r.mem y.host root T va (y.steps + (r.reads.length : Int))).zs x2 ∧ x2.va = va ∧ x2.acc = acc ∧ x2.user = user ∧
      ((fe2 r.mem y.host root T va (y.steps + (r.reads.length : Int))).code = 0 → x2.at_ = ((fe2 r.mem y.host root T va (y.steps + (r.reads.length : Int))).k : Int) ∧ x2.e = (fe2 r.mem y.host root T va (y.steps + (r.reads.length : Int))).e ∧ x2.lg = (fe2 r.mem y.host root T va (y.steps + (r.reads.length : Int))).lg)) := by
    refine ⟨fun c u' => _, fun v hv => ?_, fun c u' h => h⟩
    have hq := readG_yes (H6.out.below hv) HHn.out.1 HHn.out.2 T (va / 256 % 32) (z / 256) ((va : Int) / 256 % 32) hTT (by omega) (by omega) (by omega) (by simp) hh (by show 0 ≤ y.steps + (r.reads.length : Int); omega) (by show y.steps + (r.reads.length : Int) ≤ 1000; omega)
    refine Calls.mono hq ?_
    rintro e u5 ⟨h1, h2⟩
    obtain ⟨rv2, x2, he, q2⟩ := fe2_ok (y := ⟨y.host, y.steps + (r.reads.length : Int), (k1V root va : Int)⟩) (x := ⟨va, acc, user, (k1V root va : Int), z, false, pa⟩) (rv := rv') (host := y.host) (root := root) (T := T) (va := va) (st := y.steps + (r.reads.length : Int)) rfl rfl h1 h2 rfl
    exact ⟨_, he, rv2, x2, rfl, q2⟩
  obtain ⟨Q, hq1, hq2⟩ := HX.out
  have H2 : Hid _ := hq1
  have HQ : Hid _ := hq2
  clear HX hq1 hq2 H6 HS hTT
  go_region_with (first | (go_at_call 103; refine (frameOf_any _ _).mono ?_; rintro e u3 ⟨rfl, hu3⟩; rw [hu3]; clear hu3 u3) | (go_at_call 104; refine (secondIndex_any _ _ V.out).mono ?_; rintro e u4 ⟨rfl, q4, hu4⟩; rw [hu4]; clear hu4 u4) | (go_at_call 117; refine Calls.mono (H2.out _ (by exact ⟨rfl, rfl, rfl, Nat.le_refl _, fun _ _ => rfl⟩)) ?_; rintro e u5 ⟨c, rfl, hqq⟩; have HF : Hid _ := hqq; clear hqq))
  all_goals
    go_wp2
    go_ret
    obtain ⟨rv2, x2, hc, q2⟩ := HQ.out _ _ HF.out
    exact ⟨ret_int hc, rv2, x2, q2⟩
end Go.Proofs.Ytfagohdmepnkkaa
