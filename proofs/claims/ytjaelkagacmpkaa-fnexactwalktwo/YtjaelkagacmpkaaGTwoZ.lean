import Derived.Test.YtjaelkagacmpkaaGTwo6
import Derived.Test.YtjaelkagacmpkaaGTwo5
import Derived.Test.YtjaelkagacmpkaaGTwo3
namespace Go.Proofs.Ytjaelkagacmpkaa
open Go.ChangeShapes Go.WideShapes Go.ChangeAt Go.RowKit

theorem fe2_ok {w0 u : World} {b G B n : Nat} {s : ByteArray} {y : GS} {rv : Value} {x : WS} {host root T va : Nat} {st : Int} {e : Ending} (hy : y.host = host) (hs : y.steps = st)
    (h1 : (walkV s y.host ((T * 256 + 4 * (va / 256 % 32) : Nat) : Int) 1 false).fault = 0 → e = .returned (.int .i64 0) ∧ ∃ rv', GW w0 b G B n (walkV s y.host ((T * 256 + 4 * (va / 256 % 32) : Nat) : Int) 1 false).mem { y with steps := y.steps + (walkV s y.host ((T * 256 + 4 * (va / 256 % 32) : Nat) : Int) 1 false).reads.length, place := ((T * 256 + 4 * (va / 256 % 32) : Nat) : Int) } u rv' ([(root : Int)] ++ [(T : Int)])
        { x with at_ := ((T * 256 + 4 * (va / 256 % 32) : Nat) : Int), e := wv (walkV s y.host ((T * 256 + 4 * (va / 256 % 32) : Nat) : Int) 1 false).mem (walkV s y.host ((T * 256 + 4 * (va / 256 % 32) : Nat) : Int) 1 false).pa.toNat })
    (h2 : ¬ (walkV s y.host ((T * 256 + 4 * (va / 256 % 32) : Nat) : Int) 1 false).fault = 0 → e = .returned (.int .i64 3) ∧ GW w0 b G B n (walkV s y.host ((T * 256 + 4 * (va / 256 % 32) : Nat) : Int) 1 false).mem { y with steps := y.steps + (walkV s y.host ((T * 256 + 4 * (va / 256 % 32) : Nat) : Int) 1 false).reads.length, place := ((T * 256 + 4 * (va / 256 % 32) : Nat) : Int) } u rv [(root : Int)] { x with at_ := ((T * 256 + 4 * (va / 256 % 32) : Nat) : Int) }) (hl : x.lg = false) :
    ∃ rv2 x2, e = .returned (.int .i64 (fe2 s host root T va st).code) ∧ GW w0 b G B n (fe2 s host root T va st).mem { y with steps := (fe2 s host root T va st).steps, place := (fe2 s host root T va st).place } u rv2 (fe2 s host root T va st).zs x2 ∧ x2.va = x.va ∧ x2.acc = x.acc ∧ x2.user = x.user ∧
      ((fe2 s host root T va st).code = 0 → x2.at_ = ((fe2 s host root T va st).k : Int) ∧ x2.e = (fe2 s host root T va st).e ∧ x2.lg = (fe2 s host root T va st).lg) := by
  subst hy
  subst hs
  by_cases hf : (walkV s y.host ((T * 256 + 4 * (va / 256 % 32) : Nat) : Int) 1 false).fault = 0
  · obtain ⟨rfl, rv', hg⟩ := h1 hf
    have E : fe2 s y.host root T va y.steps = ⟨0, wv (walkV s y.host (k2V T va) 1 false).mem (walkV s y.host (k2V T va) 1 false).pa.toNat, k2V T va, false, [(root : Int), (T : Int)], (walkV s y.host (k2V T va) 1 false).mem, y.steps + (walkV s y.host (k2V T va) 1 false).reads.length, k2V T va⟩ := if_pos hf
    rw [E]
    exact ⟨rv', _, rfl, hg, rfl, rfl, rfl, fun _ => ⟨rfl, rfl, hl⟩⟩
  · obtain ⟨rfl, hg⟩ := h2 hf
    have E : fe2 s y.host root T va y.steps = ⟨3, 0, 0, false, [(root : Int)], (walkV s y.host (k2V T va) 1 false).mem, y.steps + (walkV s y.host (k2V T va) 1 false).reads.length, k2V T va⟩ := if_neg hf
    rw [E]
    exact ⟨rv, _, rfl, hg, rfl, rfl, rfl, fun h => by cases h⟩

set_option maxRecDepth 100000 in
set_option maxHeartbeats 4000000 in
theorem findEntryG_B2 {w0 wr : World} {b G B n : Nat} {s : ByteArray} {y : GS} {rv : Value} {x : WS} (h : GW w0 b G B n s y wr rv [] x) (hn : s.size = n * 256) (hs : s.size ≤ 65536) (root : Nat) (hr : root ≤ 255) (hv : x.va ≤ 262143) (hh : y.host ≤ 255) (hst0 : 0 ≤ y.steps) (hst : y.steps ≤ 100)
    (hf : (walkV s y.host (k1V root x.va) 1 false).fault = 0) (h16 : wv (walkV s y.host (k1V root x.va) 1 false).mem (walkV s y.host (k1V root x.va) 1 false).pa.toNat % 16 = 1) (hT : wv (walkV s y.host (k1V root x.va) 1 false).mem (walkV s y.host (k1V root x.va) 1 false).pa.toNat / 256 < 1024) :
    Calls Try.prog 102 #[.pointer (some ⟨B, 0, none⟩), .int .i64 root] wr fun e u => e = .returned (.int .i64 (feG s y.host root x.va y.steps).code) ∧ ∃ rv' x', GW w0 b G B n (feG s y.host root x.va y.steps).mem { y with steps := (feG s y.host root x.va y.steps).steps, place := (feG s y.host root x.va y.steps).place } u rv' (feG s y.host root x.va y.steps).zs x' ∧ x'.va = x.va ∧ x'.acc = x.acc ∧ x'.user = x.user ∧ ((feG s y.host root x.va y.steps).code = 0 → x'.at_ = ((feG s y.host root x.va y.steps).k : Int) ∧ x'.e = (feG s y.host root x.va y.steps).e ∧ x'.lg = (feG s y.host root x.va y.steps).lg) := by
  obtain ⟨c0, c1, c2, c3, c4, c5, c6, c7, c8, cf⟩ := h.box.cells
  obtain ⟨va, acc, user, at_, e, lg, pa⟩ := x
  simp only at *
  have hF := fun w => firstIndex_any va w hv
  have V : Hid (va ≤ 262143) := hv
  have hlen := walkV_len s y.host (k1V root va) 1 false
  have hsz := walkV_size s y.host (k1V root va) 1 false (by unfold k1V; omega)
  have HR : Hid (∀ q, _) := fun q => readG_yes (h.below (bdn (Below.refl _ _) q)) hn hs root (va / 8192) root ((va : Int) / 8192) rfl (by omega) (by omega) (by omega) (by simp) hh hst0 (by omega)
  have ek : root * 256 + 4 * (va / 8192) = k1V root va := rfl
  rw [ek] at HR
  obtain ⟨r, hr1⟩ : ∃ r, walkV s y.host (k1V root va) 1 false = r := ⟨_, rfl⟩
  rw [hr1] at HR hf hlen hsz
  obtain ⟨z, hzz⟩ : ∃ z, wv r.mem r.pa.toNat = z := ⟨_, rfl⟩
  obtain ⟨z0, z1⟩ := wv_b r.mem r.pa.toNat
  rw [hzz] at z0 z1
  have HZ : Hid (wv r.mem r.pa.toNat = z) := hzz
  have ht := fun w => isTable_any z w z0 z1
  rw [hr1, hzz] at h16 hT
  have hd : decide (z % 16 = 1) = true := decide_eq_true h16
  rw [hd] at ht
  obtain ⟨T, hTT⟩ := Int.eq_ofNat_of_zero_le (show 0 ≤ z / 256 by omega)
  have E : Hid (feG s y.host root va y.steps = fe2 r.mem y.host root T va (y.steps + (r.reads.length : Int))) := by
    show feG s y.host root va y.steps = _
    unfold feG fe1
    rw [hr1, if_pos hf, hzz, if_pos h16, if_pos hT, hTT, Int.toNat_natCast]
  rw [E.out]
  have HHn : Hid (r.mem.size = n * 256 ∧ r.mem.size ≤ 65536) := ⟨by omega, by omega⟩
  clear hv h hd h16 hzz hn hs hr1 ek hsz
  go_enter Try.func102, Try.ntmps102
  go_wp2_with (first | (go_at_call 109; refine Calls.mono (hF _) ?_; rintro e u ⟨rfl, q, hu⟩; rw [hu]; clear hu u) | (go_at_call 132; refine Calls.mono (HR.out q) ?_; rintro e u ⟨hyes, _⟩; obtain ⟨rfl, rv', hst2⟩ := hyes hf; rw [HZ.out] at hst2; have HS : Hid _ := hst2; obtain ⟨d0, d1, d2, d3, d4, d5, d6, d7, d8, df⟩ := hst2.box.cells; (try simp only at d1 d5); clear hst2 hyes HR) | (go_at_call 113; refine Calls.mono (ht _) ?_; rintro e u ⟨rfl, hu⟩; rw [hu]; clear hu u))
  have H6 : Hid (GW w0 b G B n r.mem { y with steps := y.steps + (r.reads.length : Int), place := (k1V root va : Int) } (u.setCell ⟨B, 6, none⟩ (.bool false)) rv' ([] ++ [(root : Int)]) _) := HS.out.set 6 _ (HS.out.box.put6 false)
  have HX : Hid (∃ Q : Int → World → Prop, (∀ v, Below (u.setCell ⟨B, 6, none⟩ (.bool false)).heap.size (u.setCell ⟨B, 6, none⟩ (.bool false)) v → Calls Try.prog 132 #[.pointer (some ⟨B, 0, none⟩), .int .i64 (z / 256), .int .i64 ((va : Int) / 256 % 32)] v fun e u' => ∃ c, e = .returned (.int .i64 c) ∧ Q c u') ∧
      ∀ c u', Q c u' → ∃ rv2 x2, c = (fe2 r.mem y.host root T va (y.steps + (r.reads.length : Int))).code ∧ GW w0 b G B n (fe2 r.mem y.host root T va (y.steps + (r.reads.length : Int))).mem { y with steps := (fe2 r.mem y.host root T va (y.steps + (r.reads.length : Int))).steps, place := (fe2 r.mem y.host root T va (y.steps + (r.reads.length : Int))).place } u' rv2 (fe2 r.mem y.host root T va (y.steps + (r.reads.length : Int))).zs x2 ∧ x2.va = va ∧ x2.acc = acc ∧ x2.user = user ∧
      ((fe2 r.mem y.host root T va (y.steps + (r.reads.length : Int))).code = 0 → x2.at_ = ((fe2 r.mem y.host root T va (y.steps + (r.reads.length : Int))).k : Int) ∧ x2.e = (fe2 r.mem y.host root T va (y.steps + (r.reads.length : Int))).e ∧ x2.lg = (fe2 r.mem y.host root T va (y.steps + (r.reads.length : Int))).lg)) := by
    refine ⟨fun c u' => _, fun v hv => ?_, fun c u' h => h⟩
    have hq := readG_yes (H6.out.below hv) HHn.out.1 HHn.out.2 T (va / 256 % 32) (z / 256) ((va : Int) / 256 % 32) hTT (by omega) (by omega) (by omega) (by simp) hh (by show 0 ≤ y.steps + (r.reads.length : Int); omega) (by show y.steps + (r.reads.length : Int) ≤ 1000; omega)
    refine Calls.mono hq ?_
    rintro e u5 ⟨h1, h2⟩
    obtain ⟨rv2, x2, he, q2⟩ := fe2_ok (y := ⟨y.host, y.steps + (r.reads.length : Int), (k1V root va : Int)⟩) (x := ⟨va, acc, user, (k1V root va : Int), z, false, pa⟩) (rv := rv') (host := y.host) (root := root) (T := T) (va := va) (st := y.steps + (r.reads.length : Int)) rfl rfl h1 h2 rfl
    exact ⟨_, he, rv2, x2, rfl, q2⟩
  obtain ⟨Q, hq1, hq2⟩ := HX.out
  have H2 : Hid _ := hq1
  have HQ : Hid _ := hq2
  clear HX hq1 hq2 H6 HS hTT
  go_region_with (first | (go_at_call 114; refine (frameOf_any _ _).mono ?_; rintro e u3 ⟨rfl, hu3⟩; rw [hu3]; clear hu3 u3) | (go_at_call 115; refine (secondIndex_any _ _ V.out).mono ?_; rintro e u4 ⟨rfl, q4, hu4⟩; rw [hu4]; clear hu4 u4) | (go_at_call 132; refine Calls.mono (H2.out _ (by exact ⟨rfl, rfl, rfl, Nat.le_refl _, fun _ _ => rfl⟩)) ?_; rintro e u5 ⟨c, rfl, hqq⟩; have HF : Hid _ := hqq; clear hqq))
  all_goals
    go_wp2
    go_ret
    obtain ⟨rv2, x2, hc, q2⟩ := HQ.out _ _ HF.out
    exact ⟨ret_int hc, rv2, x2, q2⟩

/-- The guest's findEntry. -/
theorem findEntryG {w0 wr : World} {b G B n : Nat} {s : ByteArray} {y : GS} {rv : Value} {x : WS} (h : GW w0 b G B n s y wr rv [] x) (hn : s.size = n * 256) (hs : s.size ≤ 65536) (root : Nat) (hr : root ≤ 255) (hv : x.va ≤ 262143) (hh : y.host ≤ 255) (hst0 : 0 ≤ y.steps) (hst : y.steps ≤ 100) :
    Calls Try.prog 102 #[.pointer (some ⟨B, 0, none⟩), .int .i64 root] wr fun e u => e = .returned (.int .i64 (feG s y.host root x.va y.steps).code) ∧ ∃ rv' x', GW w0 b G B n (feG s y.host root x.va y.steps).mem { y with steps := (feG s y.host root x.va y.steps).steps, place := (feG s y.host root x.va y.steps).place } u rv' (feG s y.host root x.va y.steps).zs x' ∧ x'.va = x.va ∧ x'.acc = x.acc ∧ x'.user = x.user ∧ ((feG s y.host root x.va y.steps).code = 0 → x'.at_ = ((feG s y.host root x.va y.steps).k : Int) ∧ x'.e = (feG s y.host root x.va y.steps).e ∧ x'.lg = (feG s y.host root x.va y.steps).lg) := by
  by_cases hf : (walkV s y.host (k1V root x.va) 1 false).fault = 0
  · by_cases h16 : wv (walkV s y.host (k1V root x.va) 1 false).mem (walkV s y.host (k1V root x.va) 1 false).pa.toNat % 16 = 1
    · by_cases hT : wv (walkV s y.host (k1V root x.va) 1 false).mem (walkV s y.host (k1V root x.va) 1 false).pa.toNat / 256 < 1024
      · exact findEntryG_B2 h hn hs root hr hv hh hst0 hst hf h16 hT
      · exact findEntryG_B1 h hn hs root hr hv hh hst0 hst hf h16 hT
    · exact findEntryG_C h hn hs root hr hv hh hst0 hst hf h16
  · have E : (feG s y.host root x.va y.steps) = ⟨3, 0, 0, false, [], (walkV s y.host (k1V root x.va) 1 false).mem, y.steps + (walkV s y.host (k1V root x.va) 1 false).reads.length, k1V root x.va⟩ := if_neg hf
    rw [E]
    refine Calls.mono (findEntryG_1 h hn hs root hr hv hh hst0 hst hf) ?_
    rintro e u ⟨he, x', hg, h1, h2, h3⟩
    exact ⟨he, rv, x', hg, h1, h2, h3, fun h => by cases h⟩
structure FGok (s : ByteArray) (steps : Int) (f : FG) : Prop where
  code : f.code = 0 ∨ f.code = 2 ∨ f.code = 3
  e0 : 0 ≤ f.e
  e1 : f.e ≤ 4294967295
  k1 : f.k ≤ 262143
  k4 : f.k % 4 = 0
  zl : f.zs.length ≤ 2
  size : f.mem.size = s.size
  s0 : steps ≤ f.steps
  s1 : f.steps ≤ steps + 4
theorem fe2_steps (s : ByteArray) (host root T va : Nat) (steps : Int) : steps ≤ (fe2 s host root T va steps).steps ∧ (fe2 s host root T va steps).steps ≤ steps + 2 := by
  have hl := walkV_len s host (k2V T va) 1 false
  unfold fe2
  split
  · exact ⟨by simp only; omega, by simp only; omega⟩
  · exact ⟨by simp only; omega, by simp only; omega⟩
theorem fe2_ok2 (s : ByteArray) (host root T va : Nat) (steps : Int) (hT : T < 1024) : FGok s (steps - 2) (fe2 s host root T va steps) := by
  have hk : k2V T va ≤ 262143 := by unfold k2V; omega
  have hk4 : k2V T va % 4 = 0 := by unfold k2V; omega
  have hz := walkV_size s host (k2V T va) 1 false hk
  have hl := walkV_len s host (k2V T va) 1 false
  have hb := wv_b (walkV s host (k2V T va) 1 false).mem (walkV s host (k2V T va) 1 false).pa.toNat
  unfold fe2
  split
  · exact ⟨.inl rfl, hb.1, hb.2, hk, hk4, Nat.le_refl _, hz, by simp only; omega, by simp only; omega⟩
  · exact ⟨.inr (.inr rfl), Int.le_refl 0, (by decide : (0 : Int) ≤ 4294967295), by simp, by simp, by simp, hz, by simp only; omega, by simp only; omega⟩
theorem feG_ok (s : ByteArray) (host root va : Nat) (steps : Int) (hr : root ≤ 255) (hv : va ≤ 262143) : FGok s steps (feG s host root va steps) := by
  have hk : k1V root va ≤ 262143 := by unfold k1V; omega
  have hk4 : k1V root va % 4 = 0 := by unfold k1V; omega
  have hz := walkV_size s host (k1V root va) 1 false hk
  have hl := walkV_len s host (k1V root va) 1 false
  have hb := wv_b (walkV s host (k1V root va) 1 false).mem (walkV s host (k1V root va) 1 false).pa.toNat
  unfold feG
  split
  · unfold fe1
    split
    · split
      · have h2 := fe2_ok2 (walkV s host (k1V root va) 1 false).mem host root (wv (walkV s host (k1V root va) 1 false).mem (walkV s host (k1V root va) 1 false).pa.toNat / 256).toNat va (steps + (walkV s host (k1V root va) 1 false).reads.length) (by omega)
        exact ⟨h2.code, h2.e0, h2.e1, h2.k1, h2.k4, h2.zl, h2.size.trans hz, by have := fe2_steps (walkV s host (k1V root va) 1 false).mem host root (wv (walkV s host (k1V root va) 1 false).mem (walkV s host (k1V root va) 1 false).pa.toNat / 256).toNat va (steps + (walkV s host (k1V root va) 1 false).reads.length); omega, by have := fe2_steps (walkV s host (k1V root va) 1 false).mem host root (wv (walkV s host (k1V root va) 1 false).mem (walkV s host (k1V root va) 1 false).pa.toNat / 256).toNat va (steps + (walkV s host (k1V root va) 1 false).reads.length); omega⟩
      · exact ⟨.inr (.inl rfl), Int.le_refl 0, (by decide : (0 : Int) ≤ 4294967295), by simp, by simp, by simp, hz, by simp only; omega, by simp only; omega⟩
    · exact ⟨.inl rfl, hb.1, hb.2, hk, hk4, by simp, hz, by simp only; omega, by simp only; omega⟩
  · exact ⟨.inr (.inr rfl), Int.le_refl 0, (by decide : (0 : Int) ≤ 4294967295), by simp, by simp, by simp, hz, by simp only; omega, by simp only; omega⟩

set_option maxRecDepth 100000 in
set_option maxHeartbeats 4000000 in
theorem findG_good {w0 wr : World} {b G B n : Nat} {va : Nat} {acc : Int} {user : Bool} {e : Int} {k : Nat} {lg : Bool} {zs : List Int} {mem : ByteArray} {y : GS} (root : Nat) (Q : Int → World → Prop) (hfe : Hid (Calls Try.prog 102 #[.pointer (some ⟨B, 0, none⟩), .int .i64 root] wr fun ed u => ed = .returned (.int .i64 0) ∧ ∃ rv' pa, GW w0 b G B n mem y u rv' zs ⟨va, acc, user, (k : Int), e, lg, pa⟩)) (e0 : 0 ≤ e) (e1 : e ≤ 4294967295) (hv : va ≤ 262143) (a1 : 1 ≤ acc) (a2 : acc ≤ 3) (hg : goodV e acc user lg = true) (hp : pgV e va lg < 1024)
    (HPut : Hid (∀ u rv', GW w0 b G B n mem y u rv' zs ⟨va, acc, user, (k : Int), e, lg, pgV e va lg * 256 + (va : Int) % 256⟩ → Calls Try.prog 105 #[.pointer (some ⟨B, 0, none⟩)] u fun ed u' => ∃ c, ed = .returned (.int .i64 c) ∧ Q c u')) :
    Calls Try.prog 56 #[.pointer (some ⟨B, 0, none⟩), .int .i64 root] wr fun ed u => ∃ c, ed = .returned (.int .i64 c) ∧ Q c u := by
  obtain ⟨p0, p1⟩ := pgV_b e va lg e0 e1
  obtain ⟨p, hpp⟩ : ∃ p, pgV e va lg = p := ⟨_, rfl⟩
  have HPg : Hid (pgV e va lg = p) := hpp
  rw [hpp] at p0 p1 hp HPut
  have hh := fun w => guestHolds_any G p w
  rw [show decide (p < 1024) = true by simpa using hp] at hh
  have m1 := mHoldsG G
  have hva : (va : Int) % 256 ≤ 255 := by omega
  have hwr : IntKind.i64.wrap (p * 256) = p * 256 := by rw [IntKind.wrap_i64]; omega
  have hwr2 : IntKind.i64.wrap (p * 256 + (va : Int) % 256) = p * 256 + (va : Int) % 256 := by rw [IntKind.wrap_i64]; omega
  have htm : (va : Int).tmod 256 = (va : Int) % 256 := Int.tmod_eq_emod_of_nonneg (by omega)
  have V : Hid (va ≤ 262143) := hv
  clear hpp hv
  go_enter Try.func56, Try.ntmps56
  go_wp2_with (first | (go_at_call 102; refine Calls.mono hfe.out ?_; rintro ed u ⟨rfl, rv1, pa1, hst⟩; have H1 : Hid _ := hst; clear hst) | (go_at_call 103; refine (isLet_any B _ _ _ _ H1.out.box e0 e1 a1 a2).mono ?_; rintro ed u2 ⟨rfl, hu2⟩; have H2 : Hid _ := H1.out.below hu2; obtain ⟨c0, c1, c2, c3, c4, c5, c6, c7, c8, cf⟩ := H2.out.box.cells; simp only at c0 c1 c2 c3 c4 c5 c6 c8; clear hu2))
  have hpg0 := fun q => page_any B _ _ _ _ (H2.out.below (bdn (Below.refl _ _) q)).box e0 e1 V.out
  simp only at hpg0
  rw [HPg.out] at hpg0
  have hpg : Hid _ := hpg0
  clear hpg0
  go_quiet (first | (go_at_call 104; exact Calls.quiet_of (hpg.out _)) | (go_at_call 162; exact Calls.quiet_of_same (hh _)))
  go_wp2
  have HPG0 := fun u (hu : Below u2.heap.size u2 u) => page_any B _ _ _ u (H2.out.below hu).box e0 e1 V.out
  simp only at HPG0
  rw [HPg.out] at HPG0
  have HPG : Hid _ := HPG0
  have HV2 : Hid _ := fun u (hu : Below u2.heap.size u2 u) => H2.out.below hu
  clear HPG0
  go_region_with (go_at_call 104; refine Calls.mono (HPG.out _ (by exact ⟨rfl, rfl, rfl, Nat.le_refl _, fun _ _ => rfl⟩)) ?_; rintro ed u4 ⟨rfl, q4, hu4⟩; have H4 : Hid _ := HV2.out u4 (by rw [hu4]; exact ⟨rfl, rfl, rfl, Nat.le_refl _, fun _ _ => rfl⟩); obtain ⟨k0, k1, k2, k3, k4, k5, k6, k7, k8, kf⟩ := H4.out.box.cells; simp only at k0 k1 k2 k3 k4 k5 k6 k8; clear hu4 c0 c1 c2 c3 c4 c5 c6 c7 c8 cf)
  all_goals
    go_wp2_with (go_at_call 105; refine Calls.mono (HPut.out _ _ (H4.out.set 8 _ (H4.out.box.put8 _))) ?_; rintro ed u6 ⟨c, rfl, hq⟩; have HQ : Hid _ := hq; clear hq)
    go_ret
    exact ⟨_, rfl, HQ.out⟩
set_option maxRecDepth 100000 in
set_option maxHeartbeats 4000000 in
theorem findG_access {w0 wr : World} {b G B n : Nat} {va : Nat} {acc : Int} {user : Bool} {e : Int} {k : Nat} {lg : Bool} {zs : List Int} {mem : ByteArray} {y : GS} (root : Nat) (hfe : Hid (Calls Try.prog 102 #[.pointer (some ⟨B, 0, none⟩), .int .i64 root] wr fun ed u => ed = .returned (.int .i64 0) ∧ ∃ rv' pa, GW w0 b G B n mem y u rv' zs ⟨va, acc, user, (k : Int), e, lg, pa⟩)) (e0 : 0 ≤ e) (e1 : e ≤ 4294967295) (hv : va ≤ 262143) (a1 : 1 ≤ acc) (a2 : acc ≤ 3) (hg : goodV e acc user lg = true) (hp : ¬ pgV e va lg < 1024) :
    Calls Try.prog 56 #[.pointer (some ⟨B, 0, none⟩), .int .i64 root] wr fun ed u => ed = .returned (.int .i64 2) ∧ ∃ rv' pa, GW w0 b G B n mem y u rv' zs ⟨va, acc, user, (k : Int), e, lg, pa⟩ := by
  obtain ⟨p0, p1⟩ := pgV_b e va lg e0 e1
  obtain ⟨p, hpp⟩ : ∃ p, pgV e va lg = p := ⟨_, rfl⟩
  have HPg : Hid (pgV e va lg = p) := hpp
  rw [hpp] at p0 p1 hp
  have hh := fun w => guestHolds_any G p w
  rw [show decide (p < 1024) = false by simpa using hp] at hh
  have m1 := mHoldsG G
  have V : Hid (va ≤ 262143) := hv
  clear hpp hv
  go_enter Try.func56, Try.ntmps56
  go_wp2_with (first | (go_at_call 102; refine Calls.mono hfe.out ?_; rintro ed u ⟨rfl, rv1, pa1, hst⟩; have H1 : Hid _ := hst; clear hst) | (go_at_call 103; refine (isLet_any B _ _ _ _ H1.out.box e0 e1 a1 a2).mono ?_; rintro ed u2 ⟨rfl, hu2⟩; have H2 : Hid _ := H1.out.below hu2; obtain ⟨c0, c1, c2, c3, c4, c5, c6, c7, c8, cf⟩ := H2.out.box.cells; simp only at c0 c1 c2 c3 c4 c5 c6 c8; clear hu2))
  have hpg0 := fun q => page_any B _ _ _ _ (H2.out.below (bdn (Below.refl _ _) q)).box e0 e1 V.out
  simp only at hpg0
  rw [HPg.out] at hpg0
  have hpg : Hid _ := hpg0
  clear hpg0
  go_quiet (first | (go_at_call 104; exact Calls.quiet_of (hpg.out _)) | (go_at_call 162; exact Calls.quiet_of_same (hh _)))
  go_wp2
  go_ret
  exact ⟨rfl, _, _, H2.out.below (bdn (Below.refl _ _) nq)⟩
set_option maxRecDepth 100000 in
set_option maxHeartbeats 4000000 in
theorem findG_page {w0 wr : World} {b G B n : Nat} {va : Nat} {acc : Int} {user : Bool} {e : Int} {k : Nat} {lg : Bool} {zs : List Int} {mem : ByteArray} {y : GS} (root : Nat) (hfe : Hid (Calls Try.prog 102 #[.pointer (some ⟨B, 0, none⟩), .int .i64 root] wr fun ed u => ed = .returned (.int .i64 0) ∧ ∃ rv' pa, GW w0 b G B n mem y u rv' zs ⟨va, acc, user, (k : Int), e, lg, pa⟩)) (e0 : 0 ≤ e) (e1 : e ≤ 4294967295) (hv : va ≤ 262143) (a1 : 1 ≤ acc) (a2 : acc ≤ 3) (hg : goodV e acc user lg = false) :
    Calls Try.prog 56 #[.pointer (some ⟨B, 0, none⟩), .int .i64 root] wr fun ed u => ed = .returned (.int .i64 1) ∧ ∃ rv' pa, GW w0 b G B n mem y u rv' zs ⟨va, acc, user, (k : Int), e, lg, pa⟩ := by
  have V : Hid (va ≤ 262143) := hv
  clear hv
  go_enter Try.func56, Try.ntmps56
  go_wp2_with (first | (go_at_call 102; refine Calls.mono hfe.out ?_; rintro ed u ⟨rfl, rv1, pa1, hst⟩; have H1 : Hid _ := hst; clear hst) | (go_at_call 103; refine (isLet_any B _ _ _ _ H1.out.box e0 e1 a1 a2).mono ?_; rintro ed u2 ⟨rfl, hu2⟩; have H2 : Hid _ := H1.out.below hu2; obtain ⟨c0, c1, c2, c3, c4, c5, c6, c7, c8, cf⟩ := H2.out.box.cells; simp only at c0 c1 c2 c3 c4 c5 c6 c8; clear hu2))
  go_ret
  exact ⟨rfl, _, _, H2.out⟩
set_option maxRecDepth 100000 in
set_option maxHeartbeats 4000000 in
theorem findG_bad {wr : World} {B : Nat} (root : Nat) (c : Int) (Q : World → Prop) (hc : ¬ c = 0) (hfe : Hid (Calls Try.prog 102 #[.pointer (some ⟨B, 0, none⟩), .int .i64 root] wr fun ed u => ed = .returned (.int .i64 c) ∧ Q u)) :
    Calls Try.prog 56 #[.pointer (some ⟨B, 0, none⟩), .int .i64 root] wr fun ed u => ed = .returned (.int .i64 c) ∧ Q u := by
  have hc2 : (c != 0) = true := by simpa using hc
  go_enter Try.func56, Try.ntmps56
  go_wp2_with (go_at_call 102; refine Calls.mono hfe.out ?_; rintro ed u ⟨rfl, hst⟩; have H1 : Hid _ := hst; clear hst)
  go_ret
  exact ⟨rfl, H1.out⟩

/-- What a guest's walk comes to. -/
structure FD where
  code : Int
  pa : Int
  zs : List Int
  mem : ByteArray
  steps : Int
  place : Int
/-- Behind the guest's entry. -/
def finG (f : FG) (host va : Nat) (acc : Int) (user : Bool) : FD :=
  if f.code = 0 then
    if goodV f.e acc user f.lg = true then
      if pgV f.e va f.lg < 1024 then
        if putA f.e acc = f.e then ⟨0, pgV f.e va f.lg * 256 + (va : Int) % 256, f.zs, f.mem, f.steps, f.place⟩
        else if (walkV f.mem host f.k 2 false).fault = 0 then ⟨0, pgV f.e va f.lg * 256 + (va : Int) % 256, f.zs, setv (walkV f.mem host f.k 2 false).mem (walkV f.mem host f.k 2 false).pa.toNat (putA f.e acc), f.steps + (walkV f.mem host f.k 2 false).reads.length, f.k⟩
        else ⟨3, 0, f.zs, (walkV f.mem host f.k 2 false).mem, f.steps + (walkV f.mem host f.k 2 false).reads.length, f.k⟩
      else ⟨2, 0, f.zs, f.mem, f.steps, f.place⟩
    else ⟨1, 0, f.zs, f.mem, f.steps, f.place⟩
  else ⟨f.code, 0, f.zs, f.mem, f.steps, f.place⟩
theorem findG {w0 wr : World} {b G B n : Nat} {s : ByteArray} {y : GS} {rv : Value} {x : WS} (h : GW w0 b G B n s y wr rv [] x) (hn : s.size = n * 256) (hs : s.size ≤ 65536) (root : Nat) (hr : root ≤ 255) (hv : x.va ≤ 262143) (hh : y.host ≤ 255) (hst0 : 0 ≤ y.steps) (hst : y.steps ≤ 100) (a1 : 1 ≤ x.acc) (a2 : x.acc ≤ 3) :
    Calls Try.prog 56 #[.pointer (some ⟨B, 0, none⟩), .int .i64 root] wr fun ed u => ed = .returned (.int .i64 (finG (feG s y.host root x.va y.steps) y.host x.va x.acc x.user).code) ∧ ∃ rv' x', GW w0 b G B n (finG (feG s y.host root x.va y.steps) y.host x.va x.acc x.user).mem { y with steps := (finG (feG s y.host root x.va y.steps) y.host x.va x.acc x.user).steps, place := (finG (feG s y.host root x.va y.steps) y.host x.va x.acc x.user).place } u rv' (finG (feG s y.host root x.va y.steps) y.host x.va x.acc x.user).zs x' ∧ ((finG (feG s y.host root x.va y.steps) y.host x.va x.acc x.user).code = 0 → x'.pa = (finG (feG s y.host root x.va y.steps) y.host x.va x.acc x.user).pa) := by
  have hF := findEntryG h hn hs root hr hv hh hst0 hst
  have hO := feG_ok s y.host root x.va y.steps hr hv
  obtain ⟨va, acc, user, at_, e, lg, pa⟩ := x
  simp only at *
  obtain ⟨f, hf⟩ : ∃ f, feG s y.host root va y.steps = f := ⟨_, rfl⟩
  rw [hf] at hF hO ⊢
  clear hf h
  obtain ⟨c, fe, k, lg, zs, mem, st, pl⟩ := f
  have hc := hO.code
  have e0 := hO.e0
  have e1 := hO.e1
  have k1 := hO.k1
  have k4 := hO.k4
  have hz := hO.size
  have s0 := hO.s0
  have s1 := hO.s1
  clear hO
  simp only at *
  unfold finG
  simp only
  by_cases h0 : c = 0
  · subst h0
    rw [if_pos rfl]
    have hfe : Hid (Calls Try.prog 102 #[.pointer (some ⟨B, 0, none⟩), .int .i64 root] wr fun ed u => ed = .returned (.int .i64 0) ∧ ∃ rv' pa, GW w0 b G B n mem { y with steps := st, place := pl } u rv' zs ⟨va, acc, user, (k : Int), fe, lg, pa⟩) := by
      refine Calls.mono hF ?_
      rintro ed u ⟨he, rv', ⟨va', acc', user', at', e', lg', pa'⟩, hg, h1, h2, h3, h4⟩
      obtain ⟨h5, h6, h7⟩ := h4 rfl
      simp only at h1 h2 h3 h5 h6 h7
      subst h1 h2 h3 h5 h6 h7
      exact ⟨he, rv', pa', hg⟩
    by_cases hg : goodV fe acc user lg = true
    · rw [if_pos hg]
      by_cases hp : pgV fe va lg < 1024
      · rw [if_pos hp]
        by_cases hsame : putA fe acc = fe
        · rw [if_pos hsame]
          have hq := findG_good root (fun c u => c = 0 ∧ ∃ rv', GW w0 b G B n mem { y with steps := st, place := pl } u rv' zs ⟨va, acc, user, (k : Int), fe, lg, pgV fe va lg * 256 + (va : Int) % 256⟩) hfe e0 e1 hv a1 a2 hg hp (fun u rv' hG => Calls.mono (putFlagsG_same hG hsame) (fun ed u' hq => ⟨0, hq.1, rfl, rv', hq.2 ▸ hG⟩))
          refine Calls.mono hq ?_
          rintro ed u ⟨c, he, rfl, rv', hG⟩
          exact ⟨he, rv', _, hG, fun _ => rfl⟩
        · rw [if_neg hsame]
          by_cases hf : (walkV mem y.host k 2 false).fault = 0
          · rw [if_pos hf]
            have hq := findG_good root (fun c u => c = 0 ∧ ∃ rv' x', GW w0 b G B n (setv (walkV mem y.host k 2 false).mem (walkV mem y.host k 2 false).pa.toNat (putA fe acc)) { y with steps := st + (walkV mem y.host k 2 false).reads.length, place := k } u rv' zs x' ∧ x'.pa = pgV fe va lg * 256 + (va : Int) % 256) hfe e0 e1 hv a1 a2 hg hp (fun u rv' hG => Calls.mono (putFlagsG_put hG hsame (by omega) (by omega) k rfl k1 k4 hh (by simp only; omega) (by simp only; omega)) (fun ed u' hq => ⟨0, (hq.1 hf).1, rfl, rv', _, (hq.1 hf).2, rfl⟩))
            refine Calls.mono hq ?_
            rintro ed u ⟨c, he, rfl, rv', x', hG, hx⟩
            exact ⟨he, rv', x', hG, fun _ => hx⟩
          · rw [if_neg hf]
            have hq := findG_good root (fun c u => c = 3 ∧ ∃ rv' x', GW w0 b G B n (walkV mem y.host k 2 false).mem { y with steps := st + (walkV mem y.host k 2 false).reads.length, place := k } u rv' zs x') hfe e0 e1 hv a1 a2 hg hp (fun u rv' hG => Calls.mono (putFlagsG_put hG hsame (by omega) (by omega) k rfl k1 k4 hh (by simp only; omega) (by simp only; omega)) (fun ed u' hq => ⟨3, (hq.2 hf).1, rfl, rv', _, (hq.2 hf).2⟩))
            refine Calls.mono hq ?_
            rintro ed u ⟨c, he, rfl, rv', x', hG⟩
            exact ⟨he, rv', x', hG, fun h => by cases h⟩
      · rw [if_neg hp]
        refine Calls.mono (findG_access root hfe e0 e1 hv a1 a2 hg hp) ?_
        rintro ed u ⟨he, rv', pa, hG⟩
        exact ⟨he, rv', _, hG, fun h => by cases h⟩
    · rw [if_neg hg]
      refine Calls.mono (findG_page root hfe e0 e1 hv a1 a2 (by simpa using hg)) ?_
      rintro ed u ⟨he, rv', pa, hG⟩
      exact ⟨he, rv', _, hG, fun h => by cases h⟩
  · rw [if_neg h0]
    have hq := findG_bad root c (fun u => ∃ rv' x', GW w0 b G B n mem { y with steps := st, place := pl } u rv' zs x') h0 (Calls.mono hF (fun ed u hq => ⟨hq.1, hq.2.choose, hq.2.choose_spec.choose, hq.2.choose_spec.choose_spec.1⟩))
    refine Calls.mono hq ?_
    rintro ed u ⟨he, rv', x', hG⟩
    exact ⟨he, rv', x', hG, fun h => absurd h h0⟩
end Go.Proofs.Ytjaelkagacmpkaa
