import Derived.Test.YtfagohdmepnkkaaGTwo4
namespace Go.Proofs.Ytfagohdmepnkkaa
open Go.ChangeShapes Go.WideShapes Go.ChangeAt Go.RowKit

/-- What a guest's findEntry comes to. -/
structure FG where
  code : Int
  e : Int
  k : Nat
  lg : Bool
  zs : List Int
  mem : ByteArray
  steps : Int
  place : Int
def k1V (root va : Nat) : Nat := root * 256 + 4 * (va / 8192)
def k2V (t va : Nat) : Nat := t * 256 + 4 * (va / 256 % 32)
/-- The second table's part. -/
def fe2 (s : ByteArray) (host root t va : Nat) (steps : Int) : FG :=
  if (walkV s host (k2V t va) 1 false).fault = 0 then
    ⟨0, wv (walkV s host (k2V t va) 1 false).mem (walkV s host (k2V t va) 1 false).pa.toNat, k2V t va, false, [(root : Int), (t : Int)], (walkV s host (k2V t va) 1 false).mem, steps + (walkV s host (k2V t va) 1 false).reads.length, k2V t va⟩
  else ⟨3, 0, 0, false, [(root : Int)], (walkV s host (k2V t va) 1 false).mem, steps + (walkV s host (k2V t va) 1 false).reads.length, k2V t va⟩
/-- Behind the root's entry, e. -/
def fe1 (s : ByteArray) (host root va : Nat) (e steps : Int) : FG :=
  if e % 16 = 1 then
    if e / 256 < 1024 then fe2 s host root (e / 256).toNat va steps
    else ⟨2, 0, 0, false, [(root : Int)], s, steps, k1V root va⟩
  else ⟨0, e, k1V root va, true, [(root : Int)], s, steps, k1V root va⟩
def feG (s : ByteArray) (host root va : Nat) (steps : Int) : FG :=
  if (walkV s host (k1V root va) 1 false).fault = 0 then
    fe1 (walkV s host (k1V root va) 1 false).mem host root va (wv (walkV s host (k1V root va) 1 false).mem (walkV s host (k1V root va) 1 false).pa.toNat) (steps + (walkV s host (k1V root va) 1 false).reads.length)
  else ⟨3, 0, 0, false, [], (walkV s host (k1V root va) 1 false).mem, steps + (walkV s host (k1V root va) 1 false).reads.length, k1V root va⟩
set_option maxRecDepth 100000 in
set_option maxHeartbeats 4000000 in
theorem findEntryG_1 {w0 wr : World} {b G B n : Nat} {s : ByteArray} {y : GS} {rv : Value} {x : WS} (h : GW w0 b G B n s y wr rv [] x) (hn : s.size = n * 256) (hs : s.size ≤ 65536) (root : Nat) (hr : root ≤ 255) (hv : x.va ≤ 262143) (hh : y.host ≤ 255) (hst0 : 0 ≤ y.steps) (hst : y.steps ≤ 100)
    (hf : ¬ (walkV s y.host (k1V root x.va) 1 false).fault = 0) :
    Calls Try.prog 91 #[.pointer (some ⟨B, 0, none⟩), .int .i64 root] wr fun e u => e = .returned (.int .i64 3) ∧ ∃ x', GW w0 b G B n (walkV s y.host (k1V root x.va) 1 false).mem { y with steps := y.steps + (walkV s y.host (k1V root x.va) 1 false).reads.length, place := k1V root x.va } u rv [] x' ∧ x'.va = x.va ∧ x'.acc = x.acc ∧ x'.user = x.user := by
  obtain ⟨c0, c1, c2, c3, c4, c5, c6, c7, c8, cf⟩ := h.box.cells
  obtain ⟨va, acc, user, at_, e, lg, pa⟩ := x
  simp only at *
  have hF := fun w => firstIndex_any va w hv
  have HR : Hid (∀ q, _) := fun q => readG_yes (h.below (bdn (Below.refl _ _) q)) hn hs root (va / 8192) root ((va : Int) / 8192) rfl (by omega) (by omega) (by omega) (by simp) hh hst0 (by omega)
  have ek : root * 256 + 4 * (va / 8192) = k1V root va := rfl
  rw [ek] at HR
  clear hv h hn hs ek
  go_enter Try.func91, Try.ntmps91
  go_wp2_with (first | (go_at_call 98; refine Calls.mono (hF _) ?_; rintro e u ⟨rfl, q, hu⟩; rw [hu]; clear hu u) | (go_at_call 117; refine Calls.mono (HR.out q) ?_; rintro e u ⟨_, hno⟩; obtain ⟨rfl, hst2⟩ := hno hf; have HG : Hid _ := hst2; clear hno hst2))
  go_ret
  exact ⟨rfl, _, HG.out, rfl, rfl, rfl⟩
set_option maxRecDepth 100000 in
set_option maxHeartbeats 4000000 in
/-- The root's own entry counts. -/
theorem findEntryG_C {w0 wr : World} {b G B n : Nat} {s : ByteArray} {y : GS} {rv : Value} {x : WS} (h : GW w0 b G B n s y wr rv [] x) (hn : s.size = n * 256) (hs : s.size ≤ 65536) (root : Nat) (hr : root ≤ 255) (hv : x.va ≤ 262143) (hh : y.host ≤ 255) (hst0 : 0 ≤ y.steps) (hst : y.steps ≤ 100)
    (hf : (walkV s y.host (k1V root x.va) 1 false).fault = 0) (h16 : ¬ wv (walkV s y.host (k1V root x.va) 1 false).mem (walkV s y.host (k1V root x.va) 1 false).pa.toNat % 16 = 1) :
    Calls Try.prog 91 #[.pointer (some ⟨B, 0, none⟩), .int .i64 root] wr fun e u => e = .returned (.int .i64 (feG s y.host root x.va y.steps).code) ∧ ∃ rv' x', GW w0 b G B n (feG s y.host root x.va y.steps).mem { y with steps := (feG s y.host root x.va y.steps).steps, place := (feG s y.host root x.va y.steps).place } u rv' (feG s y.host root x.va y.steps).zs x' ∧ x'.va = x.va ∧ x'.acc = x.acc ∧ x'.user = x.user ∧ ((feG s y.host root x.va y.steps).code = 0 → x'.at_ = ((feG s y.host root x.va y.steps).k : Int) ∧ x'.e = (feG s y.host root x.va y.steps).e ∧ x'.lg = (feG s y.host root x.va y.steps).lg) := by
  obtain ⟨c0, c1, c2, c3, c4, c5, c6, c7, c8, cf⟩ := h.box.cells
  obtain ⟨va, acc, user, at_, e, lg, pa⟩ := x
  simp only at *
  have hF := fun w => firstIndex_any va w hv
  have V : Hid (va ≤ 262143) := hv
  have hlen := walkV_len s y.host (k1V root va) 1 false
  have hsz := walkV_size s y.host (k1V root va) 1 false (by unfold k1V; omega)
  have HR : Hid (∀ q, _) := fun q => readG_yes (h.below (bdn (Below.refl _ _) q)) hn hs root (va / 8192) root ((va : Int) / 8192) rfl (by omega) (by omega) (by omega) (by simp) hh hst0 (by omega)
  have ek : root * 256 + 4 * (va / 8192) = k1V root va := rfl
  rw [ek] at HR
  obtain ⟨r, hr1⟩ : ∃ r, walkV s y.host (k1V root va) 1 false = r := ⟨_, rfl⟩
  rw [hr1] at HR hf hlen hsz
  obtain ⟨z, hzz⟩ : ∃ z, wv r.mem r.pa.toNat = z := ⟨_, rfl⟩
  obtain ⟨z0, z1⟩ := wv_b r.mem r.pa.toNat
  rw [hzz] at z0 z1
  have HZ : Hid (wv r.mem r.pa.toNat = z) := hzz
  have ht := fun w => isTable_any z w z0 z1
  rw [hr1, hzz] at h16
  have hd : decide (z % 16 = 1) = false := decide_eq_false h16
  rw [hd] at ht
  have E : Hid (feG s y.host root va y.steps = ⟨0, z, k1V root va, true, [(root : Int)], r.mem, y.steps + (r.reads.length : Int), k1V root va⟩) := by
    show feG s y.host root va y.steps = _
    unfold feG fe1
    rw [hr1, if_pos hf, hzz, if_neg h16]
  rw [E.out]
  clear hv h hd h16 hzz hn hs hr1 ek hsz
  go_enter Try.func91, Try.ntmps91
  go_wp2_with (first | (go_at_call 98; refine Calls.mono (hF _) ?_; rintro e u ⟨rfl, q, hu⟩; rw [hu]; clear hu u) | (go_at_call 117; refine Calls.mono (HR.out q) ?_; rintro e u ⟨hyes, _⟩; obtain ⟨rfl, rv', hst2⟩ := hyes hf; rw [HZ.out] at hst2; have HS : Hid _ := hst2; obtain ⟨d0, d1, d2, d3, d4, d5, d6, d7, d8, df⟩ := hst2.box.cells; (try simp only at d1 d5); clear hst2 hyes HR) | (go_at_call 102; refine Calls.mono (ht _) ?_; rintro e u ⟨rfl, hu⟩; rw [hu]; clear hu u))
  go_ret
  exact ⟨rfl, _, _, HS.out.set 6 _ (HS.out.box.put6 true), rfl, rfl, rfl, fun _ => ⟨rfl, rfl, rfl⟩⟩
set_option maxRecDepth 100000 in
set_option maxHeartbeats 4000000 in
theorem findEntryG_B1 {w0 wr : World} {b G B n : Nat} {s : ByteArray} {y : GS} {rv : Value} {x : WS} (h : GW w0 b G B n s y wr rv [] x) (hn : s.size = n * 256) (hs : s.size ≤ 65536) (root : Nat) (hr : root ≤ 255) (hv : x.va ≤ 262143) (hh : y.host ≤ 255) (hst0 : 0 ≤ y.steps) (hst : y.steps ≤ 100)
    (hf : (walkV s y.host (k1V root x.va) 1 false).fault = 0) (h16 : wv (walkV s y.host (k1V root x.va) 1 false).mem (walkV s y.host (k1V root x.va) 1 false).pa.toNat % 16 = 1) (hT : ¬ wv (walkV s y.host (k1V root x.va) 1 false).mem (walkV s y.host (k1V root x.va) 1 false).pa.toNat / 256 < 1024) :
    Calls Try.prog 91 #[.pointer (some ⟨B, 0, none⟩), .int .i64 root] wr fun e u => e = .returned (.int .i64 (feG s y.host root x.va y.steps).code) ∧ ∃ rv' x', GW w0 b G B n (feG s y.host root x.va y.steps).mem { y with steps := (feG s y.host root x.va y.steps).steps, place := (feG s y.host root x.va y.steps).place } u rv' (feG s y.host root x.va y.steps).zs x' ∧ x'.va = x.va ∧ x'.acc = x.acc ∧ x'.user = x.user ∧ ((feG s y.host root x.va y.steps).code = 0 → x'.at_ = ((feG s y.host root x.va y.steps).k : Int) ∧ x'.e = (feG s y.host root x.va y.steps).e ∧ x'.lg = (feG s y.host root x.va y.steps).lg) := by
  obtain ⟨c0, c1, c2, c3, c4, c5, c6, c7, c8, cf⟩ := h.box.cells
  obtain ⟨va, acc, user, at_, e, lg, pa⟩ := x
  simp only at *
  have hF := fun w => firstIndex_any va w hv
  have V : Hid (va ≤ 262143) := hv
  have hlen := walkV_len s y.host (k1V root va) 1 false
  have hsz := walkV_size s y.host (k1V root va) 1 false (by unfold k1V; omega)
  have HR : Hid (∀ q, _) := fun q => readG_yes (h.below (bdn (Below.refl _ _) q)) hn hs root (va / 8192) root ((va : Int) / 8192) rfl (by omega) (by omega) (by omega) (by simp) hh hst0 (by omega)
  have ek : root * 256 + 4 * (va / 8192) = k1V root va := rfl
  rw [ek] at HR
  obtain ⟨r, hr1⟩ : ∃ r, walkV s y.host (k1V root va) 1 false = r := ⟨_, rfl⟩
  rw [hr1] at HR hf hlen hsz
  obtain ⟨z, hzz⟩ : ∃ z, wv r.mem r.pa.toNat = z := ⟨_, rfl⟩
  obtain ⟨z0, z1⟩ := wv_b r.mem r.pa.toNat
  rw [hzz] at z0 z1
  have HZ : Hid (wv r.mem r.pa.toNat = z) := hzz
  have ht := fun w => isTable_any z w z0 z1
  rw [hr1, hzz] at h16 hT
  have hd : decide (z % 16 = 1) = true := decide_eq_true h16
  rw [hd] at ht
  have E : Hid (feG s y.host root va y.steps = ⟨2, 0, 0, false, [(root : Int)], r.mem, y.steps + (r.reads.length : Int), k1V root va⟩) := by
    show feG s y.host root va y.steps = _
    unfold feG fe1
    rw [hr1, if_pos hf, hzz, if_pos h16, if_neg hT]
  rw [E.out]
  have HHn : Hid (r.mem.size = n * 256 ∧ r.mem.size ≤ 65536) := ⟨by omega, by omega⟩
  clear hv h hd h16 hzz hn hs hr1 ek hsz
  go_enter Try.func91, Try.ntmps91
  go_wp2_with (first | (go_at_call 98; refine Calls.mono (hF _) ?_; rintro e u ⟨rfl, q, hu⟩; rw [hu]; clear hu u) | (go_at_call 117; refine Calls.mono (HR.out q) ?_; rintro e u ⟨hyes, _⟩; obtain ⟨rfl, rv', hst2⟩ := hyes hf; rw [HZ.out] at hst2; have HS : Hid _ := hst2; obtain ⟨d0, d1, d2, d3, d4, d5, d6, d7, d8, df⟩ := hst2.box.cells; (try simp only at d1 d5); clear hst2 hyes HR) | (go_at_call 102; refine Calls.mono (ht _) ?_; rintro e u ⟨rfl, hu⟩; rw [hu]; clear hu u))
  have H6 : Hid (GW w0 b G B n r.mem { y with steps := y.steps + (r.reads.length : Int), place := (k1V root va : Int) } (u.setCell ⟨B, 6, none⟩ (.bool false)) rv' ([] ++ [(root : Int)]) _) := HS.out.set 6 _ (HS.out.box.put6 false)
  have H2 : Hid (∀ v, Below (u.setCell ⟨B, 6, none⟩ (.bool false)).heap.size (u.setCell ⟨B, 6, none⟩ (.bool false)) v → _) := fun v hv => readG_no (H6.out.below hv) (z / 256) ((va : Int) / 256 % 32) (by omega)
  have HV6 : Hid (∀ v, Below (u.setCell ⟨B, 6, none⟩ (.bool false)).heap.size (u.setCell ⟨B, 6, none⟩ (.bool false)) v → _) := fun v hv => H6.out.below hv
  go_region_with (first | (go_at_call 103; refine (frameOf_any _ _).mono ?_; rintro e u3 ⟨rfl, hu3⟩; rw [hu3]; clear hu3 u3) | (go_at_call 104; refine (secondIndex_any _ _ V.out).mono ?_; rintro e u4 ⟨rfl, q4, hu4⟩; rw [hu4]; clear hu4 u4) | (go_at_call 117; refine Calls.mono (H2.out _ (by exact ⟨rfl, rfl, rfl, Nat.le_refl _, fun _ _ => rfl⟩)) ?_; rintro e u5 ⟨rfl, hu5⟩; have HF : Hid _ := HV6.out u5 (by rw [hu5]; exact ⟨rfl, rfl, rfl, Nat.le_refl _, fun _ _ => rfl⟩); clear hu5))
  all_goals
    go_wp2
    go_ret
    exact ⟨rfl, _, _, HF.out, rfl, rfl, rfl, fun h => by cases h⟩
end Go.Proofs.Ytfagohdmepnkkaa
