import Derived.Test.YtegcbghhcidcaaaDoorCk1
import Derived.Deep.RegionWith
import Derived.BigQuiet
namespace Go.Proofs.YtegcbghhcidcaaaDoor
open Go.ChangeShapes Go.WideShapes Go.ChangeAt Go.RowKit

/-- All of the first k. -/
def allB (p : Nat → Bool) (k : Nat) : Bool := (List.range k).all p
theorem allB_succ (p : Nat → Bool) (k : Nat) : allB p (k + 1) = (allB p k && p k) := by simp [allB, List.range_succ]
theorem allB_bad {p : Nat → Bool} {k m : Nat} (hk : k < m) (h : p k = false) : allB p m = false := by
  unfold allB
  rw [List.all_eq_false]
  exact ⟨k, List.mem_range.2 hk, by rw [h]; decide⟩
theorem allB_iff {p : Nat → Bool} {m : Nat} : allB p m = true ↔ ∀ k, k < m → p k = true := by
  unfold allB
  rw [List.all_eq_true]
  exact ⟨fun h k hk => h k (List.mem_range.2 hk), fun h k hk => h k (List.mem_range.1 hk)⟩
structure CK where
  host : Int
  guest : Int
  num : Int
  den : Int
  part : Int
  frz : Bool
  ts : List TM
def tmAt (zs : List TM) (k : Nat) : TM := zs.getD k ⟨0, 0, 0⟩
theorem tmAt_lt {zs : List TM} {k : Nat} (h : k < zs.length) : tmAt zs k = zs[k] := by simp [tmAt, List.getD, List.getElem?_eq_getElem h]
def tkB (zs : List TM) (k : Nat) : Bool := tiB (tmAt zs k)
def ckB (c : CK) : Bool := tmB c.host && tmB c.guest && rtB c.num c.den && decide (0 ≤ c.part) && decide (c.part < c.den) && decide (c.ts.length ≤ 20) && allB (tkB c.ts) c.ts.length
def ckA (c : CK) (v : Value) : Value := .agg #[.int .i64 c.host, .int .i64 c.guest, .int .i64 c.num, .int .i64 c.den, .int .i64 c.part, .bool c.frz, v]
def BoxK (w : World) (b : Nat) (t : TypeId) (c : CK) (v : Value) : Prop := w.heap[b]? = some (.cells #[.int .i64 c.host, .int .i64 c.guest, .int .i64 c.num, .int .i64 c.den, .int .i64 c.part, .bool c.frz, v] t (0, 0))
theorem BoxK.cel {w : World} {b : Nat} {t : TypeId} {c : CK} {v : Value} (h : BoxK w b t c v) : w.cell? ⟨b, 0, none⟩ = some (.int .i64 c.host) ∧ w.cell? ⟨b, 1, none⟩ = some (.int .i64 c.guest) ∧ w.cell? ⟨b, 2, none⟩ = some (.int .i64 c.num) ∧ w.cell? ⟨b, 3, none⟩ = some (.int .i64 c.den) ∧ w.cell? ⟨b, 4, none⟩ = some (.int .i64 c.part) ∧ w.cell? ⟨b, 5, none⟩ = some (.bool c.frz) ∧ w.cell? ⟨b, 6, none⟩ = some v ∧ ∀ x, w.frozen? ⟨b, x, none⟩ = false := by
  unfold BoxK at h
  simp [World.cell?, World.frozen?, h]
theorem BoxK.lt {w : World} {b : Nat} {t : TypeId} {c : CK} {v : Value} (h : BoxK w b t c v) : b < w.heap.size := (Array.getElem?_eq_some_iff.1 h).1
theorem BoxK.below {w w' : World} {b : Nat} {t : TypeId} {c : CK} {v : Value} (h : BoxK w b t c v) (hb : Below w.heap.size w w') : BoxK w' b t c v := (hb.block b h.lt).trans h
theorem cel2 {u : World} {b t : Nat} {a0 a1 : Value} (h : u.heap[b]? = some (.cells #[a0, a1] t (0, 0))) : u.cell? ⟨b, 1, none⟩ = some a1 := by simp [World.cell?, h]
def Faulty (a : Nat → Addr) (w' : World) (b : Bool) (r : Value) : Prop := (b = true ∧ r = .nilIface) ∨ (b = false ∧ (r = eV (a 0) ∨ ∃ pb, r = rV pb ∧ w'.cell? ⟨pb, 1, none⟩ = some (eV (a 0))))
theorem ckB_1 {c : CK} (h : tmB c.host = false) : ckB c = false := by simp [ckB, h]
theorem ckB_2 {c : CK} (h : tmB c.guest = false) : ckB c = false := by simp [ckB, h]
theorem ckB_3 {c : CK} (h : rtB c.num c.den = false) : ckB c = false := by simp [ckB, h]
theorem ckB_4 {c : CK} (h : ¬ c.ts.length ≤ 20) : ckB c = false := by simp [ckB, h]
theorem ckB_5 {c : CK} (h : ¬ 0 ≤ c.part) : ckB c = false := by simp [ckB, h]
theorem ckB_6 {c : CK} (h : ¬ c.part < c.den) : ckB c = false := by simp [ckB, h]
theorem ckB_7 {c : CK} (h : allB (tkB c.ts) c.ts.length = false) : ckB c = false := by simp only [ckB, h, Bool.and_false]
theorem ckB_y {c : CK} (h1 : tmB c.host = true) (h2 : tmB c.guest = true) (h3 : rtB c.num c.den = true) (h4 : c.ts.length ≤ 20) (h5 : 0 ≤ c.part) (h6 : c.part < c.den) (h7 : allB (tkB c.ts) c.ts.length = true) : ckB c = true := by
  simp only [ckB, h1, h2, h3, h7, decide_eq_true h4, decide_eq_true h5, decide_eq_true h6, Bool.and_true]
set_option maxRecDepth 100000 in
set_option maxHeartbeats 8000000 in
theorem clockFault_any {w : World} {a : Nat → Addr} {b : Nat} {c : CK} {v : Value} (hE : E5 w a) (hB : BoxK w b 25 c v) (hr : TMrow w v c.ts) (hl : c.ts.length ≤ 1048576) : Calls Tryd.prog 13 #[.pointer (some ⟨b, 0, none⟩)] w fun e w' => ∃ r, e = .returned r ∧ Faulty a w' (ckB c) r ∧ Below w.heap.size w w' := by
  obtain ⟨ao, cap, rfl⟩ := hr.sl
  have HE : Hid (E5 w a) := hE
  have HR : Hid (TMrow w (.slice ao c.ts.length cap) c.ts) := hr
  have HBX : Hid (BoxK w b 25 c (.slice ao c.ts.length cap)) := hB
  obtain ⟨c0, c1, c2, c3, c4, c5, c6, cf⟩ := hB.cel
  have lt := hB.lt
  have g0 := hE.g0
  have z0 : 0 < w.heap.size := by have := hE.sz; omega
  unfold eV at g0
  clear hr hB hE
  obtain ⟨ho, gu, nu, de, pa, fz, ts⟩ := c
  simp only at *
  have FW : Hid (∀ (bb : Bool) (w' : World), bb = false → Faulty a w' bb (.iface 100 (.pointer (some (a 0))))) := fun bb w' h => .inr ⟨h, .inl rfl⟩
  cases h1 : tmB ho
  · have HF : Hid (ckB ⟨ho, gu, nu, de, pa, fz, ts⟩ = false) := ckB_1 h1
    go_enter Tryd.func13, Tryd.ntmps13
    go_wp2_with fail
    go_quiet (first | (go_at_call 22; exact Calls.quiet_of_same (isTime_any _ _)) | (go_at_call 23; exact Calls.quiet_of_same (isRate_any _ _ _)))
    go_wp2
    go_ret
    exact ⟨_, rfl, FW.out _ _ HF.out, bdn (Below.refl _ _) _⟩
  have H1 : Hid (tmB ho = true) := h1
  cases h2 : tmB gu
  · have HF : Hid (ckB ⟨ho, gu, nu, de, pa, fz, ts⟩ = false) := ckB_2 h2
    go_enter Tryd.func13, Tryd.ntmps13
    go_wp2_with fail
    go_quiet (first | (go_at_call 22; exact Calls.quiet_of_same (isTime_any _ _)) | (go_at_call 23; exact Calls.quiet_of_same (isRate_any _ _ _)))
    go_wp2
    go_ret
    exact ⟨_, rfl, FW.out _ _ HF.out, bdn (Below.refl _ _) _⟩
  have H2 : Hid (tmB gu = true) := h2
  cases h3 : rtB nu de
  · have HF : Hid (ckB ⟨ho, gu, nu, de, pa, fz, ts⟩ = false) := ckB_3 h3
    go_enter Tryd.func13, Tryd.ntmps13
    go_wp2_with fail
    go_quiet (first | (go_at_call 22; exact Calls.quiet_of_same (isTime_any _ _)) | (go_at_call 23; exact Calls.quiet_of_same (isRate_any _ _ _)))
    go_wp2
    go_ret
    exact ⟨_, rfl, FW.out _ _ HF.out, bdn (Below.refl _ _) _⟩
  have H3 : Hid (rtB nu de = true) := h3
  by_cases h4 : ts.length ≤ 20
  case neg =>
    have HF : Hid (ckB ⟨ho, gu, nu, de, pa, fz, ts⟩ = false) := ckB_4 h4
    have h4' : decide ((20 : Int) < (ts.length : Int)) = true := decide_eq_true (by omega)
    clear h4
    go_enter Tryd.func13, Tryd.ntmps13
    go_wp2_with fail
    go_quiet (first | (go_at_call 22; exact Calls.quiet_of_same (isTime_any _ _)) | (go_at_call 23; exact Calls.quiet_of_same (isRate_any _ _ _)))
    go_wp2
    go_ret
    exact ⟨_, rfl, FW.out _ _ HF.out, bdn (Below.refl _ _) _⟩
  have h4' : decide ((20 : Int) < (ts.length : Int)) = false := decide_eq_false (by omega)
  by_cases h5 : 0 ≤ pa
  case neg =>
    have HF : Hid (ckB ⟨ho, gu, nu, de, pa, fz, ts⟩ = false) := ckB_5 h5
    have h5' : decide (pa < 0) = true := decide_eq_true (by omega)
    clear h4 h5
    go_enter Tryd.func13, Tryd.ntmps13
    go_wp2_with fail
    go_quiet (first | (go_at_call 22; exact Calls.quiet_of_same (isTime_any _ _)) | (go_at_call 23; exact Calls.quiet_of_same (isRate_any _ _ _)))
    go_wp2_with fail
    go_quiet (fail)
    go_wp2
    go_ret
    exact ⟨_, rfl, FW.out _ _ HF.out, bdn (Below.refl _ _) _⟩
  have h5' : decide (pa < 0) = false := decide_eq_false (by omega)
  by_cases h6 : pa < de
  case neg =>
    have HF : Hid (ckB ⟨ho, gu, nu, de, pa, fz, ts⟩ = false) := ckB_6 h6
    have h6' : decide (de ≤ pa) = true := decide_eq_true (by omega)
    clear h4 h5 h6
    go_enter Tryd.func13, Tryd.ntmps13
    go_wp2_with fail
    go_quiet (first | (go_at_call 22; exact Calls.quiet_of_same (isTime_any _ _)) | (go_at_call 23; exact Calls.quiet_of_same (isRate_any _ _ _)))
    go_wp2_with fail
    go_quiet (fail)
    go_wp2
    go_ret
    exact ⟨_, rfl, FW.out _ _ HF.out, bdn (Below.refl _ _) _⟩
  have h6' : decide (de ≤ pa) = false := decide_eq_false (by omega)
  have H4 : Hid (ts.length ≤ 20) := h4
  have H5 : Hid (0 ≤ pa) := h5
  have H6 : Hid (pa < de) := h6
  clear h4 h5 h6
  go_enter Tryd.func13, Tryd.ntmps13
  go_wp2_with fail
  go_quiet (first | (go_at_call 22; exact Calls.quiet_of_same (isTime_any _ _)) | (go_at_call 23; exact Calls.quiet_of_same (isRate_any _ _ _)))
  go_wp2_with fail
  go_quiet (fail)
  go_wp2_with fail
  have HB0 : Hid (∀ n, Below w.heap.size w (w.drewN n)) := fun n => bdn (Below.refl _ _) n
  clear c0 c1 c2 c3 c4 c5 c6 cf lt g0 z0
  clear h1 h2 h3 h4' h5' h6'
  go_loopw [63] (fun i wr => ∃ k : Nat, k ≤ ts.length ∧ i = .int .i64 k ∧ allB (tkB ts) k = true ∧ Below w.heap.size w wr) (fun i _ => ts.length - (intOf i).toNat)
  case atStart => exact ⟨0, Nat.zero_le _, rfl, rfl, HB0.out _⟩
  case round =>
    obtain ⟨k, hk, rfl, hok, hb⟩ := hrel
    have HOK : Hid (allB (tkB ts) k = true) := hok
    have HB : Hid (Below w.heap.size w wr) := hb
    clear hok
    by_cases hlt : k < ts.length
    · obtain ⟨g, o, cap2, hv, _, hg, hc⟩ := HR.out.resolve_left (fun h => by rw [h.1] at hlt; simp at hlt)
      injection hv with hv1 hv2 hv3
      subst hv1 hv3
      clear hv2
      obtain ⟨d0, d1, d2⟩ := hc.below hb hg k hlt
      have hgr : g < wr.heap.size := Nat.lt_of_lt_of_le hg hb.size
      have htk : Hid (tkB ts k = tiB ts[k]) := (show tkB ts k = tiB ts[k] by unfold tkB; rw [tmAt_lt hlt])
      have hk0 : (0 : Int) ≤ (k : Int) := by omega
      have hk1 : (k : Int) < (ts.length : Int) := by omega
      have HFT : Hid (∀ u, Below w.heap.size w u → Calls Tryd.prog 24 #[tiA ts[k]] u fun e w' => e = .returned (tE a (tiB ts[k])) ∧ Below u.heap.size u w') := fun u hu => timerFault_any (HE.out.step hu) _
      unfold tiA at HFT
      have HBA : Hid (Below w.heap.size w (wr.alloc (.cells #[.int .i64 ts[k].due, .int .i64 ts[k].period, .int .i64 ts[k].policy] 34))) := hb.alloc hb.size _
      clear hc hb
      generalize ts[k].due = x0 at *
      generalize ts[k].period = x1 at *
      generalize ts[k].policy = x2 at *
      cases hq : tiB ts[k]
      · have HQ : Hid (tiB ts[k] = false) := hq
        rw [hq] at HFT
        have HT0 : Hid (tE a false = .iface 100 (.pointer (some (a 0)))) := rfl
        rw [HT0.out] at HFT
        have HF : Hid (ckB ⟨ho, gu, nu, de, pa, fz, ts⟩ = false) := ckB_7 (allB_bad hlt (htk.out.trans hq))
        clear hq htk HT0
        go_wp2_with fail
        refine Calls.mono (HFT.out _ HBA.out) ?_
        rintro e u1 ⟨rfl, hb1⟩
        have HB1 : Hid (Below w.heap.size w u1) := HBA.out.trans (hb1.mono HBA.out.size)
        clear hb1
        go_wp2_with fail
        go_ret
        refine ⟨_, rfl, .inr ⟨HF.out, .inr ⟨u1.heap.size, rfl, ?_⟩⟩, HB1.out.alloc HB1.out.size _⟩
        exact cel2 (heap_new _ _)
      · have HQ : Hid (tiB ts[k] = true) := hq
        rw [hq] at HFT
        have HT0 : Hid (tE a true = .nilIface) := rfl
        rw [HT0.out] at HFT
        have HK : Hid (tkB ts k = true) := htk.out.trans hq
        clear hq htk HT0
        go_wp2_with fail
        refine Calls.mono (HFT.out _ HBA.out) ?_
        rintro e u1 ⟨rfl, hb1⟩
        have HB1 : Hid (Below w.heap.size w u1) := HBA.out.trans (hb1.mono HBA.out.size)
        clear hb1
        go_wp2_with fail
        go_roundw
        case rel => exact ⟨k + 1, hlt, by go_num, by rw [allB_succ, HOK.out, HK.out]; rfl, HB1.out⟩
        case measure => simp [intOf]; omega
    · obtain rfl : k = ts.length := by omega
      go_wp2
      go_ret
      exact ⟨_, rfl, .inl ⟨ckB_y H1.out H2.out H3.out H4.out H5.out H6.out HOK.out, rfl⟩, HB.out⟩
end Go.Proofs.YtegcbghhcidcaaaDoor
