import Derived.Test.YtomfbiiegcmmlaaDk1
namespace Go.Proofs.Ytomfbiiegcmmlaa
open Go.ChangeShapes Go.WideShapes Go.ChangeAt Go.RowKit

set_option maxRecDepth 100000
/-- The first clusters of a disk. -/
def dsL (ms : List IM) (c k : Nat) : List ByteArray := (List.range k).map (fun n => clP ms n (pth ms c))
theorem dsL_len (ms : List IM) (c k : Nat) : (dsL ms c k).length = k := by simp [dsL]
theorem dsL_succ (ms : List IM) (c k : Nat) : dsL ms c (k + 1) = dsL ms c k ++ [clP ms k (pth ms c)] := by simp [dsL, List.range_succ]
theorem catB_snoc (ps : List ByteArray) (p : ByteArray) : catB (ps ++ [p]) = catB ps ++ p.data.toList := by simp [catB]
theorem pth_lt {ms : List IM} : ∀ (f c : Nat), c < ms.length → ∀ x ∈ ptL ms f c, x < ms.length := by
  intro f
  induction f with
  | zero => intro c _ x hx; cases hx
  | succ f ih =>
    intro c hc x hx
    unfold ptL at hx
    rcases List.mem_cons.1 hx with rfl | hx
    · exact hc
    · split at hx
      · cases hx
      · split at hx
        · cases hx
        · rename_i k hk; exact ih k (fdN_lt hk) x hx
theorem dsL_size {ms : List IM} (h : RL ms) (c k : Nat) (hc : c < ms.length) : (catB (dsL ms c k)).length = 16 * k := by
  induction k with
  | zero => rfl
  | succ k ih =>
    rw [dsL_succ, catB_snoc, List.length_append, ih]
    have := clP_size h k (pth ms c) (pth_lt 14 c hc)
    have e : (clP ms k (pth ms c)).data.toList.length = 16 := by rw [← this]; rfl
    rw [e]
    omega
theorem tx_add (l : List UInt8) (p : ByteArray) : (⟨l.toArray⟩ : ByteArray) ++ p = ⟨(l ++ p.data.toList).toArray⟩ := by
  apply ByteArray.ext
  simp
/-- A disk. -/
def dkB (ms : List IM) (c : Nat) : ByteArray := ⟨(catB (dsL ms c (gI ms c).t.length)).toArray⟩
set_option maxHeartbeats 4000000 in
theorem l13Disk_any {w : World} {v : Value} {gs : List IG} {ms : List IM} (h : IGrow w v gs) (hi : IGin w gs ms) (hr : RL ms) (c : Nat) (hc : c < ms.length) : Calls Try.prog 22 #[v, .int .i64 c] w fun e w' => e = .returned (.string (dkB ms c)) ∧ Below w.heap.size w w' := by
  obtain ⟨ao, cap, rfl⟩ := h.sl
  have hlq := hi.len
  have HR : Hid (IGrow w (.slice ao ms.length cap) gs) := (show IGrow w (.slice ao ms.length cap) gs by rw [← hlq]; exact h)
  have HC : Hid (IGin w gs ms) := hi
  have HLQ : Hid (gs.length = ms.length) := hlq
  have HRL : Hid (RL ms) := hr
  have hl : ms.length ≤ 1048576 := by have := hr.len; omega
  have htl : ms[c].t.length ≤ 64 := (hr.im c hc).t2
  rw [hlq]
  clear h hi hlq hr
  have hcq : c < gs.length := by rw [HLQ.out]; exact hc
  obtain ⟨g, o, cap2, hv, _, hg, hcc⟩ := HR.out.resolve_left (fun h => by rw [h.1] at hcq; simp at hcq)
  injection hv with hv1 hv2 hv3
  subst hv1 hv3
  obtain ⟨e0, e1, q, e2⟩ := HC.out.el c hcq hc
  obtain ⟨p1, r1, s1⟩ := e2.t.sl
  simp only at s1
  have HD2 : Hid (∀ u, Below w.heap.size w u → u.cell? ⟨g, o + c * 5 + 2, none⟩ = some (.slice p1 ms[c].t.length r1)) := fun u hu => by
    obtain ⟨_, _, d2, _⟩ := hcc.below hu hg c hcq
    rw [s1] at d2
    exact d2
  have HG : Hid (dkB ms c = ⟨(catB (dsL ms c ms[c].t.length)).toArray⟩) := (show dkB ms c = _ by unfold dkB; rw [gI_at ms c hc])
  have hc0 : (0 : Int) ≤ (c : Int) := by omega
  have hc1 : (c : Int) < (ms.length : Int) := by omega
  generalize ms[c].t.length = T at *
  generalize dkB ms c = G at *
  clear hcc e0 e1 e2 s1 hv2
  go_enter Try.func22, Try.ntmps22
  go_wp2
  go_loopw [5, 6] (fun out i wr => ∃ k : Nat, k ≤ T ∧ i = .int .i64 k ∧ out = .string ⟨(catB (dsL ms c k)).toArray⟩ ∧ Below w.heap.size w wr) (fun _ i _ => T - (intOf i).toNat)
  case atStart => exact ⟨0, Nat.zero_le _, rfl, rfl, Below.refl _ _⟩
  case round =>
    obtain ⟨k, hk, rfl, rfl, hb⟩ := hrel
    have d2 := HD2.out wr hb
    have HB : Hid (Below w.heap.size w wr) := hb
    by_cases hlt : k < T
    · have HCL : Hid _ := l13Cluster_any (HR.out.below hb) (HC.out.below hb) HRL.out c hc k (by omega)
      have hsz := clP_size HRL.out k (pth ms c) (pth_lt 14 c hc)
      have hsl := dsL_size HRL.out c k hc
      have HS : Hid ((⟨(catB (dsL ms c k)).toArray⟩ : ByteArray) ++ clP ms k (pth ms c) = ⟨(catB (dsL ms c (k + 1))).toArray⟩) := (show _ = _ by rw [dsL_succ, catB_snoc, tx_add])
      have hbs : (⟨(catB (dsL ms c k)).toArray⟩ : ByteArray).size = 16 * k := by rw [← hsl]; simp [ByteArray.size]
      generalize clP ms k (pth ms c) = p at *
      generalize (⟨(catB (dsL ms c k)).toArray⟩ : ByteArray) = t at *
      have hadd := fun w => run_string_add_sum (P := Try.prog) w t p (by omega)
      have hk0 : (0 : Int) ≤ (k : Int) := by omega
      have hk1 : (k : Int) < (T : Int) := by omega
      have hk9 : (k : Int) ≤ 64 := by omega
      clear hb hsz hsl hbs
      go_wp2_with (go_at_call 43; refine Calls.mono HCL.out ?_; rintro e u1 ⟨rfl, hu⟩; have HU : Hid (Below w.heap.size w u1) := HB.out.trans (hu.mono HB.out.size); clear hu)
      exact ⟨⟨k + 1, hlt, by simp, by rw [HS.out], HU.out⟩, by simp [intOf]; omega⟩
    · obtain rfl : k = T := by omega
      have HG2 : Hid ((⟨(catB (dsL ms c k)).toArray⟩ : ByteArray) = G) := HG.out.symm
      generalize (⟨(catB (dsL ms c k)).toArray⟩ : ByteArray) = t at *
      go_wp2
      go_ret
      exact ⟨by rw [← HG2.out]; rfl, hb⟩
/-- The disk of that name, or none. -/
def dkO (ms : List IM) (n : ByteArray) : ByteArray := if chB ms then (match fdN ms n with | some k => dkB ms k | none => ⟨#[]⟩) else ⟨#[]⟩
set_option maxHeartbeats 4000000 in
theorem specDisk_any {w : World} {v : Value} {gs : List IG} {ms : List IM} (h : IGrow w v gs) (hi : IGin w gs ms) (hl : ms.length ≤ 1048576) (hL : ∀ k (hk : k < ms.length), ILen ms[k]) (n : ByteArray) : Calls Try.prog 12 #[v, .string n] w fun e w' => e = .returned (.string (dkO ms n)) ∧ Below w.heap.size w w' := by
  have HF : Hid _ := l13Find_any h hi hl n
  have HC : Hid _ := specChain_any h hi hl hL
  have HD : Hid (chB ms = true → ∀ k, k < ms.length → ∀ u, Below w.heap.size w u → Calls Try.prog 22 #[v, .int .i64 k] u fun e w' => e = .returned (.string (dkB ms k)) ∧ Below u.heap.size u w') := fun hc k hk u hu => l13Disk_any (h.below hu) (hi.below hu) (RL.of hc) k hk
  obtain ⟨ao, cap, rfl⟩ := h.sl
  clear h hi hL
  cases hch : chB ms with
  | false =>
    rw [hch] at HC
    have HG : Hid (dkO ms n = ⟨#[]⟩) := (show dkO ms n = _ by unfold dkO; rw [hch]; rfl)
    generalize dkO ms n = G at *
    clear hch HD
    go_enter Try.func12, Try.ntmps12
    go_wp2_with (first | (go_at_call 21; refine Calls.mono HF.out ?_; rintro e u1 ⟨rfl, hu⟩; rw [hu]; clear hu) | (go_at_call 20; refine Calls.mono HC.out ?_; rintro e u2 ⟨rfl, hu⟩; have HU : Hid (Below w.heap.size w u2) := hu; clear hu))
    go_ret
    exact ⟨by rw [HG.out]; rfl, HU.out⟩
  | true =>
    rw [hch] at HC
    cases hq : fdN ms n with
    | none =>
      have HG : Hid (dkO ms n = ⟨#[]⟩) := (show dkO ms n = _ by unfold dkO; rw [hch, hq]; rfl)
      have hfi : fdI ms n = -1 := by unfold fdI; rw [hq]
      rw [hfi] at HF
      generalize dkO ms n = G at *
      clear hch HD hq hfi
      go_enter Try.func12, Try.ntmps12
      go_wp2_with (first | (go_at_call 21; refine Calls.mono HF.out ?_; rintro e u1 ⟨rfl, hu⟩; rw [hu]; clear hu) | (go_at_call 20; refine Calls.mono HC.out ?_; rintro e u2 ⟨rfl, hu⟩; have HU : Hid (Below w.heap.size w u2) := hu; clear hu))
      go_ret
      exact ⟨by rw [HG.out]; rfl, HU.out⟩
    | some k =>
      have HG : Hid (dkO ms n = dkB ms k) := (show dkO ms n = _ by unfold dkO; rw [hch, hq]; rfl)
      have hfi : fdI ms n = k := by unfold fdI; rw [hq]
      rw [hfi] at HF
      have HD2 : Hid _ := HD.out hch k (fdN_lt hq)
      have hk0 : ¬ (k : Int) < 0 := by omega
      generalize dkO ms n = G at *
      generalize dkB ms k = D at *
      clear hch HD hq hfi
      go_enter Try.func12, Try.ntmps12
      go_wp2_with (first | (go_at_call 21; refine Calls.mono HF.out ?_; rintro e u1 ⟨rfl, hu⟩; rw [hu]; clear hu) | (go_at_call 20; refine Calls.mono HC.out ?_; rintro e u2 ⟨rfl, hu⟩; have HU : Hid (Below w.heap.size w u2) := hu; clear hu) | (go_at_call 22; refine Calls.mono (HD2.out _ HU.out) ?_; rintro e u3 ⟨rfl, hu⟩; have HU3 : Hid (Below w.heap.size w u3) := HU.out.trans (hu.mono HU.out.size); clear hu))
      go_ret
      exact ⟨by rw [HG.out]; rfl, HU3.out⟩
end Go.Proofs.Ytomfbiiegcmmlaa
