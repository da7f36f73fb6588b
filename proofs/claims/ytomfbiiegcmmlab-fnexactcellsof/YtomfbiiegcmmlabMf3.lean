import Derived.Test.YtomfbiiegcmmlabMf2
namespace Go.Proofs.Ytomfbiiegcmmlab
open Go.ChangeShapes Go.WideShapes Go.ChangeAt Go.RowKit

set_option maxRecDepth 100000
/-- The slots of the first guests. -/
def upS (h : MH) (k : Nat) : List SL := (h.gs.take k).flatMap (·.ss)
def allS (h : MH) : List SL := h.gs.flatMap (·.ss)
def isK (kd p : Int) (x : SL) : Bool := x.kind == kd && x.pos == p
def cntS (h : MH) (kd p : Int) : Nat := (allS h).countP (isK kd p)
theorem upS_succ (h : MH) (k : Nat) (hk : k < h.gs.length) : upS h (k + 1) = upS h k ++ h.gs[k].ss := by
  unfold upS
  rw [List.take_succ_eq_append_getElem hk, List.flatMap_append]
  simp
theorem upS_all (h : MH) : upS h h.gs.length = allS h := by unfold upS allS; rw [List.take_length]
theorem upS_le (h : MH) (k : Nat) : (upS h k).length ≤ (allS h).length := by
  have e : allS h = upS h k ++ (h.gs.drop k).flatMap (·.ss) := by
    unfold upS allS
    rw [← List.flatMap_append, List.take_append_drop]
  rw [e, List.length_append]
  omega
theorem cp_take {α : Type} (p : α → Bool) (es ts : List α) (k : Nat) (hk : k < ts.length) : (((es ++ ts.take (k + 1)).countP p : Nat) : Int) = ((es ++ ts.take k).countP p : Nat) + (if p ts[k] = true then 1 else 0) := by
  rw [List.take_succ_eq_append_getElem hk, ← List.append_assoc, List.countP_append (l₂ := [ts[k]]), List.countP_singleton]
  split <;> simp
theorem cp_le {α : Type} (p : α → Bool) (es ts : List α) (k : Nat) (h : (es ++ ts).length ≤ 1048576) : (es ++ ts.take k).countP p ≤ 1048576 := Nat.le_trans List.countP_le_length (by
  rw [List.length_append] at h ⊢
  rw [List.length_take]
  omega)
set_option maxHeartbeats 4000000 in
theorem l12Count_any {w : World} {h : MH} {a : HA} (hr : HRows w h a) (hl : HLen h) (hE : (allS h).length ≤ 1048576) (kd p : Int) : Calls Try.prog 67 #[mhA a h.time, .int .i64 kd, .int .i64 p] w fun e w' => e = .returned (.int .i64 (cntS h kd p : Nat)) ∧ Below w.heap.size w w' := by
  obtain ⟨al, kl, el⟩ := hr.cs.sl
  obtain ⟨am, km, em⟩ := hr.ps.sl
  obtain ⟨ac, kc, ec⟩ := hr.mg.sl
  rw [hr.gi.len] at ec
  have HQL : Hid (a.qs.length = h.gs.length) := hr.gi.len
  have HN : Hid (MGrow w (.slice ac h.gs.length kc) a.qs) := (show MGrow w (.slice ac h.gs.length kc) a.qs by rw [← ec]; exact hr.mg)
  have HI : Hid (MGin w a.qs h.gs) := hr.gi
  have HX0 : Hid (HX w (w.alloc (.cells #[.slice al h.cs.length kl, .slice am h.ps.length km, .slice ac h.gs.length kc, .int .i64 h.time] 30)) h a) := (show HX w (w.alloc (.cells #[.slice al h.cs.length kl, .slice am h.ps.length km, .slice ac h.gs.length kc, .int .i64 h.time] 30)) h a by have hn := HX.new hr; rw [el, em, ec] at hn; exact hn)
  have HEC : Hid (a.vg = .slice ac h.gs.length kc) := ec
  have hlg : h.gs.length ≤ 1048576 := hl.g
  have HLE : Hid (∀ k (hk : k < h.gs.length), h.gs[k].ss.length ≤ 1048576) := hl.s
  have HE : Hid ((allS h).length ≤ 1048576) := hE
  clear hr hl hE
  unfold mhA
  rw [el, em, ec]
  clear el em ec
  go_enter Try.func67, Try.ntmps67
  go_wp2
  generalize (w.alloc (.cells #[.slice al h.cs.length kl, .slice am h.ps.length km, .slice ac h.gs.length kc, .int .i64 h.time] 30)) = V at *
  go_loopw [7, 8] (fun o i wr => ∃ k : Nat, k ≤ h.gs.length ∧ i = .int .i64 k ∧ o = .int .i64 ((upS h k).countP (isK kd p) : Nat) ∧ HX w wr h a) (fun _ i _ => h.gs.length - (intOf i).toNat)
  case atStart => exact ⟨0, Nat.zero_le _, rfl, rfl, HX0.out⟩
  case round =>
    obtain ⟨k, hk, rfl, rfl, hx⟩ := hrel
    obtain ⟨_, _, c2, _⟩ := hx.cel
    rw [HEC.out] at c2
    have hxl := hx.lt
    have HXa : Hid _ := hx
    clear hx HX0
    by_cases hlt2 : k < h.gs.length
    · have hkq : k < a.qs.length := by rw [HQL.out]; exact hlt2
      obtain ⟨g, o, cap2, hv, _, hg, hc⟩ := HN.out.resolve_left (fun h => by rw [h.1] at hkq; simp at hkq)
      injection hv with hv1 hv2 hv3
      subst hv1 hv3
      obtain ⟨q0, q2, q3⟩ := HI.out.el k hkq hlt2
      obtain ⟨az, kz, hzt⟩ := q2.sl
      have HT2 : Hid (SLrow w (.slice az h.gs[k].ss.length kz) h.gs[k].ss) := (show SLrow w (.slice az h.gs[k].ss.length kz) h.gs[k].ss by rw [← hzt]; exact q2)
      have HUP : Hid (upS h (k + 1) = upS h k ++ h.gs[k].ss) := upS_succ h k hlt2
      have HLN : Hid ((upS h k ++ h.gs[k].ss).length ≤ 1048576) := (show _ ≤ _ by rw [← HUP.out]; exact Nat.le_trans (upS_le h (k + 1)) HE.out)
      have hln := HLE.out k hlt2
      have HD : Hid (∀ u, Below w.heap.size w u → u.cell? ⟨g, o + k * 3, none⟩ = some (.slice az h.gs[k].ss.length kz)) := fun u hb => (by rw [← hzt]; exact (hc.below hb hg k hkq).1)
      have e0 : (upS h k).countP (isK kd p) = (upS h k ++ h.gs[k].ss.take 0).countP (isK kd p) := by simp
      have HE0 : Hid _ := e0
      generalize h.gs[k].ss = ts at *
      generalize upS h k = es at *
      clear hc hzt q0 q2 q3 hv2 e0
      have hk0 : (0 : Int) ≤ (k : Int) := by omega
      have hk1 : (k : Int) < (h.gs.length : Int) := by omega
      rw [HE0.out]
      go_wp2
      go_loopw [7, 9] (fun o i w3 => ∃ j : Nat, j ≤ ts.length ∧ i = .int .i64 j ∧ o = .int .i64 ((es ++ ts.take j).countP (isK kd p) : Nat) ∧ HX w w3 h a) (fun _ i _ => ts.length - (intOf i).toNat)
      case atStart => exact ⟨0, Nat.zero_le _, rfl, rfl, HXa.out⟩
      case round =>
        obtain ⟨j, hj, rfl, rfl, hx⟩ := hrel
        obtain ⟨_, _, c2, _⟩ := hx.cel
        rw [HEC.out] at c2
        have hxl := hx.lt
        have d2 := HD.out _ hx.bel
        have HX1 : Hid _ := hx
        by_cases hlt3 : j < ts.length
        · obtain ⟨g3, o3, cap3, hv, _, hg3, hc3⟩ := HT2.out.resolve_left (fun h => by rw [h.1] at hlt3; simp at hlt3)
          injection hv with hv1 hv2 hv3
          subst hv1 hv3
          obtain ⟨d3, d4, d5⟩ := hc3.below hx.bel hg3 j hlt3
          have HC : Hid _ := cp_take (isK kd p) es ts j hlt3
          have hcl := cp_le (isK kd p) es ts j HLN.out
          generalize (es ++ ts.take j).countP (isK kd p) = c at *
          generalize ts[j] = y at *
          have hj0 : (0 : Int) ≤ (j : Int) := by omega
          have hj1 : (j : Int) < (ts.length : Int) := by omega
          have hc0 : (0 : Int) ≤ (c : Int) := by omega
          have hc1 : (c : Int) ≤ 1048576 := by omega
          have HXn : Hid _ := fun o => HX1.out.step ((Below.refl _ _).alloc (Nat.le_refl _) o)
          clear hc3 hv2 hx HXa HE0
          have HL : Hid _ := fun b u => l01B_any b u
          obtain ⟨yk, yp, yu⟩ := y
          simp only at d3 d4 d5
          rw [show isK kd p ⟨yk, yp, yu⟩ = (yk == kd && yp == p) from rfl] at HC
          cases hq : (yk == kd)
          · rw [hq] at HC
            simp only [Bool.false_and, Bool.false_eq_true, if_false, Int.add_zero] at HC
            go_wp2_with (go_at_call 79; refine Calls.mono (HL.out _ _) ?_; rintro e u1 ⟨rfl, hu⟩; rw [hu]; clear hu)
            exact ⟨⟨j + 1, hlt3, by simp, by rw [HC.out], HXn.out _⟩, by simp [intOf]; omega⟩
          · rw [hq] at HC
            simp only [Bool.true_and] at HC
            cases hq2 : (yp == p)
            · rw [hq2] at HC
              simp only [Bool.false_eq_true, if_false, Int.add_zero] at HC
              go_wp2_with (go_at_call 79; refine Calls.mono (HL.out _ _) ?_; rintro e u1 ⟨rfl, hu⟩; rw [hu]; clear hu)
              exact ⟨⟨j + 1, hlt3, by simp, by rw [HC.out], HXn.out _⟩, by simp [intOf]; omega⟩
            · rw [hq2] at HC
              simp only [if_true] at HC
              go_wp2_with (go_at_call 79; refine Calls.mono (HL.out _ _) ?_; rintro e u1 ⟨rfl, hu⟩; rw [hu]; clear hu)
              exact ⟨⟨j + 1, hlt3, by simp, by rw [HC.out], HXn.out _⟩, by simp [intOf]; omega⟩
        · obtain rfl : j = ts.length := by omega
          have HXe : Hid ((es ++ ts.take ts.length).countP (isK kd p) = (upS h (k + 1)).countP (isK kd p)) := (show _ = _ by rw [List.take_length, HUP.out])
          generalize (es ++ ts.take ts.length).countP (isK kd p) = c at *
          clear hx
          go_wp2
          exact ⟨⟨k + 1, hlt2, by simp, by rw [HXe.out], HX1.out⟩, by simp [intOf]; omega⟩
    · obtain rfl : k = h.gs.length := by omega
      have HXe : Hid ((upS h h.gs.length).countP (isK kd p) = cntS h kd p) := (show _ = _ by rw [upS_all]; rfl)
      rw [HXe.out]
      go_wp2
      go_ret
      exact ⟨rfl, HXa.out.bel⟩
end Go.Proofs.Ytomfbiiegcmmlab
