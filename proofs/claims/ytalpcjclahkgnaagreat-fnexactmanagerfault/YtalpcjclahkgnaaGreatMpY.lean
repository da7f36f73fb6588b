import Derived.Test.YtalpcjclahkgnaaGreatMp4
import Derived.Test.YtalpcjclahkgnaaGreatCkZ
import Derived.Test.YtalpcjclahkgnaaGreatCr10
import Derived.Laws.AppendOwn
namespace Go.Proofs.YtalpcjclahkgnaaGreat
open Go.ChangeShapes Go.WideShapes Go.ChangeAt Go.RowKit

def jb0M : JB := ⟨0, ⟨#[]⟩, 0, 0, []⟩
def jA (js : List JB) (k : Nat) : JB := js.getD k jb0M
def jbK (js : List JB) (k : Nat) : Bool := jbB (jA js k)
def nxB (nx : Int) (n : Int) : Bool := decide (1 ≤ n) && decide (n < nx)
def jsB (s : MG) : Bool := allD (jbK s.jobs) s.jobs.length && riI (nxB s.next) (s.jobs.map (·.number))
theorem i_slJ {w : World} {B n : Nat} {v : Value} {xs : List Value} (h : w.ownsRow B 2 1 v n xs) : ∃ ao cap, v = .slice ao n cap := by
  rcases h.2 with ⟨rfl, e⟩ | ⟨g, cap, cur, rfl, _⟩
  · exact ⟨none, 0, by rw [e]⟩
  · exact ⟨_, cap, rfl⟩
theorem infoI64 : (Tryz.prog.info? 2).map (fun i => (i.zero, i.size, i.bytes)) = some (some (.int .i64 0), 1, 8) := by kernel_rfl
theorem appJ {w : World} {lo n : Nat} {v : Value} {ys : List Int} (h : w.ownsRow lo 2 1 v n (iR ys)) (hn : n ≤ 1048576) (hlo : lo ≤ w.heap.size) (x : Int) : ∃ v' u', (Builtin.append_ #[104, 104] 104 #[v, .slice (some ⟨w.heap.size, 0, none⟩) 1 1]).run Tryz.prog (w.alloc (.cells #[.int .i64 x] 2)) = .ok v' u' ∧ (u'.ownsRow lo 2 1 v' (n + 1) (iR (ys ++ [x])) ∧ (w.alloc (.cells #[.int .i64 x] 2)).grownBy u' v.ownBlock) := by
  obtain ⟨i0, hi0, hz0, hz1, hz2⟩ := info_parts infoI64
  have hc1 := (LG.new w #[.int .i64 x] 2).cel 0 _ rfl
  obtain ⟨v', w', hr, h2, h3, _⟩ := run_append_own (P := Tryz.prog) (w.alloc (.cells #[.int .i64 x] 2)) lo 104 104 2 i0 (.int .i64 0) 1 8 Tryz.underlying104 hi0 hz0 hz1 hz2 rfl (by decide) v n (iR ys) (h.alloc _) ⟨w.heap.size, 0, none⟩ 1 1 [.int .i64 x] rfl (fun j u hj => by
    match j, hj with
    | 0, hj => obtain rfl := Option.some.inj hj; exact hc1
    | j + 1, hj => simp at hj) (fun u hu => by
    simp at hu
    rcases hu with rfl <;> rfl) (by unfold maxLen; omega) (by omega) (by simp; omega)
  have e : iR ys ++ [.int .i64 x] = iR (ys ++ [x]) := by simp [iR]
  rw [e] at h2
  exact ⟨v', w', hr, h2, h3⟩
set_option maxRecDepth 100000 in
set_option maxHeartbeats 8000000 in
theorem jobsRightF_any {w0 u : World} {pb b : Nat} {nx : Int} (h : LG w0 u pb #[.pointer (some ⟨b, 0, none⟩)] 85) (k7 : u.cell? ⟨b, 7, none⟩ = some (.int .i64 nx)) (_kl : b < u.heap.size) (x : Int) : Calls Tryz.prog 57 #[.int .i64 x, .pointer (some ⟨pb, 0, none⟩)] u fun e w' => e = .returned (.bool (nxB nx x)) ∧ Below u.heap.size u w' := by
  have x0 := h.cel 0 _ rfl
  have xl := h.lt
  have E : Hid (nxB nx x = (decide (1 ≤ x) && decide (x < nx))) := rfl
  clear h
  generalize nxB nx x = V at *
  cases q1 : decide (1 ≤ x)
  · have E2 : Hid (V = false) := (show V = false by rw [E.out, q1]; rfl)
    clear E
    go_enter Tryz.func57, Tryz.ntmps57
    go_wp2
    go_ret
    exact ⟨ret_bool E2.out.symm, Below.refl _ _⟩
  cases q2 : decide (x < nx)
  · have E2 : Hid (V = false) := (show V = false by rw [E.out, q1, q2]; rfl)
    clear E
    go_enter Tryz.func57, Tryz.ntmps57
    go_wp2
    go_ret
    exact ⟨ret_bool E2.out.symm, Below.refl _ _⟩
  have E2 : Hid (V = true) := (show V = true by rw [E.out, q1, q2]; rfl)
  clear E
  go_enter Tryz.func57, Tryz.ntmps57
  go_wp2
  go_ret
  exact ⟨ret_bool E2.out.symm, Below.refl _ _⟩
set_option maxRecDepth 100000 in
set_option maxHeartbeats 16000000 in
theorem jobsRight_any {w : World} {b : Nat} {s : MG} {a : MGA} (h : MX w b s a) (hl : MGlen s) : Calls Tryz.prog 39 #[.pointer (some ⟨b, 0, none⟩)] w fun e w' => e = .returned (.bool (jsB s)) ∧ Below w.heap.size w w' := by
  obtain ⟨aj, kj, ej⟩ := h.rows.rj.sl
  rw [h.rows.nj.len] at ej
  have HM6 : Hid (∀ u, Below w.heap.size w u → u.cell? ⟨b, 6, none⟩ = some (.slice aj s.jobs.length kj) ∧ u.cell? ⟨b, 7, none⟩ = some (.int .i64 s.next) ∧ b < u.heap.size) := fun u hu => ⟨((h.below hu).cel 6 a.vj rfl).trans (by rw [ej]), (h.below hu).cel 7 _ rfl, (h.below hu).lt⟩
  have HR : Hid (MJrow w (.slice aj s.jobs.length kj) a.qj) := (show MJrow _ _ _ by rw [← ej]; exact h.rows.rj)
  have HP : Hid (JBin w a.qj s.jobs) := h.rows.nj
  have HQ : Hid (a.qj.length = s.jobs.length) := h.rows.nj.len
  have HLJ : Hid (JBlen s.jobs) := hl.lj
  have hl1 := hl.lj.len
  have a0 : (0 : Int) ≤ (s.jobs.length : Int) := by omega
  have a1 : (s.jobs.length : Int) ≤ 1048576 := by omega
  have HL0 : Hid (LG w (w.alloc (.cells #[.pointer (some ⟨b, 0, none⟩)] 85)) w.heap.size #[.pointer (some ⟨b, 0, none⟩)] 85) := LG.new w _ _
  clear h hl ej
  generalize a.qj = qs at *
  go_enter Tryz.func39, Tryz.ntmps39
  go_upto_region 1 with fail
  generalize (w.alloc (.cells #[.pointer (some ⟨b, 0, none⟩)] 85)) = u0 at *
  generalize hbb : w.heap.size = pb at HL0 ⊢
  have HB9 : Hid (w.heap.size = pb) := hbb
  clear hbb
  have x0 := HL0.out.cel 0 _ rfl
  have xl := HL0.out.lt
  obtain ⟨m6, _, ml⟩ := HM6.out u0 HL0.out.bel
  go_wp2
  clear x0 xl m6 ml
  go_loopw [3, 11] (fun st i wr => ∃ k : Nat, k ≤ s.jobs.length ∧ i = .int .i64 k ∧ wr.ownsRow (pb + 1) 2 1 st k (iR ((s.jobs.map (·.number)).take k)) ∧ allD (jbK s.jobs) k = true ∧ LG w wr pb #[.pointer (some ⟨b, 0, none⟩)] 85) (fun _ i _ => s.jobs.length - (intOf i).toNat)
  case atStart => exact ⟨0, Nat.zero_le _, rfl, ⟨rfl, .inl ⟨rfl, rfl⟩⟩, rfl, HL0.out⟩
  case round =>
    obtain ⟨k, hk, rfl, hown, hok, hlg⟩ := hrel
    have HOK : Hid (allD (jbK s.jobs) k = true) := hok
    obtain ⟨a3, c3, rfl⟩ := i_slJ hown
    have HOW : Hid (wr.ownsRow (pb + 1) 2 1 (.slice a3 k c3) k (iR ((s.jobs.map (·.number)).take k))) := hown
    have HLG : Hid (LG w wr pb #[.pointer (some ⟨b, 0, none⟩)] 85) := hlg
    clear hok hown hlg HL0
    by_cases hlt : k < s.jobs.length
    · have hkq : k < qs.length := by rw [HQ.out]; exact hlt
      obtain ⟨g, o, cap2, hv, _, hg, hc⟩ := HR.out.resolve_left (fun h => by rw [h.1] at hkq; simp at hkq)
      injection hv with hv1 hv2 hv3
      subst hv1 hv3
      obtain ⟨d0, d1, d2, d3, d4⟩ := hc.below HLG.out.bel hg k hkq
      have hgw : g < wr.heap.size := Nat.lt_of_lt_of_le hg HLG.out.bel.size
      obtain ⟨p0, p1⟩ := HP.out.el k hkq hlt
      rw [p0] at d0 d1 d3 d4
      unfold jbQ at d0 d1 d3 d4
      simp only at d0 d1 d3 d4
      have hk0 : (0 : Int) ≤ (k : Int) := by omega
      have hk1 : (k : Int) < (s.jobs.length : Int) := by omega
      have HJK : Hid (jbK s.jobs k = jbB s.jobs[k]) := (show _ = _ by unfold jbK jA; rw [List.getD_eq_getElem?_getD, List.getElem?_eq_getElem hlt]; rfl)
      have HTK : Hid ((s.jobs.map (·.number)).take (k + 1) = (s.jobs.map (·.number)).take k ++ [s.jobs[k].number]) := (show _ = _ by rw [List.take_succ_eq_append_getElem (by simpa using hlt)]; simp)
      have HSR : Hid (∀ u, Below w.heap.size w u → Calls Tryz.prog 55 #[jbA s.jobs[k] qs[k].left] u fun e w' => e = .returned (.bool (jbB s.jobs[k])) ∧ Below u.heap.size u w') := fun u hu => jbRight_any s.jobs[k] (p1.below hu) (HLJ.out.el k hlt)
      obtain ⟨al, kl, hyl⟩ := p1.sl
      rw [hyl] at d2 HSR
      clear hc hv2 p0 p1 hyl
      unfold jbA jbC at HSR
      generalize s.jobs[k] = j at *
      have HLN : Hid (LG w (wr.alloc (.cells #[.int .i64 j.number, .string j.node, .slice al j.ls.length kl, .int .i64 j.done, .int .i64 j.state] 53)) wr.heap.size #[.int .i64 j.number, .string j.node, .slice al j.ls.length kl, .int .i64 j.done, .int .i64 j.state] 53) := ⟨HLG.out.bel.trans ((bx1 wr _).mono HLG.out.bel.size), heap_new _ _, HLG.out.bel.size⟩
      have HLP : Hid (LG w (wr.alloc (.cells #[.int .i64 j.number, .string j.node, .slice al j.ls.length kl, .int .i64 j.done, .int .i64 j.state] 53)) pb #[.pointer (some ⟨b, 0, none⟩)] 85) := HLG.out.step (bx1 _ _)
      have HOA : Hid ((wr.alloc (.cells #[.int .i64 j.number, .string j.node, .slice al j.ls.length kl, .int .i64 j.done, .int .i64 j.state] 53)).ownsRow (pb + 1) 2 1 (.slice a3 k c3) k (iR ((s.jobs.map (·.number)).take k))) := World.ownsRow.alloc HOW.out _
      go_upto_region 5 with fail
      clear d0 d1 d2 d3 d4 hgw HOW HLG
      generalize (wr.alloc (.cells #[.int .i64 j.number, .string j.node, .slice al j.ls.length kl, .int .i64 j.done, .int .i64 j.state] 53)) = v0 at *
      generalize wr.heap.size = bn at *
      have k0 := HLN.out.cel 0 _ rfl
      have k1 := HLN.out.cel 1 _ rfl
      have k2 := HLN.out.cel 2 _ rfl
      have k3 := HLN.out.cel 3 _ rfl
      have k4 := HLN.out.cel 4 _ rfl
      have kl2 := HLN.out.lt
      cases hq : jbB j
      · have hbad : Hid (jsB s = false) := (show _ = _ by unfold jsB; rw [allD_badI hlt (HJK.out.trans hq)]; rfl)
        rw [hq] at HSR
        clear hq HJK
        go_wp2_with (go_at_call 55; refine Calls.mono (HSR.out _ HLN.out.bel) ?_; rintro e u1 ⟨rfl, hb⟩; have HLN1 : Hid (LG w u1 bn _ _) := HLN.out.step hb; clear hb)
        go_ret
        exact ⟨ret_bool hbad.out.symm, HB9.out ▸ HLN1.out.bel⟩
      · have hok2 : Hid (allD (jbK s.jobs) (k + 1) = true) := (show _ = _ by rw [allD_succ, HOK.out, HJK.out, hq]; rfl)
        rw [hq] at HSR
        clear hq HJK
        go_upto_region 7 with (go_at_call 55; refine Calls.mono (HSR.out _ HLN.out.bel) ?_; rintro e u1 ⟨rfl, hb⟩; have HLN1 : Hid (LG w u1 bn #[.int .i64 j.number, .string j.node, .slice al j.ls.length kl, .int .i64 j.done, .int .i64 j.state] 53) := HLN.out.step hb; have HLP1 : Hid (LG w u1 pb #[.pointer (some ⟨b, 0, none⟩)] 85) := HLP.out.step hb; have HO1 : Hid (u1.ownsRow (pb + 1) 2 1 (.slice a3 k c3) k (iR ((s.jobs.map (·.number)).take k))) := own_belowN HOA.out hb; clear hb)
        clear k0 k1 k2 k3 k4 kl2 HLN HLP HOA HSR
        have k0 := HLN1.out.cel 0 _ rfl
        have kl2 := HLN1.out.lt
        have HAP : Hid _ := appJ HO1.out (by omega) (by have := HLP1.out.lt; omega) j.number
        go_wp2_with (at_builtin; refine wl_append_ex rfl _ _ 104 rfl _ _ rfl rfl HAP.out ?_; rintro sv u5 ⟨ho, hg5⟩; have HO5 : Hid (u5.ownsRow (pb + 1) 2 1 sv (k + 1) (iR ((s.jobs.map (·.number)).take (k + 1)))) := (by rw [HTK.out]; exact ho); have HP5 : Hid (LG w u5 pb #[.pointer (some ⟨b, 0, none⟩)] 85) := ⟨(HLP1.out.step (bx1 _ _)).bel.grown hg5 (HLP1.out.step (bx1 _ _)).bel.size (fun q hq => by have h7 := (HO1.out.lt q hq).1; have h8 := HB9.out; omega), (hg5.block pb (HLP1.out.step (bx1 _ _)).lt (fun e9 => by have h7 := (HO1.out.lt _ e9.symm).1; omega)).trans (HLP1.out.step (bx1 _ _)).box, HLP1.out.ge⟩; clear ho hg5)
        go_roundw
        case rel => exact ⟨k + 1, hlt, by go_num, HO5.out, hok2.out, HP5.out⟩
        case measure => simp [intOf]; omega
    · obtain rfl : k = s.jobs.length := by omega
      have HJS : Hid (jsB s = riI (nxB s.next) (s.jobs.map (·.number))) := (show _ = _ by unfold jsB; rw [HOK.out]; rfl)
      have HIR : Hid (Irow wr (.slice a3 s.jobs.length c3) (s.jobs.map (·.number))) := (by
        have h9 := HOW.out
        have e9 : (s.jobs.map (·.number)).take s.jobs.length = s.jobs.map (·.number) := List.take_of_length_le (by simp)
        rw [e9] at h9
        exact Irow.of (by simpa using h9))
      have HAR : Hid (Calls Tryz.prog 56 #[.slice a3 s.jobs.length c3, .func (.func 57) #[] #[.pointer (some ⟨pb, 0, none⟩)]] wr fun e w' => e = .returned (.bool (riI (nxB s.next) (s.jobs.map (·.number)))) ∧ Below wr.heap.size wr w') := areRisingI_any HIR.out (by simpa using hl1) _ _ _ (fun xs w' => by kernel_rfl) (fun x w' hw => jobsRightF_any (HLG.out.step hw) (HM6.out w' (HLG.out.step hw).bel).2.1 (HM6.out w' (HLG.out.step hw).bel).2.2 x)
      generalize riI (nxB s.next) (s.jobs.map (·.number)) = RV at *
      go_wp2_with (go_at_call 56; refine Calls.mono HAR.out ?_; rintro e u1 ⟨rfl, hb⟩; have HL1 : Hid (LG w u1 pb _ _) := HLG.out.step hb; clear hb)
      go_ret
      exact ⟨ret_bool HJS.out.symm, HB9.out ▸ HL1.out.bel⟩

def mgB (s : MG) : Bool := bdM s && kpB s.kept && jsB s && cfB s.c
def mgV (s : MG) : Int := if mgB s = true then 0 else 1
set_option maxRecDepth 100000 in
set_option maxHeartbeats 8000000 in
theorem isRightM_any {w : World} {b : Nat} {s : MG} {a : MGA} (h : MX w b s a) (hl : MGlen s) : Calls Tryz.prog 17 #[.pointer (some ⟨b, 0, none⟩)] w fun e w' => e = .returned (.bool (mgB s)) ∧ Below w.heap.size w w' := by
  have HE : Hid (mgB s = (bdM s && kpB s.kept && jsB s && cfB s.c)) := rfl
  have H1 : Hid (∀ u, Below w.heap.size w u → Calls Tryz.prog 37 #[.pointer (some ⟨b, 0, none⟩)] u fun e w' => e = .returned (.bool (bdM s)) ∧ Below u.heap.size u w') := fun u hu => Calls.mono (isBoundedM_any (h.below hu) hl) (fun e w' hh => ⟨hh.1, by rw [hh.2]; exact Below.refl _ _⟩)
  have H2 : Hid (∀ u, Below w.heap.size w u → Calls Tryz.prog 38 #[.pointer (some ⟨b, 0, none⟩)] u fun e w' => e = .returned (.bool (kpB s.kept)) ∧ Below u.heap.size u w') := fun u hu => keptRight_any (h.below hu) hl
  have H3 : Hid (∀ u, Below w.heap.size w u → Calls Tryz.prog 39 #[.pointer (some ⟨b, 0, none⟩)] u fun e w' => e = .returned (.bool (jsB s)) ∧ Below u.heap.size u w') := fun u hu => jobsRight_any (h.below hu) hl
  have H4 : Hid (∀ u, Below w.heap.size w u → Calls Tryz.prog 40 #[.pointer (some ⟨b, 0, none⟩)] u fun e w' => e = .returned (.bool (cfB s.c)) ∧ Below u.heap.size u w') := fun u hu => by
    have h9 := isRight_any (h.below hu).cx hl.lc
    rw [ir_eq] at h9
    exact h9
  have hbl := h.lt
  have HB0 : Hid (Below w.heap.size w w) := Below.refl _ _
  clear h hl
  generalize mgB s = V at *
  generalize bdM s = R1 at *
  generalize kpB s.kept = R2 at *
  generalize jsB s = R3 at *
  generalize cfB s.c = R4 at *
  cases R1
  · skip
    have E2 : Hid (V = false) := (show V = false by rw [HE.out]; simp)
    clear HE
    go_enter Tryz.func17, Tryz.ntmps17
    go_wp2_with (first | (go_at_call 37; refine Calls.mono (H1.out _ HB0.out) ?_; rintro e w1 ⟨rfl, hb⟩; have HB1 : Hid (Below w.heap.size w w1) := HB0.out.trans (hb.mono HB0.out.size); clear hb H1))
    go_ret
    exact ⟨ret_bool E2.out.symm, HB1.out⟩
  cases R2
  · skip
    have E2 : Hid (V = false) := (show V = false by rw [HE.out]; simp)
    clear HE
    go_enter Tryz.func17, Tryz.ntmps17
    go_wp2_with (first | (go_at_call 37; refine Calls.mono (H1.out _ HB0.out) ?_; rintro e w1 ⟨rfl, hb⟩; have HB1 : Hid (Below w.heap.size w w1) := HB0.out.trans (hb.mono HB0.out.size); clear hb H1) | (go_at_call 38; refine Calls.mono (H2.out _ HB1.out) ?_; rintro e w2 ⟨rfl, hb⟩; have HB2 : Hid (Below w.heap.size w w2) := HB1.out.trans (hb.mono HB1.out.size); clear hb H2))
    go_ret
    exact ⟨ret_bool E2.out.symm, HB2.out⟩
  cases R3
  · skip
    have E2 : Hid (V = false) := (show V = false by rw [HE.out]; simp)
    clear HE
    go_enter Tryz.func17, Tryz.ntmps17
    go_wp2_with (first | (go_at_call 37; refine Calls.mono (H1.out _ HB0.out) ?_; rintro e w1 ⟨rfl, hb⟩; have HB1 : Hid (Below w.heap.size w w1) := HB0.out.trans (hb.mono HB0.out.size); clear hb H1) | (go_at_call 38; refine Calls.mono (H2.out _ HB1.out) ?_; rintro e w2 ⟨rfl, hb⟩; have HB2 : Hid (Below w.heap.size w w2) := HB1.out.trans (hb.mono HB1.out.size); clear hb H2) | (go_at_call 39; refine Calls.mono (H3.out _ HB2.out) ?_; rintro e w3 ⟨rfl, hb⟩; have HB3 : Hid (Below w.heap.size w w3) := HB2.out.trans (hb.mono HB2.out.size); clear hb H3))
    go_ret
    exact ⟨ret_bool E2.out.symm, HB3.out⟩
  have E2 : Hid (V = R4) := (show V = R4 by rw [HE.out]; simp)
  clear HE
  go_enter Tryz.func17, Tryz.ntmps17
  go_wp2_with (first | (go_at_call 37; refine Calls.mono (H1.out _ HB0.out) ?_; rintro e w1 ⟨rfl, hb⟩; have HB1 : Hid (Below w.heap.size w w1) := HB0.out.trans (hb.mono HB0.out.size); clear hb H1) | (go_at_call 38; refine Calls.mono (H2.out _ HB1.out) ?_; rintro e w2 ⟨rfl, hb⟩; have HB2 : Hid (Below w.heap.size w w2) := HB1.out.trans (hb.mono HB1.out.size); clear hb H2) | (go_at_call 39; refine Calls.mono (H3.out _ HB2.out) ?_; rintro e w3 ⟨rfl, hb⟩; have HB3 : Hid (Below w.heap.size w w3) := HB2.out.trans (hb.mono HB2.out.size); clear hb H3) | (go_at_call 40; refine Calls.mono (H4.out _ HB3.out) ?_; rintro e w4 ⟨rfl, hb⟩; have HB4 : Hid (Below w.heap.size w w4) := HB3.out.trans (hb.mono HB3.out.size); clear hb H4))
  go_ret
  exact ⟨ret_bool E2.out.symm, HB4.out⟩
set_option maxRecDepth 100000 in
set_option maxHeartbeats 8000000 in
theorem implMF_any {w : World} {s : MG} {a : MGA} (h : MGRows w s a) (hl : MGlen s) : Calls Tryz.prog 7 #[mgA s a] w fun e w' => e = .returned (.int .i64 (mgV s)) ∧ Below w.heap.size w w' := by
  obtain ⟨an, kn, av, kv, ae, ke, ak, kk, aj, kj, e⟩ := h.sl
  have HL0 : Hid (LG w (w.alloc (.cells #[.slice an s.c.nodes.length kn, .slice av s.c.vms.length kv, .slice ae s.c.tenants.length ke, .int .i64 s.c.over, .int .i64 s.c.time, .slice ak s.kept.length kk, .slice aj s.jobs.length kj, .int .i64 s.next] 41)) w.heap.size #[.slice an s.c.nodes.length kn, .slice av s.c.vms.length kv, .slice ae s.c.tenants.length ke, .int .i64 s.c.over, .int .i64 s.c.time, .slice ak s.kept.length kk, .slice aj s.jobs.length kj, .int .i64 s.next] 41) := LG.new w _ _
  have HI : Hid (Calls Tryz.prog 17 #[.pointer (some ⟨w.heap.size, 0, none⟩)] (w.alloc (.cells #[.slice an s.c.nodes.length kn, .slice av s.c.vms.length kv, .slice ae s.c.tenants.length ke, .int .i64 s.c.over, .int .i64 s.c.time, .slice ak s.kept.length kk, .slice aj s.jobs.length kj, .int .i64 s.next] 41)) fun e w' => e = .returned (.bool (mgB s)) ∧ Below (w.alloc (.cells #[.slice an s.c.nodes.length kn, .slice av s.c.vms.length kv, .slice ae s.c.tenants.length ke, .int .i64 s.c.over, .int .i64 s.c.time, .slice ak s.kept.length kk, .slice aj s.jobs.length kj, .int .i64 s.next] 41)).heap.size (w.alloc (.cells #[.slice an s.c.nodes.length kn, .slice av s.c.vms.length kv, .slice ae s.c.tenants.length ke, .int .i64 s.c.over, .int .i64 s.c.time, .slice ak s.kept.length kk, .slice aj s.jobs.length kj, .int .i64 s.next] 41)) w') :=
    isRightM_any (w := w.alloc (.cells #[.slice an s.c.nodes.length kn, .slice av s.c.vms.length kv, .slice ae s.c.tenants.length ke, .int .i64 s.c.over, .int .i64 s.c.time, .slice ak s.kept.length kk, .slice aj s.jobs.length kj, .int .i64 s.next] 41)) (b := w.heap.size) (s := s) (a := a) ⟨HL0.out.lt, fun k v hk => HL0.out.cel k v (by rw [e] at hk; exact hk), h.below HL0.out.bel⟩ hl
  have HE : Hid (mgV s = if mgB s = true then 0 else 1) := rfl
  generalize a.qj = qj at e
  subst e
  clear h hl
  unfold mgA mgC
  simp only
  generalize mgV s = V at *
  generalize mgB s = R at *
  cases R
  · have E2 : Hid (V = 1) := HE.out
    clear HE
    go_enter Tryz.func7, Tryz.ntmps7
    go_upto_region 1 with fail
    generalize (w.alloc (.cells #[.slice an s.c.nodes.length kn, .slice av s.c.vms.length kv, .slice ae s.c.tenants.length ke, .int .i64 s.c.over, .int .i64 s.c.time, .slice ak s.kept.length kk, .slice aj s.jobs.length kj, .int .i64 s.next] 41)) = u0 at *
    generalize w.heap.size = b0 at *
    go_wp2_with (go_at_call 17; refine Calls.mono HI.out ?_; rintro e u1 ⟨rfl, hb⟩; have HL1 : Hid (LG w u1 b0 _ _) := HL0.out.step hb; clear hb)
    go_ret
    exact ⟨ret_int E2.out.symm, HL1.out.bel⟩
  · have E2 : Hid (V = 0) := HE.out
    clear HE
    go_enter Tryz.func7, Tryz.ntmps7
    go_upto_region 1 with fail
    generalize (w.alloc (.cells #[.slice an s.c.nodes.length kn, .slice av s.c.vms.length kv, .slice ae s.c.tenants.length ke, .int .i64 s.c.over, .int .i64 s.c.time, .slice ak s.kept.length kk, .slice aj s.jobs.length kj, .int .i64 s.next] 41)) = u0 at *
    generalize w.heap.size = b0 at *
    go_wp2_with (go_at_call 17; refine Calls.mono HI.out ?_; rintro e u1 ⟨rfl, hb⟩; have HL1 : Hid (LG w u1 b0 _ _) := HL0.out.step hb; clear hb)
    go_ret
    exact ⟨ret_int E2.out.symm, HL1.out.bel⟩
end Go.Proofs.YtalpcjclahkgnaaGreat
