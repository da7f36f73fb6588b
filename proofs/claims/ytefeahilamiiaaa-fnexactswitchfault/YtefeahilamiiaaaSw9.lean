import Derived.Test.YtefeahilamiiaaaSw8
namespace Go.Proofs.Ytefeahilamiiaaa
open Go.ChangeShapes Go.WideShapes Go.ChangeAt Go.RowKit

theorem ix_lt {es : List SE} {i : Nat} (hi : i < es.length) : decide (ixSE (kyB es[i].net es[i].addr) es < (i : Int)) = !allB (fun k => !kyB es[i].net es[i].addr (es.getD k se9)) i := by
  have hp : kyB es[i].net es[i].addr es[i] = true := by simp [kyB]
  generalize kyB es[i].net es[i].addr = p at *
  cases hq : allB (fun k => !p (es.getD k se9)) i
  · have hex : ∃ m, m < i ∧ ∃ hm : m < es.length, p es[m] = true ∧ ∀ j (hj : j < m), p (es[j]'(Nat.lt_trans hj hm)) = false := by
      have hex0 : ∃ m, m < i ∧ p (es.getD m se9) = true := by
        apply Classical.byContradiction
        intro hno
        have : allB (fun k => !p (es.getD k se9)) i = true := allB_iff.2 fun k hk => by
          cases h : p (es.getD k se9)
          · rfl
          · exact absurd ⟨k, hk, h⟩ hno
        rw [this] at hq
        cases hq
      have key : ∀ n, (∃ m, m < n ∧ m < i ∧ p (es.getD m se9) = true) → ∃ m, m < i ∧ ∃ hm : m < es.length, p es[m] = true ∧ ∀ j (hj : j < m), p (es[j]'(Nat.lt_trans hj hm)) = false := by
        intro n
        induction n with
        | zero => rintro ⟨m, hm, _⟩; omega
        | succ n ih =>
          rintro ⟨m, hm, hmi, hpm⟩
          by_cases hl : ∃ m', m' < n ∧ m' < i ∧ p (es.getD m' se9) = true
          · exact ih hl
          · have hmn : m = n := by
              apply Classical.byContradiction
              intro hne
              exact hl ⟨m, by omega, hmi, hpm⟩
            subst hmn
            have hml : m < es.length := by omega
            refine ⟨m, hmi, hml, by rw [← gde hml]; exact hpm, fun j hj => ?_⟩
            cases h : p (es[j]'(Nat.lt_trans hj hml))
            · rfl
            · exact absurd ⟨j, hj, by omega, by rw [gde (Nat.lt_trans hj hml)]; exact h⟩ hl
      obtain ⟨m, h1, h2⟩ := hex0
      exact key (m + 1) ⟨m, by omega, h1, h2⟩
    obtain ⟨m, hmi, hm, h1, h2⟩ := hex
    rw [ixSE_at hm h1 h2]
    simp
    omega
  · rw [ixSE_at hi hp (fun j hj => by
      have := allB_iff.1 hq j hj
      rw [gde (Nat.lt_trans hj hi)] at this
      simpa using this)]
    simp
def ebB (n : Nat) (t : Int) (z : SE) : Bool := !decide (z.addr < 0) && !decide (281474976710655 ≤ z.addr) && !decide (z.port < 0) && !decide ((n : Int) ≤ z.port) && !decide (z.seen < 0) && !decide (t < z.seen)
theorem entB_eq (n : Nat) (t : Int) (z : SE) : entB n t z = (ntB z.net && ebB n t z) := by
  have : (oaB z.addr && inW n z.port 1 && decide (0 ≤ z.seen) && decide (z.seen ≤ t)) = ebB n t z := by
    unfold oaB inW ebB
    rw [Bool.eq_iff_iff]
    simp only [Bool.and_eq_true, decide_eq_true_eq, Bool.not_eq_true', decide_eq_false_iff_not]
    omega
  unfold entB
  rw [← this]
  simp only [Bool.and_assoc]
def bbB (s : SW) : Bool := !decide ((s.ps.length : Int) < 1) && !decide (16 < (s.ps.length : Int)) && !decide (16 < (s.es.length : Int)) && !decide (s.time < 0) && !decide (1099511627776 < s.time) && !decide (s.age < 1) && !decide (1000000 < s.age)
theorem bdB_eq (s : SW) : bdB s = bbB s := by
  unfold bdB bbB
  rw [Bool.eq_iff_iff]
  simp only [Bool.and_eq_true, decide_eq_true_eq, Bool.not_eq_true', decide_eq_false_iff_not]
  omega
theorem swV_bd {s : SW} (h : bbB s = false) : swV s = 1 := by unfold swV swB; rw [bdB_eq, h]; rfl
theorem swV_pt {s : SW} (h : allB (pkB s.ps) s.ps.length = false) : swV s = 1 := by unfold swV swB; rw [h]; simp
theorem swV_tb {s : SW} (h : tabB s.ps.length s.time s.es = false) : swV s = 1 := by unfold swV swB; rw [h]; simp
theorem swV_ok {s : SW} (h1 : bbB s = true) (h2 : allB (pkB s.ps) s.ps.length = true) (h3 : tabB s.ps.length s.time s.es = true) : swV s = 0 := by unfold swV swB; rw [bdB_eq, h1, h2, h3]; rfl
set_option maxRecDepth 100000 in
set_option maxHeartbeats 16000000 in
theorem specSF_any {w : World} {s : SW} {a : SA} (h : SRows w s a) (hl : SLen s) : Calls Try.prog 11 #[swA s a] w fun r w' => r = .returned (.int .i64 (swV s)) ∧ Below w.heap.size w w' := by
  have HR : Hid (SRows w s a) := h
  obtain ⟨ap, kp, ae, ke, e⟩ := h.sl
  generalize a.qs = qs at e
  subst e
  have HL0 : Hid (LG w (w.alloc (.cells #[.slice ap s.ps.length kp, .slice ae s.es.length ke, .int .i64 s.time, .int .i64 s.age] 46)) w.heap.size #[.slice ap s.ps.length kp, .slice ae s.es.length ke, .int .i64 s.time, .int .i64 s.age] 46) := LG.new w _ _
  have HPO : Hid (POin w qs s.ps) := h.po
  have HPQ : Hid (PQrow w (.slice ap s.ps.length kp) qs) := h.pq
  have HSE : Hid (SErow w (.slice ae s.es.length ke) s.es) := h.se
  have HPL : Hid (∀ k (hk : k < s.ps.length), s.ps[k].ns.length ≤ 1048576) := hl.p.el
  have HN : Hid (∀ x u, Calls Try.prog 32 #[.int .i64 x] u fun r w' => r = .returned (.bool (ntB x)) ∧ w' = u) := fun x u => l16Net_any x u
  have hle := hl.e
  have hlp := hl.p.len
  have EB : Hid (bbB s = (!decide ((s.ps.length : Int) < 1) && !decide (16 < (s.ps.length : Int)) && !decide (16 < (s.es.length : Int)) && !decide (s.time < 0) && !decide (1099511627776 < s.time) && !decide (s.age < 1) && !decide (1000000 < s.age))) := rfl
  clear h hl
  unfold swA swC
  simp only
  cases h0 : decide ((s.ps.length : Int) < 1)
  · rw [h0] at EB
    cases h1 : decide (16 < (s.ps.length : Int))
    · rw [h1] at EB
      cases h2 : decide (16 < (s.es.length : Int))
      · rw [h2] at EB
        cases h3 : decide (s.time < 0)
        · rw [h3] at EB
          cases h4 : decide (1099511627776 < s.time)
          · rw [h4] at EB
            cases h5 : decide (s.age < 1)
            · rw [h5] at EB
              cases h6 : decide (1000000 < s.age)
              · rw [h6] at EB
                have HBB : Hid (bbB s = true) := (show bbB s = true by rw [EB.out]; rfl)
                clear EB
                go_enter Try.func11, Try.ntmps11
                go_upto_region 1 with fail
                generalize (w.alloc (.cells #[.slice ap s.ps.length kp, .slice ae s.es.length ke, .int .i64 s.time, .int .i64 s.age] 46)) = u0 at *
                generalize w.heap.size = b0 at *
                have c0 := HL0.out.cel 0 _ rfl
                have c1 := HL0.out.cel 1 _ rfl
                have c2 := HL0.out.cel 2 _ rfl
                have c3 := HL0.out.cel 3 _ rfl
                have cl := HL0.out.lt
                go_wp2
                clear c0 c1 c2 c3 cl h0 h1 h2 h3 h4 h5 h6
                go_loopw [3] (fun i wr => ∃ k : Nat, k ≤ s.ps.length ∧ i = .int .i64 k ∧ allB (pkB s.ps) k = true ∧ LG w wr b0 #[.slice ap s.ps.length kp, .slice ae s.es.length ke, .int .i64 s.time, .int .i64 s.age] 46) (fun i _ => s.ps.length - (intOf i).toNat)
                case atStart => exact ⟨0, Nat.zero_le _, rfl, rfl, HL0.out⟩
                case round =>
                  obtain ⟨k, hk, rfl, hok, hlg⟩ := hrel
                  have HLG : Hid (LG w wr b0 #[.slice ap s.ps.length kp, .slice ae s.es.length ke, .int .i64 s.time, .int .i64 s.age] 46) := hlg
                  have HOK : Hid (allB (pkB s.ps) k = true) := hok
                  have c0 := hlg.cel 0 _ rfl
                  have cl := hlg.lt
                  clear hok HL0
                  by_cases hlt : k < s.ps.length
                  · have hkq : k < qs.length := by rw [HPO.out.len]; exact hlt
                    obtain ⟨g, o, cap2, hv, _, hg, hc⟩ := HPQ.out.resolve_left (fun h => by rw [h.1] at hkq; simp at hkq)
                    injection hv with hv1 hv2 hv3
                    subst hv1 hv3
                    obtain ⟨d0, d1, d2, d3, d4, d5, d6⟩ := hc.below hlg.bel hg k hkq
                    have hgw : g < wr.heap.size := Nat.lt_of_lt_of_le hg hlg.bel.size
                    obtain ⟨p0, p1⟩ := HPO.out.el k hkq hlt
                    rw [p0] at d0 d2 d3 d4 d5 d6
                    unfold poQ at d0 d2 d3 d4 d5 d6
                    simp only at d0 d2 d3 d4 d5 d6
                    clear p0
                    have HT : Hid (pkB s.ps k = portB s.ps[k]) := (show pkB s.ps k = _ by unfold pkB; rw [gdp hlt])
                    have HPT : Hid (Calls Try.prog 31 #[poA s.ps[k] qs[k].nets] wr fun r w' => r = .returned (.bool (portB s.ps[k])) ∧ Below wr.heap.size wr w') := l16Port_any s.ps[k] (p1.below hlg.bel) (HPL.out k hlt)
                    generalize s.ps[k] = p at *
                    generalize qs[k].nets = y at *
                    obtain ⟨a1, k1, rfl⟩ := p1.sl
                    unfold poA poC at HPT
                    have hk0 : (0 : Int) ≤ (k : Int) := by omega
                    have hk1 : (k : Int) < (s.ps.length : Int) := by omega
                    clear hc hlg p1 hv2
                    cases g1 : portB p
                    · rw [g1] at HPT HT
                      have E : Hid (swV s = 1) := swV_pt (allB_bad hlt HT.out)
                      go_wp2_with fail
                      refine Calls.mono HPT.out ?_
                      rintro r u2 ⟨rfl, hb2⟩
                      have HL2 : Hid (LG w u2 b0 #[.slice (some ⟨g, o, none⟩) s.ps.length kp, .slice ae s.es.length ke, .int .i64 s.time, .int .i64 s.age] 46) := HLG.out.step hb2
                      clear hb2
                      go_wp2
                      go_ret
                      exact ⟨ret_int E.out.symm, HL2.out.bel⟩
                    · rw [g1] at HPT HT
                      have HT2 : Hid (allB (pkB s.ps) (k + 1) = true) := (show _ = true by rw [allB_succ, HOK.out, HT.out]; rfl)
                      go_wp2_with fail
                      refine Calls.mono HPT.out ?_
                      rintro r u2 ⟨rfl, hb2⟩
                      have HL2 : Hid (LG w u2 b0 #[.slice (some ⟨g, o, none⟩) s.ps.length kp, .slice ae s.es.length ke, .int .i64 s.time, .int .i64 s.age] 46) := HLG.out.step hb2
                      clear hb2
                      go_wp2
                      exact ⟨⟨k + 1, hlt, by go_num, HT2.out, HL2.out⟩, by simp [intOf]; omega⟩
                  · obtain rfl : k = s.ps.length := by omega
                    go_wp2
                    clear c0 cl hlg
                    generalize wr = v0 at *
                    go_loopw [4] (fun i wr => ∃ k : Nat, k ≤ s.es.length ∧ i = .int .i64 k ∧ allB (tk s.ps.length s.time s.es) k = true ∧ LG w wr b0 #[.slice ap s.ps.length kp, .slice ae s.es.length ke, .int .i64 s.time, .int .i64 s.age] 46) (fun i _ => s.es.length - (intOf i).toNat)
                    case atStart => exact ⟨0, Nat.zero_le _, rfl, rfl, HLG.out⟩
                    case round =>
                      obtain ⟨k, hk2, rfl, hok, hlg⟩ := hrel
                      have HLH : Hid (LG w wr b0 #[.slice ap s.ps.length kp, .slice ae s.es.length ke, .int .i64 s.time, .int .i64 s.age] 46) := hlg
                      have HOT : Hid (allB (tk s.ps.length s.time s.es) k = true) := hok
                      have c0 := hlg.cel 0 _ rfl
                      have c1 := hlg.cel 1 _ rfl
                      have c2 := hlg.cel 2 _ rfl
                      have cl := hlg.lt
                      clear hok HLG
                      by_cases hlt : k < s.es.length
                      · obtain ⟨g, o, cap2, hv, _, hg, hc⟩ := HSE.out.resolve_left (fun h => by rw [h.1] at hlt; simp at hlt)
                        injection hv with hv1 hv2 hv3
                        subst hv1 hv3
                        have HC : Hid (SEat w g o s.es) := hc
                        obtain ⟨d0, d1, d2, d3⟩ := hc.below hlg.bel hg k hlt
                        have hgw : g < wr.heap.size := Nat.lt_of_lt_of_le hg hlg.bel.size
                        have HT : Hid (tk s.ps.length s.time s.es k = (entB s.ps.length s.time s.es[k] && allB (fun j => !kyB s.es[k].net s.es[k].addr (s.es.getD j se9)) k)) := (show tk _ _ _ k = _ by unfold tk; rw [gde hlt, ix_lt hlt, Bool.not_not])
                        rw [entB_eq] at HT
                        unfold ebB at HT
                        have hk0 : (0 : Int) ≤ (k : Int) := by omega
                        have hk1 : (k : Int) < (s.es.length : Int) := by omega
                        generalize s.es[k] = z at *
                        have HT3 : Hid (TB w (wr.alloc (.cells #[.int .i64 z.net, .int .i64 z.addr, .int .i64 z.port, .int .i64 z.seen] 75)) b0 wr.heap.size #[.slice ap s.ps.length kp, .slice (some ⟨g, o, none⟩) s.es.length ke, .int .i64 s.time, .int .i64 s.age] 46 #[.int .i64 z.net, .int .i64 z.addr, .int .i64 z.port, .int .i64 z.seen] 75) := ⟨hlg.bel.trans ((bx1 _ _).mono hlg.bel.size), ((bx1 _ _).block _ hlg.lt).trans hlg.box, heap_new _ _, hlg.bel.size, hlg.lt⟩
                        have HB0 : Hid (w.heap.size ≤ b0) := hlg.ge
                        have HG : Hid (g < w.heap.size) := hg
                        have HNZ : Hid _ := fun u => HN.out z.net u
                        clear hc hlg hv2 hg
                        go_upto_region 12 with fail
                        generalize (wr.alloc (.cells #[.int .i64 z.net, .int .i64 z.addr, .int .i64 z.port, .int .i64 z.seen] 75)) = v1 at *
                        generalize wr.heap.size = be at *
                        clear d0 d1 d2 d3 hgw c0 c1 c2 cl HLH
                        have c0 := HT3.out.c1 0 _ rfl
                        have c2 := HT3.out.c1 2 _ rfl
                        have e0 := HT3.out.c2 0 _ rfl
                        have e1 := HT3.out.c2 1 _ rfl
                        have e2 := HT3.out.c2 2 _ rfl
                        have e3 := HT3.out.c2 3 _ rfl
                        have cl := HT3.out.lt1
                        have el := HT3.out.lt2
                        cases f9 : ntB z.net
                        · rw [f9] at HT HNZ
                          have E : Hid (swV s = 1) := swV_tb (allB_bad hlt (HT.out.trans (by simp)))
                          go_wp2_with fail
                          refine Calls.mono (HNZ.out _) ?_
                          rintro r u2 ⟨rfl, hw2⟩
                          rw [hw2]
                          clear hw2
                          go_wp2
                          go_ret
                          exact ⟨ret_int E.out.symm, HT3.out.bel⟩
                        · rw [f9] at HT HNZ
                          cases f0 : decide (z.addr < 0)
                          · rw [f0] at HT
                            cases f1 : decide (281474976710655 ≤ z.addr)
                            · rw [f1] at HT
                              cases f2 : decide (z.port < 0)
                              · rw [f2] at HT
                                cases f3 : decide ((s.ps.length : Int) ≤ z.port)
                                · rw [f3] at HT
                                  have fn : decide ((s.ps.length : Int) ≤ z.port) = false := f3
                                  cases f4 : decide (z.seen < 0)
                                  · rw [f4] at HT
                                    cases f5 : decide (s.time < z.seen)
                                    · rw [f5] at HT
                                      have HT5 : Hid (tk s.ps.length s.time s.es k = allB (fun j => !kyB z.net z.addr (s.es.getD j se9)) k) := (show tk _ _ _ k = _ by rw [HT.out]; rfl)
                                      clear HT
                                      go_wp2_with fail
                                      refine Calls.mono (HNZ.out _) ?_
                                      rintro r u2 ⟨rfl, hw2⟩
                                      rw [hw2]
                                      clear hw2
                                      go_wp2
                                      clear c0 c2 e0 e1 e2 e3 cl el f0 f1 f2 f3 f4 f5 fn
                                      go_loopw [6] (fun i wr => ∃ j : Nat, j ≤ k ∧ i = .int .i64 j ∧ allB (fun j => !kyB z.net z.addr (s.es.getD j se9)) j = true ∧ TB w wr b0 be #[.slice ap s.ps.length kp, .slice (some ⟨g, o, none⟩) s.es.length ke, .int .i64 s.time, .int .i64 s.age] 46 #[.int .i64 z.net, .int .i64 z.addr, .int .i64 z.port, .int .i64 z.seen] 75) (fun i _ => k - (intOf i).toNat)
                                      case atStart => exact ⟨0, Nat.zero_le _, rfl, rfl, HT3.out⟩
                                      case round =>
                                        obtain ⟨j, hj, rfl, hoj, htb⟩ := hrel
                                        have HTB : Hid (TB w wr b0 be #[.slice ap s.ps.length kp, .slice (some ⟨g, o, none⟩) s.es.length ke, .int .i64 s.time, .int .i64 s.age] 46 #[.int .i64 z.net, .int .i64 z.addr, .int .i64 z.port, .int .i64 z.seen] 75) := htb
                                        have HOJ : Hid (allB (fun j => !kyB z.net z.addr (s.es.getD j se9)) j = true) := hoj
                                        clear hoj HT3
                                        by_cases hjk : j < k
                                        · have hjl : j < s.es.length := by omega
                                          have HD : Hid (∀ u, Aft w u → _) := fun u (hu : Aft w u) => HC.out.below hu.out HG.out j hjl
                                          have HGW : Hid (∀ u, Aft w u → g < u.heap.size) := fun u hu => Nat.lt_of_lt_of_le HG.out hu.out.size
                                          have HY : Hid (allB (fun j => !kyB z.net z.addr (s.es.getD j se9)) (j + 1) = (allB (fun j => !kyB z.net z.addr (s.es.getD j se9)) j && !(s.es[j].net == z.net && s.es[j].addr == z.addr))) := (show _ = _ by rw [allB_succ, gde hjl]; rfl)
                                          have HYB : Hid ((s.es[j].net == z.net && s.es[j].addr == z.addr) = true → swV s = 1) := fun hh => swV_tb (allB_bad hlt (HT5.out.trans (allB_bad hjk (by rw [gde hjl]; show (!(s.es[j].net == z.net && s.es[j].addr == z.addr)) = false; rw [hh]; rfl))))
                                          generalize s.es[j] = y at *
                                          have hj0 : (0 : Int) ≤ (j : Int) := by omega
                                          have hj1 : (j : Int) < (s.es.length : Int) := by omega
                                          have hj2 : (j : Int) < (k : Int) := by omega
                                          have hj3 : decide (j < k) = true := decide_eq_true hjk
                                          clear htb
                                          cases g7 : (y.net == z.net)
                                          · rw [g7] at HY HYB
                                            go_upto_region 17 with fail
                                            have HSB : Hid (TB w wr.drew b0 be #[.slice ap s.ps.length kp, .slice (some ⟨g, o, none⟩) s.es.length ke, .int .i64 s.time, .int .i64 s.age] 46 #[.int .i64 z.net, .int .i64 z.addr, .int .i64 z.port, .int .i64 z.seen] 75) := HTB.out.drew
                                            refine wp_region_held (S := fun w9 => TB w w9 b0 be #[.slice ap s.ps.length kp, .slice (some ⟨g, o, none⟩) s.es.length ke, .int .i64 s.time, .int .i64 s.age] 46 #[.int .i64 z.net, .int .i64 z.addr, .int .i64 z.port, .int .i64 z.seen] 75) (by kernel_rfl) ?_
                                            change wpAnyH _ _ _ _ _ _ _ _ (World.drew _)
                                            refine wpAnyH_take (i := 0) (v := .pointer (some ⟨b0, 1, none⟩)) rfl (by kernel_rfl) (by kernel_rfl) (by kernel_rfl) (fun _ _ _ h => h) (Or.inl ⟨by kernel_rfl, fun w9 h9 => ?_⟩) HSB.out ?_
                                            · clear h9; go_simp
                                            refine wpAnyH_take (i := 1) (v := .slice (some ⟨g, o, none⟩) s.es.length ke) rfl (by kernel_rfl) (by kernel_rfl) (by kernel_rfl) (fun _ _ _ h => h) (Or.inl ⟨by kernel_rfl, fun w9 h9 => ?_⟩) HSB.out ?_
                                            · have x1 := h9.c1 1 _ rfl; have y0 := h9.c2 0 _ rfl; have y1 := h9.c2 1 _ rfl; have xl := h9.lt1; have yl := h9.lt2; obtain ⟨q0, q1, q2, q3⟩ := HD.out _ h9.aft; have ql := HGW.out _ h9.aft; clear h9; go_simp
                                            refine wpAnyH_take (i := 2) (v := .int .i64 (j : Int)) rfl (by kernel_rfl) (by kernel_rfl) (by kernel_rfl) (fun _ _ _ h => h) (Or.inl ⟨by kernel_rfl, fun w9 h9 => ?_⟩) HSB.out ?_
                                            · clear h9; go_simp
                                            refine wpAnyH_take (i := 3) (v := .pointer (some ⟨g, o + j * 4, none⟩)) rfl (by kernel_rfl) (by kernel_rfl) (by kernel_rfl) (fun _ _ _ h => h) (Or.inl ⟨by kernel_rfl, fun w9 h9 => ?_⟩) HSB.out ?_
                                            · clear h9; go_simp
                                            refine wpAnyH_take (i := 4) (v := .pointer (some ⟨g, o + j * 4, none⟩)) rfl (by kernel_rfl) (by kernel_rfl) (by kernel_rfl) (fun _ _ _ h => h) (Or.inl ⟨by kernel_rfl, fun w9 h9 => ?_⟩) HSB.out ?_
                                            · clear h9; go_simp
                                            refine wpAnyH_take (i := 5) (v := .int .i64 y.net) rfl (by kernel_rfl) (by kernel_rfl) (by kernel_rfl) (fun _ _ _ h => h) (Or.inl ⟨by kernel_rfl, fun w9 h9 => ?_⟩) HSB.out ?_
                                            · have x1 := h9.c1 1 _ rfl; have y0 := h9.c2 0 _ rfl; have y1 := h9.c2 1 _ rfl; have xl := h9.lt1; have yl := h9.lt2; obtain ⟨q0, q1, q2, q3⟩ := HD.out _ h9.aft; have ql := HGW.out _ h9.aft; clear h9; go_simp
                                            refine wpAnyH_take (i := 6) (v := .pointer (some ⟨be, 0, none⟩)) rfl (by kernel_rfl) (by kernel_rfl) (by kernel_rfl) (fun _ _ _ h => h) (Or.inl ⟨by kernel_rfl, fun w9 h9 => ?_⟩) HSB.out ?_
                                            · clear h9; go_simp
                                            refine wpAnyH_take (i := 7) (v := .int .i64 z.net) rfl (by kernel_rfl) (by kernel_rfl) (by kernel_rfl) (fun _ _ _ h => h) (Or.inl ⟨by kernel_rfl, fun w9 h9 => ?_⟩) HSB.out ?_
                                            · have x1 := h9.c1 1 _ rfl; have y0 := h9.c2 0 _ rfl; have y1 := h9.c2 1 _ rfl; have xl := h9.lt1; have yl := h9.lt2; obtain ⟨q0, q1, q2, q3⟩ := HD.out _ h9.aft; have ql := HGW.out _ h9.aft; clear h9; go_simp
                                            refine wpAnyH_take (i := 8) (v := .bool false) rfl (by kernel_rfl) (by kernel_rfl) (by kernel_rfl) (fun _ _ _ h => h) (Or.inl ⟨by kernel_rfl, fun w9 h9 => ?_⟩) HSB.out ?_
                                            · clear h9; go_simp
                                            refine wpAnyH_take (i := 9) (v := .bool false) rfl (by kernel_rfl) (by kernel_rfl) (by kernel_rfl) (fun _ _ _ h => h) (Or.inl ⟨by kernel_rfl, fun w9 h9 => ?_⟩) HSB.out ?_
                                            · clear h9; go_simp
                                            refine wpAnyH_take (i := 10) (v := undef) rfl (by kernel_rfl) (by kernel_rfl) (by kernel_rfl) (fun _ _ _ h => h) (Or.inr ⟨by kernel_rfl, rfl⟩) HSB.out ?_
                                            refine wpAnyH_take (i := 11) (v := undef) rfl (by kernel_rfl) (by kernel_rfl) (by kernel_rfl) (fun _ _ _ h => h) (Or.inr ⟨by kernel_rfl, rfl⟩) HSB.out ?_
                                            refine wpAnyH_take (i := 12) (v := undef) rfl (by kernel_rfl) (by kernel_rfl) (by kernel_rfl) (fun _ _ _ h => h) (Or.inr ⟨by kernel_rfl, rfl⟩) HSB.out ?_
                                            refine wpAnyH_take (i := 13) (v := undef) rfl (by kernel_rfl) (by kernel_rfl) (by kernel_rfl) (fun _ _ _ h => h) (Or.inr ⟨by kernel_rfl, rfl⟩) HSB.out ?_
                                            refine wpAnyH_take (i := 14) (v := undef) rfl (by kernel_rfl) (by kernel_rfl) (by kernel_rfl) (fun _ _ _ h => h) (Or.inr ⟨by kernel_rfl, rfl⟩) HSB.out ?_
                                            refine wpAnyH_take (i := 15) (v := undef) rfl (by kernel_rfl) (by kernel_rfl) (by kernel_rfl) (fun _ _ _ h => h) (Or.inr ⟨by kernel_rfl, rfl⟩) HSB.out ?_
                                            refine wpAnyH_take (i := 16) (v := undef) rfl (by kernel_rfl) (by kernel_rfl) (by kernel_rfl) (fun _ _ _ h => h) (Or.inr ⟨by kernel_rfl, rfl⟩) HSB.out ?_
                                            refine wpAnyH_take (i := 17) (v := undef) rfl (by kernel_rfl) (by kernel_rfl) (by kernel_rfl) (fun _ _ _ h => h) (Or.inr ⟨by kernel_rfl, rfl⟩) HSB.out ?_
                                            refine wpAnyH_take (i := 18) (v := undef) rfl (by kernel_rfl) (by kernel_rfl) (by kernel_rfl) (fun _ _ _ h => h) (Or.inr ⟨by kernel_rfl, rfl⟩) HSB.out ?_
                                            refine wpAnyH_take (i := 19) (v := .bool false) rfl (by kernel_rfl) (by kernel_rfl) (by kernel_rfl) (fun _ _ _ h => h) (Or.inl ⟨by kernel_rfl, fun w9 h9 => ?_⟩) HSB.out ?_
                                            · clear h9; go_simp
                                            refine wpAnyH_done (by kernel_rfl) ?_ _
                                            go_simp
                                            have HY2 : Hid (allB (fun j => !kyB z.net z.addr (s.es.getD j se9)) (j + 1) = true) := (show _ = true by rw [HY.out, HOJ.out]; rfl)
                                            go_wp2
                                            exact ⟨⟨j + 1, hjk, by go_num, HY2.out, HSB.out⟩, by simp [intOf]; omega⟩
                                          · rw [g7] at HY HYB
                                            cases g8 : (y.addr == z.addr)
                                            · rw [g8] at HY HYB
                                              go_upto_region 17 with fail
                                              have HSB : Hid (TB w wr.drew b0 be #[.slice ap s.ps.length kp, .slice (some ⟨g, o, none⟩) s.es.length ke, .int .i64 s.time, .int .i64 s.age] 46 #[.int .i64 z.net, .int .i64 z.addr, .int .i64 z.port, .int .i64 z.seen] 75) := HTB.out.drew
                                              refine wp_region_held (S := fun w9 => TB w w9 b0 be #[.slice ap s.ps.length kp, .slice (some ⟨g, o, none⟩) s.es.length ke, .int .i64 s.time, .int .i64 s.age] 46 #[.int .i64 z.net, .int .i64 z.addr, .int .i64 z.port, .int .i64 z.seen] 75) (by kernel_rfl) ?_
                                              change wpAnyH _ _ _ _ _ _ _ _ (World.drew _)
                                              refine wpAnyH_take (i := 0) (v := .pointer (some ⟨b0, 1, none⟩)) rfl (by kernel_rfl) (by kernel_rfl) (by kernel_rfl) (fun _ _ _ h => h) (Or.inl ⟨by kernel_rfl, fun w9 h9 => ?_⟩) HSB.out ?_
                                              · clear h9; go_simp
                                              refine wpAnyH_take (i := 1) (v := .slice (some ⟨g, o, none⟩) s.es.length ke) rfl (by kernel_rfl) (by kernel_rfl) (by kernel_rfl) (fun _ _ _ h => h) (Or.inl ⟨by kernel_rfl, fun w9 h9 => ?_⟩) HSB.out ?_
                                              · have x1 := h9.c1 1 _ rfl; have y0 := h9.c2 0 _ rfl; have y1 := h9.c2 1 _ rfl; have xl := h9.lt1; have yl := h9.lt2; obtain ⟨q0, q1, q2, q3⟩ := HD.out _ h9.aft; have ql := HGW.out _ h9.aft; clear h9; go_simp
                                              refine wpAnyH_take (i := 2) (v := .int .i64 (j : Int)) rfl (by kernel_rfl) (by kernel_rfl) (by kernel_rfl) (fun _ _ _ h => h) (Or.inl ⟨by kernel_rfl, fun w9 h9 => ?_⟩) HSB.out ?_
                                              · clear h9; go_simp
                                              refine wpAnyH_take (i := 3) (v := .pointer (some ⟨g, o + j * 4, none⟩)) rfl (by kernel_rfl) (by kernel_rfl) (by kernel_rfl) (fun _ _ _ h => h) (Or.inl ⟨by kernel_rfl, fun w9 h9 => ?_⟩) HSB.out ?_
                                              · clear h9; go_simp
                                              refine wpAnyH_take (i := 4) (v := .pointer (some ⟨g, o + j * 4, none⟩)) rfl (by kernel_rfl) (by kernel_rfl) (by kernel_rfl) (fun _ _ _ h => h) (Or.inl ⟨by kernel_rfl, fun w9 h9 => ?_⟩) HSB.out ?_
                                              · clear h9; go_simp
                                              refine wpAnyH_take (i := 5) (v := .int .i64 y.net) rfl (by kernel_rfl) (by kernel_rfl) (by kernel_rfl) (fun _ _ _ h => h) (Or.inl ⟨by kernel_rfl, fun w9 h9 => ?_⟩) HSB.out ?_
                                              · have x1 := h9.c1 1 _ rfl; have y0 := h9.c2 0 _ rfl; have y1 := h9.c2 1 _ rfl; have xl := h9.lt1; have yl := h9.lt2; obtain ⟨q0, q1, q2, q3⟩ := HD.out _ h9.aft; have ql := HGW.out _ h9.aft; clear h9; go_simp
                                              refine wpAnyH_take (i := 6) (v := .pointer (some ⟨be, 0, none⟩)) rfl (by kernel_rfl) (by kernel_rfl) (by kernel_rfl) (fun _ _ _ h => h) (Or.inl ⟨by kernel_rfl, fun w9 h9 => ?_⟩) HSB.out ?_
                                              · clear h9; go_simp
                                              refine wpAnyH_take (i := 7) (v := .int .i64 z.net) rfl (by kernel_rfl) (by kernel_rfl) (by kernel_rfl) (fun _ _ _ h => h) (Or.inl ⟨by kernel_rfl, fun w9 h9 => ?_⟩) HSB.out ?_
                                              · have x1 := h9.c1 1 _ rfl; have y0 := h9.c2 0 _ rfl; have y1 := h9.c2 1 _ rfl; have xl := h9.lt1; have yl := h9.lt2; obtain ⟨q0, q1, q2, q3⟩ := HD.out _ h9.aft; have ql := HGW.out _ h9.aft; clear h9; go_simp
                                              refine wpAnyH_take (i := 8) (v := .bool true) rfl (by kernel_rfl) (by kernel_rfl) (by kernel_rfl) (fun _ _ _ h => h) (Or.inl ⟨by kernel_rfl, fun w9 h9 => ?_⟩) HSB.out ?_
                                              · clear h9; go_simp
                                              refine wpAnyH_take (i := 9) (v := .bool true) rfl (by kernel_rfl) (by kernel_rfl) (by kernel_rfl) (fun _ _ _ h => h) (Or.inl ⟨by kernel_rfl, fun w9 h9 => ?_⟩) HSB.out ?_
                                              · clear h9; go_simp
                                              refine wpAnyH_take (i := 10) (v := .pointer (some ⟨b0, 1, none⟩)) rfl (by kernel_rfl) (by kernel_rfl) (by kernel_rfl) (fun _ _ _ h => h) (Or.inl ⟨by kernel_rfl, fun w9 h9 => ?_⟩) HSB.out ?_
                                              · clear h9; go_simp
                                              refine wpAnyH_take (i := 11) (v := .slice (some ⟨g, o, none⟩) s.es.length ke) rfl (by kernel_rfl) (by kernel_rfl) (by kernel_rfl) (fun _ _ _ h => h) (Or.inl ⟨by kernel_rfl, fun w9 h9 => ?_⟩) HSB.out ?_
                                              · have x1 := h9.c1 1 _ rfl; have y0 := h9.c2 0 _ rfl; have y1 := h9.c2 1 _ rfl; have xl := h9.lt1; have yl := h9.lt2; obtain ⟨q0, q1, q2, q3⟩ := HD.out _ h9.aft; have ql := HGW.out _ h9.aft; clear h9; go_simp
                                              refine wpAnyH_take (i := 12) (v := .int .i64 (j : Int)) rfl (by kernel_rfl) (by kernel_rfl) (by kernel_rfl) (fun _ _ _ h => h) (Or.inl ⟨by kernel_rfl, fun w9 h9 => ?_⟩) HSB.out ?_
                                              · clear h9; go_simp
                                              refine wpAnyH_take (i := 13) (v := .pointer (some ⟨g, o + j * 4, none⟩)) rfl (by kernel_rfl) (by kernel_rfl) (by kernel_rfl) (fun _ _ _ h => h) (Or.inl ⟨by kernel_rfl, fun w9 h9 => ?_⟩) HSB.out ?_
                                              · clear h9; go_simp
                                              refine wpAnyH_take (i := 14) (v := .pointer (some ⟨g, o + j * 4 + 1, none⟩)) rfl (by kernel_rfl) (by kernel_rfl) (by kernel_rfl) (fun _ _ _ h => h) (Or.inl ⟨by kernel_rfl, fun w9 h9 => ?_⟩) HSB.out ?_
                                              · clear h9; go_simp
                                              refine wpAnyH_take (i := 15) (v := .int .i64 y.addr) rfl (by kernel_rfl) (by kernel_rfl) (by kernel_rfl) (fun _ _ _ h => h) (Or.inl ⟨by kernel_rfl, fun w9 h9 => ?_⟩) HSB.out ?_
                                              · have x1 := h9.c1 1 _ rfl; have y0 := h9.c2 0 _ rfl; have y1 := h9.c2 1 _ rfl; have xl := h9.lt1; have yl := h9.lt2; obtain ⟨q0, q1, q2, q3⟩ := HD.out _ h9.aft; have ql := HGW.out _ h9.aft; clear h9; go_simp
                                              refine wpAnyH_take (i := 16) (v := .pointer (some ⟨be, 1, none⟩)) rfl (by kernel_rfl) (by kernel_rfl) (by kernel_rfl) (fun _ _ _ h => h) (Or.inl ⟨by kernel_rfl, fun w9 h9 => ?_⟩) HSB.out ?_
                                              · clear h9; go_simp
                                              refine wpAnyH_take (i := 17) (v := .int .i64 z.addr) rfl (by kernel_rfl) (by kernel_rfl) (by kernel_rfl) (fun _ _ _ h => h) (Or.inl ⟨by kernel_rfl, fun w9 h9 => ?_⟩) HSB.out ?_
                                              · have x1 := h9.c1 1 _ rfl; have y0 := h9.c2 0 _ rfl; have y1 := h9.c2 1 _ rfl; have xl := h9.lt1; have yl := h9.lt2; obtain ⟨q0, q1, q2, q3⟩ := HD.out _ h9.aft; have ql := HGW.out _ h9.aft; clear h9; go_simp
                                              refine wpAnyH_take (i := 18) (v := .bool false) rfl (by kernel_rfl) (by kernel_rfl) (by kernel_rfl) (fun _ _ _ h => h) (Or.inl ⟨by kernel_rfl, fun w9 h9 => ?_⟩) HSB.out ?_
                                              · clear h9; go_simp
                                              refine wpAnyH_take (i := 19) (v := .bool false) rfl (by kernel_rfl) (by kernel_rfl) (by kernel_rfl) (fun _ _ _ h => h) (Or.inl ⟨by kernel_rfl, fun w9 h9 => ?_⟩) HSB.out ?_
                                              · clear h9; go_simp
                                              refine wpAnyH_done (by kernel_rfl) ?_ _
                                              go_simp
                                              have HY2 : Hid (allB (fun j => !kyB z.net z.addr (s.es.getD j se9)) (j + 1) = true) := (show _ = true by rw [HY.out, HOJ.out]; rfl)
                                              go_wp2
                                              exact ⟨⟨j + 1, hjk, by go_num, HY2.out, HSB.out⟩, by simp [intOf]; omega⟩
                                            · rw [g8] at HY HYB
                                              go_upto_region 17 with fail
                                              have HSB : Hid (TB w wr.drew b0 be #[.slice ap s.ps.length kp, .slice (some ⟨g, o, none⟩) s.es.length ke, .int .i64 s.time, .int .i64 s.age] 46 #[.int .i64 z.net, .int .i64 z.addr, .int .i64 z.port, .int .i64 z.seen] 75) := HTB.out.drew
                                              refine wp_region_held (S := fun w9 => TB w w9 b0 be #[.slice ap s.ps.length kp, .slice (some ⟨g, o, none⟩) s.es.length ke, .int .i64 s.time, .int .i64 s.age] 46 #[.int .i64 z.net, .int .i64 z.addr, .int .i64 z.port, .int .i64 z.seen] 75) (by kernel_rfl) ?_
                                              change wpAnyH _ _ _ _ _ _ _ _ (World.drew _)
                                              refine wpAnyH_take (i := 0) (v := .pointer (some ⟨b0, 1, none⟩)) rfl (by kernel_rfl) (by kernel_rfl) (by kernel_rfl) (fun _ _ _ h => h) (Or.inl ⟨by kernel_rfl, fun w9 h9 => ?_⟩) HSB.out ?_
                                              · clear h9; go_simp
                                              refine wpAnyH_take (i := 1) (v := .slice (some ⟨g, o, none⟩) s.es.length ke) rfl (by kernel_rfl) (by kernel_rfl) (by kernel_rfl) (fun _ _ _ h => h) (Or.inl ⟨by kernel_rfl, fun w9 h9 => ?_⟩) HSB.out ?_
                                              · have x1 := h9.c1 1 _ rfl; have y0 := h9.c2 0 _ rfl; have y1 := h9.c2 1 _ rfl; have xl := h9.lt1; have yl := h9.lt2; obtain ⟨q0, q1, q2, q3⟩ := HD.out _ h9.aft; have ql := HGW.out _ h9.aft; clear h9; go_simp
                                              refine wpAnyH_take (i := 2) (v := .int .i64 (j : Int)) rfl (by kernel_rfl) (by kernel_rfl) (by kernel_rfl) (fun _ _ _ h => h) (Or.inl ⟨by kernel_rfl, fun w9 h9 => ?_⟩) HSB.out ?_
                                              · clear h9; go_simp
                                              refine wpAnyH_take (i := 3) (v := .pointer (some ⟨g, o + j * 4, none⟩)) rfl (by kernel_rfl) (by kernel_rfl) (by kernel_rfl) (fun _ _ _ h => h) (Or.inl ⟨by kernel_rfl, fun w9 h9 => ?_⟩) HSB.out ?_
                                              · clear h9; go_simp
                                              refine wpAnyH_take (i := 4) (v := .pointer (some ⟨g, o + j * 4, none⟩)) rfl (by kernel_rfl) (by kernel_rfl) (by kernel_rfl) (fun _ _ _ h => h) (Or.inl ⟨by kernel_rfl, fun w9 h9 => ?_⟩) HSB.out ?_
                                              · clear h9; go_simp
                                              refine wpAnyH_take (i := 5) (v := .int .i64 y.net) rfl (by kernel_rfl) (by kernel_rfl) (by kernel_rfl) (fun _ _ _ h => h) (Or.inl ⟨by kernel_rfl, fun w9 h9 => ?_⟩) HSB.out ?_
                                              · have x1 := h9.c1 1 _ rfl; have y0 := h9.c2 0 _ rfl; have y1 := h9.c2 1 _ rfl; have xl := h9.lt1; have yl := h9.lt2; obtain ⟨q0, q1, q2, q3⟩ := HD.out _ h9.aft; have ql := HGW.out _ h9.aft; clear h9; go_simp
                                              refine wpAnyH_take (i := 6) (v := .pointer (some ⟨be, 0, none⟩)) rfl (by kernel_rfl) (by kernel_rfl) (by kernel_rfl) (fun _ _ _ h => h) (Or.inl ⟨by kernel_rfl, fun w9 h9 => ?_⟩) HSB.out ?_
                                              · clear h9; go_simp
                                              refine wpAnyH_take (i := 7) (v := .int .i64 z.net) rfl (by kernel_rfl) (by kernel_rfl) (by kernel_rfl) (fun _ _ _ h => h) (Or.inl ⟨by kernel_rfl, fun w9 h9 => ?_⟩) HSB.out ?_
                                              · have x1 := h9.c1 1 _ rfl; have y0 := h9.c2 0 _ rfl; have y1 := h9.c2 1 _ rfl; have xl := h9.lt1; have yl := h9.lt2; obtain ⟨q0, q1, q2, q3⟩ := HD.out _ h9.aft; have ql := HGW.out _ h9.aft; clear h9; go_simp
                                              refine wpAnyH_take (i := 8) (v := .bool true) rfl (by kernel_rfl) (by kernel_rfl) (by kernel_rfl) (fun _ _ _ h => h) (Or.inl ⟨by kernel_rfl, fun w9 h9 => ?_⟩) HSB.out ?_
                                              · clear h9; go_simp
                                              refine wpAnyH_take (i := 9) (v := .bool true) rfl (by kernel_rfl) (by kernel_rfl) (by kernel_rfl) (fun _ _ _ h => h) (Or.inl ⟨by kernel_rfl, fun w9 h9 => ?_⟩) HSB.out ?_
                                              · clear h9; go_simp
                                              refine wpAnyH_take (i := 10) (v := .pointer (some ⟨b0, 1, none⟩)) rfl (by kernel_rfl) (by kernel_rfl) (by kernel_rfl) (fun _ _ _ h => h) (Or.inl ⟨by kernel_rfl, fun w9 h9 => ?_⟩) HSB.out ?_
                                              · clear h9; go_simp
                                              refine wpAnyH_take (i := 11) (v := .slice (some ⟨g, o, none⟩) s.es.length ke) rfl (by kernel_rfl) (by kernel_rfl) (by kernel_rfl) (fun _ _ _ h => h) (Or.inl ⟨by kernel_rfl, fun w9 h9 => ?_⟩) HSB.out ?_
                                              · have x1 := h9.c1 1 _ rfl; have y0 := h9.c2 0 _ rfl; have y1 := h9.c2 1 _ rfl; have xl := h9.lt1; have yl := h9.lt2; obtain ⟨q0, q1, q2, q3⟩ := HD.out _ h9.aft; have ql := HGW.out _ h9.aft; clear h9; go_simp
                                              refine wpAnyH_take (i := 12) (v := .int .i64 (j : Int)) rfl (by kernel_rfl) (by kernel_rfl) (by kernel_rfl) (fun _ _ _ h => h) (Or.inl ⟨by kernel_rfl, fun w9 h9 => ?_⟩) HSB.out ?_
                                              · clear h9; go_simp
                                              refine wpAnyH_take (i := 13) (v := .pointer (some ⟨g, o + j * 4, none⟩)) rfl (by kernel_rfl) (by kernel_rfl) (by kernel_rfl) (fun _ _ _ h => h) (Or.inl ⟨by kernel_rfl, fun w9 h9 => ?_⟩) HSB.out ?_
                                              · clear h9; go_simp
                                              refine wpAnyH_take (i := 14) (v := .pointer (some ⟨g, o + j * 4 + 1, none⟩)) rfl (by kernel_rfl) (by kernel_rfl) (by kernel_rfl) (fun _ _ _ h => h) (Or.inl ⟨by kernel_rfl, fun w9 h9 => ?_⟩) HSB.out ?_
                                              · clear h9; go_simp
                                              refine wpAnyH_take (i := 15) (v := .int .i64 y.addr) rfl (by kernel_rfl) (by kernel_rfl) (by kernel_rfl) (fun _ _ _ h => h) (Or.inl ⟨by kernel_rfl, fun w9 h9 => ?_⟩) HSB.out ?_
                                              · have x1 := h9.c1 1 _ rfl; have y0 := h9.c2 0 _ rfl; have y1 := h9.c2 1 _ rfl; have xl := h9.lt1; have yl := h9.lt2; obtain ⟨q0, q1, q2, q3⟩ := HD.out _ h9.aft; have ql := HGW.out _ h9.aft; clear h9; go_simp
                                              refine wpAnyH_take (i := 16) (v := .pointer (some ⟨be, 1, none⟩)) rfl (by kernel_rfl) (by kernel_rfl) (by kernel_rfl) (fun _ _ _ h => h) (Or.inl ⟨by kernel_rfl, fun w9 h9 => ?_⟩) HSB.out ?_
                                              · clear h9; go_simp
                                              refine wpAnyH_take (i := 17) (v := .int .i64 z.addr) rfl (by kernel_rfl) (by kernel_rfl) (by kernel_rfl) (fun _ _ _ h => h) (Or.inl ⟨by kernel_rfl, fun w9 h9 => ?_⟩) HSB.out ?_
                                              · have x1 := h9.c1 1 _ rfl; have y0 := h9.c2 0 _ rfl; have y1 := h9.c2 1 _ rfl; have xl := h9.lt1; have yl := h9.lt2; obtain ⟨q0, q1, q2, q3⟩ := HD.out _ h9.aft; have ql := HGW.out _ h9.aft; clear h9; go_simp
                                              refine wpAnyH_take (i := 18) (v := .bool true) rfl (by kernel_rfl) (by kernel_rfl) (by kernel_rfl) (fun _ _ _ h => h) (Or.inl ⟨by kernel_rfl, fun w9 h9 => ?_⟩) HSB.out ?_
                                              · clear h9; go_simp
                                              refine wpAnyH_take (i := 19) (v := .bool true) rfl (by kernel_rfl) (by kernel_rfl) (by kernel_rfl) (fun _ _ _ h => h) (Or.inl ⟨by kernel_rfl, fun w9 h9 => ?_⟩) HSB.out ?_
                                              · clear h9; go_simp
                                              refine wpAnyH_done (by kernel_rfl) ?_ _
                                              go_simp
                                              have E : Hid (swV s = 1) := HYB.out rfl
                                              go_wp2
                                              go_ret
                                              exact ⟨ret_int E.out.symm, HSB.out.bel⟩
                                        · obtain rfl : j = k := by omega
                                          have HT9 : Hid (allB (tk s.ps.length s.time s.es) (j + 1) = true) := (show _ = true by rw [allB_succ, HOT.out, HT5.out, HOJ.out]; rfl)
                                          have HL9 : Hid (LG w wr b0 #[.slice ap s.ps.length kp, .slice (some ⟨g, o, none⟩) s.es.length ke, .int .i64 s.time, .int .i64 s.age] 46) := ⟨HTB.out.bel, HTB.out.h1, HB0.out⟩
                                          go_wp2
                                          exact ⟨⟨j + 1, hlt, by go_num, HT9.out, HL9.out⟩, by simp [intOf]; omega⟩
                                    · rw [f5] at HT
                                      have E : Hid (swV s = 1) := swV_tb (allB_bad hlt (HT.out.trans (by simp)))
                                      go_wp2_with fail
                                      refine Calls.mono (HNZ.out _) ?_
                                      rintro r u2 ⟨rfl, hw2⟩
                                      rw [hw2]
                                      clear hw2
                                      go_wp2
                                      go_ret
                                      exact ⟨ret_int E.out.symm, HT3.out.bel⟩
                                  · rw [f4] at HT
                                    have E : Hid (swV s = 1) := swV_tb (allB_bad hlt (HT.out.trans (by simp)))
                                    go_wp2_with fail
                                    refine Calls.mono (HNZ.out _) ?_
                                    rintro r u2 ⟨rfl, hw2⟩
                                    rw [hw2]
                                    clear hw2
                                    go_wp2
                                    go_ret
                                    exact ⟨ret_int E.out.symm, HT3.out.bel⟩
                                · rw [f3] at HT
                                  have E : Hid (swV s = 1) := swV_tb (allB_bad hlt (HT.out.trans (by simp)))
                                  go_wp2_with fail
                                  refine Calls.mono (HNZ.out _) ?_
                                  rintro r u2 ⟨rfl, hw2⟩
                                  rw [hw2]
                                  clear hw2
                                  go_wp2
                                  go_ret
                                  exact ⟨ret_int E.out.symm, HT3.out.bel⟩
                              · rw [f2] at HT
                                have E : Hid (swV s = 1) := swV_tb (allB_bad hlt (HT.out.trans (by simp)))
                                go_wp2_with fail
                                refine Calls.mono (HNZ.out _) ?_
                                rintro r u2 ⟨rfl, hw2⟩
                                rw [hw2]
                                clear hw2
                                go_wp2
                                go_ret
                                exact ⟨ret_int E.out.symm, HT3.out.bel⟩
                            · rw [f1] at HT
                              have E : Hid (swV s = 1) := swV_tb (allB_bad hlt (HT.out.trans (by simp)))
                              go_wp2_with fail
                              refine Calls.mono (HNZ.out _) ?_
                              rintro r u2 ⟨rfl, hw2⟩
                              rw [hw2]
                              clear hw2
                              go_wp2
                              go_ret
                              exact ⟨ret_int E.out.symm, HT3.out.bel⟩
                          · rw [f0] at HT
                            have E : Hid (swV s = 1) := swV_tb (allB_bad hlt (HT.out.trans (by simp)))
                            go_wp2_with fail
                            refine Calls.mono (HNZ.out _) ?_
                            rintro r u2 ⟨rfl, hw2⟩
                            rw [hw2]
                            clear hw2
                            go_wp2
                            go_ret
                            exact ⟨ret_int E.out.symm, HT3.out.bel⟩
                      · obtain rfl : k = s.es.length := by omega
                        have E : Hid (swV s = 0) := swV_ok HBB.out HOK.out HOT.out
                        go_wp2
                        go_ret
                        exact ⟨ret_int E.out.symm, HLH.out.bel⟩
              · rw [h6] at EB
                have E : Hid (swV s = 1) := swV_bd (by rw [EB.out]; simp)
                go_enter Try.func11, Try.ntmps11
                go_upto_region 1 with fail
                generalize (w.alloc (.cells #[.slice ap s.ps.length kp, .slice ae s.es.length ke, .int .i64 s.time, .int .i64 s.age] 46)) = u0 at *
                generalize w.heap.size = b0 at *
                have c0 := HL0.out.cel 0 _ rfl
                have c1 := HL0.out.cel 1 _ rfl
                have c2 := HL0.out.cel 2 _ rfl
                have c3 := HL0.out.cel 3 _ rfl
                have cl := HL0.out.lt
                go_wp2
                go_ret
                exact ⟨ret_int E.out.symm, HL0.out.bel⟩
            · rw [h5] at EB
              have E : Hid (swV s = 1) := swV_bd (by rw [EB.out]; simp)
              go_enter Try.func11, Try.ntmps11
              go_upto_region 1 with fail
              generalize (w.alloc (.cells #[.slice ap s.ps.length kp, .slice ae s.es.length ke, .int .i64 s.time, .int .i64 s.age] 46)) = u0 at *
              generalize w.heap.size = b0 at *
              have c0 := HL0.out.cel 0 _ rfl
              have c1 := HL0.out.cel 1 _ rfl
              have c2 := HL0.out.cel 2 _ rfl
              have c3 := HL0.out.cel 3 _ rfl
              have cl := HL0.out.lt
              go_wp2
              go_ret
              exact ⟨ret_int E.out.symm, HL0.out.bel⟩
          · rw [h4] at EB
            have E : Hid (swV s = 1) := swV_bd (by rw [EB.out]; simp)
            go_enter Try.func11, Try.ntmps11
            go_upto_region 1 with fail
            generalize (w.alloc (.cells #[.slice ap s.ps.length kp, .slice ae s.es.length ke, .int .i64 s.time, .int .i64 s.age] 46)) = u0 at *
            generalize w.heap.size = b0 at *
            have c0 := HL0.out.cel 0 _ rfl
            have c1 := HL0.out.cel 1 _ rfl
            have c2 := HL0.out.cel 2 _ rfl
            have c3 := HL0.out.cel 3 _ rfl
            have cl := HL0.out.lt
            go_wp2
            go_ret
            exact ⟨ret_int E.out.symm, HL0.out.bel⟩
        · rw [h3] at EB
          have E : Hid (swV s = 1) := swV_bd (by rw [EB.out]; simp)
          go_enter Try.func11, Try.ntmps11
          go_upto_region 1 with fail
          generalize (w.alloc (.cells #[.slice ap s.ps.length kp, .slice ae s.es.length ke, .int .i64 s.time, .int .i64 s.age] 46)) = u0 at *
          generalize w.heap.size = b0 at *
          have c0 := HL0.out.cel 0 _ rfl
          have c1 := HL0.out.cel 1 _ rfl
          have c2 := HL0.out.cel 2 _ rfl
          have c3 := HL0.out.cel 3 _ rfl
          have cl := HL0.out.lt
          go_wp2
          go_ret
          exact ⟨ret_int E.out.symm, HL0.out.bel⟩
      · rw [h2] at EB
        have E : Hid (swV s = 1) := swV_bd (by rw [EB.out]; simp)
        go_enter Try.func11, Try.ntmps11
        go_upto_region 1 with fail
        generalize (w.alloc (.cells #[.slice ap s.ps.length kp, .slice ae s.es.length ke, .int .i64 s.time, .int .i64 s.age] 46)) = u0 at *
        generalize w.heap.size = b0 at *
        have c0 := HL0.out.cel 0 _ rfl
        have c1 := HL0.out.cel 1 _ rfl
        have c2 := HL0.out.cel 2 _ rfl
        have c3 := HL0.out.cel 3 _ rfl
        have cl := HL0.out.lt
        go_wp2
        go_ret
        exact ⟨ret_int E.out.symm, HL0.out.bel⟩
    · rw [h1] at EB
      have E : Hid (swV s = 1) := swV_bd (by rw [EB.out]; simp)
      go_enter Try.func11, Try.ntmps11
      go_upto_region 1 with fail
      generalize (w.alloc (.cells #[.slice ap s.ps.length kp, .slice ae s.es.length ke, .int .i64 s.time, .int .i64 s.age] 46)) = u0 at *
      generalize w.heap.size = b0 at *
      have c0 := HL0.out.cel 0 _ rfl
      have c1 := HL0.out.cel 1 _ rfl
      have c2 := HL0.out.cel 2 _ rfl
      have c3 := HL0.out.cel 3 _ rfl
      have cl := HL0.out.lt
      go_wp2
      go_ret
      exact ⟨ret_int E.out.symm, HL0.out.bel⟩
  · rw [h0] at EB
    have E : Hid (swV s = 1) := swV_bd (by rw [EB.out]; simp)
    go_enter Try.func11, Try.ntmps11
    go_upto_region 1 with fail
    generalize (w.alloc (.cells #[.slice ap s.ps.length kp, .slice ae s.es.length ke, .int .i64 s.time, .int .i64 s.age] 46)) = u0 at *
    generalize w.heap.size = b0 at *
    have c0 := HL0.out.cel 0 _ rfl
    have c1 := HL0.out.cel 1 _ rfl
    have c2 := HL0.out.cel 2 _ rfl
    have c3 := HL0.out.cel 3 _ rfl
    have cl := HL0.out.lt
    go_wp2
    go_ret
    exact ⟨ret_int E.out.symm, HL0.out.bel⟩
end Go.Proofs.Ytefeahilamiiaaa
