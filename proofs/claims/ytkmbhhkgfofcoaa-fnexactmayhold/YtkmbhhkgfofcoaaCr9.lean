import Derived.Test.YtkmbhhkgfofcoaaCr8
import Derived.BigQuiet
import Derived.Deep.QuietTactic
import Derived.BigRegion
namespace Go.Proofs.Ytkmbhhkgfofcoaa
open Go.ChangeShapes Go.WideShapes Go.ChangeAt Go.RowKit

def tbB (s : CL) (q : Nat) : Bool := decide (usC s q ≤ (teA s q).cpu) && decide (usM s q ≤ (teA s q).mem)
theorem CX.dr {w : World} {b : Nat} {s : CL} {a : CA} (h : CX w b s a) : CX w.drew b s a := h.below ⟨rfl, rfl, rfl, Nat.le_refl _, fun _ _ => rfl⟩
set_option maxRecDepth 100000 in
set_option maxHeartbeats 4000000 in
theorem tenantBears_any {w : World} {b : Nat} {s : CL} {a : CA} (h : CX w b s a) (hl : s.vms.length ≤ 1048576) (q : Nat) (hq : q < s.tenants.length) : Calls Try.prog 72 #[.pointer (some ⟨b, 0, none⟩), .agg #[.string ⟨#[]⟩, .int .i64 q, .int .i64 0, .int .i64 0, .int .i64 0, .int .i64 0, .string ⟨#[]⟩, .int .i64 0]] w fun e w' => e = .returned (.bool (tbB s q)) ∧ Below w.heap.size w w' := by
  have HV0 : Hid (LG w (w.alloc (.cells #[.string ⟨#[]⟩, .int .i64 q, .int .i64 0, .int .i64 0, .int .i64 0, .int .i64 0, .string ⟨#[]⟩, .int .i64 0] 41)) w.heap.size #[.string ⟨#[]⟩, .int .i64 q, .int .i64 0, .int .i64 0, .int .i64 0, .int .i64 0, .string ⟨#[]⟩, .int .i64 0] 41) := LG.new w _ _
  have HX0 : Hid (CX (w.alloc (.cells #[.string ⟨#[]⟩, .int .i64 q, .int .i64 0, .int .i64 0, .int .i64 0, .int .i64 0, .string ⟨#[]⟩, .int .i64 0] 41)) b s a) := h.below HV0.out.bel
  obtain ⟨an, kn, av, kv, ae, ke, e⟩ := h.rows.sl
  subst e
  have HR : Hid (VMCrow w (.slice av s.vms.length kv) s.vms) := h.rows.rvms
  have HT : Hid (TNTrow w (.slice ae s.tenants.length ke) s.tenants) := h.rows.rtenants
  clear h
  have HFC : Hid (usC s q = smW VMC.cpu (fun x => decide (x.tenant = (q : Int))) 0 (s.vms.take s.vms.length)) := (show _ = _ by rw [List.take_length]; rfl)
  have HFM : Hid (usM s q = smW VMC.mem (fun x => decide (x.tenant = (q : Int))) 0 (s.vms.take s.vms.length)) := (show _ = _ by rw [List.take_length]; rfl)
  have HE : Hid (tbB s q = (decide (usC s q ≤ s.tenants[q].cpu) && decide (usM s q ≤ s.tenants[q].mem))) := (show _ = _ by unfold tbB; rw [teA_at hq])
  generalize tbB s q = V at *
  go_enter Try.func72, Try.ntmps72
  go_upto_region 1 with fail
  generalize (w.alloc (.cells #[.string ⟨#[]⟩, .int .i64 q, .int .i64 0, .int .i64 0, .int .i64 0, .int .i64 0, .string ⟨#[]⟩, .int .i64 0] 41)) = u0 at *
  generalize hbv : w.heap.size = bv at HV0 ⊢
  have v1 := HV0.out.cel 1 _ rfl
  have v2 := HV0.out.cel 2 _ rfl
  have v3 := HV0.out.cel 3 _ rfl
  have vl := HV0.out.lt
  go_quiet (fail)
  have HV1 : Hid (∀ n, LG w (u0.drewN n) bv #[.string ⟨#[]⟩, .int .i64 q, .int .i64 0, .int .i64 0, .int .i64 0, .int .i64 0, .string ⟨#[]⟩, .int .i64 0] 41) := fun n => HV0.out.drewN n
  have HX1 : Hid (∀ n, CX (u0.drewN n) b s ⟨.slice an s.nodes.length kn, .slice av s.vms.length kv, .slice ae s.tenants.length ke⟩) := fun n => HX0.out.below (Below.drewN _ n)
  have c1 := HX0.out.cel 1 (.slice av s.vms.length kv) rfl
  have cl := HX0.out.lt
  clear v1 v2 v3 vl HV0
  go_wp2
  clear c1 cl HX0
  go_loopw [5, 6, 19] (fun c m i wr => ∃ k : Nat, k ≤ s.vms.length ∧ c = .int .i64 (smW VMC.cpu (fun x => decide (x.tenant = (q : Int))) 0 (s.vms.take k)) ∧ m = .int .i64 (smW VMC.mem (fun x => decide (x.tenant = (q : Int))) 0 (s.vms.take k)) ∧ i = .int .i64 k ∧ LG w wr bv #[.string ⟨#[]⟩, .int .i64 q, .int .i64 0, .int .i64 0, .int .i64 0, .int .i64 0, .string ⟨#[]⟩, .int .i64 0] 41 ∧ CX wr b s ⟨.slice an s.nodes.length kn, .slice av s.vms.length kv, .slice ae s.tenants.length ke⟩) (fun _ _ i _ => s.vms.length - (intOf i).toNat)
  case atStart => exact ⟨0, Nat.zero_le _, rfl, rfl, rfl, HV1.out _, HX1.out _⟩
  case round =>
    obtain ⟨k, hk, rfl, rfl, rfl, hv, hx⟩ := hrel
    have HV : Hid (LG w wr bv #[.string ⟨#[]⟩, .int .i64 q, .int .i64 0, .int .i64 0, .int .i64 0, .int .i64 0, .string ⟨#[]⟩, .int .i64 0] 41) := hv
    have HX : Hid (CX wr b s ⟨.slice an s.nodes.length kn, .slice av s.vms.length kv, .slice ae s.tenants.length ke⟩) := hx
    have HB : Hid (Below w.heap.size w wr) := hv.bel
    clear hv hx HV1 HX1
    by_cases hlt : k < s.vms.length
    · skip
      obtain ⟨g, o, cap2, hv, _, hg, hc⟩ := HR.out.resolve_left (fun h => by rw [h.1] at hlt; simp at hlt)
      injection hv with hv1 hv2 hv3
      subst hv1 hv3
      have hgw : g < wr.heap.size := Nat.lt_of_lt_of_le hg HB.out.size
      have hk0 : (0 : Int) ≤ (k : Int) := by omega
      have hk1 : (k : Int) < (s.vms.length : Int) := by omega
      obtain ⟨d0, d1, d2, d3, d4, d5, d6, d7⟩ := hc.below HB.out hg k hlt
      have HSC : Hid (smW VMC.cpu (fun x => decide (x.tenant = (q : Int))) 0 (s.vms.take (k + 1)) = _) := smW_succ hlt
      have HSM : Hid (smW VMC.mem (fun x => decide (x.tenant = (q : Int))) 0 (s.vms.take (k + 1)) = _) := smW_succ hlt
      generalize smW VMC.cpu (fun x => decide (x.tenant = (q : Int))) 0 (s.vms.take k) = SC at *
      generalize smW VMC.mem (fun x => decide (x.tenant = (q : Int))) 0 (s.vms.take k) = SM at *
      clear HFC HFM HE HT
      generalize s.vms[k] = z at *
      go_upto_region 5 with fail
      have HV2 : Hid (LG w (wr.alloc (.cells #[.string z.name, .int .i64 z.tenant, .int .i64 z.cpu, .int .i64 z.mem, .int .i64 z.zone, .int .i64 z.apart, .string z.node, .int .i64 z.epoch] 41)) bv #[.string ⟨#[]⟩, .int .i64 q, .int .i64 0, .int .i64 0, .int .i64 0, .int .i64 0, .string ⟨#[]⟩, .int .i64 0] 41) := HV.out.next
      have HX2 : Hid (CX (wr.alloc (.cells #[.string z.name, .int .i64 z.tenant, .int .i64 z.cpu, .int .i64 z.mem, .int .i64 z.zone, .int .i64 z.apart, .string z.node, .int .i64 z.epoch] 41)) b s ⟨.slice an s.nodes.length kn, .slice (some ⟨g, o, none⟩) s.vms.length kv, .slice ae s.tenants.length ke⟩) := HX.out.below (bx1 _ _)
      have HZ2 : Hid (LG w (wr.alloc (.cells #[.string z.name, .int .i64 z.tenant, .int .i64 z.cpu, .int .i64 z.mem, .int .i64 z.zone, .int .i64 z.apart, .string z.node, .int .i64 z.epoch] 41)) wr.heap.size #[.string z.name, .int .i64 z.tenant, .int .i64 z.cpu, .int .i64 z.mem, .int .i64 z.zone, .int .i64 z.apart, .string z.node, .int .i64 z.epoch] 41) := LG.mk2 HB.out
      clear hc d0 d1 d2 d3 d4 d5 d6 d7 HV HX HB hgw hk0 hk1 HR
      generalize (wr.alloc (.cells #[.string z.name, .int .i64 z.tenant, .int .i64 z.cpu, .int .i64 z.mem, .int .i64 z.zone, .int .i64 z.apart, .string z.node, .int .i64 z.epoch] 41)) = u1 at *
      generalize wr.heap.size = bz at *
      have v1 := HV2.out.cel 1 _ rfl
      have vl := HV2.out.lt
      have z1 := HZ2.out.cel 1 _ rfl
      have z2 := HZ2.out.cel 2 _ rfl
      have z3 := HZ2.out.cel 3 _ rfl
      have zl := HZ2.out.lt
      cases hq2 : (z.tenant == (q : Int))
      · have E2 : Hid (smW VMC.cpu (fun x => decide (x.tenant = (q : Int))) 0 (s.vms.take (k + 1)) = SC) := HSC.out.trans (if_neg (by simpa using hq2))
        have E3 : Hid (smW VMC.mem (fun x => decide (x.tenant = (q : Int))) 0 (s.vms.take (k + 1)) = SM) := HSM.out.trans (if_neg (by simpa using hq2))
        clear HSC HSM
        go_wp2
        exact ⟨⟨k + 1, hlt, by rw [E2.out], by rw [E3.out], by go_num, HV2.out, HX2.out⟩, by simp [intOf]; omega⟩
      · have E2 : Hid (smW VMC.cpu (fun x => decide (x.tenant = (q : Int))) 0 (s.vms.take (k + 1)) = wrap64 (SC + z.cpu)) := HSC.out.trans (if_pos (by simpa using hq2))
        have E3 : Hid (smW VMC.mem (fun x => decide (x.tenant = (q : Int))) 0 (s.vms.take (k + 1)) = wrap64 (SM + z.mem)) := HSM.out.trans (if_pos (by simpa using hq2))
        clear HSC HSM
        go_upto_region 6 with fail
        go_quiet (fail)
        go_wp2
        exact ⟨⟨k + 1, hlt, by rw [E2.out], by rw [E3.out], by go_num, HV2.out.drewN _, HX2.out.below (Below.drewN _ _)⟩, by simp [intOf]; omega⟩
    · obtain rfl : k = s.vms.length := by omega
      rw [← HFC.out, ← HFM.out]
      clear HFC HFM HR hk
      generalize usC s q = UC at *
      generalize usM s q = UM at *
      obtain ⟨g, o, cap2, hv, _, hg, hc⟩ := HT.out.resolve_left (fun h => by rw [h.1] at hq; simp at hq)
      injection hv with hv1 hv2 hv3
      subst hv1 hv3
      obtain ⟨d0, d1, d2⟩ := hc.below HB.out hg q hq
      have hgw : g < wr.heap.size := Nat.lt_of_lt_of_le hg HB.out.size
      have hk0 : (0 : Int) ≤ (q : Int) := by omega
      have hk1 : (q : Int) < (s.tenants.length : Int) := by omega
      have c2 := HX.out.cel 2 (.slice (some ⟨g, o, none⟩) s.tenants.length ke) rfl
      have cl := HX.out.lt
      have v1 := HV.out.cel 1 _ rfl
      have vl := HV.out.lt
      clear hc HT
      generalize s.tenants[q] = t at *
      go_upto_region 8 with fail
      go_region
      have HT2 : Hid (LG w (wr.alloc (.cells #[.int .i64 t.cpu, .int .i64 t.mem, .int .i64 t.bill] 54)).drew wr.heap.size #[.int .i64 t.cpu, .int .i64 t.mem, .int .i64 t.bill] 54) := (LG.mk2 HB.out).drew
      clear d0 d1 d2 c2 cl v1 vl hk0 hk1 hgw HV HX
      generalize (wr.alloc (.cells #[.int .i64 t.cpu, .int .i64 t.mem, .int .i64 t.bill] 54)).drew = u1 at *
      generalize wr.heap.size = bt at *
      have t0 := HT2.out.cel 0 _ rfl
      have t1 := HT2.out.cel 1 _ rfl
      have tl := HT2.out.lt
      cases q1 : decide (UC ≤ t.cpu)
      · have E2 : Hid (V = false) := (show V = false by rw [HE.out, q1]; rfl)
        clear HE
        go_wp2
        go_ret
        exact ⟨ret_bool E2.out.symm, hbv ▸ HT2.out.bel⟩
      · cases q2 : decide (UM ≤ t.mem)
        · have E2 : Hid (V = false) := (show V = false by rw [HE.out, q1, q2]; rfl)
          clear HE
          go_wp2
          go_ret
          exact ⟨ret_bool E2.out.symm, hbv ▸ HT2.out.bel⟩
        · have E2 : Hid (V = true) := (show V = true by rw [HE.out, q1, q2]; rfl)
          clear HE
          go_wp2
          go_ret
          exact ⟨ret_bool E2.out.symm, hbv ▸ HT2.out.bel⟩
set_option maxRecDepth 100000 in
set_option maxHeartbeats 4000000 in
theorem tenantsR_any {w : World} {b : Nat} {s : CL} {a : CA} (h : CX w b s a) (hl : s.vms.length ≤ 1048576) (ht : s.tenants.length ≤ 1048576) : Calls Try.prog 46 #[.pointer (some ⟨b, 0, none⟩)] w fun e w' => e = .returned (.bool (allD (tkB s) s.tenants.length)) ∧ Below w.heap.size w w' := by
  have HX : Hid (CX w b s a) := h
  obtain ⟨an, kn, av, kv, ae, ke, e⟩ := h.rows.sl
  subst e
  have HT : Hid (TNTrow w (.slice ae s.tenants.length ke) s.tenants) := h.rows.rtenants
  have c2 := h.cel 2 (.slice ae s.tenants.length ke) rfl
  have cl := h.lt
  clear h
  obtain ⟨V, hV⟩ : ∃ V, allD (tkB s) s.tenants.length = V := ⟨_, rfl⟩
  rw [hV]
  have E : Hid (V = allD (tkB s) s.tenants.length) := hV.symm
  clear hV
  go_enter Try.func46, Try.ntmps46
  go_wp2
  clear c2 cl
  go_loopw [10] (fun i wr => ∃ k : Nat, k ≤ s.tenants.length ∧ i = .int .i64 k ∧ allD (tkB s) k = true ∧ Below w.heap.size w wr) (fun i _ => s.tenants.length - (intOf i).toNat)
  case atStart => exact ⟨0, Nat.zero_le _, rfl, rfl, Below.refl _ _⟩
  case round =>
    obtain ⟨k, hk, rfl, hok, hb⟩ := hrel
    have HALL : Hid (allD (tkB s) k = true) := hok
    have HB : Hid (Below w.heap.size w wr) := hb
    clear hok hb
    by_cases hlt : k < s.tenants.length
    · have HXW : Hid (CX wr b s ⟨.slice an s.nodes.length kn, .slice av s.vms.length kv, .slice ae s.tenants.length ke⟩) := HX.out.below HB.out
      obtain ⟨g, o, cap2, hv, _, hg, hc⟩ := HT.out.resolve_left (fun h => by rw [h.1] at hlt; simp at hlt)
      injection hv with hv1 hv2 hv3
      subst hv1 hv3
      have hgw : g < wr.heap.size := Nat.lt_of_lt_of_le hg HB.out.size
      have hk0 : (0 : Int) ≤ (k : Int) := by omega
      have hk1 : (k : Int) < (s.tenants.length : Int) := by omega
      obtain ⟨d0, d1, d2⟩ := hc.below HB.out hg k hlt
      have HS : Hid (allD (tkB s) (k + 1) = (allD (tkB s) k && tkB s k)) := allD_succ _ _
      have HBAD : Hid (tkB s k = false → V = false) := fun hh => by rw [E.out, allD_bad hlt hh]
      have HEK : Hid (tkB s k = (tntB s.tenants[k] && tbB s k)) := (show _ = _ by rw [tkB_at hlt]; unfold tbB; rw [teA_at hlt, Bool.and_assoc])
      have HTR : Hid (∀ u, Calls Try.prog 71 #[.agg #[.int .i64 s.tenants[k].cpu, .int .i64 s.tenants[k].mem, .int .i64 s.tenants[k].bill]] u fun e w' => e = .returned (.bool (tntB s.tenants[k])) ∧ Below u.heap.size u w') := fun u => teRight_any _ u
      have HTB : Hid (∀ u, CX u b s ⟨.slice an s.nodes.length kn, .slice av s.vms.length kv, .slice (some ⟨g, o, none⟩) s.tenants.length ke⟩ → Calls Try.prog 72 #[.pointer (some ⟨b, 0, none⟩), .agg #[.string ⟨#[]⟩, .int .i64 k, .int .i64 0, .int .i64 0, .int .i64 0, .int .i64 0, .string ⟨#[]⟩, .int .i64 0]] u fun e w' => e = .returned (.bool (tbB s k)) ∧ Below u.heap.size u w') := fun u hu => tenantBears_any hu hl k hlt
      generalize s.tenants[k] = z at *
      generalize tntB z = TB1 at *
      generalize tbB s k = TB2 at *
      go_upto_region 4 with fail
      have HX2 : Hid (CX (wr.alloc (.cells #[.int .i64 z.cpu, .int .i64 z.mem, .int .i64 z.bill] 54)) b s ⟨.slice an s.nodes.length kn, .slice av s.vms.length kv, .slice (some ⟨g, o, none⟩) s.tenants.length ke⟩) := HXW.out.below (bx1 _ _)
      have HZ2 : Hid (LG w (wr.alloc (.cells #[.int .i64 z.cpu, .int .i64 z.mem, .int .i64 z.bill] 54)) wr.heap.size #[.int .i64 z.cpu, .int .i64 z.mem, .int .i64 z.bill] 54) := LG.mk2 HB.out
      clear hc d0 d1 d2 HXW HB hgw hk0 hk1 HT HX E
      generalize (wr.alloc (.cells #[.int .i64 z.cpu, .int .i64 z.mem, .int .i64 z.bill] 54)) = u1 at *
      generalize wr.heap.size = bz at *
      have z0 := HZ2.out.cel 0 _ rfl
      have z1 := HZ2.out.cel 1 _ rfl
      have z2 := HZ2.out.cel 2 _ rfl
      have zl := HZ2.out.lt
      cases TB1
      · have E2 : Hid (V = false) := HBAD.out (HEK.out.trans (by simp))
        clear HS HBAD HEK HALL HTB
        go_wp2_with (go_at_call 71; refine Calls.mono (HTR.out _) ?_; rintro e u2 ⟨rfl, hb⟩; have HZ3 : Hid (LG w u2 bz #[.int .i64 z.cpu, .int .i64 z.mem, .int .i64 z.bill] 54) := HZ2.out.step hb; clear hb)
        go_ret
        exact ⟨ret_bool E2.out.symm, HZ3.out.bel⟩
      · cases TB2
        · have E2 : Hid (V = false) := HBAD.out (HEK.out.trans (by simp))
          clear HS HBAD HEK HALL
          go_wp2_with (first | (go_at_call 71; refine Calls.mono (HTR.out _) ?_; rintro e u2 ⟨rfl, hb⟩; have HZ3 : Hid (LG w u2 bz #[.int .i64 z.cpu, .int .i64 z.mem, .int .i64 z.bill] 54) := HZ2.out.step hb; have HX3 : Hid (CX u2 b s ⟨.slice an s.nodes.length kn, .slice av s.vms.length kv, .slice (some ⟨g, o, none⟩) s.tenants.length ke⟩) := HX2.out.below hb; clear hb) | (go_at_call 72; refine Calls.mono (HTB.out _ HX3.out) ?_; rintro e u3 ⟨rfl, hb⟩; have HZ4 : Hid (LG w u3 bz #[.int .i64 z.cpu, .int .i64 z.mem, .int .i64 z.bill] 54) := HZ3.out.step hb; clear hb))
          go_ret
          exact ⟨ret_bool E2.out.symm, HZ4.out.bel⟩
        · have E2 : Hid (allD (tkB s) (k + 1) = true) := (show allD (tkB s) (k + 1) = true by rw [HS.out, HALL.out, HEK.out]; rfl)
          clear HS HBAD HEK HALL
          go_wp2_with (first | (go_at_call 71; refine Calls.mono (HTR.out _) ?_; rintro e u2 ⟨rfl, hb⟩; have HZ3 : Hid (LG w u2 bz #[.int .i64 z.cpu, .int .i64 z.mem, .int .i64 z.bill] 54) := HZ2.out.step hb; have HX3 : Hid (CX u2 b s ⟨.slice an s.nodes.length kn, .slice av s.vms.length kv, .slice (some ⟨g, o, none⟩) s.tenants.length ke⟩) := HX2.out.below hb; clear hb) | (go_at_call 72; refine Calls.mono (HTB.out _ HX3.out) ?_; rintro e u3 ⟨rfl, hb⟩; have HZ4 : Hid (LG w u3 bz #[.int .i64 z.cpu, .int .i64 z.mem, .int .i64 z.bill] 54) := HZ3.out.step hb; clear hb))
          exact ⟨⟨k + 1, hlt, by go_num, E2.out, HZ4.out.bel⟩, by simp [intOf]; omega⟩
    · obtain rfl : k = s.tenants.length := by omega
      have hnl : ¬ ((s.tenants.length : Nat) : Int) < (s.tenants.length : Int) := by omega
      have E2 : Hid (V = true) := (show V = true by rw [E.out, HALL.out])
      clear E HALL
      go_wp2
      go_ret
      exact ⟨ret_bool E2.out.symm, HB.out⟩
end Go.Proofs.Ytkmbhhkgfofcoaa
