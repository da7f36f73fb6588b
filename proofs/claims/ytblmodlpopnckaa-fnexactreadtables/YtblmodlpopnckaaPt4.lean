import Derived.Test.YtblmodlpopnckaaPt3
namespace Go.Proofs.Ytblmodlpopnckaa
open Go.ChangeShapes Go.WideShapes Go.ChangeAt Go.RowKit

set_option maxRecDepth 100000 in
set_option maxHeartbeats 4000000 in
theorem firmText_any {w : World} {ao : Option Addr} {cap : Nat} {ts : List FT} (h : FTrow w (.slice ao ts.length cap) ts) (p : Int) (hl : ts.length ≤ 10) (hok : ∀ t ∈ ts, ftOk t = true) : Calls Try.prog 35 #[.int .i64 p, .slice ao ts.length cap] w fun e w' => e = .returned (.string (fmT p ts)) ∧ Below w.heap.size w w' := by
  have HR : Hid (FTrow w (.slice ao ts.length cap) ts) := h
  have HOK : Hid (∀ t ∈ ts, ftOk t = true) := hok
  have hwv : wv (⟨#[70, 73, 82, 77]⟩ : ByteArray) 0 = 1297238342 := by decide +kernel
  have HGW : Hid (∀ u, Calls Try.prog 42 #[.string (⟨#[70, 73, 82, 77]⟩ : ByteArray), .int .i64 0] u fun e w' => e = .returned (.agg #[.bool true, .int .i64 1297238342]) ∧ Below u.heap.size u w') := (fun u => by have h9 := implGetWord_yes (⟨#[70, 73, 82, 77]⟩ : ByteArray) 0 u (by decide +kernel) (by decide) (by decide); rw [hwv] at h9; exact h9)
  have hfl := fun (u : World) => (show Sem.run Try.prog (Instr.field 66 (.agg #[.bool true, .int .i64 1297238342]) 1) u = .ok (.int .i64 1297238342) u by kernel_rfl)
  have HPL0 : Hid (wrap64 (p + (3 + (ts.length : Int)) * 4) = wrap64 (plc p ts 0)) := (show _ = _ by unfold plc; simp [fsz])
  clear h hok hwv
  go_enter Try.func35, Try.ntmps35
  go_wp2_with fail
  refine Calls.mono (HGW.out _) ?_
  rintro e u1 ⟨rfl, hb⟩
  have HB1 : Hid (Below w.heap.size w u1) := hb
  clear hb
  have HO0 : Hid ((u1.alloc (.cells #[.int .i64 1297238342, .int .i64 (ts.length : Int)] 2)).ownsRow w.heap.size 2 1 (.slice (some ⟨u1.heap.size, 0, none⟩) 2 2) 2 (iR (wrL (fmW p ts 0)))) := (by have e : wrL (fmW p ts 0) = [1297238342, (ts.length : Int)] := (by simp [wrL, fmW]; unfold wrap64; omega); rw [e]; exact i_two u1 _ _ _ HB1.out.size)
  have HB2 : Hid (Below w.heap.size w (u1.alloc (.cells #[.int .i64 1297238342, .int .i64 (ts.length : Int)] 2))) := HB1.out.trans ((LG.new u1 _ _).bel.mono HB1.out.size)
  go_upto_region 5 with fail
  clear hfl
  generalize (u1.alloc (.cells #[.int .i64 1297238342, .int .i64 (ts.length : Int)] 2)) = u2 at *
  rw [HPL0.out]
  go_loopw [5, 6, 7, 24] (fun wd pl tx i wr => ∃ (k : Nat) (a5 : Option Addr) (c5 : Nat) (a7 : Option Addr) (c7 : Nat), k ≤ ts.length ∧ wd = .slice a5 (k + 2) c5 ∧ pl = .int .i64 (wrap64 (plc p ts k)) ∧ tx = .slice a7 k c7 ∧ i = .int .i64 k ∧ wr.ownsRow w.heap.size 2 1 (.slice a5 (k + 2) c5) (k + 2) (iR (wrL (fmW p ts k))) ∧ wr.ownsRow w.heap.size 9 1 (.slice a7 k c7) k (sR (txL ts k)) ∧ Below w.heap.size w wr) (fun _ _ _ i _ => ts.length - (intOf i).toNat)
  case atStart => exact ⟨0, _, _, none, 0, Nat.zero_le _, rfl, rfl, rfl, rfl, HO0.out, World.ownsRow_nil _ _ _ _, HB2.out⟩
  case round =>
    obtain ⟨k, a5, c5, a7, c7, hk, rfl, rfl, rfl, rfl, hwo, hto, hb⟩ := hrel
    have HB : Hid (Below w.heap.size w wr) := hb
    have HWO : Hid (wr.ownsRow w.heap.size 2 1 (.slice a5 (k + 2) c5) (k + 2) (iR (wrL (fmW p ts k)))) := hwo
    have HTO : Hid (wr.ownsRow w.heap.size 9 1 (.slice a7 k c7) k (sR (txL ts k))) := hto
    clear hb hwo hto HO0 HB2 HB1 HPL0 HGW
    have hk9 : k ≤ 10 := by omega
    by_cases hlt : k < ts.length
    · obtain ⟨g, o, cap2, hv, _, hg, hc⟩ := HR.out.resolve_left (fun h => by rw [h.1] at hlt; simp at hlt)
      injection hv with hv1 hv2 hv3
      subst hv1 hv3
      have hgw : g < wr.heap.size := Nat.lt_of_lt_of_le hg HB.out.size
      have hk0 : (0 : Int) ≤ (k : Int) := by omega
      have hk1 : (k : Int) < (ts.length : Int) := by omega
      obtain ⟨d0, d1, d2⟩ := hc.below HB.out hg k hlt
      have hzok := HOK.out ts[k] (List.getElem_mem hlt)
      have HFS : Hid (fmW p ts (k + 1) = fmW p ts k ++ [plc p ts k]) := fmW_succ p ts k
      have HTS : Hid (txL ts (k + 1) = txL ts k ++ [ftX ts[k]]) := txL_succ ts k hlt
      have hsz := ftX_size hzok
      have hbb := ftOk_b hzok
      have HPS : Hid (plc p ts (k + 1) = plc p ts k + ((ftX ts[k]).size : Int)) := (show _ = _ by rw [hsz]; unfold plc; simp only [fsz, List.getD, List.getElem?_eq_getElem hlt, Option.getD_some]; omega)
      have HTX : Hid (∀ u, Calls Try.prog 51 #[.agg #[.string ts[k].name, .int .i64 ts[k].rev, .string ts[k].body]] u fun e w' => e = .returned (.string (ftX ts[k])) ∧ Below u.heap.size u w') := fun u => ftText_any _ hzok u
      have hxs : (ftX ts[k]).size ≤ 300 := by omega
      generalize ts[k] = z at *
      generalize ftX z = X at *
      have HE : Hid (LG wr (wr.alloc (.cells #[.string z.name, .int .i64 z.rev, .string z.body] 40)) wr.heap.size #[.string z.name, .int .i64 z.rev, .string z.body] 40) := LG.new _ _ _
      clear hc hv2 hsz hbb hzok
      go_upto_region 7 with fail
      clear d0 d1 d2 hgw
      generalize (wr.alloc (.cells #[.string z.name, .int .i64 z.rev, .string z.body] 40)) = u3 at *
      generalize wr.heap.size = q3 at HE ⊢
      have k0 := HE.out.cel 0 _ rfl
      have k1 := HE.out.cel 1 _ rfl
      have k2 := HE.out.cel 2 _ rfl
      have kl := HE.out.lt
      go_wp2_with fail
      refine Calls.mono (HTX.out _) ?_
      rintro e u4 ⟨rfl, hb⟩
      have HB4a : Hid (Below wr.heap.size wr u4) := HE.out.bel.trans (hb.mono HE.out.bel.size)
      have HB4 : Hid (Below w.heap.size w u4) := HB.out.trans (HB4a.out.mono HB.out.size)
      have HW4 : Hid (u4.ownsRow w.heap.size 2 1 (.slice a5 (k + 2) c5) (k + 2) (iR (wrL (fmW p ts k)))) := own_below HWO.out HB4a.out
      have HT4 : Hid (u4.ownsRow w.heap.size 9 1 (.slice a7 k c7) k (sR (txL ts k))) := own_below HTO.out HB4a.out
      clear hb HB4a HE HB HWO HTO HTX k0 k1 k2 kl
      have HAP : Hid _ := appM HW4.out (by omega) HB4.out.size (wrap64 (plc p ts k))
      have HA5 : Hid (u4.alloc (.cells #[.int .i64 (wrap64 (plc p ts k))] 2) = u4.alloc (.cells #[.int .i64 (wrap64 (plc p ts k))] 2)) := rfl
      have HWS : Hid (wrL (fmW p ts (k + 1)) = wrL (fmW p ts k) ++ [wrap64 (plc p ts k)]) := (show _ = _ by rw [HFS.out]; simp [wrL])
      have HPN : Hid (wrap64 (wrap64 (plc p ts k) + (X.size : Int)) = wrap64 (plc p ts (k + 1))) := (show _ = _ by rw [wrap_two, HPS.out])
      clear HFS HPS
      generalize wrap64 (plc p ts k) = pk at *
      go_upto_region 9 with (at_builtin; (refine wl_append_exB rfl _ _ 44 rfl _ _ rfl rfl HAP.out ?_; rintro v' u5 ⟨ho, hg9⟩; obtain ⟨a8, c8, rfl⟩ := i_sl ho; have HW5 : Hid (u5.ownsRow w.heap.size 2 1 (.slice a8 (k + 2 + 1) c8) (k + 2 + 1) (iR (wrL (fmW p ts (k + 1))))) := (by rw [HWS.out]; exact ho); have HT5 : Hid (u5.ownsRow w.heap.size 9 1 (.slice a7 k c7) k (sR (txL ts k))) := own_keep (World.ownsRow.alloc HT4.out _) hg9 (fun j hj => own_apart (World.ownsRow.alloc HW4.out (.cells #[.int .i64 pk] 2)) (World.ownsRow.alloc HT4.out (.cells #[.int .i64 pk] 2)) j hj); have HB5 : Hid (Below w.heap.size w u5) := ((HB4.out.alloc HB4.out.size _).grown hg9 (by have := HB4.out.size; simp; omega) (fun j hj => (HW4.out.lt j hj).1)); clear ho hg9))
      clear HAP HA5
      have HAQ : Hid _ := app1S HT5.out X (by omega) HB5.out.size
      have HTS2 : Hid (sR (txL ts (k + 1)) = sR (txL ts k) ++ [.string X]) := (show _ = _ by rw [HTS.out]; simp [sR])
      go_wp2_with (at_builtin; (refine wl_append_exB rfl _ _ 77 rfl _ _ rfl rfl HAQ.out ?_; rintro v' u6 ⟨ho, hg9⟩; obtain ⟨a9, c9, rfl⟩ := s_sl ho; have HT6 : Hid (u6.ownsRow w.heap.size 9 1 (.slice a9 (k + 1) c9) (k + 1) (sR (txL ts (k + 1)))) := (by rw [HTS2.out]; exact ho); have HW6 : Hid (u6.ownsRow w.heap.size 2 1 (.slice a8 (k + 2 + 1) c8) (k + 2 + 1) (iR (wrL (fmW p ts (k + 1))))) := own_keep (World.ownsRow.alloc HW5.out _) hg9 (fun j hj e => own_apart (World.ownsRow.alloc HW5.out (.cells #[.string X] 9)) (World.ownsRow.alloc HT5.out (.cells #[.string X] 9)) j e hj); have HB6 : Hid (Below w.heap.size w u6) := ((HB5.out.alloc HB5.out.size _).grown hg9 (by have := HB5.out.size; simp; omega) (fun j hj => (HT5.out.lt j hj).1)); clear ho hg9))
      exact ⟨⟨k + 1, a8, c8, a9, c9, hlt, (by rw [show k + 1 + 2 = k + 2 + 1 by omega]), (by rw [← HPN.out]), rfl, (by go_num), (by have h9 := HW6.out; rwa [show k + 2 + 1 = k + 1 + 2 by omega] at h9), HT6.out, HB6.out⟩, (by simp [intOf]; omega)⟩
    · have hke : k = ts.length := by omega
      have hnl : ¬ ((k : Nat) : Int) < (ts.length : Int) := by omega
      have HKE : Hid (k = ts.length) := hke
      have HIW : Hid (Irow wr (.slice a5 (wrL (fmW p ts k)).length c5) (wrL (fmW p ts k))) := (by have e : (wrL (fmW p ts k)).length = k + 2 := (by simp [wrL, fmW_len]); rw [e]; exact Irow.of (B := w.heap.size) (by rw [e]; exact HWO.out))
      have HWL : Hid ((wrL (fmW p ts k)).length = k + 2) := (show _ = _ by simp [wrL, fmW_len])
      have HSO : Hid (Calls Try.prog 44 #[.slice a5 (k + 2) c5] wr fun e w' => e = .returned (.int .i64 (psum (wrL (fmW p ts k)) (k + 2) % 4294967296)) ∧ Below wr.heap.size wr w') := (by have h9 := sumOf_any HIW.out (by rw [HWL.out]; omega); rw [HWL.out] at h9; exact h9)
      have HPM : Hid (0 ≤ psum (wrL (fmW p ts k)) (k + 2) % 4294967296 ∧ psum (wrL (fmW p ts k)) (k + 2) % 4294967296 < 4294967296) := ⟨by omega, by omega⟩
      have HPC : Hid (pwT (wrL (fmW p ts k) ++ [-(psum (wrL (fmW p ts k)) (k + 2) % 4294967296)]) = fmH p ts) := (show _ = _ by rw [pwT_snoc, pwT_wr, fmH, ← hke]; congr 1; exact pw_cong (by have := psum_wr (fmW p ts k) (k + 2); omega))
      clear HIW hke hlt hk
      generalize psum (wrL (fmW p ts k)) (k + 2) % 4294967296 = sm at *
      generalize wrL (fmW p ts k) = wl at *
      go_wp2_with fail
      refine Calls.mono HSO.out ?_
      rintro e u3 ⟨rfl, hb⟩
      have HB3 : Hid (Below w.heap.size w u3) := HB.out.trans (hb.mono HB.out.size)
      have HW3 : Hid (u3.ownsRow w.heap.size 2 1 (.slice a5 (k + 2) c5) (k + 2) (iR (wl))) := own_below HWO.out hb
      have HT3 : Hid (u3.ownsRow w.heap.size 9 1 (.slice a7 k c7) k (sR (txL ts k))) := own_below HTO.out hb
      clear hb HB HWO HTO HSO
      obtain ⟨hp0, hp1⟩ := HPM.out
      have HAP : Hid _ := appM HW3.out (by omega) HB3.out.size (-sm)
      go_upto_region 13 with (at_builtin; (refine wl_append_exB rfl _ _ 44 rfl _ _ rfl rfl HAP.out ?_; rintro v' u4 ⟨ho, hg9⟩; obtain ⟨a8, c8, rfl⟩ := i_sl ho; have HW4 : Hid (u4.ownsRow w.heap.size 2 1 (.slice a8 (k + 2 + 1) c8) (k + 2 + 1) (iR (wl ++ [-sm]))) := ho; have HT4 : Hid (u4.ownsRow w.heap.size 9 1 (.slice a7 k c7) k (sR (txL ts k))) := own_keep (World.ownsRow.alloc HT3.out _) hg9 (fun j hj => own_apart (World.ownsRow.alloc HW3.out (.cells #[.int .i64 (-sm)] 2)) (World.ownsRow.alloc HT3.out (.cells #[.int .i64 (-sm)] 2)) j hj); have HB4 : Hid (Below w.heap.size w u4) := ((HB3.out.alloc HB3.out.size _).grown hg9 (by have := HB3.out.size; simp; omega) (fun j hj => (HW3.out.lt j hj).1)); clear ho hg9))
      clear HAP HW3 HT3 HB3
      have HLW : Hid ((wl ++ [-sm]).length = k + 2 + 1) := (show _ = _ by rw [List.length_append, HWL.out]; rfl)
      have HPK : Hid (Calls Try.prog 52 #[.slice a8 (k + 2 + 1) c8] u4 fun e w' => e = .returned (.string (fmH p ts)) ∧ Below u4.heap.size u4 w') := (by rw [← HPC.out]; exact packWords_any (Irow.of (B := w.heap.size) (by rw [HLW.out]; exact HW4.out)) (by rw [HLW.out]; omega))
      have HTL : Hid ((txL ts k).length = k) := txL_len ts k (by have := HKE.out; omega)
      have HCS : Hid ((catB (txL ts k)).length ≤ 2080) := (show _ ≤ _ by rw [tx_size HOK.out k (by have := HKE.out; omega)]; have := fsz_b HOK.out k (by have := HKE.out; omega); omega)
      have HJN : Hid (∀ u, u.ownsRow w.heap.size 9 1 (.slice a7 k c7) k (sR (txL ts k)) → Calls Try.prog 36 #[.slice a7 k c7] u fun e w' => e = .returned (.string (fmB ts)) ∧ Below u.heap.size u w') := (fun u hu => by have h9 := joined_row (ps := txL ts k) (v := .slice a7 k c7) (by rw [HTL.out]; exact hu) (by rw [HTL.out]; omega) (by have := HCS.out; omega); unfold fmB; rw [← HKE.out]; exact h9)
      have HFH : Hid ((fmH p ts).size ≤ 100) := (show _ ≤ _ by rw [fmH_size]; omega)
      have HFB : Hid ((fmB ts).size ≤ 3000) := (show _ ≤ _ by rw [fmB_size HOK.out]; have := fsz_b HOK.out ts.length (Nat.le_refl _); omega)
      have HJ2 : Hid (∀ u : World, Calls Try.prog 36 #[.slice (some ⟨u.heap.size, 0, none⟩) 2 2] (u.alloc (.cells #[.string (fmH p ts), .string (fmB ts)] 9)) fun e w' => e = .returned (.string (fmH p ts ++ fmB ts)) ∧ Below u.heap.size u w') := fun u => join2B u _ _ (by have := HFH.out; have := HFB.out; omega)
      have E : Hid (fmT p ts = fmH p ts ++ fmB ts) := rfl
      clear HPC HW4 HCS HFH HFB HPM hp0 hp1 HWL HLW
      generalize fmH p ts = fh at *
      generalize fmB ts = fb at *
      go_wp2_with fail
      refine Calls.mono HPK.out ?_
      rintro e u5 ⟨rfl, hb⟩
      have HB5 : Hid (Below w.heap.size w u5) := HB4.out.trans (hb.mono HB4.out.size)
      have HT5 : Hid (u5.ownsRow w.heap.size 9 1 (.slice a7 k c7) k (sR (txL ts k))) := own_below HT4.out hb
      clear hb HB4 HT4
      go_wp2_with fail
      refine Calls.mono (HJN.out _ HT5.out) ?_
      rintro e u6 ⟨rfl, hb⟩
      have HB6 : Hid (Below w.heap.size w u6) := HB5.out.trans (hb.mono HB5.out.size)
      clear hb HB5 HT5
      go_wp2_with fail
      refine Calls.mono (HJ2.out u6) ?_
      rintro e u7 ⟨rfl, hb⟩
      have HB7 : Hid (Below w.heap.size w u7) := HB6.out.trans (hb.mono HB6.out.size)
      clear hb HB6
      go_wp2
      go_ret
      exact ⟨by rw [E.out]; rfl, HB7.out⟩
end Go.Proofs.Ytblmodlpopnckaa
