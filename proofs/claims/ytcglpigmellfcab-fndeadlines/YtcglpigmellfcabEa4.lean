import Derived.Test.YtcglpigmellfcabEa3
namespace Go.Proofs.Ytcglpigmellfcab
open Go.ChangeShapes Go.WideShapes Go.ChangeAt Go.RowKit

set_option maxRecDepth 100000 in
set_option maxHeartbeats 4000000 in
theorem next_any {w : World} {v : Value} {zs : List TK} (h : TKrow w v zs) (hl : zs.length ≤ 8) : Calls Try.prog 97 #[v] w fun e w' => e = .returned (.int .i64 (nx zs zs.length)) ∧ Below w.heap.size w w' := by
  have HR : Hid (TKrow w v zs) := h
  obtain ⟨ao, cap, rfl⟩ := h.sl
  clear h
  have HL0 : Hid (LG w (w.alloc (.cells #[.slice ao zs.length cap] 108)) w.heap.size #[.slice ao zs.length cap] 108) := LG.new w _ _
  go_enter Try.func97, Try.ntmps97
  go_upto_region 2 with fail
  generalize (w.alloc (.cells #[.slice ao zs.length cap] 108)) = u0 at *
  generalize hb0 : w.heap.size = b0 at *
  have HB0 : Hid (w.heap.size = b0) := hb0
  clear hb0
  have k0 := HL0.out.cel 0 _ rfl
  have kl := HL0.out.lt
  go_wp2
  go_loopw [3, 10] (fun rv i wr => ∃ k : Nat, k ≤ zs.length ∧ i = .int .i64 k ∧ wr.ownsRow u0.heap.size 2 1 rv (rdL zs k).length (iR (rdL zs k)) ∧ LG w wr b0 #[.slice ao zs.length cap] 108 ∧ u0.heap.size ≤ wr.heap.size) (fun _ i _ => zs.length - (intOf i).toNat)
  case atStart => exact ⟨0, Nat.zero_le _, rfl, World.ownsRow_nil _ _ _ _, HL0.out, Nat.le_refl _⟩
  case round =>
    obtain ⟨k, hk, rfl, how, hlg, hge⟩ := hrel
    have HOW : Hid (wr.ownsRow u0.heap.size 2 1 u3 (rdL zs k).length (iR (rdL zs k))) := how
    have HLG : Hid (LG w wr b0 #[.slice ao zs.length cap] 108) := hlg
    clear how hlg k0
    by_cases hlt : k < zs.length
    · obtain ⟨g, o, cap2, hv, _, hg, hc⟩ := HR.out.resolve_left (fun h => by rw [h.1] at hlt; simp at hlt)
      injection hv with hv1 hv2 hv3
      subst hv1 hv3
      obtain ⟨d0, d1, d2, d3, d4, d5⟩ := hc.below HLG.out.bel hg k hlt
      have hgw : g < wr.heap.size := Nat.lt_of_lt_of_le hg HLG.out.bel.size
      have HD : Hid (rdL zs (k + 1) = if 0 < zs[k].left then rdL zs k ++ [(k : Int)] else rdL zs k) := (show rdL zs (k + 1) = _ by
        rw [rdL]
        simp [List.getD, List.getElem?_eq_getElem hlt])
      have hrl := rdL_len zs k
      generalize zs[k] = z at *
      have hk0 : (0 : Int) ≤ (k : Int) := by omega
      have hk1 : (k : Int) < (zs.length : Int) := by omega
      have HLN : Hid (LG w (wr.alloc (.cells #[.int .i64 z.start, .int .i64 z.period, .int .i64 z.budget, .int .i64 z.left, .int .i64 z.fin, .int .i64 z.missed] 110)) b0 #[.slice (some ⟨g, o, none⟩) zs.length cap] 108) := HLG.out.step (bx1 _ _)
      have HON : Hid ((wr.alloc (.cells #[.int .i64 z.start, .int .i64 z.period, .int .i64 z.budget, .int .i64 z.left, .int .i64 z.fin, .int .i64 z.missed] 110)).ownsRow u0.heap.size 2 1 u3 (rdL zs k).length (iR (rdL zs k))) := HOW.out.alloc _
      clear hc
      cases hlf : decide (0 < z.left)
      · have hlf2 : ¬ 0 < z.left := of_decide_eq_false hlf
        rw [if_neg hlf2] at HD
        clear hlf2
        go_wp2
        exact ⟨⟨k + 1, hlt, by go_num, by rw [HD.out]; exact HON.out, HLN.out, by simp; omega⟩, by simp [intOf]; omega⟩
      · have hlf2 : 0 < z.left := of_decide_eq_true hlf
        rw [if_pos hlf2] at HD
        clear hlf2
        have HSZ : Hid ((wr.alloc (.cells #[.int .i64 z.start, .int .i64 z.period, .int .i64 z.budget, .int .i64 z.left, .int .i64 z.fin, .int .i64 z.missed] 110)).heap.size = wr.heap.size + 1) := (show (wr.alloc (.cells #[.int .i64 z.start, .int .i64 z.period, .int .i64 z.budget, .int .i64 z.left, .int .i64 z.fin, .int .i64 z.missed] 110)).heap.size = wr.heap.size + 1 by simp)
        have HBK : Hid (∀ j, u3.ownBlock = some j → u0.heap.size ≤ j) := fun j hj => (HOW.out.lt j hj).1
        have HB0L : Hid (b0 < u0.heap.size) := HL0.out.lt
        go_upto_region 6 with fail
        generalize (wr.alloc (.cells #[.int .i64 z.start, .int .i64 z.period, .int .i64 z.budget, .int .i64 z.left, .int .i64 z.fin, .int .i64 z.missed] 110)) = w5 at *
        have HAP : Hid _ := appI HON.out (by omega) (by have := HSZ.out; omega) (k : Int)
        have HL6 : Hid (LG w (w5.alloc (.cells #[.int .i64 (k : Int)] 2)) b0 #[.slice (some ⟨g, o, none⟩) zs.length cap] 108) := HLN.out.step (bx1 _ _)
        clear d0 d1 d2 d3 d4 d5
        go_wp2_with (at_builtin; (refine wl_append_ex rfl _ _ 27 rfl _ _ rfl rfl HAP.out ?_; rintro v' u5 ⟨ho, hg2⟩; have HO5 : Hid (u5.ownsRow u0.heap.size 2 1 v' ((rdL zs k).length + 1) (iR (rdL zs k ++ [(k : Int)]))) := ho; have HG5 : Hid ((w5.alloc (.cells #[.int .i64 (k : Int)] 2)).grownBy u5 u3.ownBlock) := hg2; clear ho hg2 HAP))
        refine ⟨⟨k + 1, hlt, by go_num, ?_, ?_, ?_⟩, by simp [intOf]; omega⟩
        · rw [HD.out, List.length_append]
          exact HO5.out
        · exact ⟨HL6.out.bel.grown HG5.out HL6.out.bel.size (fun j hj => by have := HBK.out j hj; have := HB0L.out; have := HB0.out; omega), (HG5.out.block b0 HL6.out.lt (fun e => by have := HBK.out b0 e.symm; have := HB0L.out; omega)).trans HL6.out.box, HL6.out.ge⟩
        · have h1 := HG5.out.size
          have h2 := HSZ.out
          simp at h1
          omega
    · obtain rfl : k = zs.length := by omega
      obtain ⟨ar, cr, hrv⟩ : ∃ ar cr, u3 = .slice ar (rdL zs zs.length).length cr := (by
        rcases HOW.out.2 with ⟨rfl, e⟩ | ⟨g, cap, cur, rfl, _⟩
        · exact ⟨none, 0, by rw [e]⟩
        · exact ⟨_, cap, rfl⟩)
      subst hrv
      have HRR : Hid (Irow wr (.slice ar (rdL zs zs.length).length cr) (rdL zs zs.length)) := Irow.of HOW.out
      have hrl := rdL_len zs zs.length
      go_wp2_with fail
      refine (values_in ar (rdL zs zs.length).length cr wr).mono ?_
      rintro e w2 ⟨rfl, rfl⟩
      have HLV : Hid (LG w (wr.alloc (.cells #[.slice ar (rdL zs zs.length).length cr] 27)) b0 #[.slice ao zs.length cap] 108) := HLG.out.step (bx1 _ _)
      have HLW : Hid (LG wr (wr.alloc (.cells #[.slice ar (rdL zs zs.length).length cr] 27)) wr.heap.size #[.slice ar (rdL zs zs.length).length cr] 27) := LG.new wr _ _
      have HRV : Hid (Irow (wr.alloc (.cells #[.slice ar (rdL zs zs.length).length cr] 27)) (.slice ar (rdL zs zs.length).length cr) (rdL zs zs.length)) := HRR.out.below (bx1 _ _)
      have HLE : Hid _ := least_any HRV.out (by omega) wr.heap.size HLW.out.lt (HLW.out.cel 0 _ rfl) 160 #[.pointer (some ⟨b0, 0, none⟩)] (fun x => (zs.getD x.toNat tk0).fin) cfN (fun x hx w' hb => (by
        obtain ⟨hx0, hx1⟩ := rdL_b zs zs.length x hx
        obtain ⟨X, rfl⟩ := Int.eq_ofNat_of_zero_le hx0
        have hX : X < zs.length := by omega
        have hl2 : LG w w' b0 #[.slice ao zs.length cap] 108 := HLV.out.step hb
        obtain ⟨g, o, cap2, hv, _, hg, hc⟩ := HR.out.resolve_left (fun h => by rw [h.1] at hX; simp at hX)
        injection hv with hv1 hv2 hv3
        subst hv1 hv3
        obtain ⟨d0, d1, d2, d3, d4, d5⟩ := hc.below hl2.bel hg X hX
        have e : (zs.getD (X : Int).toNat tk0).fin = zs[X].fin := by simp [List.getD, List.getElem?_eq_getElem hX]
        simp only [e]
        exact next1_any (hl2.cel 0 _ rfl) hX (by rw [Nat.add_assoc]; exact d4)))
      have HNX : Hid (lsF (fun x => (zs.getD x.toNat tk0).fin) (rdL zs zs.length) = if nx zs zs.length < 0 then none else some (nx zs zs.length)) := lsF_rdL zs zs.length
      have hnb := nx_b zs zs.length
      have HBW : Hid (Below w.heap.size w (wr.alloc (.cells #[.slice ar (rdL zs zs.length).length cr] 27))) := HLV.out.bel
      rw [HNX.out] at HLE
      clear HNX HRV HLW HLV HRR HOW
      obtain ⟨M, hme⟩ : ∃ M, nx zs zs.length = M := ⟨_, rfl⟩
      rw [hme] at HLE hnb
      have HME : Hid (nx zs zs.length = M) := hme
      clear hme
      by_cases hM : M < 0
      · have hM1 : M = -1 := by omega
        rw [if_pos hM] at HLE
        subst hM1
        simp only [Option.getD_none, Option.isSome_none] at HLE
        go_wp2_with fail
        refine Calls.mono HLE.out ?_
        rintro e w3 ⟨rfl, hb3⟩
        have HB3 : Hid (Below w.heap.size w w3) := HBW.out.trans (hb3.mono HBW.out.size)
        clear hb3
        go_wp2
        go_ret
        exact ⟨ret_int HME.out.symm, HB3.out⟩
      · rw [if_neg hM] at HLE
        simp only [Option.getD_some, Option.isSome_some] at HLE
        go_wp2_with fail
        refine Calls.mono HLE.out ?_
        rintro e w3 ⟨rfl, hb3⟩
        have HB3 : Hid (Below w.heap.size w w3) := HBW.out.trans (hb3.mono HBW.out.size)
        clear hb3
        go_wp2
        go_ret
        exact ⟨ret_int HME.out.symm, HB3.out⟩
end Go.Proofs.Ytcglpigmellfcab
