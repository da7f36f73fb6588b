import Derived.Test.YtodncecnbpldeabGa1
import Derived.Laws.AppendOwn
namespace Go.Proofs.Ytodncecnbpldeab
open Go.ChangeShapes Go.WideShapes Go.ChangeAt Go.RowKit

theorem Try.info9 : (Try.prog.info? 9).map (fun i => (i.zero, i.size, i.bytes)) = some (some (.string ⟨#[]⟩), 1, 16) := by kernel_rfl
/-- The cells of texts. -/
def stR (ps : List ByteArray) : List Value := ps.map Value.string
theorem st_sl {w : World} {B n : Nat} {v : Value} {xs : List Value} (h : w.ownsRow B 9 1 v n xs) : ∃ ao cap, v = .slice ao n cap := by
  rcases h.2 with ⟨rfl, e⟩ | ⟨g, cap, cur, rfl, _⟩
  · exact ⟨none, 0, by rw [e]⟩
  · exact ⟨_, cap, rfl⟩
set_option maxRecDepth 100000 in
theorem joined_nil (w : World) : Calls Try.prog 48 #[.slice none 0 0] w fun e w' => e = .returned (.string ⟨#[]⟩) ∧ Below w.heap.size w w' := by
  go_enter Try.func48, Try.ntmps48
  go_wp2
  go_loopw [3, 8] (fun v i wr => v = .slice none 0 0 ∧ i = .int .i64 0 ∧ wr = w) (fun _ _ _ => 0)
  case atStart => exact ⟨rfl, rfl, rfl⟩
  case round =>
    obtain ⟨rfl, rfl, rfl⟩ := hrel
    have hcv := conv_own wr 0 _ 0 [] (World.ownsRow_nil _ _ _ _)
    go_wp2
    go_ret
    exact ⟨rfl, Below.refl _ _⟩
theorem joined_row {w : World} {v : Value} {B : Nat} {ps : List ByteArray} (h : w.ownsRow B 9 1 v ps.length (stR ps)) (hn : ps.length ≤ 1000) (hsz : (catB ps).length ≤ 1099511627776) :
    Calls Try.prog 48 #[v] w fun e w' => e = .returned (.string (tx (catB ps))) ∧ Below w.heap.size w w' := by
  rcases h.2 with ⟨hv, e⟩ | ⟨g, cap, cur, hv, h1, h2, _⟩
  · subst hv
    have : ps = [] := List.eq_nil_of_length_eq_zero e
    subst this
    exact joined_nil w
  · subst hv
    refine joined_any g ps.length cap ps w rfl (Array.getElem?_eq_some_iff.1 h2).1 (fun i hi => ?_) hn hsz
    rw [h.cellAt i (by omega)]
    simp [stR, List.getElem?_eq_getElem hi]
theorem one_cell (w : World) (o : Obj) (x : Value) (t : Nat) : ∀ (j : Nat) (u : Value), [x][j]? = some u → ((w.alloc o).alloc (.cells #[x] t)).cell? ((⟨w.heap.size + 1, 0, none⟩ : Addr).add j) = some u := by
  intro j u hu
  have hj : j = 0 := by
    have := (List.getElem?_eq_some_iff.1 hu).1
    simpa using this
  subst hj
  have hh := heap_new (w.alloc o) (.cells #[x] t)
  rw [show (w.alloc o).heap.size = w.heap.size + 1 by simp] at hh
  have hx : x = u := by simpa using hu
  subst hx
  have ha : (⟨w.heap.size + 1, 0, none⟩ : Addr).add 0 = ⟨w.heap.size + 1, 0, none⟩ := by simp [Addr.add]
  rw [ha]
  show World.cell? _ _ = _
  unfold World.cell?
  simp only [hh]
  rfl
set_option maxRecDepth 100000 in
set_option maxHeartbeats 4000000 in
theorem implGather_any {w : World} {v : Value} {zs : List BU} (s : ByteArray) (h : BUrow w v zs) (hl : zs.length ≤ 1048576) (hs : s.size ≤ 1048576) (hzb : ∀ z ∈ zs, i64B z.len) :
    Calls Try.prog 17 #[.string s, v] w fun e w' => e = .returned (.string (gaV s zs)) ∧ Below w.heap.size w w' := by
  have HK : Hid _ := fun u (hu : BUrow u v zs) => holdsBufs_any s hu hl hs hzb
  clear hzb
  obtain ⟨a1, c1, rfl⟩ := h.sl
  have HR : Hid (BUrow w (.slice a1 zs.length c1) zs) := h
  clear h
  cases hb : bsB s zs
  · rw [hb] at HK
    have E : Hid (gaV s zs = ⟨#[]⟩) := (show gaV s zs = ⟨#[]⟩ by unfold gaV; rw [hb]; rfl)
    clear hb
    go_enter Try.func17, Try.ntmps17
    go_wp2_with (go_at_call 47; refine Calls.mono (HK.out _ HR.out) ?_; rintro e u1 ⟨rfl, hu1⟩; have HB1 : Hid _ := hu1; clear hu1)
    go_ret
    exact ⟨sr_eq2 E.out.symm, HB1.out⟩
  rw [hb] at HK
  obtain ⟨hm, hn, hz⟩ := bsB_b hb
  obtain ⟨m1, m2, m3⟩ := memOk_b hm
  have E : Hid (gaV s zs = if (catB (gaL s zs zs.length)).length ≤ 65536 then tx (catB (gaL s zs zs.length)) else ⟨#[]⟩) := (show gaV s zs = _ by unfold gaV; rw [hb, if_pos rfl])
  have HZ : Hid (∀ j (hj : j < zs.length), inW s.size zs[j].pos zs[j].len = true) := hz
  have HM2 : Hid (s.size ≤ 65536) := m2
  have HN : Hid (zs.length ≤ 1000) := hn
  obtain ⟨i0, hi0, hz0, hz1, hz2⟩ := info_parts Try.info9
  have HI0 : Hid _ := hi0
  have HZ0 : Hid _ := hz0
  have HZ1 : Hid _ := hz1
  have HZ2 : Hid _ := hz2
  clear hb hm hz m1 m2 m3 hs hn hi0 hz0 hz1 hz2
  go_enter Try.func17, Try.ntmps17
  go_wp2_with (go_at_call 47; refine Calls.mono (HK.out _ HR.out) ?_; rintro e u1 ⟨rfl, hu1⟩; have HB1 : Hid _ := hu1; clear hu1)
  clear HK
  go_loopw [5, 6, 15] (fun x y i wr => ∃ k : Nat, k ≤ zs.length ∧ wr.ownsRow w.heap.size 9 1 x (gaL s zs k).length (stR (gaL s zs k)) ∧ y = .int .i64 ((catB (gaL s zs k)).length : Nat) ∧ i = .int .i64 k ∧ (catB (gaL s zs k)).length ≤ k * 65536 ∧ Below w.heap.size w wr) (fun _ _ i _ => zs.length - (intOf i).toNat)
  case atStart => exact ⟨0, Nat.zero_le _, World.ownsRow_nil _ _ _ _, rfl, rfl, by simp [gaL, gaP, catB], HB1.out⟩
  case round =>
    obtain ⟨k, hk, hown, rfl, rfl, hsz, hb⟩ := hrel
    obtain ⟨ao, cap, rfl⟩ := st_sl hown
    have HO : Hid (wr.ownsRow w.heap.size 9 1 (.slice ao (gaL s zs k).length cap) (gaL s zs k).length (stR (gaL s zs k))) := hown
    have HB : Hid _ := hb
    clear hown HB1
    by_cases hlt : k < zs.length
    · obtain ⟨g, o, cap2, hv, _, hg, hc⟩ := HR.out.resolve_left (fun h => by rw [h.1] at hlt; simp at hlt)
      injection hv with hv1 hv2 hv3
      subst hv1 hv3
      obtain ⟨d0, d1, d2⟩ := hc.below hb hg k hlt
      have hw := inW_iff.1 (HZ.out k hlt)
      have HNX : Hid _ := gaL_next s zs k hlt
      have hps := pce_size s zs[k] (HZ.out k hlt)
      have hm2 := HM2.out
      have hln := gaL_len s zs k
      have hn := HN.out
      clear hc hb
      generalize zs[k] = z at *
      obtain ⟨zp, zl, zw⟩ := z
      simp only at d0 d1 d2 hw HNX hps
      obtain ⟨hw1, hw2, hw3⟩ := hw
      obtain ⟨P, rfl⟩ := Int.eq_ofNat_of_zero_le hw1
      obtain ⟨L, rfl⟩ := Int.eq_ofNat_of_zero_le hw2
      have hk0 : (0 : Int) ≤ (k : Int) := by omega
      have hk1 : (k : Int) < (zs.length : Int) := by omega
      have hgw : g < wr.heap.size := Nat.lt_of_lt_of_le hg HB.out.size
      cases zw
      · have hpe : pce s ⟨P, L, false⟩ = s.extract P (P + L) := by
          unfold pce
          simp only [Int.toNat_natCast]
          rw [show ((P : Int) + (L : Int)).toNat = P + L by omega]
        have HN2 : Hid (gaL s zs (k + 1) = gaL s zs k ++ [s.extract P (P + L)]) := (show gaL s zs (k + 1) = _ by rw [HNX.out, if_neg (by simp), hpe])
        rw [hpe] at hps
        have HLE : Hid ((catB (gaL s zs (k + 1))).length = (catB (gaL s zs k)).length + L) := (show (catB (gaL s zs (k + 1))).length = (catB (gaL s zs k)).length + L by
          rw [HN2.out, catB_app, catB_one, List.length_append, bsize]
          omega)
        have sb := fun w => slBoth s P (P + L) (P : Int) ((P : Int) + (L : Int)) rfl (by omega) (by omega) (by omega) w
        have HB3 : Hid (Below w.heap.size w (wr.alloc (.cells #[.int .i64 P, .int .i64 L, .bool false] 59))) := HB.out.alloc HB.out.size _
        have HB4 : Hid (Below w.heap.size w ((wr.alloc (.cells #[.int .i64 P, .int .i64 L, .bool false] 59)).alloc (.cells #[.string (s.extract P (P + L))] 9))) := HB3.out.alloc HB3.out.size _
        have hO3 := own_below (own_below HO.out (bx1 wr (.cells #[.int .i64 P, .int .i64 L, .bool false] 59))) (bx1 (wr.alloc (.cells #[.int .i64 P, .int .i64 L, .bool false] 59)) (.cells #[.string (s.extract P (P + L))] 9))
        have hLb : (L : Int) ≤ 65536 := by omega
        have hPb : (P : Int) ≤ 65536 := by omega
        have hcb : (((catB (gaL s zs k)).length : Nat) : Int) ≤ 65536000 := by omega
        have HSZ2 : Hid ((catB (gaL s zs (k + 1))).length ≤ (k + 1) * 65536) := (show (catB (gaL s zs (k + 1))).length ≤ (k + 1) * 65536 by have e := HLE.out; omega)
        have HO3 : Hid (((wr.alloc (.cells #[.int .i64 P, .int .i64 L, .bool false] 59)).alloc (.cells #[.string (s.extract P (P + L))] 9)).ownsRow w.heap.size 9 1 (.slice ao (gaL s zs k).length cap) (gaL s zs k).length (stR (gaL s zs k))) := hO3
        have HLN : Hid ((gaL s zs k).length ≤ 1000) := (show (gaL s zs k).length ≤ 1000 by omega)
        have HCE : Hid _ := one_cell wr (.cells #[.int .i64 P, .int .i64 L, .bool false] 59) (.string (s.extract P (P + L))) 9
        have HBX : Hid (((wr.alloc (.cells #[.int .i64 P, .int .i64 L, .bool false] 59)).alloc (.cells #[.string (s.extract P (P + L))] 9)).heap[wr.heap.size]? = some (.cells #[.int .i64 P, .int .i64 L, .bool false] 59 (0, 0))) := ((bx1 (wr.alloc (.cells #[.int .i64 P, .int .i64 L, .bool false] 59)) _).block _ (by simp)).trans (heap_new _ _)
        clear HNX hpe hps hw1 hw2 hw3 hm2 hln hn hsz hO3 HB3
        go_wp2_with (at_builtin; refine wpList_append_own _ rfl _ _ 76 rfl w.heap.size 9 i0 (.string ⟨#[]⟩) 1 16 Try.underlying76 HI0.out HZ0.out HZ1.out HZ2.out rfl (by decide) (.slice ao (gaL s zs k).length cap) (gaL s zs k).length (stR (gaL s zs k)) rfl HO3.out ⟨wr.heap.size + 1, 0, none⟩ 1 1 [.string (s.extract P (P + L))] rfl rfl ?c1 ?c2 ?c3 ?c4 ?c5 ?_)
        case c2 => rfl
        case c3 => have := HLN.out; unfold maxLen; omega
        case c4 => have := HLN.out; omega
        case c5 => have := HB.out.size; omega
        intro v' w2 hown2 hgrow _
        have HO4 : Hid (w2.ownsRow w.heap.size 9 1 v' (gaL s zs (k + 1)).length (stR (gaL s zs (k + 1)))) := (show w2.ownsRow w.heap.size 9 1 v' (gaL s zs (k + 1)).length (stR (gaL s zs (k + 1))) by
          rw [HN2.out]
          simpa [stR] using hown2)
        have HB5 : Hid (Below w.heap.size w w2) := HB4.out.grown hgrow HB4.out.size (fun j hj => (HO3.out.lt j hj).1)
        have hb2 : w2.heap[wr.heap.size]? = some (.cells #[.int .i64 P, .int .i64 L, .bool false] 59 (0, 0)) := (hgrow.block _ (by simp; omega) (fun e => by have := (HO.out.lt _ e.symm).2; omega)).trans HBX.out
        have e1 : w2.cell? ⟨wr.heap.size, 1, none⟩ = some (.int .i64 L) := by simp [World.cell?, hb2]
        clear hown2 hgrow hb2 HO3 HB4 HCE HBX d0 d1 d2
        obtain ⟨ao', cap', hv1⟩ := st_sl HO4.out
        subst hv1
        go_wp2_with fail
        refine ⟨⟨k + 1, hlt, HO4.out, by rw [HLE.out]; simp, by go_num, HSZ2.out, HB5.out⟩, ?_⟩
        simp [intOf]
        omega
      · have HN2 : Hid (gaL s zs (k + 1) = gaL s zs k) := (show gaL s zs (k + 1) = _ by rw [HNX.out, if_pos rfl, List.append_nil])
        have HB3 : Hid (Below w.heap.size w (wr.alloc (.cells #[.int .i64 P, .int .i64 L, .bool true] 59))) := HB.out.alloc HB.out.size _
        have HO3 : Hid ((wr.alloc (.cells #[.int .i64 P, .int .i64 L, .bool true] 59)).ownsRow w.heap.size 9 1 (.slice ao (gaL s zs k).length cap) (gaL s zs k).length (stR (gaL s zs k))) := own_below HO.out (bx1 wr (.cells #[.int .i64 P, .int .i64 L, .bool true] 59))
        have HSZ2 : Hid ((catB (gaL s zs k)).length ≤ (k + 1) * 65536) := Nat.le_trans hsz (Nat.mul_le_mul_right _ (Nat.le_succ k))
        clear HNX hps hw1 hw2 hw3 hm2 hln hn hsz
        go_wp2_with fail
        go_roundw
        case rel => exact ⟨k + 1, hlt, by rw [HN2.out]; exact HO3.out, by rw [HN2.out], by go_num, by rw [HN2.out]; exact HSZ2.out, HB3.out⟩
        case measure => simp [intOf]; omega
    · obtain rfl : k = zs.length := by omega
      have hln := gaL_len s zs zs.length
      have hn := HN.out
      have HJ : Hid _ := joined_row HO.out (by omega) (by omega)
      by_cases hbig : 65536 < (catB (gaL s zs zs.length)).length
      · have E2 : Hid (gaV s zs = ⟨#[]⟩) := (show gaV s zs = ⟨#[]⟩ by rw [E.out, if_neg (by omega)])
        have hd : decide (65536 < (((catB (gaL s zs zs.length)).length : Nat) : Int)) = true := decide_eq_true (by omega)
        clear hsz hln hn HJ hbig
        go_wp2_with fail
        go_ret
        exact ⟨sr_eq2 E2.out.symm, HB.out⟩
      · have E2 : Hid (gaV s zs = tx (catB (gaL s zs zs.length))) := (show gaV s zs = _ by rw [E.out, if_pos (by omega)])
        have hd : decide (65536 < (((catB (gaL s zs zs.length)).length : Nat) : Int)) = false := decide_eq_false (by omega)
        clear hsz hln hn hbig
        go_wp2_with (go_at_call 48; refine Calls.mono HJ.out ?_; rintro e u2 ⟨rfl, hu⟩; have HB6 : Hid (Below w.heap.size w u2) := HB.out.trans (hu.mono HB.out.size); clear hu)
        go_ret
        exact ⟨sr_eq2 E2.out.symm, HB6.out⟩
end Go.Proofs.Ytodncecnbpldeab
