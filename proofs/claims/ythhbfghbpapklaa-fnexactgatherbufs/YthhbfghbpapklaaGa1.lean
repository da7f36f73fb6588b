import Derived.Test.YthhbfghbpapklaaSp1
import Derived.Test.YthhbfghbpapklaaJoined
import Derived.Laws.DeepStrings4
namespace Go.Proofs.Ythhbfghbpapklaa
open Go.ChangeShapes Go.WideShapes Go.ChangeAt Go.RowKit

/-- What stands in a buffer. -/
def pce (s : ByteArray) (z : BU) : ByteArray := s.extract z.pos.toNat (z.pos + z.len).toNat
/-- What stands in those without Write. -/
def gaP (s : ByteArray) (zs : List BU) : List ByteArray := (zs.filter (fun z => !z.write)).map (pce s)
theorem gaP_app (s : ByteArray) (a b : List BU) : gaP s (a ++ b) = gaP s a ++ gaP s b := by simp [gaP]
theorem gaP_one (s : ByteArray) (z : BU) : gaP s [z] = if z.write = true then [] else [pce s z] := by
  unfold gaP
  cases h : z.write <;> simp [h]
theorem gaP_len (s : ByteArray) (a : List BU) : (gaP s a).length ≤ a.length := by
  unfold gaP
  rw [List.length_map]
  exact List.length_filter_le _ _
/-- The pieces of the first k. -/
def gaL (s : ByteArray) (zs : List BU) (k : Nat) : List ByteArray := gaP s (zs.take k)
theorem gaL_next (s : ByteArray) (zs : List BU) (k : Nat) (hk : k < zs.length) : gaL s zs (k + 1) = gaL s zs k ++ (if zs[k].write = true then [] else [pce s zs[k]]) := by
  unfold gaL
  rw [List.take_succ_eq_append_getElem hk, gaP_app, gaP_one]
theorem gaL_len (s : ByteArray) (zs : List BU) (k : Nat) : (gaL s zs k).length ≤ k := by
  have h1 := gaP_len s (zs.take k)
  have h2 : (zs.take k).length ≤ k := by rw [List.length_take]; omega
  unfold gaL
  omega
/-- Bytes as a text. -/
def tx (l : List UInt8) : ByteArray := ⟨l.toArray⟩
theorem tx_size (l : List UInt8) : (tx l).size = l.length := by simp [tx, ByteArray.size]
theorem tx_app (l : List UInt8) (p : ByteArray) : tx l ++ p = tx (l ++ p.data.toList) := by
  apply ByteArray.ext
  simp [tx]
theorem catB_app (a b : List ByteArray) : catB (a ++ b) = catB a ++ catB b := by simp [catB]
theorem catB_one (p : ByteArray) : catB [p] = p.data.toList := by simp [catB]
theorem pce_size (s : ByteArray) (z : BU) (h : inW s.size z.pos z.len = true) : ((pce s z).size : Int) = z.len := by
  have := inW_iff.1 h
  unfold pce
  rw [ex_size _ _ _ (by omega)]
  omega
/-- How many bytes the first k have. -/
theorem gaL_mono (s : ByteArray) (zs : List BU) (k : Nat) : (catB (gaL s zs k)).length ≤ (catB (gaL s zs zs.length)).length := by
  have e : gaL s zs zs.length = gaL s zs k ++ gaP s (zs.drop k) := by
    unfold gaL
    rw [List.take_length, ← gaP_app, List.take_append_drop]
  rw [e, catB_app, List.length_append]
  omega
/-- What GatherBufs answers. -/
def gaV (s : ByteArray) (zs : List BU) : ByteArray := if bsB s zs = true then (if (catB (gaL s zs zs.length)).length ≤ 65536 then tx (catB (gaL s zs zs.length)) else ⟨#[]⟩) else ⟨#[]⟩
theorem sr_eq2 {a b : ByteArray} (h : a = b) : Ending.returned (.string a) = .returned (.string b) := by rw [h]
theorem slBoth (s : ByteArray) (a b : Nat) (x y : Int) (hx : x = a) (hy : y = b) (h : a ≤ b) (h2 : b ≤ s.size) (w : World) : Sem.run Try.prog (Instr.slice 9 (.string s) (some (.int .i64 x)) (some (.int .i64 y)) none) w = .ok (.string (s.extract a b)) w := by
  subst hx
  subst hy
  rw [run_slice_string_if _ _ _ _ _ _ _ Try.underlying9, if_pos (by omega), if_pos (by omega)]
  rfl
set_option maxRecDepth 100000 in
set_option maxHeartbeats 4000000 in
theorem specGather_any {w : World} {v : Value} {zs : List BU} (s : ByteArray) (h : BUrow w v zs) (hl : zs.length ≤ 1048576) (hs : s.size ≤ 1048576) :
    Calls Try.prog 14 #[.string s, v] w fun e w' => e = .returned (.string (gaV s zs)) ∧ Below w.heap.size w w' := by
  have HK : Hid _ := fun u (hu : BUrow u v zs) => l10Bufs_any s hu hl hs
  obtain ⟨a1, c1, rfl⟩ := h.sl
  have HR : Hid (BUrow w (.slice a1 zs.length c1) zs) := h
  clear h
  cases hb : bsB s zs
  · rw [hb] at HK
    have E : Hid (gaV s zs = ⟨#[]⟩) := (show gaV s zs = ⟨#[]⟩ by unfold gaV; rw [hb]; rfl)
    clear hb
    go_enter Try.func14, Try.ntmps14
    go_wp2_with (go_at_call 36; refine Calls.mono (HK.out _ HR.out) ?_; rintro e u1 ⟨rfl, hu1⟩; have HB1 : Hid _ := hu1; clear hu1)
    go_ret
    exact ⟨sr_eq2 E.out.symm, HB1.out⟩
  rw [hb] at HK
  obtain ⟨hm, hn, hz⟩ := bsB_b hb
  obtain ⟨m1, m2, m3⟩ := memOk_b hm
  have E : Hid (gaV s zs = if (catB (gaL s zs zs.length)).length ≤ 65536 then tx (catB (gaL s zs zs.length)) else ⟨#[]⟩) := (show gaV s zs = _ by unfold gaV; rw [hb, if_pos rfl])
  have HZ : Hid (∀ j (hj : j < zs.length), inW s.size zs[j].pos zs[j].len = true) := hz
  have HM2 : Hid (s.size ≤ 65536) := m2
  clear hb hm hz m1 m2 m3 hs
  go_enter Try.func14, Try.ntmps14
  go_wp2_with (go_at_call 36; refine Calls.mono (HK.out _ HR.out) ?_; rintro e u1 ⟨rfl, hu1⟩; have HB1 : Hid _ := hu1; clear hu1)
  go_loopw [5, 6] (fun x i w5 => ∃ k : Nat, k ≤ zs.length ∧ x = .string (tx (catB (gaL s zs k))) ∧ i = .int .i64 k ∧ (catB (gaL s zs k)).length ≤ 65536 ∧ Below w.heap.size w w5) (fun _ i _ => zs.length - (intOf i).toNat)
  case atStart => exact ⟨0, Nat.zero_le _, rfl, rfl, by simp [gaL, gaP, catB], HB1.out⟩
  case round =>
    obtain ⟨k, hk, rfl, rfl, hsz, hb⟩ := hrel
    have HB : Hid _ := hb
    clear HK
    by_cases hlt : k < zs.length
    · obtain ⟨g, o, cap2, hv, _, hg, hc⟩ := HR.out.resolve_left (fun h => by rw [h.1] at hlt; simp at hlt)
      injection hv with hv1 hv2 hv3
      subst hv1 hv3
      obtain ⟨d0, d1, d2⟩ := hc.below hb hg k hlt
      have hw := inW_iff.1 (HZ.out k hlt)
      have HN : Hid _ := gaL_next s zs k hlt
      have hps := pce_size s zs[k] (HZ.out k hlt)
      have hmo := gaL_mono s zs (k + 1)
      have hm2 := HM2.out
      clear hc hb
      generalize zs[k] = z at *
      obtain ⟨zp, zl, zw⟩ := z
      simp only at d0 d1 d2 hw HN hps
      obtain ⟨hw1, hw2, hw3⟩ := hw
      obtain ⟨P, rfl⟩ := Int.eq_ofNat_of_zero_le hw1
      obtain ⟨L, rfl⟩ := Int.eq_ofNat_of_zero_le hw2
      have hk0 : (0 : Int) ≤ (k : Int) := by omega
      have hk1 : (k : Int) < (zs.length : Int) := by omega
      have hgw : g < wr.heap.size := Nat.lt_of_lt_of_le hg HB.out.size
      cases zw
      · have hN2 : Hid (catB (gaL s zs (k + 1)) = catB (gaL s zs k) ++ (pce s ⟨P, L, false⟩).data.toList) := (show catB (gaL s zs (k + 1)) = _ by rw [HN.out, if_neg (by simp), catB_app, catB_one])
        have hpe : pce s ⟨P, L, false⟩ = s.extract P (P + L) := by
          unfold pce
          simp only [Int.toNat_natCast]
          rw [show ((P : Int) + (L : Int)).toNat = P + L by omega]
        rw [hpe] at hN2 hps
        have hle : (catB (gaL s zs (k + 1))).length = (catB (gaL s zs k)).length + L := by
          rw [hN2.out, List.length_append, bsize]
          omega
        have sb := fun w => slBoth s P (P + L) (P : Int) ((P : Int) + (L : Int)) rfl (by omega) (by omega) (by omega) w
        have sa := fun w => run_string_add_sum (P := Try.prog) w (tx (catB (gaL s zs k))) (s.extract P (P + L)) (by rw [tx_size]; omega)
        rw [tx_app, ← hN2.out] at sa
        have hts : (tx (catB (gaL s zs (k + 1)))).size = (catB (gaL s zs k)).length + L := by rw [tx_size]; exact hle
        have hPb : (P : Int) ≤ 65536 := by omega
        have hLb : (L : Int) ≤ 65536 := by omega
        clear HN hpe hps hw1 hw2 hw3
        by_cases hbig : 65536 < (catB (gaL s zs k)).length + L
        · have hd : decide (65536 < ((tx (catB (gaL s zs (k + 1)))).size : Int)) = true := decide_eq_true (by rw [hts]; omega)
          have E2 : Hid (gaV s zs = ⟨#[]⟩) := (show gaV s zs = ⟨#[]⟩ by rw [E.out, if_neg (by omega)])
          clear hle hts hN2 hmo hm2
          generalize tx (catB (gaL s zs (k + 1))) = T2 at *
          generalize tx (catB (gaL s zs k)) = T1 at *
          clear hbig hsz
          go_wp2_with fail
          go_quiet (fail)
          go_wp2_with fail
          go_ret
          exact ⟨sr_eq2 E2.out.symm, bdn HB.out _⟩
        · have hd : decide (65536 < ((tx (catB (gaL s zs (k + 1)))).size : Int)) = false := decide_eq_false (by rw [hts]; omega)
          have HL2 : Hid ((catB (gaL s zs (k + 1))).length ≤ 65536) := (show (catB (gaL s zs (k + 1))).length ≤ 65536 by omega)
          have HT2 : Hid (∃ T, T = tx (catB (gaL s zs (k + 1)))) := ⟨_, rfl⟩
          obtain ⟨T2, hT2⟩ := HT2.out
          rw [← hT2] at hd sa
          have HT3 : Hid _ := hT2
          clear hle hts hN2 hmo hm2 HT2 hT2
          generalize tx (catB (gaL s zs k)) = T1 at *
          clear hbig hsz
          go_wp2_with fail
          go_quiet (fail)
          go_wp2_with fail
          go_roundw
          case rel => exact ⟨k + 1, hlt, by rw [HT3.out], by go_num, HL2.out, bdn HB.out _⟩
          case measure => simp [intOf]; omega
      · have hN2 : Hid (gaL s zs (k + 1) = gaL s zs k) := (show gaL s zs (k + 1) = _ by rw [HN.out, if_pos rfl, List.append_nil])
        have hd : decide (65536 < ((tx (catB (gaL s zs k))).size : Int)) = false := decide_eq_false (by rw [tx_size]; omega)
        have HL2 : Hid ((catB (gaL s zs k)).length ≤ 65536) := hsz
        clear HN hps hw1 hw2 hw3 hmo hm2
        have HT2 : Hid (∃ T, T = tx (catB (gaL s zs k))) := ⟨_, rfl⟩
        obtain ⟨T2, hT2⟩ := HT2.out
        rw [← hT2] at hd ⊢
        have HT3 : Hid _ := hT2
        clear HT2 hT2 hsz
        go_wp2_with fail
        go_roundw
        case rel => exact ⟨k + 1, hlt, by rw [HT3.out, hN2.out], by go_num, by rw [hN2.out]; exact HL2.out, HB.out⟩
        case measure => simp [intOf]; omega
    · obtain rfl : k = zs.length := by omega
      have E2 : Hid (gaV s zs = tx (catB (gaL s zs zs.length))) := (show gaV s zs = _ by rw [E.out, if_pos hsz])
      clear hsz
      go_wp2_with fail
      go_ret
      exact ⟨sr_eq2 E2.out.symm, HB.out⟩
end Go.Proofs.Ythhbfghbpapklaa
