import Derived.Test.YthhbfghbpapklaaAp1
import Derived.Test.YthhbfghbpapklaaGa1
namespace Go.Proofs.Ythhbfghbpapklaa
open Go.ChangeShapes Go.WideShapes Go.ChangeAt Go.RowKit

/-- The bytes of buffers that are read. -/
def rmN : List BU → Int
  | [] => 0
  | z :: r => (if z.write = false then z.len else 0) + rmN r
theorem rmN_app (a b : List BU) : rmN (a ++ b) = rmN a + rmN b := by
  induction a with
  | nil => simp [rmN]
  | cons z r ih => simp [rmN, ih]; omega
theorem rmN_next (zs : List BU) (k : Nat) (hk : k < zs.length) : rmN (zs.take (k + 1)) = rmN (zs.take k) + (if zs[k].write = false then zs[k].len else 0) := by
  rw [List.take_succ_eq_append_getElem hk, rmN_app]
  simp [rmN]
theorem rmN_b (zs : List BU) (h : ∀ z ∈ zs, 0 ≤ z.len ∧ z.len ≤ 65536) : 0 ≤ rmN zs ∧ rmN zs ≤ 65536 * zs.length := by
  induction zs with
  | nil => simp [rmN]
  | cons z r ih =>
    obtain ⟨h1, h2⟩ := ih (fun x hx => h x (by simp [hx]))
    have h3 := h z (by simp)
    unfold rmN
    split <;> simp <;> omega
theorem rmN_tb (zs : List BU) (h : ∀ z ∈ zs, 0 ≤ z.len ∧ z.len ≤ 65536) (hl : zs.length ≤ 1000) (k : Nat) : 0 ≤ rmN (zs.take k) ∧ rmN (zs.take k) ≤ 65536000 := by
  have h1 := rmN_b (zs.take k) (fun z hz => h z (List.mem_of_mem_take hz))
  have h2 : (zs.take k).length ≤ 1000 := by rw [List.length_take]; omega
  omega
set_option maxRecDepth 100000 in
set_option maxHeartbeats 4000000 in
theorem bytesOfN_any {w : World} {v : Value} {zs : List BU} (h : BUrow w v zs) (hz : ∀ z ∈ zs, 0 ≤ z.len ∧ z.len ≤ 65536) (hl : zs.length ≤ 1000) :
    Calls Try.prog 65 #[v, .bool false] w fun e w' => e = .returned (.int .i64 (rmN zs)) ∧ Below w.heap.size w w' := by
  obtain ⟨a1, c1, rfl⟩ := h.sl
  have HR : Hid (BUrow w (.slice a1 zs.length c1) zs) := h
  have HT : Hid _ := rmN_tb zs hz hl
  have HZ : Hid _ := hz
  clear h hz
  go_enter Try.func65, Try.ntmps65
  go_wp2_with fail
  go_loopw [5, 10] (fun x i wr => ∃ k : Nat, k ≤ zs.length ∧ x = .int .i64 (rmN (zs.take k)) ∧ i = .int .i64 k ∧ Below w.heap.size w wr) (fun _ i _ => zs.length - (intOf i).toNat)
  case atStart => exact ⟨0, Nat.zero_le _, rfl, rfl, Below.refl _ _⟩
  case round =>
    obtain ⟨k, hk, rfl, rfl, hb⟩ := hrel
    have HB : Hid _ := hb
    by_cases hlt : k < zs.length
    · obtain ⟨g, o, cap2, hv, _, hg, hc⟩ := HR.out.resolve_left (fun h => by rw [h.1] at hlt; simp at hlt)
      injection hv with hv1 hv2 hv3
      subst hv1 hv3
      obtain ⟨d0, d1, d2⟩ := hc.below hb hg k hlt
      have hlen := HZ.out zs[k] (List.getElem_mem hlt)
      have HN : Hid _ := rmN_next zs k hlt
      have htb := HT.out k
      clear hc hb
      generalize zs[k] = z at *
      generalize rmN (zs.take k) = R at *
      obtain ⟨zp, zl, zw⟩ := z
      simp only at d0 d1 d2 hlen
      have hk0 : (0 : Int) ≤ (k : Int) := by omega
      have hk1 : (k : Int) < (zs.length : Int) := by omega
      have hgw : g < wr.heap.size := Nat.lt_of_lt_of_le hg HB.out.size
      have HB3 : Hid (Below w.heap.size w (wr.alloc (.cells #[.int .i64 zp, .int .i64 zl, .bool zw] 48))) := HB.out.alloc HB.out.size _
      cases zw
      · have hN2 : Hid (rmN (zs.take (k + 1)) = R + zl) := (HN.out.trans (by simp))
        clear HN
        go_wp2_with fail
        go_roundw
        case rel => exact ⟨k + 1, hlt, by rw [hN2.out], by go_num, HB3.out⟩
        case measure => simp [intOf]; omega
      · have hN2 : Hid (rmN (zs.take (k + 1)) = R) := (HN.out.trans (by simp))
        clear HN
        go_wp2_with fail
        go_roundw
        case rel => exact ⟨k + 1, hlt, by rw [hN2.out], by go_num, HB3.out⟩
        case measure => simp [intOf]; omega
    · obtain rfl : k = zs.length := by omega
      have E : Hid (rmN (zs.take zs.length) = rmN zs) := (show rmN (zs.take zs.length) = rmN zs by rw [List.take_length])
      go_wp2_with fail
      go_ret
      exact ⟨ret_int E.out, HB.out⟩
theorem rmN_cat (s : ByteArray) (zs : List BU) (hz : ∀ z ∈ zs, inW s.size z.pos z.len = true) : rmN zs = ((catB (gaP s zs)).length : Int) := by
  induction zs with
  | nil => rfl
  | cons z r ih =>
    have e : gaP s (z :: r) = gaP s [z] ++ gaP s r := gaP_app s [z] r
    have h1 := pce_size s z (hz z (by simp))
    rw [e, catB_app, List.length_append, gaP_one]
    unfold rmN
    rw [ih (fun x hx => hz x (by simp [hx]))]
    cases hw : z.write
    · simp [catB_one]
      have h2 := bsize (pce s z)
      simp at h2 h1
      omega
    · simp [catB]
theorem mkB0 (w : World) (m : Nat) (hm : m ≤ 65536) : (Instr.makeSlice 65 (.int .i64 0) (.int .i64 m)).run Try.prog w = .ok (.slice (some ⟨w.heap.size, 0, none⟩) 0 m) (w.alloc (.cells (madeCells #[.int .u8 0] m) 5)) := by
  obtain ⟨i0, hi, hz0, hz1, hz2⟩ := info_parts Try.info5
  have hr := run_make (P := Try.prog) w 65 5 i0 (.int .u8 0) Try.underlying65 hi hz0 .i64 .i64 0 m (by omega) (by omega) (by rw [hz2]; omega) (by omega)
  rw [hr, hz1, Int.toNat_natCast, Nat.mul_one]
  rfl
theorem own0 (w : World) (m : Nat) (hm : m ≤ 65536) : (w.alloc (.cells (madeCells #[.int .u8 0] m) 5)).ownsRow w.heap.size 5 1 (.slice (some ⟨w.heap.size, 0, none⟩) 0 m) 0 [] := by
  refine ⟨rfl, .inr ⟨w.heap.size, m, _, rfl, Nat.le_refl _, (MapKept.heap_alloc w _).1, by omega, by unfold maxLen; omega, by simp [madeCells], by simp⟩⟩
theorem own_belB {w w' : World} {B : Nat} {e : TypeId} {s : Nat} {v : Value} {n : Nat} {xs : List Value} (h : w.ownsRow B e s v n xs) (hb : Below w.heap.size w w') : w'.ownsRow B e s v n xs :=
  h.kept (row := none) ⟨hb.os, hb.tape, hb.output, hb.size, fun k hk _ => hb.block k hk⟩ (by cases v.ownBlock <;> simp)
theorem own_weakB {w : World} {B B' : Nat} {e : TypeId} {s : Nat} {v : Value} {n : Nat} {xs : List Value} (h : w.ownsRow B e s v n xs) (hb : B' ≤ B) : w.ownsRow B' e s v n xs := by
  obtain ⟨hl, h | ⟨g, cap, cur, hv, hg, h1, h2, h3, h4, h5⟩⟩ := h
  · exact ⟨hl, .inl h⟩
  · exact ⟨hl, .inr ⟨g, cap, cur, hv, Nat.le_trans hb hg, h1, h2, h3, h4, h5⟩⟩
set_option maxRecDepth 100000 in
set_option maxHeartbeats 4000000 in
theorem gather_any {w : World} {mb n : Nat} {v : Value} {zs : List BU} {s : ByteArray} (h : BUrow w v zs) (hm : MemAt w mb s) (hn : s.size = n * 256) (hs : s.size ≤ 65536) (hz : ∀ z ∈ zs, inW s.size z.pos z.len = true) (hl : zs.length ≤ 1000) :
    Calls Try.prog 38 #[mv mb n, v] w fun e w' => ∃ (v' : Value) (L : List UInt8), e = .returned v' ∧ L = (if (catB (gaP s zs)).length ≤ 65536 then catB (gaP s zs) else []) ∧ w'.ownsRow w.heap.size 5 1 v' L.length (cells8 L) ∧ Below w.heap.size w w' := by
  obtain ⟨a1, c1, rfl⟩ := h.sl
  have HR : Hid (BUrow w (.slice a1 zs.length c1) zs) := h
  have HBO : Hid _ := bytesOfN_any h (fun z hq => by have := inW_iff.1 (hz z hq); omega) hl
  rw [rmN_cat s zs hz] at HBO
  have HAB : Hid (∀ (u : World) (B : Nat) (v : Value) (bs : List UInt8) (p L : Nat), MemAt u mb s → u.ownsRow B 5 1 v bs.length (cells8 bs) → mb < B → B ≤ u.heap.size → p + L ≤ s.size → bs.length ≤ 1048576 → Calls Try.prog 66 #[mv mb n, v, .int .i64 p, .int .i64 L] u fun e w' => ∃ v', e = .returned v' ∧ w'.ownsRow B 5 1 v' (bs.length + L) (cells8 (bs ++ (s.extract p (p + L)).data.toList)) ∧ Below B u w') := fun u B v bs p L h1 h2 h3 h4 h5 h6 => appendBytes_any p L h1 h2 h3 h4 hn hs h5 h6
  have HM0 : Hid (MemAt w mb s) := hm
  have HZ : Hid _ := hz
  have HML : Hid (mb < w.heap.size) := hm.lt
  have HGM : Hid (∀ k, (catB (gaL s zs k)).length ≤ (catB (gaP s zs)).length) := fun k => by
    have h1 := gaL_mono s zs k
    have e : gaL s zs zs.length = gaP s zs := by unfold gaL; rw [List.take_length]
    rw [e] at h1
    exact h1
  have HGE : Hid (gaL s zs zs.length = gaP s zs) := by
    show gaL s zs zs.length = gaP s zs
    unfold gaL
    rw [List.take_length]
  have hT0 : 0 ≤ ((catB (gaP s zs)).length : Int) := by omega
  generalize hTT : (catB (gaP s zs)).length = TT at *
  have HS : Hid (s.size ≤ 65536) := hs
  clear h hm hz hn hs
  unfold mv at HAB ⊢
  by_cases hbig : 65536 < TT
  · have hbi : (65536 : Int) < (TT : Int) := by omega
    rw [if_neg (by omega)]
    go_enter Try.func38, Try.ntmps38
    go_wp2_with (go_at_call 65; refine Calls.mono HBO.out ?_; rintro e u1 ⟨rfl, hu1⟩; have HB1 : Hid _ := hu1; clear hu1)
    go_ret
    exact ⟨_, [], rfl, rfl, World.ownsRow_nil _ _ _ _, HB1.out⟩
  · have hbi : ¬ (65536 : Int) < (TT : Int) := by omega
    rw [if_pos (by omega)]
    have HMK : Hid _ := fun u => mkB0 u TT (by omega)
    have HOW : Hid _ := fun u => own0 u TT (by omega)
    go_enter Try.func38, Try.ntmps38
    go_wp2_with (go_at_call 65; refine Calls.mono HBO.out ?_; rintro e u1 ⟨rfl, hu1⟩; have HB1 : Hid _ := hu1; have hmk := HMK.out u1; clear hu1)
    have HB2 : Hid (Below w.heap.size w (u1.alloc (.cells (madeCells #[.int .u8 0] TT) 5))) := HB1.out.alloc HB1.out.size _
    have HO2 : Hid _ := HOW.out u1
    have HUL : Hid (w.heap.size ≤ u1.heap.size) := HB1.out.size
    have HSZ : Hid (u1.heap.size ≤ (u1.alloc (.cells (madeCells #[.int .u8 0] TT) 5)).heap.size) := (World.grownBy_alloc u1 _ none).size
    clear HMK HOW hmk HBO HB1
    generalize (u1.alloc (.cells (madeCells #[.int .u8 0] TT) 5)) = u2 at *
    generalize u1.heap.size = B at *
    go_loopw [6, 17] (fun x i wr => ∃ (k : Nat) (ao : Option Addr) (cap : Nat) (L : List UInt8), k ≤ zs.length ∧ x = .slice ao L.length cap ∧ i = .int .i64 k ∧ Hid (L = catB (gaL s zs k)) ∧ Hid (wr.ownsRow B 5 1 (.slice ao L.length cap) L.length (cells8 L)) ∧ Hid (Below w.heap.size w wr) ∧ Hid (B ≤ wr.heap.size)) (fun _ i _ => zs.length - (intOf i).toNat)
    case atStart => exact ⟨0, _, _, [], Nat.zero_le _, rfl, rfl, rfl, HO2, HB2, HSZ⟩
    case round =>
      obtain ⟨k, ao, cap, L, hk, rfl, rfl, HLE, HO, HB, HBs⟩ := hrel
      clear HB2 HO2 HSZ
      by_cases hlt : k < zs.length
      · obtain ⟨g, o, cap2, hv, _, hg, hc⟩ := HR.out.resolve_left (fun h => by rw [h.1] at hlt; simp at hlt)
        injection hv with hv1 hv2 hv3
        subst hv1 hv3
        obtain ⟨d0, d1, d2⟩ := hc.below HB.out hg k hlt
        have hw := inW_iff.1 (HZ.out zs[k] (List.getElem_mem hlt))
        have HN : Hid _ := gaL_next s zs k hlt
        have HLB : Hid (L.length ≤ 65536) := by
          have h1 := HGM.out k
          rw [← HLE.out] at h1
          exact (show L.length ≤ 65536 by omega)
        clear hc
        generalize zs[k] = z at *
        obtain ⟨zp, zl, zw⟩ := z
        simp only at d0 d1 d2 hw
        obtain ⟨hw1, hw2, hw3⟩ := hw
        obtain ⟨P, rfl⟩ := Int.eq_ofNat_of_zero_le hw1
        obtain ⟨Q, rfl⟩ := Int.eq_ofNat_of_zero_le hw2
        have hk0 : (0 : Int) ≤ (k : Int) := by omega
        have hk1 : (k : Int) < (zs.length : Int) := by omega
        have hgw : g < wr.heap.size := Nat.lt_of_lt_of_le hg HB.out.size
        have HB3 : Hid (Below w.heap.size w (wr.alloc (.cells #[.int .i64 P, .int .i64 Q, .bool zw] 48))) := HB.out.alloc HB.out.size _
        have HO3 : Hid ((wr.alloc (.cells #[.int .i64 P, .int .i64 Q, .bool zw] 48)).ownsRow B 5 1 (.slice ao L.length cap) L.length (cells8 L)) := HO.out.alloc _
        have HX3 : Hid ((wr.alloc (.cells #[.int .i64 P, .int .i64 Q, .bool zw] 48)).heap[wr.heap.size]? = some (.cells #[.int .i64 P, .int .i64 Q, .bool zw] 48 (0, 0))) := heap_new _ _
        have HS3 : Hid (B ≤ (wr.alloc (.cells #[.int .i64 P, .int .i64 Q, .bool zw] 48)).heap.size) := by
          exact Nat.le_trans HBs.out (World.grownBy_alloc wr _ none).size
        cases zw
        · have hN2 : Hid (catB (gaL s zs (k + 1)) = L ++ (s.extract P (P + Q)).data.toList) := by
            show _ = _
            rw [HN.out, catB_app, HLE.out]
            simp only [Bool.false_eq_true, if_false]
            rw [catB_one]
            rfl
          go_upto_region 9 with fail
          generalize (wr.alloc (.cells #[.int .i64 P, .int .i64 Q, .bool false] 48)) = y3 at *
          generalize wr.heap.size = B3 at *
          have x0 := bC HX3.out 0 (.int .i64 P) rfl
          have x1 := bC HX3.out 1 (.int .i64 Q) rfl
          have xl : B3 < y3.heap.size := (Array.getElem?_eq_some_iff.1 HX3.out).1
          have HM3 : Hid (MemAt y3 mb s) := HM0.out.below HB3.out HML.out
          have HMB : Hid (mb < B) := Nat.lt_of_lt_of_le HML.out HUL.out
          have HPQ : Hid (P + Q ≤ s.size) := (show P + Q ≤ s.size by omega)
          clear HM0 HO HB HBs HX3 HN
          go_wp2_with (go_at_call 66; refine Calls.mono (HAB.out _ B _ L P Q HM3.out HO3.out HMB.out HS3.out HPQ.out (by have := HLB.out; omega)) ?_; rintro e y4 ⟨v4, rfl, ho4, hb4⟩; rw [← hN2.out] at ho4; obtain ⟨ao4, cap4, rfl⟩ := ow_sl ho4; have HO4 : Hid _ := ho4; have HB4 : Hid (Below w.heap.size w y4) := HB3.out.trans (hb4.mono HUL.out); have HS4 : Hid (B ≤ y4.heap.size) := Nat.le_trans HS3.out hb4.size; have HL4 : Hid (L.length + Q = (catB (gaL s zs (k + 1))).length) := by { have e1 := bsize (s.extract P (P + Q)); have e2 := ex_size s P (P + Q) HPQ.out; show _ = _; rw [hN2.out, List.length_append, e1, e2]; omega }; clear ho4 hb4)
          go_roundw
          case rel =>
            have h9 := HO4.out
            rw [HL4.out] at h9
            exact ⟨k + 1, ao4, cap4, catB (gaL s zs (k + 1)), hlt, by rw [HL4.out], by go_num, rfl, h9, HB4, HS4⟩
          case measure => simp [intOf]; omega
        · have hN2 : Hid (catB (gaL s zs (k + 1)) = L) := by
            show _ = _
            rw [HN.out, HLE.out]
            simp
          clear HN
          go_wp2_with fail
          go_roundw
          case rel => exact ⟨k + 1, ao, cap, L, hlt, rfl, by go_num, hN2.out.symm, HO3, HB3, HS3⟩
          case measure => simp [intOf]; omega
      · obtain rfl : k = zs.length := by omega
        have E : Hid (L = catB (gaP s zs)) := by
          show _ = _
          rw [HLE.out, HGE.out]
        go_wp2_with fail
        go_ret
        exact ⟨_, L, rfl, E.out, own_weakB HO.out HUL.out, HB.out⟩
end Go.Proofs.Ythhbfghbpapklaa
