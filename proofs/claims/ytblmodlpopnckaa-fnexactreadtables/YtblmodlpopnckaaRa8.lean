import Derived.Test.YtblmodlpopnckaaRa7
namespace Go.Proofs.Ytblmodlpopnckaa
open Go.ChangeShapes Go.WideShapes Go.ChangeAt Go.RowKit

/-- How many tables there are. -/
def plN (m : ByteArray) (a : Nat) : Nat := (gwV m (a + 4)).toNat
def plA (m : ByteArray) (a : Nat) : Bool := fmk m a && (hwd m ((a + 4 : Nat) : Int) && decide (gwV m (a + 4) ≤ 10))
def plW (m : ByteArray) (a n : Nat) : List Int := (List.range n).map fun j => gwV m (a + j * 4)
def plS (m : ByteArray) (a : Nat) : Int := psum (plW m a (plN m a + 3)) (plN m a + 3) % 4294967296
def plI (m : ByteArray) (a : Nat) : Bool := inW m.size (a : Int) (((plN m a + 3 : Nat) : Int) * 4)
/-- What the places of the tables are told with. -/
def plC (m : ByteArray) (a : Nat) : Int := if plA m a = false then 3 else if plI m a = false then 3 else if plS m a ≠ 0 then 10 else 0
def plL (m : ByteArray) (a : Nat) : List Int := if plC m a = 0 then ((plW m a (plN m a + 3)).drop 2).take (plN m a) else []
theorem plW_len (m : ByteArray) (a n : Nat) : (plW m a n).length = n := by simp [plW]
theorem plW_succ (m : ByteArray) (a n : Nat) : plW m a (n + 1) = plW m a n ++ [gwV m (a + n * 4)] := by simp [plW, List.range_succ]
theorem plA_no {m : ByteArray} {a : Nat} (h : plA m a = false) : plC m a = 3 ∧ plL m a = [] := by
  have e : plC m a = 3 := if_pos h
  exact ⟨e, if_neg (by rw [e]; decide)⟩
theorem plI_no {m : ByteArray} {a : Nat} (h : plA m a = true) (h2 : plI m a = false) : plC m a = 3 ∧ plL m a = [] := by
  have e : plC m a = 3 := by unfold plC; rw [if_neg (by rw [h]; decide), if_pos h2]
  exact ⟨e, if_neg (by rw [e]; decide)⟩
theorem plS_no {m : ByteArray} {a : Nat} (h : plA m a = true) (h2 : plI m a = true) (h3 : plS m a ≠ 0) : plC m a = 10 ∧ plL m a = [] := by
  have e : plC m a = 10 := by unfold plC; rw [if_neg (by rw [h]; decide), if_neg (by rw [h2]; decide), if_pos h3]
  exact ⟨e, if_neg (by rw [e]; decide)⟩
theorem pl_yes {m : ByteArray} {a : Nat} (h : plA m a = true) (h2 : plI m a = true) (h3 : plS m a = 0) : plC m a = 0 ∧ plL m a = ((plW m a (plN m a + 3)).drop 2).take (plN m a) := by
  have e : plC m a = 0 := by unfold plC; rw [if_neg (by rw [h]; decide), if_neg (by rw [h2]; decide), if_neg (by omega)]
  exact ⟨e, if_pos e⟩
set_option maxRecDepth 100000 in
set_option maxHeartbeats 8000000 in
theorem tablePlaces_any {m : ByteArray} {a : Nat} (hm : m.size ≤ 65536) (ha : a + 4 ≤ m.size) (w : World) : Calls Try.prog 24 #[.string m, .int .i64 (a : Int)] w fun e w' => ∃ v, e = .returned (.tuple #[v, .int .i64 (plC m a)]) ∧ Irow w' v (plL m a) ∧ Below w.heap.size w w' := by
  have HG : Hid (∀ (y : Int) u, y = ((a + 4 : Nat) : Int) → Calls Try.prog 42 #[.string m, .int .i64 y] u fun e w' => e = .returned (.agg #[.bool (hwd m ((a + 4 : Nat) : Int)), .int .i64 (gwV m (a + 4))]) ∧ Below u.heap.size u w') := fun y u hy => by rw [hy]; exact gw2_any m (a + 4) u
  have HP : Hid (∀ u, Calls Try.prog 43 #[.string (m.extract a m.size), .string ⟨#[70, 73, 82, 77]⟩] u fun e w' => e = .returned (.bool (fmk m a)) ∧ w' = u) := fun u => by
    have h9 := hasPre (m.extract a m.size) (by rw [ByteArray.size_extract]; omega) u
    rw [ex_ex m a 4 ha] at h9
    exact h9
  have HSL : ∀ u, Sem.run Try.prog (Instr.slice 9 (.string m) (some (.int .i64 (a : Int))) none none) u = .ok (.string (m.extract a m.size)) u := fun u => by
    rw [run_slice_string_from_if _ _ _ _ _ Try.underlying9, if_pos (by omega)]
    rfl
  have hA : Hid (plA m a = (fmk m a && (hwd m ((a + 4 : Nat) : Int) && decide (gwV m (a + 4) ≤ 10)))) := rfl
  have hgb := gwV_b m (a + 4)
  have hN : Hid (((plN m a : Nat) : Int) = gwV m (a + 4)) := (show ((plN m a : Nat) : Int) = gwV m (a + 4) by unfold plN; omega)
  have hha : Hid (a + 4 ≤ m.size) := ha
  have hhm : Hid (m.size ≤ 65536) := hm
  have ha1 : (a : Int) ≤ 65536 := by omega
  have ha0 : (0 : Int) ≤ (a : Int) := by omega
  generalize hwd m ((a + 4 : Nat) : Int) = g at *
  generalize gwV m (a + 4) = x at *
  generalize fmk m a = f at *
  obtain ⟨hx0, hx1⟩ := hgb
  clear ha hm
  go_enter Try.func24, Try.ntmps24
  go_upto_region 2 with (go_at_call 42; refine Calls.mono (HG.out _ _ (by omega)) ?_; rintro e u1 ⟨rfl, hb⟩; have HB1 : Hid (Below w.heap.size w u1) := hb; clear hb HG)
  have HL : Hid (LG w (u1.alloc (.cells #[.bool g, .int .i64 x] 66)) u1.heap.size #[.bool g, .int .i64 x] 66) := ⟨HB1.out.trans ((bx1 _ _).mono HB1.out.size), heap_new u1 _, HB1.out.size⟩
  generalize (u1.alloc (.cells #[.bool g, .int .i64 x] 66)) = u2 at *
  clear HB1
  generalize u1.heap.size = b at *
  have k0 := HL.out.cel 0 _ rfl
  have k1 := HL.out.cel 1 _ rfl
  have kl := HL.out.lt
  cases f
  · have E : Hid _ := plA_no (show plA m a = false by rw [hA.out]; rfl)
    clear hA
    go_wp2_with (go_at_call 43; refine Calls.mono (HP.out _) ?_; rintro e u3 ⟨rfl, rfl⟩)
    go_ret2
    exact ⟨.slice none 0 0, by rw [E.out.1]; rfl, by rw [E.out.2]; exact .inl ⟨rfl, _, _, rfl⟩, HL.out.bel⟩
  cases g
  · have E : Hid _ := plA_no (show plA m a = false by rw [hA.out]; rfl)
    clear hA
    go_wp2_with (go_at_call 43; refine Calls.mono (HP.out _) ?_; rintro e u3 ⟨rfl, rfl⟩)
    go_ret2
    exact ⟨.slice none 0 0, by rw [E.out.1]; rfl, by rw [E.out.2]; exact .inl ⟨rfl, _, _, rfl⟩, HL.out.bel⟩
  by_cases hx : 10 < x
  · have E : Hid _ := plA_no (show plA m a = false by rw [hA.out, decide_eq_false (by omega)]; rfl)
    clear hA
    go_wp2_with (go_at_call 43; refine Calls.mono (HP.out _) ?_; rintro e u3 ⟨rfl, rfl⟩)
    go_ret2
    exact ⟨.slice none 0 0, by rw [E.out.1]; rfl, by rw [E.out.2]; exact .inl ⟨rfl, _, _, rfl⟩, HL.out.bel⟩
  have EA : Hid (plA m a = true) := (show plA m a = true by rw [hA.out, decide_eq_true (by omega)]; rfl)
  have HI : Hid (plI m a = inW m.size (a : Int) (((plN m a + 3 : Nat) : Int) * 4)) := rfl
  have HS : Hid (plS m a = psum (plW m a (plN m a + 3)) (plN m a + 3) % 4294967296) := rfl
  have HNO := @plI_no m a EA.out
  have HSN := @plS_no m a EA.out
  have HYE := @pl_yes m a EA.out
  obtain ⟨n, hnn⟩ : ∃ n, plN m a = n := ⟨_, rfl⟩
  rw [hnn] at hN HI HS HYE
  clear hnn
  have HX : Hid (x = (n : Int)) := hN.out.symm
  clear hN hA EA
  have hx9 : x ≤ 10 := by omega
  have HW : Hid (∀ (y : Int) u, y = ((n + 3 : Nat) : Int) * 4 → Calls Try.prog 41 #[.int .i64 (m.size : Int), .int .i64 (a : Int), .int .i64 y] u fun e w' => e = .returned (.bool (plI m a)) ∧ w' = u) := fun y u hy => by
    have := HX.out
    rw [hy, HI.out]
    exact isWithin_any m.size a _ u (by have := hhm.out; omega) ⟨by omega, by omega⟩
  clear HI
  cases hpi : plI m a
  · have E : Hid _ := HNO hpi
    rw [hpi] at HW
    clear HNO HSN HYE hpi HS
    go_upto_region 4 with (go_at_call 43; refine Calls.mono (HP.out _) ?_; rintro e u3 ⟨rfl, rfl⟩)
    go_upto_region 5 with fail
    go_wp2_with (first | (go_at_call 41; refine Calls.mono (HW.out _ _ (by have := HX.out; omega)) ?_; rintro e u3 ⟨rfl, rfl⟩))
    go_ret2
    exact ⟨.slice none 0 0, by rw [E.out.1]; rfl, by rw [E.out.2]; exact .inl ⟨rfl, _, _, rfl⟩, HL.out.bel⟩
  rw [hpi] at HW
  have HSN2 : Hid (plS m a ≠ 0 → plC m a = 10 ∧ plL m a = []) := HSN hpi
  have HYE2 : Hid (plS m a = 0 → plC m a = 0 ∧ plL m a = ((plW m a (n + 3)).drop 2).take n) := HYE hpi
  clear HNO HSN HYE hpi
  obtain ⟨sS, hsS⟩ : ∃ z, plS m a = z := ⟨_, rfl⟩
  rw [hsS] at HS HSN2 HYE2
  clear hsS
  have HB : Hid (Below w.heap.size w u2) := HL.out.bel
  go_upto_region 4 with (go_at_call 43; refine Calls.mono (HP.out _) ?_; rintro e u3 ⟨rfl, rfl⟩)
  go_upto_region 5 with fail
  go_wp2_with (first | (go_at_call 41; refine Calls.mono (HW.out _ _ (by have := HX.out; omega)) ?_; rintro e u3 ⟨rfl, rfl⟩))
  clear HL k0 k1 kl HP HW
  go_loopw [8, 40] (fun st i wr => ∃ k : Nat, k ≤ n + 3 ∧ i = .int .i64 k ∧ wr.ownsRow w.heap.size 2 1 st k (iR (plW m a k)) ∧ Below w.heap.size w wr) (fun _ i _ => n + 3 - (intOf i).toNat)
  case atStart => exact ⟨0, Nat.zero_le _, rfl, World.ownsRow_nil _ _ _ _, HB.out⟩
  case round =>
    obtain ⟨k, hk, rfl, hown, hb⟩ := hrel
    obtain ⟨a3, c3, hst⟩ := w_slI hown
    subst hst
    have HO : Hid (wr.ownsRow w.heap.size 2 1 (.slice a3 k c3) k (iR (plW m a k))) := hown
    have HB5 : Hid (Below w.heap.size w wr) := hb
    clear hown hb HB
    by_cases hlt : k < n + 3
    · have HG : Hid (∀ (y : Int) u, y = ((a + k * 4 : Nat) : Int) → Calls Try.prog 42 #[.string m, .int .i64 y] u fun e w' => ∃ g, e = .returned (.agg #[.bool g, .int .i64 (gwV m (a + k * 4))]) ∧ Below u.heap.size u w') := fun y u hy => by rw [hy]; exact gw_any m (a + k * 4) u
      have HSU : Hid (plW m a (k + 1) = plW m a k ++ [gwV m (a + k * 4)]) := plW_succ m a k
      generalize gwV m (a + k * 4) = y at *
      have hk0 : (0 : Int) ≤ (k : Int) := by omega
      have hk1 : (k : Int) < 3 + x := by have := HX.out; omega
      have hk9 : (k : Int) ≤ 13 := by have := HX.out; omega
      have hkn : k ≤ 13 := by omega
      go_wp2_with fail
      refine Calls.mono (HG.out _ _ (by omega)) ?_
      rintro e u4 ⟨gg, rfl, hb⟩
      have hfl := fun u => fld1W gg y u
      have HB6 : Hid (Below w.heap.size w u4) := HB5.out.trans (hb.mono HB5.out.size)
      have HO6 : Hid (u4.ownsRow w.heap.size 2 1 (.slice a3 k c3) k (iR (plW m a k))) := own_belowN HO.out hb
      clear hb HB5 HO
      have HAP : Hid _ := app1W HO6.out y (by omega) HB6.out.size
      go_wp2_with (at_builtin; (refine wl_append_exB rfl _ _ 44 rfl _ _ rfl rfl HAP.out ?_; rintro v' u' ⟨ho, hg9⟩; obtain ⟨a5, c5, rfl⟩ := w_slI ho; have HO7 : Hid (u'.ownsRow w.heap.size 2 1 (.slice a5 (k + 1) c5) (k + 1) (iR (plW m a (k + 1)))) := (by rw [HSU.out, iR_sn]; exact ho); have HB7 : Hid (Below w.heap.size w u') := ((HB6.out.alloc HB6.out.size _).grown hg9 (by have := HB6.out.size; simp; omega) (fun j hj => (HO6.out.lt j hj).1)); clear ho hg9))
      exact ⟨⟨k + 1, hlt, by go_num, HO7.out, HB7.out⟩, by simp [intOf]; omega⟩
    · obtain rfl : k = n + 3 := by omega
      have hnl : ¬ ((n + 3 : Nat) : Int) < 3 + x := by have := HX.out; omega
      have hln : (plW m a (n + 3)).length = n + 3 := plW_len _ _ _
      have HRW : Hid (Irow wr (.slice a3 (n + 3) c3) (plW m a (n + 3))) := Irow.ofW (by rw [hln]; exact HO.out)
      have HSU : Hid (∀ x5, Below wr.heap.size wr x5 → Calls Try.prog 44 #[.slice a3 (n + 3) c3] x5 fun e w' => e = .returned (.int .i64 sS) ∧ Below x5.heap.size x5 w') := fun x5 hx5 => by
        have h9 := sumOf_any (ao := a3) (cap := c3) (t := plW m a (n + 3)) (w := x5) (by rw [hln]; exact HRW.out.below hx5) (by have := HX.out; omega)
        rw [hln] at h9
        rw [HS.out]
        exact h9
      have hsb : 0 ≤ sS ∧ sS < 4294967296 := by have := HS.out; omega
      obtain ⟨a7, c7, hcut, hrow⟩ := cutMid HRW.out hln
      have HCU : Hid (Irow wr (.slice a7 n c7) (((plW m a (n + 3)).drop 2).take n)) := hrow
      have hcut2 : ∀ u, Sem.run Try.prog (Instr.slice 44 (.slice a3 (n + 3) c3) (some (.int .i64 2)) (some (.int .i64 (3 + x - 1))) none) u = .ok (.slice a7 n c7) u := fun u => by rw [show 3 + x - 1 = (n : Int) + 2 by have := HX.out; omega]; exact hcut u
      clear hcut hrow HRW HO HS
      by_cases hs0 : sS = 0
      · have E : Hid _ := HYE2.out hs0
        subst hs0
        clear HYE2 HSN2
        go_wp2_with (go_at_call 44; refine Calls.mono (HSU.out _ (Below.refl _ _)) ?_; rintro e u5 ⟨rfl, hu⟩; have HU : Hid (Below wr.heap.size wr u5) := hu; clear hu)
        go_ret2
        exact ⟨.slice a7 n c7, by rw [E.out.1]; rfl, by rw [E.out.2]; exact HCU.out.below HU.out, HB5.out.trans (HU.out.mono HB5.out.size)⟩
      · have E : Hid _ := HSN2.out hs0
        clear HYE2 HSN2
        go_wp2_with (go_at_call 44; refine Calls.mono (HSU.out _ (Below.refl _ _)) ?_; rintro e u5 ⟨rfl, hu⟩; have HU : Hid (Below wr.heap.size wr u5) := hu; clear hu)
        go_ret2
        exact ⟨.slice none 0 0, by rw [E.out.1]; rfl, by rw [E.out.2]; exact .inl ⟨rfl, _, _, rfl⟩, HB5.out.trans (HU.out.mono HB5.out.size)⟩
end Go.Proofs.Ytblmodlpopnckaa
