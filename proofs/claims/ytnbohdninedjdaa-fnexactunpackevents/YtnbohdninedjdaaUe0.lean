import Derived.Test.YtnbohdninedjdaaRowEV2
import Derived.Deep.QuietTactic
namespace Go.Proofs.Ytnbohdninedjdaa
open Go.ChangeShapes Go.WideShapes Go.ChangeAt Go.RowKit

theorem ev_at {w : World} {B : Nat} {v : Value} {zs : List EV} (h : w.ownsRow B 46 4 v zs.length (evR zs)) : ∃ g cap, (v = .slice (some ⟨g, 0, none⟩) zs.length cap ∨ (v = .slice none 0 0 ∧ zs = [])) ∧
    ∀ (k : Nat) (hk : k < zs.length), w.cell? ⟨g, k * 4, none⟩ = some (.int .i64 zs[k].t) ∧ w.cell? ⟨g, k * 4 + 1, none⟩ = some (.int .i64 zs[k].kind) ∧ w.cell? ⟨g, k * 4 + 2, none⟩ = some (.int .i64 zs[k].num) ∧ w.cell? ⟨g, k * 4 + 3, none⟩ = some (.int .i64 zs[k].val) := by
  rcases h.2 with ⟨rfl, e⟩ | ⟨g, cap, cur, rfl, rest⟩
  · exact ⟨0, 0, .inr ⟨rfl, List.length_eq_zero_iff.1 e⟩, fun k hk => by omega⟩
  · have h2 : w.ownsRow B 46 4 (.slice (some ⟨g, 0, none⟩) zs.length cap) zs.length (evR zs) := h
    refine ⟨g, cap, .inl rfl, fun k hk => ?_⟩
    have a0 := h2.cellAt (k * 4 + 0) (by omega)
    have a1 := h2.cellAt (k * 4 + 1) (by omega)
    have a2 := h2.cellAt (k * 4 + 2) (by omega)
    have a3 := h2.cellAt (k * 4 + 3) (by omega)
    rw [evR_at zs k hk _ (by omega)] at a0 a1 a2 a3
    exact ⟨a0, a1, a2, a3⟩
/-- The marks of row i. -/
def evM (i : Nat) : EV := ⟨1 + 4 * (i : Int), 1 + 4 * (i : Int) + 1, 1 + 4 * (i : Int) + 1 + 1, 1 + 4 * (i : Int) + 1 + 1 + 1⟩
def evML (n : Nat) : List EV := (List.range n).map evM
theorem evML_len (n : Nat) : (evML n).length = n := by simp [evML]
def evMJ (j : Nat) (zs : List EV) : List EV := evML j ++ zs.drop j
theorem evMJ_len (j : Nat) (zs : List EV) (h : j ≤ zs.length) : (evMJ j zs).length = zs.length := by simp [evMJ, evML_len]; omega
theorem evMJ_step (j : Nat) (zs : List EV) (h : j < zs.length) : (evMJ j zs).set j (evM j) = evMJ (j + 1) zs := by
  have e : zs.drop j = zs[j] :: zs.drop (j + 1) := (List.getElem_cons_drop h).symm
  have e2 : evML (j + 1) = evML j ++ [evM j] := by simp [evML, List.range_succ]
  unfold evMJ
  rw [e, e2]
  have hl : (evML j).length = j := evML_len j
  rw [List.set_append_right _ _ (by omega), hl, Nat.sub_self, List.set_cons_zero, List.append_assoc]
  rfl
set_option maxRecDepth 100000 in
set_option maxHeartbeats 4000000 in
theorem markEVS_ok {w : World} {B : Nat} {v : Value} {zs : List EV} (h : w.ownsRow B 46 4 v zs.length (evR zs)) (hl : zs.length ≤ 4096) :
    Calls Try.prog 16 #[v, .int .i64 1] w fun e u => e = .returned (.int .i64 (1 + 4 * (zs.length : Int))) ∧ u.ownsRow B 46 4 v zs.length (evR (evML zs.length)) ∧ w.grownBy u v.ownBlock := by
  obtain ⟨g, cap, hv, hc⟩ := ev_at h
  by_cases hz : zs = []
  · subst hz
    obtain ⟨a1, c1, rfl⟩ : ∃ a1 c1, v = .slice a1 0 c1 := by rcases hv with rfl | ⟨rfl, _⟩ <;> exact ⟨_, _, rfl⟩
    have HO : Hid (w.ownsRow B 46 4 (.slice a1 0 c1) 0 []) := h
    clear hc hv h
    go_enter Try.func16, Try.ntmps16
    go_wp2
    go_loopw [1, 5] (fun kv i w5 => kv = .int .i64 1 ∧ i = .int .i64 0 ∧ w5 = w) (fun _ _ _ => 0)
    case atStart => exact ⟨rfl, rfl, rfl⟩
    case round =>
      obtain ⟨rfl, rfl, rfl⟩ := hrel
      go_wp2
      go_ret
      exact ⟨rfl, HO.out, ⟨rfl, rfl, rfl, Nat.le_refl _, fun _ _ _ => rfl⟩⟩
  · obtain rfl := hv.resolve_right (fun h => hz h.2)
    clear hv
    have HO : Hid (w.ownsRow B 46 4 (.slice (some ⟨g, 0, none⟩) zs.length cap) zs.length (evR (evMJ 0 zs))) := h
    clear h hc
    go_enter Try.func16, Try.ntmps16
    go_wp2
    go_loopw [1, 5] (fun kv i wr => ∃ j : Nat, j ≤ zs.length ∧ i = .int .i64 j ∧ kv = .int .i64 (1 + 4 * (j : Int)) ∧ wr.ownsRow B 46 4 (.slice (some ⟨g, 0, none⟩) zs.length cap) zs.length (evR (evMJ j zs)) ∧ w.grownBy wr (some g)) (fun _ i _ => zs.length - (intOf i).toNat)
    case atStart => exact ⟨0, Nat.zero_le _, rfl, rfl, HO.out, ⟨rfl, rfl, rfl, Nat.le_refl _, fun _ _ _ => rfl⟩⟩
    case round =>
      obtain ⟨j, hj, rfl, rfl, hown, hgr⟩ := hrel
      by_cases hlt : j < zs.length
      · have hlen := evMJ_len j zs hj
        have hown2 : wr.ownsRow B 46 4 (.slice (some ⟨g, 0, none⟩) (evMJ j zs).length cap) (evMJ j zs).length (evR (evMJ j zs)) := by rw [hlen]; exact hown
        have st := own_setEV hown2 j (by omega) (evM j)
        rw [evMJ_step j zs hlt, hlen] at st
        have hfz := hown.frozenAt
        obtain ⟨g2, cap2, hv2, hc2⟩ := ev_at hown2
        have hge : g2 = g := by
          rcases hv2 with e | ⟨e, _⟩
          · injection e with e1
            injection e1 with e2
            exact (congrArg Addr.block e2).symm
          · cases e
        subst hge
        obtain ⟨d0, d1, d2, d3⟩ := hc2 j (by omega)
        generalize (evMJ j zs)[j] = z at d0 d1 d2 d3
        have ST : Hid _ := st
        have HG : Hid (w.grownBy wr (some g2)) := hgr
        clear st hown hown2 hgr hlen HO hc2 hv2
        have hj1 : (j : Int) < (zs.length : Int) := by omega
        go_wp2
        refine ⟨⟨j + 1, hlt, by simp, by simp; omega, ST.out.1, gbEV HG.out ST.out.2⟩, ?_⟩
        simp [intOf]
        omega
      · obtain rfl : j = zs.length := by omega
        have e : evMJ zs.length zs = evML zs.length := by simp [evMJ]
        rw [e] at hown
        have HO2 : Hid _ := hown
        have HG : Hid _ := hgr
        clear hown hgr HO e
        go_wp2
        go_ret
        exact ⟨rfl, HO2.out, HG.out⟩
set_option maxRecDepth 100000 in
set_option maxHeartbeats 4000000 in
theorem heldEVS_ok {w : World} {B : Nat} {v : Value} (n : Nat) (h : w.ownsRow B 46 4 v n (evR (evML n))) (hl : n ≤ 4096) :
    Calls Try.prog 17 #[v, .int .i64 1] w fun e u => e = .returned (.int .i64 (1 + 4 * (n : Int))) ∧ Below w.heap.size w u := by
  have hn := evML_len n
  have h2 : w.ownsRow B 46 4 v (evML n).length (evR (evML n)) := by rw [hn]; exact h
  obtain ⟨g, cap, hv, hc⟩ := ev_at h2
  clear h h2
  by_cases hz : n = 0
  · subst hz
    obtain ⟨a1, c1, rfl⟩ : ∃ a1 c1, v = .slice a1 0 c1 := by rcases hv with rfl | ⟨rfl, _⟩ <;> exact ⟨_, _, rfl⟩
    clear hc hv hn
    go_enter Try.func17, Try.ntmps17
    go_wp2
    go_loopw [1, 5] (fun kv i w5 => kv = .int .i64 1 ∧ i = .int .i64 0 ∧ w5 = w) (fun _ _ _ => 0)
    case atStart => exact ⟨rfl, rfl, rfl⟩
    case round =>
      obtain ⟨rfl, rfl, rfl⟩ := hrel
      go_wp2
      go_ret
      exact ⟨rfl, Below.refl _ _⟩
  · obtain rfl := hv.resolve_right (fun h => hz (by have := congrArg List.length h.2; rw [hn] at this; simpa using this))
    clear hv
    have hc2 : ∀ k : Nat, k < n → w.cell? ⟨g, k * 4, none⟩ = some (.int .i64 (1 + 4 * (k : Int))) ∧ w.cell? ⟨g, k * 4 + 1, none⟩ = some (.int .i64 (1 + 4 * (k : Int) + 1)) ∧ w.cell? ⟨g, k * 4 + 2, none⟩ = some (.int .i64 (1 + 4 * (k : Int) + 1 + 1)) ∧ w.cell? ⟨g, k * 4 + 3, none⟩ = some (.int .i64 (1 + 4 * (k : Int) + 1 + 1 + 1)) := by
      intro k hk
      have h3 := hc k (by omega)
      have e : (evML n)[k]'(by omega) = evM k := by simp [evML]
      rw [e] at h3
      exact h3
    clear hc
    rw [hn]
    clear hn
    go_enter Try.func17, Try.ntmps17
    go_wp2
    go_loopw [1, 5] (fun kv i wr => ∃ j : Nat, j ≤ n ∧ i = .int .i64 j ∧ kv = .int .i64 (1 + 4 * (j : Int)) ∧ wr.heap = w.heap ∧ Below w.heap.size w wr) (fun _ i _ => n - (intOf i).toNat)
    case atStart => exact ⟨0, Nat.zero_le _, rfl, rfl, rfl, Below.refl _ _⟩
    case round =>
      obtain ⟨j, hj, rfl, rfl, hh, hb⟩ := hrel
      by_cases hlt : j < n
      · obtain ⟨d0, d1, d2, d3⟩ := hc2 j hlt
        replace d0 : wr.cell? ⟨g, j * 4, none⟩ = _ := (World.cell?_of_block (by rw [hh])).trans d0
        replace d1 : wr.cell? ⟨g, j * 4 + 1, none⟩ = _ := (World.cell?_of_block (by rw [hh])).trans d1
        replace d2 : wr.cell? ⟨g, j * 4 + 2, none⟩ = _ := (World.cell?_of_block (by rw [hh])).trans d2
        replace d3 : wr.cell? ⟨g, j * 4 + 3, none⟩ = _ := (World.cell?_of_block (by rw [hh])).trans d3
        clear hc2
        have hj1 : (j : Int) < (n : Int) := by omega
        go_wp2
        refine ⟨⟨j + 1, hlt, by simp, by simp; omega, hh, hb⟩, ?_⟩
        simp [intOf]
        omega
      · obtain rfl : j = n := by omega
        clear hc2
        go_wp2
        go_ret
        exact ⟨rfl, hb⟩
/-- What both sides answer. -/
def AnsU (f : Nat) (s : ByteArray) (zs : List EV) : Prop := ∀ w : World, Calls Try.prog f #[.string s] w fun e w' => ∃ v, e = .returned v ∧ w'.ownsRow w.heap.size 46 4 v zs.length (evR zs) ∧ Below w.heap.size w w'
/-- What the law keeps: the two rows. -/
structure LU (w : World) (b : Nat) (v g : Value) (zs ys : List EV) (wr : World) : Prop where
  bel : Below w.heap.size w wr
  o1 : wr.ownsRow w.heap.size 46 4 v zs.length (evR zs)
  o2 : wr.ownsRow b 46 4 g zs.length (evR ys)
  l1 : w.heap.size ≤ b
  n1 : ∀ k, v.ownBlock = some k → k < b
theorem LU.step {w wr u : World} {b : Nat} {v g : Value} {zs ys : List EV} (h : LU w b v g zs ys wr) (hb : Below wr.heap.size wr u) : LU w b v g zs ys u :=
  ⟨h.bel.trans (hb.mono h.bel.size), ev_below h.o1 hb, ev_below h.o2 hb, h.l1, h.n1⟩
theorem LU.mark {w wr u : World} {b : Nat} {v g : Value} {zs ys ys2 : List EV} (h : LU w b v g zs ys wr) (hg : wr.grownBy u g.ownBlock) (ho : u.ownsRow b 46 4 g zs.length (evR ys2)) : LU w b v g zs ys2 u := by
  have hlo : ∀ k, g.ownBlock = some k → b ≤ k := fun k e => (h.o2.lt k e).1
  have hl := h.l1
  refine ⟨⟨hg.os.trans h.bel.os, hg.tape.trans h.bel.tape, hg.output.trans h.bel.output, Nat.le_trans h.bel.size hg.size, fun k hk => (hg.block k (Nat.lt_of_lt_of_le hk h.bel.size) (fun e => by have := hlo _ e.symm; omega)).trans (h.bel.block k hk)⟩, ?_, ho, h.l1, h.n1⟩
  cases hv : v.ownBlock with
  | none => exact h.o1.kept hg (.inl hv)
  | some k => exact h.o1.kept hg (.inr (fun e => by have h1 := hlo k (e.symm.trans hv); have h2 := h.n1 k hv; omega))
set_option maxRecDepth 100000 in
set_option maxHeartbeats 4000000 in
theorem lawU (s : ByteArray) (zs : List EV) (w : World) (hs : s.size ≤ 1048576) (hl : zs.length ≤ 4096) (hS : AnsU 14 s zs) (hI : AnsU 15 s zs) :
    Calls Try.prog 5 #[.string s] w fun e w' => e = .returned (.bool true) ∧ Below w.heap.size w w' := by
  have HS : Hid (AnsU 14 s zs) := hS
  have HI1 : Hid (AnsU 15 s zs) := hI
  have HI2 : Hid (AnsU 15 s zs) := hI
  have hd : decide (1048576 < (s.size : Int)) = false := by
    apply decide_eq_false
    omega
  have hp : ¬ (1 + 4 * (zs.length : Int)) < 0 := by omega
  clear hS hI hs
  go_enter Try.func5, Try.ntmps5
  go_wp2_with (first
    | (go_at_call 14; refine Calls.mono (HS.out _) ?_; rintro e u1 ⟨v0, rfl, ho1, hb1⟩; obtain ⟨ao, cap, rfl⟩ := ev_sl ho1; have HO1 : Hid (u1.ownsRow w.heap.size 46 4 (.slice ao zs.length cap) zs.length (evR zs)) := ho1; have HB1 : Hid (Below w.heap.size w u1) := hb1; clear ho1 hb1 HS)
    | (go_at_call 15; refine Calls.mono (HI1.out _) ?_; rintro e u2 ⟨g, rfl, ho2, hb2⟩; obtain ⟨ao2, cap2, rfl⟩ := ev_sl ho2; have hL : LU w u1.heap.size (.slice ao zs.length cap) (.slice ao2 zs.length cap2) zs zs u2 := ⟨HB1.out.trans (hb2.mono HB1.out.size), ev_below HO1.out hb2, ho2, HB1.out.size, fun k e => (HO1.out.lt k e).2⟩; have HL : Hid (LU w u1.heap.size (.slice ao zs.length cap) (.slice ao2 zs.length cap2) zs zs u2) := hL; clear ho2 hb2 hL HI1)
    | (go_at_call 11; have hA := eqEVS_ok (EVrow.of HL.out.o2) (EVrow.of HL.out.o1) (by omega); refine Calls.mono hA ?_; clear hA; rintro e u3 ⟨rfl, hu3⟩; have HL3 : Hid (LU w u1.heap.size (.slice ao zs.length cap) (.slice ao2 zs.length cap2) zs zs u3) := HL.out.step hu3; clear hu3 HL)
    | (go_at_call 16; have hA := markEVS_ok HL3.out.o2 hl; refine Calls.mono hA ?_; clear hA; rintro e u4 ⟨rfl, ho4, hg4⟩; have HL4 : Hid (LU w u1.heap.size (.slice ao zs.length cap) (.slice ao2 zs.length cap2) zs (evML zs.length) u4) := HL3.out.mark hg4 ho4; clear ho4 hg4 HL3)
    | (go_at_call 17; have hA := heldEVS_ok zs.length HL4.out.o2 hl; refine Calls.mono hA ?_; clear hA; rintro e u5 ⟨rfl, hu5⟩; have HL5 : Hid (LU w u1.heap.size (.slice ao zs.length cap) (.slice ao2 zs.length cap2) zs (evML zs.length) u5) := HL4.out.step hu5; clear hu5 HL4)
    | (go_at_call 15; refine Calls.mono (HI2.out _) ?_; rintro e u6 ⟨hh, rfl, ho6, hb6⟩; obtain ⟨ao6, cap6, rfl⟩ := ev_sl ho6; have HL6 : Hid (LU w u1.heap.size (.slice ao zs.length cap) (.slice ao2 zs.length cap2) zs (evML zs.length) u6) := HL5.out.step hb6; have HO6 : Hid (u6.ownsRow u5.heap.size 46 4 (.slice ao6 zs.length cap6) zs.length (evR zs)) := ho6; clear ho6 hb6 HI2 HL5)
    | (go_at_call 11; have hA := eqEVS_ok (EVrow.of HO6.out) (EVrow.of HL6.out.o1) (by omega); refine Calls.mono hA ?_; clear hA; rintro e u7 ⟨rfl, hu7⟩; have HL7 : Hid (LU w u1.heap.size (.slice ao zs.length cap) (.slice ao2 zs.length cap2) zs (evML zs.length) u7) := HL6.out.step hu7; clear hu7 HL6)
    | (go_at_call 17; have hA := heldEVS_ok zs.length HL7.out.o2 hl; refine Calls.mono hA ?_; clear hA; rintro e u8 ⟨rfl, hu8⟩; have HL8 : Hid (LU w u1.heap.size (.slice ao zs.length cap) (.slice ao2 zs.length cap2) zs (evML zs.length) u8) := HL7.out.step hu8; clear hu8 HL7))
  go_ret
  exact ⟨rfl, HL8.out.bel⟩
end Go.Proofs.Ytnbohdninedjdaa
