import Derived.Test.YtfagohdmepnkkaaGTwo3
namespace Go.Proofs.Ytfagohdmepnkkaa
open Go.ChangeShapes Go.WideShapes Go.ChangeAt Go.RowKit

set_option maxRecDepth 100000 in
set_option maxHeartbeats 4000000 in
/-- The flags are there already. -/
theorem putFlagsG_same {w0 wr : World} {b G B n : Nat} {s : ByteArray} {y : GS} {rv : Value} {zs : List Int} {x : WS} (h : GW w0 b G B n s y wr rv zs x) (hsame : putA x.e x.acc = x.e) :
    Calls Try.prog 94 #[.pointer (some ⟨B, 0, none⟩)] wr fun e u => e = .returned (.int .i64 0) ∧ u = wr := by
  obtain ⟨va, acc, user, at_, e, lg, pa⟩ := x
  obtain ⟨c0, c1, c2, c3, c4, c5, c6, c7, c8, cf⟩ := h.box.cells
  simp only at *
  clear h
  by_cases ha : acc = 2
  · subst ha
    have hp : bits .or .i64 (bits .or .i64 e 32) 64 = e := hsame
    clear hsame
    go_enter Try.func94, Try.ntmps94
    go_wp2
    go_ret
    exact ⟨rfl, rfl⟩
  · have ha2 : (acc == 2) = false := by simpa using ha
    have hp : bits .or .i64 e 32 = e := by
      have h2 : putA e acc = bits .or .i64 e 32 := if_neg ha
      rw [← h2]
      exact hsame
    clear hsame
    go_enter Try.func94, Try.ntmps94
    go_wp2
    go_ret
    exact ⟨rfl, rfl⟩
set_option maxRecDepth 100000 in
set_option maxHeartbeats 4000000 in
/-- A flag lacks: it is put behind the host's table. -/
theorem putFlagsG_put {w0 wr : World} {b G B n : Nat} {s : ByteArray} {y : GS} {rv : Value} {zs : List Int} {x : WS} (h : GW w0 b G B n s y wr rv zs x) (hsame : ¬ putA x.e x.acc = x.e) (hn : s.size = n * 256) (hs : s.size ≤ 65536) (k : Nat) (hk : x.at_ = k) (hk1 : k ≤ 262143) (hk4 : k % 4 = 0) (hh : y.host ≤ 255) (hst0 : 0 ≤ y.steps) (hst : y.steps ≤ 1000) :
    Calls Try.prog 94 #[.pointer (some ⟨B, 0, none⟩)] wr fun e u =>
      ((walkV s y.host k 2 false).fault = 0 → e = .returned (.int .i64 0) ∧ GW w0 b G B n (setv (walkV s y.host k 2 false).mem (walkV s y.host k 2 false).pa.toNat (putA x.e x.acc)) { y with steps := y.steps + (walkV s y.host k 2 false).reads.length, place := (k : Int) } u rv zs { x with e := putA x.e x.acc }) ∧
      (¬ (walkV s y.host k 2 false).fault = 0 → e = .returned (.int .i64 3) ∧ GW w0 b G B n (walkV s y.host k 2 false).mem { y with steps := y.steps + (walkV s y.host k 2 false).reads.length, place := (k : Int) } u rv zs { x with e := putA x.e x.acc }) := by
  obtain ⟨va, acc, user, at_, e, lg, pa⟩ := x
  simp only at hk
  subst hk
  obtain ⟨c0, c1, c2, c3, c4, c5, c6, c7, c8, cf⟩ := h.box.cells
  obtain ⟨pt, c9⟩ := h.box.cell9
  simp only at *
  have m1 := mPutG G
  obtain ⟨z, hz⟩ : ∃ z, putA e acc = z := ⟨_, rfl⟩
  rw [hz] at hsame ⊢
  have hne : (z == e) = false := by simpa using hsame
  have H5 : Hid (GW w0 b G B n s y ((wr.setCell ⟨B, 5, none⟩ (.int .i64 z)).setCell ⟨B, 9, none⟩ (.bool true)) rv zs { va := va, acc := acc, user := user, at_ := (k : Int), e := z, lg := lg, pa := pa }) := (h.set 5 _ (h.box.put5 z)).set 9 _ ((h.box.put5 z).put9 true)
  have HP : Hid (∀ v, Below ((wr.setCell ⟨B, 5, none⟩ (.int .i64 z)).setCell ⟨B, 9, none⟩ (.bool true)).heap.size ((wr.setCell ⟨B, 5, none⟩ (.int .i64 z)).setCell ⟨B, 9, none⟩ (.bool true)) v → _) := fun v hv => putEntryG (H5.out.below hv).mem (H5.out.below hv).gbx h.bG k z hn hs hh hk1 hk4 hst0 hst
  have HV5 : Hid (∀ v, Below ((wr.setCell ⟨B, 5, none⟩ (.int .i64 z)).setCell ⟨B, 9, none⟩ (.bool true)).heap.size ((wr.setCell ⟨B, 5, none⟩ (.int .i64 z)).setCell ⟨B, 9, none⟩ (.bool true)) v → GW w0 b G B n s y v rv zs { va := va, acc := acc, user := user, at_ := (k : Int), e := z, lg := lg, pa := pa }) := fun v hv => H5.out.below hv
  obtain ⟨r, hr⟩ : ∃ r, walkV s y.host k 2 false = r := ⟨_, rfl⟩
  rw [hr] at HP ⊢
  clear h hn hs hk4 hsame hr hk1
  have HE : Hid (∀ v u e, Below ((wr.setCell ⟨B, 5, none⟩ (.int .i64 z)).setCell ⟨B, 9, none⟩ (.bool true)).heap.size ((wr.setCell ⟨B, 5, none⟩ (.int .i64 z)).setCell ⟨B, 9, none⟩ (.bool true)) v → Gr2 v u b G → GBx u G b n { y with steps := y.steps + (r.reads.length : Int), place := (k : Int) } → (r.fault = 0 → e = Ending.returned (.int .i64 0) ∧ MemAt u b (setv r.mem r.pa.toNat z)) → (¬ r.fault = 0 → e = Ending.returned (.int .i64 3) ∧ MemAt u b r.mem) →
      ∃ c, e = .returned (.int .i64 c) ∧ (r.fault = 0 → c = 0 ∧ GW w0 b G B n (setv r.mem r.pa.toNat z) { y with steps := y.steps + (r.reads.length : Int), place := (k : Int) } u rv zs { va := va, acc := acc, user := user, at_ := (k : Int), e := z, lg := lg, pa := pa }) ∧ (¬ r.fault = 0 → c = 3 ∧ GW w0 b G B n r.mem { y with steps := y.steps + (r.reads.length : Int), place := (k : Int) } u rv zs { va := va, acc := acc, user := user, at_ := (k : Int), e := z, lg := lg, pa := pa })) := by
    intro v u e hv hg hb h1 h2
    by_cases hf : r.fault = 0
    · obtain ⟨rfl, hm⟩ := h1 hf
      exact ⟨0, rfl, fun _ => ⟨rfl, (HV5.out v hv).look hg hm hb⟩, fun h => absurd hf h⟩
    · obtain ⟨rfl, hm⟩ := h2 hf
      exact ⟨3, rfl, fun h => absurd h hf, fun _ => ⟨rfl, (HV5.out v hv).look hg hm hb⟩⟩
  by_cases ha : acc = 2
  · subst ha
    have hp : bits .or .i64 (bits .or .i64 e 32) 64 = z := hz
    clear hz
    go_enter Try.func94, Try.ntmps94
    go_wp2
    go_region_with (go_at_call 149; refine Calls.mono (HP.out _ (by exact ⟨rfl, rfl, rfl, Nat.le_refl _, fun _ _ => rfl⟩)) ?_; rintro e u ⟨hg, hb, h1, h2⟩; obtain ⟨c, rfl, q1, q2⟩ := HE.out _ u e (by exact ⟨rfl, rfl, rfl, Nat.le_refl _, fun _ _ => rfl⟩) hg hb h1 h2; have Q1 : Hid _ := q1; have Q2 : Hid _ := q2; clear hg hb h1 h2 q1 q2)
    all_goals
      go_wp2
      go_ret
      exact ⟨fun h => ⟨ret_int (Q1.out h).1, (Q1.out h).2⟩, fun h => ⟨ret_int (Q2.out h).1, (Q2.out h).2⟩⟩
  · have ha2 : (acc == 2) = false := by simpa using ha
    have hp : bits .or .i64 e 32 = z := by
      have h2 : putA e acc = bits .or .i64 e 32 := if_neg ha
      rw [← h2]
      exact hz
    clear hz
    go_enter Try.func94, Try.ntmps94
    go_wp2
    go_region_with (go_at_call 149; refine Calls.mono (HP.out _ (by exact ⟨rfl, rfl, rfl, Nat.le_refl _, fun _ _ => rfl⟩)) ?_; rintro e u ⟨hg, hb, h1, h2⟩; obtain ⟨c, rfl, q1, q2⟩ := HE.out _ u e (by exact ⟨rfl, rfl, rfl, Nat.le_refl _, fun _ _ => rfl⟩) hg hb h1 h2; have Q1 : Hid _ := q1; have Q2 : Hid _ := q2; clear hg hb h1 h2 q1 q2)
    all_goals
      go_wp2
      go_ret
      exact ⟨fun h => ⟨ret_int (Q1.out h).1, (Q1.out h).2⟩, fun h => ⟨ret_int (Q2.out h).1, (Q2.out h).2⟩⟩
end Go.Proofs.Ytfagohdmepnkkaa
