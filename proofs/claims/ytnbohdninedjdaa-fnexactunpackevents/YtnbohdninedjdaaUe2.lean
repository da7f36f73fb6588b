import Derived.Test.YtnbohdninedjdaaUe1
import Derived.Laws.StructEq
namespace Go.Proofs.Ytnbohdninedjdaa
open Go.ChangeShapes Go.WideShapes Go.ChangeAt Go.RowKit

theorem str_ne {a b : ByteArray} (h : a ≠ b) : (a.toList == b.toList) = false := by
  have hd : a.data.toList ≠ b.data.toList := fun e => h (by cases a; cases b; simpa using e)
  rw [ByteArray.toList_eq, ByteArray.toList_eq]
  exact beq_eq_false_iff_ne.2 hd
/-- So many events that stand in a text. -/
def evs (s : ByteArray) (k : Nat) : List EV := (List.range k).map fun j => evE s (4 + 16 * j)
def cntE (s : ByteArray) : Nat := (s.size - 4) / 16
theorem evs_len (s : ByteArray) (k : Nat) : (evs s k).length = k := by simp [evs]
theorem evs_succ (s : ByteArray) (k : Nat) : evs s (k + 1) = evs s k ++ [evE s (4 + 16 * k)] := by simp [evs, List.range_succ]
/-- What both UnpackEvents answer. -/
def ueB (s : ByteArray) : Bool := decide (s.size ≤ 65536) && decide (peV (evs s (cntE s)) = s)
def ueZ (s : ByteArray) : List EV := if ueB s = true then evs s (cntE s) else []
theorem ueZ_len (s : ByteArray) : (ueZ s).length ≤ 4096 := by
  unfold ueZ
  split
  · rename_i h
    unfold ueB at h
    rw [Bool.and_eq_true] at h
    have := of_decide_eq_true h.1
    rw [evs_len]
    unfold cntE
    omega
  · simp
theorem infoE : (Try.prog.info? 46).map (fun i => (i.zero, i.size, i.bytes)) = some (some (.agg #[.int .i64 0, .int .i64 0, .int .i64 0, .int .i64 0]), 4, 32) := by kernel_rfl
/-- One event more. -/
theorem appEV {w : World} {B n : Nat} {v : Value} {zs : List EV} (h : w.ownsRow B 46 4 v n (evR zs)) (hB : B ≤ w.heap.size) (hn : n ≤ 100000) (m : EV) :
    ∃ v' u', (Builtin.append_ #[25, 25] 25 #[v, .slice (some ⟨w.heap.size, 0, none⟩) 1 1]).run Try.prog (w.alloc (.cells #[.int .i64 m.t, .int .i64 m.kind, .int .i64 m.num, .int .i64 m.val] 46)) = .ok v' u' ∧ (u'.ownsRow B 46 4 v' (n + 1) (evR (zs ++ [m])) ∧ (w.alloc (.cells #[.int .i64 m.t, .int .i64 m.kind, .int .i64 m.num, .int .i64 m.val] 46)).grownBy u' v.ownBlock) := by
  obtain ⟨i0, hi0, hz0, hz1, hz2⟩ := info_parts infoE
  obtain ⟨v', w', hr, h2, h3, _, _⟩ := run_append_own_at (P := Try.prog) (w.alloc (.cells #[.int .i64 m.t, .int .i64 m.kind, .int .i64 m.num, .int .i64 m.val] 46)) B 25 25 46 i0 (.agg #[.int .i64 0, .int .i64 0, .int .i64 0, .int .i64 0]) 4 32 Try.underlying25 hi0 hz0 hz1 hz2 rfl (by decide) v n (evR zs) (World.ownsRow.alloc h _) ⟨w.heap.size, 0, none⟩ 1 1 (evC m) rfl (new_cells w (evC m) 46) (by intro u hu; simp only [evC, List.mem_cons, List.not_mem_nil, or_false] at hu; rcases hu with rfl | rfl | rfl | rfl <;> rfl) (by unfold maxLen; omega) (by omega) (by simp; omega)
  refine ⟨v', w', hr, ?_, h3⟩
  rw [evR_app]
  simpa [evR] using h2
set_option maxRecDepth 100000 in
set_option maxHeartbeats 4000000 in
theorem implUE_any (s : ByteArray) (hm : s.size ≤ 1048576) : AnsU 15 s (ueZ s) := by
  intro w
  by_cases hs : s.size ≤ 65536
  · have hd : decide (65536 < (s.size : Int)) = false := decide_eq_false (by omega)
    have hc1 : ∀ k : Nat, k ≤ cntE s → ((4 + 16 * (k : Int)) + 16 ≤ (s.size : Int) ↔ k < cntE s) := by intro k hk; unfold cntE at *; omega
    have hcl : cntE s ≤ 4096 := by unfold cntE; omega
    have HEA : Hid (∀ (k : Nat) (u : World) (y : Int), k < cntE s → y = ((4 + 16 * k : Nat) : Int) → Calls Try.prog 33 #[.string s, .int .i64 y] u fun e w' => e = .returned (evA (evE s (4 + 16 * k))) ∧ Below u.heap.size u w') := fun k u y hk hy => by
      subst hy
      exact eventAt_any s (4 + 16 * k) u (by unfold cntE at hk; omega) hs
    go_enter Try.func15, Try.ntmps15
    go_wp2_with (go_at_call 32; refine (tooLong_any _ _).mono ?_; rintro e u0 ⟨rfl, hw0⟩; rw [hw0]; clear hw0 u0)
    go_loopw [3, 4] (fun st i wr => ∃ k : Nat, k ≤ cntE s ∧ i = .int .i64 (4 + 16 * (k : Int)) ∧ wr.ownsRow w.heap.size 46 4 st k (evR (evs s k)) ∧ Below w.heap.size w wr) (fun _ i _ => 4 + 16 * cntE s - (intOf i).toNat)
    case atStart => exact ⟨0, Nat.zero_le _, rfl, World.ownsRow_nil _ _ _ _, Below.refl _ _⟩
    case round =>
      obtain ⟨k, hk, rfl, hown, hb⟩ := hrel
      obtain ⟨a3, c3, rfl⟩ := ev_sl hown
      have HOW : Hid (wr.ownsRow w.heap.size 46 4 (.slice a3 k c3) k (evR (evs s k))) := hown
      have HB : Hid (Below w.heap.size w wr) := hb
      clear hown hb
      have hci := hc1 k hk
      by_cases hlt : k < cntE s
      · have hq : decide ((4 + 16 * (k : Int)) + 16 ≤ (s.size : Int)) = true := decide_eq_true (hci.2 hlt)
        have HE1 : Hid _ := HEA.out k wr (4 + 16 * (k : Int)) hlt (by omega)
        have HSU : Hid (evs s (k + 1) = evs s k ++ [evE s (4 + 16 * k)]) := evs_succ s k
        have hkb : (k : Int) ≤ 4096 := by omega
        unfold evA at HE1
        generalize evE s (4 + 16 * k) = z at *
        clear hc1 HEA hci
        go_wp2_with fail
        refine Calls.mono HE1.out ?_
        rintro e u1 ⟨rfl, hu⟩
        have HU : Hid (Below w.heap.size w u1) := HB.out.trans (hu.mono HB.out.size)
        have HO1 : Hid (u1.ownsRow w.heap.size 46 4 (.slice a3 k c3) k (evR (evs s k))) := ev_below HOW.out hu
        have HAP : Hid _ := appEV HO1.out HU.out.size (by omega) z
        have HOB : Hid (∀ j, (Value.slice a3 k c3).ownBlock = some j → w.heap.size ≤ j) := fun j hj => (HO1.out.lt j hj).1
        clear hu HE1
        go_wp2_with (at_builtin; (refine wl_append_exB rfl _ _ 25 rfl _ _ rfl rfl HAP.out ?_; rintro v' u' ⟨ho, hg⟩; obtain ⟨a5, c5, rfl⟩ := ev_sl ho; have HO2 : Hid (u'.ownsRow w.heap.size 46 4 (.slice a5 (k + 1) c5) (k + 1) (evR (evs s (k + 1)))) := (by rw [HSU.out]; exact ho); have HB2 : Hid (Below w.heap.size w u') := ((HU.out.alloc HU.out.size _).grown hg (by have := HU.out.size; simp; omega) HOB.out); clear ho hg HAP HOB))
        exact ⟨⟨k + 1, hlt, by go_num, HO2.out, HB2.out⟩, by simp [intOf]; omega⟩
      · obtain rfl : k = cntE s := by omega
        have hq : decide ((4 + 16 * (cntE s : Int)) + 16 ≤ (s.size : Int)) = false := decide_eq_false (fun h => hlt (hci.1 h))
        have HP : Hid (Calls Try.prog 13 #[.slice a3 (cntE s) c3] wr fun e w' => e = .returned (.string (peV (evs s (cntE s)))) ∧ Below wr.heap.size wr w') := implPE_any (EVrow.of (B := w.heap.size) (by rw [evs_len]; exact HOW.out))
        clear hc1 HEA hci
        by_cases hp : peV (evs s (cntE s)) = s
        · have HZ : Hid (ueZ s = evs s (cntE s)) := (show ueZ s = _ by unfold ueZ ueB; rw [decide_eq_true hs, decide_eq_true hp]; rfl)
          rw [hp] at HP
          clear hp
          go_wp2_with (go_at_call 13; refine Calls.mono HP.out ?_; rintro e u1 ⟨rfl, hu⟩; have HU : Hid (Below w.heap.size w u1) := HB.out.trans (hu.mono HB.out.size); have HO1 : Hid (u1.ownsRow w.heap.size 46 4 (.slice a3 (cntE s) c3) (cntE s) (evR (evs s (cntE s)))) := ev_below HOW.out hu; clear hu)
          go_ret
          exact ⟨_, rfl, by rw [HZ.out, evs_len]; exact HO1.out, HU.out⟩
        · have HZ : Hid (ueZ s = []) := (show ueZ s = _ by unfold ueZ ueB; rw [decide_eq_false hp]; simp)
          generalize peV (evs s (cntE s)) = p at *
          have hn : (p.toList == s.toList) = false := str_ne hp
          go_wp2_with (go_at_call 13; refine Calls.mono HP.out ?_; rintro e u1 ⟨rfl, hu⟩; have HU : Hid (Below w.heap.size w u1) := HB.out.trans (hu.mono HB.out.size); clear hu)
          go_ret
          exact ⟨_, rfl, by rw [HZ.out]; exact World.ownsRow_nil _ _ _ _, HU.out⟩
  · have hd : decide (65536 < (s.size : Int)) = true := decide_eq_true (by omega)
    have HZ : Hid (ueZ s = []) := (show ueZ s = _ by unfold ueZ ueB; rw [decide_eq_false hs]; rfl)
    go_enter Try.func15, Try.ntmps15
    go_wp2_with (go_at_call 32; refine (tooLong_any _ _).mono ?_; rintro e u0 ⟨rfl, hw0⟩; rw [hw0]; clear hw0 u0)
    go_ret
    exact ⟨_, rfl, by rw [HZ.out]; exact World.ownsRow_nil _ _ _ _, Below.refl _ _⟩
end Go.Proofs.Ytnbohdninedjdaa
