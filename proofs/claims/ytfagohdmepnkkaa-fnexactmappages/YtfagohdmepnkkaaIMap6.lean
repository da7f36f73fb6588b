import Derived.Test.YtfagohdmepnkkaaIMap5
import Derived.Test.YtfagohdmepnkkaaIdxI
import Derived.Test.YtfagohdmepnkkaaMemF
import Derived.Test.YtfagohdmepnkkaaSMap7
namespace Go.Proofs.Ytfagohdmepnkkaa
open Go.ChangeShapes Go.WideShapes Go.ChangeAt Go.RowKit

theorem eqNilI (n c : Nat) (w : World) : Sem.run Try.prog (binOp BinOp.eql 28 (.slice none n c) (.slice none 0 0)) w = .ok (.bool true) w := by kernel_rfl
theorem neNilI (a : Addr) (n c : Nat) (w : World) : Sem.run Try.prog (binOp BinOp.eql 28 (.slice (some a) n c) (.slice none 0 0)) w = .ok (.bool false) w := by kernel_rfl
set_option maxRecDepth 100000 in
set_option maxHeartbeats 4000000 in
theorem cloneI_any {w : World} {v : Value} {zs : List Int} (h : Irow w v zs) (hl : zs.length ≤ 1048576) : Calls Try.prog 57 #[v] w fun e w' => ∃ u, e = .returned u ∧ Orow w' w.heap.size u zs ∧ Below w.heap.size w w' := by
  obtain ⟨ao, cap, rfl⟩ := h.sl
  have n1 := eqNilI
  have n2 := neNilI
  have hA : Irow (w.alloc (.cells #[] 2)) (.slice ao zs.length cap) zs := h.below ((Below.refl _ _).alloc (Nat.le_refl _) _)
  have H0 : Hid ((w.alloc (.cells #[] 2)).ownsRow w.heap.size 2 1 (.slice (some ⟨w.heap.size, 0, none⟩) 0 0) 0 []) := World.ownsRow_lit _ #[] 0 (by simp) (by decide) rfl
  cases ao with
  | none =>
    have hz : zs = [] := by
      rcases h with ⟨q, _⟩ | ⟨g, o, c1, hv, _⟩
      · exact q
      · injection hv with q1
        cases q1
    subst hz
    clear h hA H0 hl
    go_enter Try.func57, Try.ntmps57
    go_wp2
    go_ret
    exact ⟨_, rfl, .inl ⟨rfl, _, _, rfl⟩, Below.refl _ _⟩
  | some a =>
    have HAP : Hid (∃ v' u', (Builtin.append_ #[28, 28] 28 #[.slice (some ⟨w.heap.size, 0, none⟩) 0 0, .slice (some a) zs.length cap]).run Try.prog (w.alloc (.cells #[] 2)) = .ok v' u' ∧ (u'.ownsRow w.heap.size 2 1 v' zs.length (iR zs) ∧ (w.alloc (.cells #[] 2)).grownBy u' (some w.heap.size))) := by
      obtain ⟨i0, hi0, hz0, hz1, hz2⟩ := info_parts Try.info2
      obtain ⟨v', w', hr, h2, h3, _, _⟩ := run_append_own_at (P := Try.prog) (w.alloc (.cells #[] 2)) w.heap.size 28 28 2 i0 (.int .i64 0) 1 8 Try.underlying28 hi0 hz0 hz1 hz2 rfl (by decide) (.slice (some ⟨w.heap.size, 0, none⟩) 0 0) 0 [] H0.out a zs.length cap (iR zs) (by rw [iR_len]) (iR_cells hA) (iR_one zs) (by unfold maxLen; omega) (by omega) (by simp)
      rw [Nat.zero_add, List.nil_append] at h2
      exact ⟨v', w', hr, h2, h3⟩
    clear h hA H0
    go_enter Try.func57, Try.ntmps57
    go_wp2_with (at_builtin; (refine wl_append_ex rfl _ _ 28 rfl _ _ rfl rfl HAP.out ?_; rintro v' u' ⟨ho, hg⟩; have HO : Hid (u'.ownsRow w.heap.size 2 1 v' zs.length (iR zs)) := ho; have HG : Hid (Below w.heap.size w u') := ((Below.refl w.heap.size w).alloc (Nat.le_refl _) _).grown hg (by simp) (fun j hj => by cases hj; exact Nat.le_refl _); clear ho hg HAP))
    go_ret
    exact ⟨_, rfl, Orow.of HO.out, HG.out⟩
set_option maxRecDepth 100000 in
theorem lacks_cf (xs : Array Value) (w : World) : (callFunc 58 xs).run Try.prog w = .ok (.enter 58 xs) w := by kernel_rfl
set_option maxRecDepth 100000 in
set_option maxHeartbeats 4000000 in
theorem lacks_any {w : World} {M b n : Nat} {root : Int} {fv : Value} (hB : MpB w M b n root fv) (x : Int) : Calls Try.prog 58 #[.int .i64 x, .pointer (some ⟨M, 0, none⟩)] w fun e w' => e = .returned (.bool (!(decide (0 ≤ x) && decide (x < (n : Int))))) ∧ w' = w := by
  obtain ⟨c0, c1, c2⟩ := hB.cel
  have HH : Hid _ := memHolds_any b n x w
  unfold mv at c0 HH
  go_enter Try.func58, Try.ntmps58
  go_wp2_with (go_at_call 59; refine Calls.mono HH.out ?_; rintro r u1 ⟨rfl, hu1⟩; subst u1)
  go_ret
  refine ⟨?_, rfl⟩
  show Ending.returned (Value.bool (!decide (0 ≤ x) || !decide (x < (n : Int)))) = _
  rw [Bool.not_and]
end Go.Proofs.Ytfagohdmepnkkaa
