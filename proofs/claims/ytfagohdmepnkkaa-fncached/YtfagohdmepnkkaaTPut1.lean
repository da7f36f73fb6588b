import Derived.Test.YtfagohdmepnkkaaLawT0
import Derived.Laws.AppendOwn
import Derived.Deep.RegionLaw
namespace Go.Proofs.Ytfagohdmepnkkaa
open Go.ChangeShapes Go.WideShapes Go.ChangeAt Go.RowKit

theorem Try.info66 : (Try.prog.info? 66).map (fun i => (i.zero, i.size, i.bytes)) = some (some (.agg #[.int .i64 0, .int .i64 0, .int .i64 0, .int .i64 0, .bool false]), 5, 40) := by kernel_rfl
theorem te_oneC (m : TE) : ∀ u ∈ teC m, u.oneCell' = true := by
  intro u hu
  simp [teC] at hu
  rcases hu with rfl | rfl | rfl | rfl | rfl <;> rfl
theorem teR_one (zs : List TE) : ∀ u ∈ teR zs, u.oneCell' = true := by
  intro u hu
  unfold teR at hu
  rw [List.mem_flatMap] at hu
  obtain ⟨m, _, hm⟩ := hu
  exact te_oneC m u hm
theorem te_rowC {w : World} {B g n cap : Nat} {zs : List TE} (h : w.ownsRow B 66 5 (.slice (some ⟨g, 0, none⟩) n cap) n (teR zs)) (hn : zs.length = n) : ∀ (j : Nat) (u : Value), (teR zs)[j]? = some u → w.cell? (Addr.add ⟨g, 0, none⟩ j) = some u := by
  intro j u hj
  have hl := teR_len zs
  have hlt : j < (teR zs).length := (List.getElem?_eq_some_iff.1 hj).1
  have hc := h.cellAt j (by omega)
  have e : Addr.add ⟨g, 0, none⟩ j = ⟨g, j, none⟩ := by
    simp [Addr.add]
    exact fun h => h.symm
  rw [e, hc]
  exact hj
theorem eqNilT (w : World) : Sem.run Try.prog (binOp BinOp.eql 59 (.slice none 0 0) (.slice none 0 0)) w = .ok (.bool true) w := by kernel_rfl
theorem neNilT (a : Addr) (n c : Nat) (w : World) : Sem.run Try.prog (binOp BinOp.eql 59 (.slice (some a) n c) (.slice none 0 0)) w = .ok (.bool false) w := by kernel_rfl
set_option maxRecDepth 100000 in
set_option maxHeartbeats 4000000 in
theorem cloneT_any {w : World} {B : Nat} {ao : Option Addr} {cap : Nat} {zs : List TE} (h : w.ownsRow B 66 5 (.slice ao zs.length cap) zs.length (teR zs)) (hl : zs.length ≤ 16) :
    Calls Try.prog 83 #[.slice ao zs.length cap] w fun e w' => ∃ ao2 cap2, e = .returned (.slice ao2 zs.length cap2) ∧ w'.ownsRow w.heap.size 66 5 (.slice ao2 zs.length cap2) zs.length (teR zs) ∧ Below w.heap.size w w' := by
  obtain ⟨i0, hi0, hz0, hz1, hz2⟩ := info_parts Try.info66
  have n1 := eqNilT
  have n2 := neNilT
  rcases h.2 with ⟨e, e2⟩ | ⟨g, cap2, cur, hv, hg⟩
  · injection e with e3 e4 e5
    subst e3 e5
    have hz : zs = [] := List.length_eq_zero_iff.1 e2
    subst hz
    clear h hl e4
    simp only [List.length_nil]
    go_enter Try.func83, Try.ntmps83
    go_wp2
    go_ret
    exact ⟨_, _, rfl, World.ownsRow_nil _ _ _ _, Below.refl _ _⟩
  · injection hv with e3 e4 e5
    subst e3 e5
    have HO : Hid (w.ownsRow B 66 5 (.slice (some ⟨g, 0, none⟩) zs.length cap) zs.length (teR zs)) := h
    have HG : Hid (g < w.heap.size) := (h.lt g rfl).2
    clear h hg e4
    by_cases hz : zs.length = 0
    · have hz2 : zs = [] := List.length_eq_zero_iff.1 hz
      subst hz2
      simp only [List.length_nil] at HO ⊢
      clear hz hl
      go_enter Try.func83, Try.ntmps83
      go_wp2
      go_ret
      exact ⟨_, _, rfl, World.ownsRow_lit w #[] 0 (Nat.le_refl _) (by decide) rfl, (Below.refl _ _).alloc (Nat.le_refl _) _⟩
    · have HE : Hid ((w.alloc (.cells #[] 66)).ownsRow w.heap.size 66 5 (.slice (some ⟨w.heap.size, 0, none⟩) 0 0) 0 []) := World.ownsRow_lit w #[] 0 (Nat.le_refl _) (by decide) rfl
      have HO2 : Hid ((w.alloc (.cells #[] 66)).ownsRow B 66 5 (.slice (some ⟨g, 0, none⟩) zs.length cap) zs.length (teR zs)) := te_below HO.out ((Below.refl _ _).alloc (Nat.le_refl _) _)
      go_enter Try.func83, Try.ntmps83
      go_wp2_with (at_builtin; refine wpList_append_own _ rfl _ _ 59 rfl w.heap.size 66 i0 (.agg #[.int .i64 0, .int .i64 0, .int .i64 0, .int .i64 0, .bool false]) 5 40 Try.underlying59 hi0 hz0 hz1 hz2 rfl (by decide) (.slice (some ⟨w.heap.size, 0, none⟩) 0 0) 0 [] (by first | rfl | (simp [Act.eval]; done) | (simp [Act.eval, Act.put]; done)) HE.out ⟨g, 0, none⟩ zs.length cap (teR zs) (by first | rfl | (simp [Act.eval]; done) | (simp [Act.eval, Act.put]; done)) (teR_len zs) (te_rowC HO2.out rfl) (teR_one zs) ?ca3 ?ca4 ?ca5 ?_)
      case ca3 => unfold maxLen; omega
      case ca4 => omega
      case ca5 => simp
      intro v' w2 hown2 hgrow _
      obtain ⟨ao2, cap2, hv2⟩ := te_sl hown2
      subst hv2
      have hb : Below w.heap.size w w2 := ((Below.refl w.heap.size w).alloc (Nat.le_refl _) _).grown hgrow (by simp) (fun k hk => by cases hk; exact Nat.le_refl _)
      have HO3 : Hid (w2.ownsRow w.heap.size 66 5 (.slice ao2 zs.length cap2) zs.length (teR zs)) := hown2
      have HB : Hid (Below w.heap.size w w2) := hb
      clear hown2 hgrow hb
      go_wp2
      go_ret
      exact ⟨_, _, rfl, HO3.out, HB.out⟩
end Go.Proofs.Ytfagohdmepnkkaa
