import Derived.Test.YtjaelkagacmpkaaRl1
import Derived.Test.YtjaelkagacmpkaaOrI
import Derived.Test.YtjaelkagacmpkaaJoined
namespace Go.Proofs.Ytjaelkagacmpkaa
open Go.ChangeShapes Go.WideShapes Go.ChangeAt Go.RowKit

theorem joined1 (s : ByteArray) (b : Nat) (X : World) (hh : X.heap[b]? = some (.cells #[.string s] 9 (0, 0))) (hs : s.size ≤ 1099511627776) :
    Calls Try.prog 129 #[.slice (some ⟨b, 0, none⟩) 1 1] X fun e w' => e = .returned (.string s) ∧ Below X.heap.size X w' := by
  have hcat : catB [s] = s.data.toList := by simp [catB]
  have hc : X.cell? ⟨b, 0, none⟩ = some (.string s) := by simp [World.cell?, hh]
  have hci : ∀ i, i < 1 → X.cell? ⟨b, i, none⟩ = some (.string ([s].getD i ByteArray.empty)) := by
    intro i hi
    obtain rfl : i = 0 := by omega
    exact hc
  have h := joined_any b 1 1 [s] X rfl (Array.getElem?_eq_some_iff.1 hh).1 hci (by decide) (by rw [hcat]; simpa using hs)
  rw [hcat] at h
  refine Calls.mono h ?_
  rintro e w' ⟨he, hw⟩
  exact ⟨he, hw⟩
theorem Orow2.heap {u U : World} {lo hi : Nat} {v : Value} {zs : List Int} (h : Orow2 u lo hi v zs) (he : ∀ k, lo ≤ k → k < hi → U.heap[k]? = u.heap[k]?) : Orow2 U lo hi v zs := by
  rcases h with h | ⟨g, o, cap, cur, h1, h2, h3, h4, h5, h6⟩
  · exact .inl h
  · exact .inr ⟨g, o, cap, cur, h1, h2, h3, h4, (he g h2 h3).trans h5, h6⟩
theorem Prow2.heap {u U : World} {lo hi : Nat} {v : Value} {zs : List PV} (h : Prow2 u lo hi v zs) (he : ∀ k, lo ≤ k → k < hi → U.heap[k]? = u.heap[k]?) : Prow2 U lo hi v zs := by
  rcases h with h | ⟨g, o, cap, cur, h1, h2, h3, h4, h5, h6⟩
  · exact .inl h
  · exact .inr ⟨g, o, cap, cur, h1, h2, h3, h4, (he g h2 h3).trans h5, h6⟩
/-- The ends of a machine's five rows. -/
structure N6 where
  a : Nat
  b : Nat
  c : Nat
  d : Nat
  e : Nat
  f : Nat
/-- A machine's rows, each in an interval of its own. -/
structure M5 (u : World) (n : N6) (m : MV) (a : MA) : Prop where
  le : n.a ≤ n.b ∧ n.b ≤ n.c ∧ n.c ≤ n.d ∧ n.d ≤ n.e ∧ n.e ≤ n.f
  r : Orow2 u n.a n.b (.slice a.ar m.rs.length a.cr) m.rs
  c : Orow2 u n.b n.c (.slice a.ac m.cs.length a.cc) m.cs
  v : Orow2 u n.c n.d (.slice a.av m.vs.length a.cv) m.vs
  i : Prow2 u n.d n.e (.slice a.ai m.is.length a.ci) m.is
  o : Prow2 u n.e n.f (.slice a.ao m.os.length a.co) m.os
theorem M5.gi {u u' : World} {n : N6} {m : MV} {a : MA} {x y : Nat} (h : M5 u n m a) (g : GI x y u u') (hd : n.f ≤ x ∨ y ≤ n.a) : M5 u' n m a := by
  have := h.le
  exact ⟨h.le, h.r.gi g (by omega), h.c.gi g (by omega), h.v.gi g (by omega), h.i.gi g (by omega), h.o.gi g (by omega)⟩
theorem M5.step {u u' : World} {n : N6} {m : MV} {a : MA} (h : M5 u n m a) (hb : Below u.heap.size u u') : M5 u' n m a := h.gi (GI.of_below (lo := 0) (hi := 0) hb) (.inr (Nat.zero_le _))
theorem M5.rows {u : World} {n : N6} {m : MV} {a : MA} (h : M5 u n m a) : MRows u m a := ⟨h.r.irow, h.c.irow, h.v.irow, h.i.prow, h.o.prow⟩
set_option maxRecDepth 100000 in
theorem Try.info155 : (Try.prog.info? 155).map (fun i => (i.zero, i.size, i.bytes)) = some (some (.agg #[.int .i64 0, .int .i64 0]), 2, 16) := by kernel_rfl
theorem pvR_one (zs : List PV) : ∀ u ∈ pvR zs, u.oneCell' = true := by
  intro u hu
  unfold pvR at hu
  rw [List.mem_flatMap] at hu
  obtain ⟨m, _, hm⟩ := hu
  simp [pvC] at hm
  rcases hm with rfl | rfl <;> rfl
theorem pvR_cells {w : World} {a : Addr} {n cap : Nat} {zs : List PV} (h : PVrow w (.slice (some a) n cap) zs) : ∀ j u, (pvR zs)[j]? = some u → w.cell? (a.add j) = some u := by
  intro j u hj
  rcases h with ⟨rfl, _⟩ | ⟨g, o, c1, hv, hc, hg, ha⟩
  · simp [pvR] at hj
  · injection hv with q1
    injection q1 with q2
    subst q2
    have hjl : j < zs.length * 2 := by
      have := (List.getElem?_eq_some_iff.1 hj).1
      rw [pvR_len] at this
      exact this
    have hk : j / 2 < zs.length := by omega
    have e1 := pvR_at zs (j / 2) hk (j % 2) (by omega)
    rw [show j / 2 * 2 + j % 2 = j by omega, hj] at e1
    obtain ⟨b0, b1⟩ := ha (j / 2) hk
    rw [Addr.add_lit]
    obtain h2 | h2 : j % 2 = 0 ∨ j % 2 = 1 := by omega
    · rw [h2] at e1
      rw [show o + j = o + j / 2 * 2 by omega, b0, e1]
      rfl
    · rw [h2] at e1
      rw [show o + j = o + j / 2 * 2 + 1 by omega, b1, e1]
      rfl
set_option maxRecDepth 100000 in
theorem appV {w : World} {ao : Option Addr} {cap : Nat} {zs : List PV} (h : PVrow w (.slice ao zs.length cap) zs) (hl : zs.length ≤ 1048576) : ∃ v' u', (Builtin.append_ #[71, 71] 71 #[.slice (some ⟨w.heap.size, 0, none⟩) 0 0, .slice ao zs.length cap]).run Try.prog (w.alloc (.cells #[] 155)) = .ok v' u' ∧ (u'.ownsRow w.heap.size 155 2 v' zs.length (pvR zs) ∧ (w.alloc (.cells #[] 155)).grownBy u' (some w.heap.size)) := by
  obtain ⟨i0, hi0, hz0, hz1, hz2⟩ := info_parts Try.info155
  have H0 : (w.alloc (.cells #[] 155)).ownsRow w.heap.size 155 2 (.slice (some ⟨w.heap.size, 0, none⟩) 0 0) 0 [] := World.ownsRow_lit _ #[] 0 (by simp) (by decide) rfl
  have hA : PVrow (w.alloc (.cells #[] 155)) (.slice ao zs.length cap) zs := h.below ((Below.refl _ _).alloc (Nat.le_refl _) _)
  cases ao with
  | none =>
    have hz : zs = [] := by
      rcases h with ⟨q, _⟩ | ⟨g, o, c1, hv, _⟩
      · exact q
      · injection hv with q1
        cases q1
    subst hz
    refine ⟨.slice (some ⟨w.heap.size, 0, none⟩) 0 0, w.alloc (.cells #[] 155), ?_, H0, ⟨rfl, rfl, rfl, Nat.le_refl _, fun _ _ _ => rfl⟩⟩
    simp [Builtin.append_, run_underlying Try.underlying71, sizeOf, typeInfo, hi0, Builtin.lenOf, Builtin.firstCells, storeCells]
  | some a =>
    obtain ⟨v', w', hr, h2, h3, _, _⟩ := run_append_own_at (P := Try.prog) (w.alloc (.cells #[] 155)) w.heap.size 71 71 155 i0 (.agg #[.int .i64 0, .int .i64 0]) 2 16 Try.underlying71 hi0 hz0 hz1 hz2 rfl (by decide) (.slice (some ⟨w.heap.size, 0, none⟩) 0 0) 0 [] H0 a zs.length cap (pvR zs) (pvR_len zs) (pvR_cells hA) (pvR_one zs) (by unfold maxLen; omega) (by omega) (by simp)
    rw [Nat.zero_add, List.nil_append] at h2
    exact ⟨v', w', hr, h2, h3⟩
set_option maxRecDepth 100000 in
theorem eqNilV (n c : Nat) (w : World) : Sem.run Try.prog (binOp BinOp.eql 71 (.slice none n c) (.slice none 0 0)) w = .ok (.bool true) w := by kernel_rfl
set_option maxRecDepth 100000 in
theorem neNilV (a : Addr) (n c : Nat) (w : World) : Sem.run Try.prog (binOp BinOp.eql 71 (.slice (some a) n c) (.slice none 0 0)) w = .ok (.bool false) w := by kernel_rfl
set_option maxRecDepth 100000 in
set_option maxHeartbeats 4000000 in
theorem cloneV_any {w : World} {v : Value} {zs : List PV} (h : PVrow w v zs) (hl : zs.length ≤ 1048576) : Calls Try.prog 128 #[v] w fun e w' => ∃ u, e = .returned u ∧ w'.ownsRow w.heap.size 155 2 u zs.length (pvR zs) ∧ Below w.heap.size w w' := by
  obtain ⟨ao, cap, rfl⟩ := h.sl
  have n1 := eqNilV
  have n2 := neNilV
  have HAP : Hid _ := appV h hl
  cases ao with
  | none =>
    have hz : zs = [] := by
      rcases h with ⟨q, _⟩ | ⟨g, o, c1, hv, _⟩
      · exact q
      · injection hv with q1
        cases q1
    subst hz
    clear h hl HAP
    go_enter Try.func128, Try.ntmps128
    go_wp2
    go_ret
    exact ⟨_, rfl, World.ownsRow_nil _ _ _ _, Below.refl _ _⟩
  | some a =>
    clear h
    go_enter Try.func128, Try.ntmps128
    go_wp2_with (at_builtin; (refine wl_append_ex rfl _ _ 71 rfl _ _ rfl rfl HAP.out ?_; rintro v' u' ⟨ho, hg⟩; have HO : Hid (u'.ownsRow w.heap.size 155 2 v' zs.length (pvR zs)) := ho; have HG : Hid (Below w.heap.size w u') := ((Below.refl w.heap.size w).alloc (Nat.le_refl _) _).grown hg (by simp) (fun j hj => by cases hj; exact Nat.le_refl _); clear ho hg HAP))
    go_ret
    exact ⟨_, rfl, HO.out, HG.out⟩
end Go.Proofs.Ytjaelkagacmpkaa
