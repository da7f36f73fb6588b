import Derived.Test.YtakacapcphbjiaaSt1
namespace Go.Proofs.Ytakacapcphbjiaa
open Go.ChangeShapes Go.WideShapes Go.ChangeAt Go.RowKit

theorem blk_set {u : World} {b : Nat} {cs : Array Value} {t : TypeId} {z : Nat × Nat} (h : u.heap[b]? = some (.cells cs t z)) (o : Nat) (v : Value) : (u.setCell ⟨b, o, none⟩ v).heap[b]? = some (.cells (cs.setIfInBounds o v) t z) := by
  simp [World.setCell, Array.getElem?_modify, h]
theorem cel4 {u : World} {b t : Nat} {a0 a1 a2 a3 : Value} (h : u.heap[b]? = some (.cells #[a0, a1, a2, a3] t (0, 0))) : u.cell? ⟨b, 0, none⟩ = some a0 ∧ u.cell? ⟨b, 1, none⟩ = some a1 ∧ u.cell? ⟨b, 2, none⟩ = some a2 ∧ u.cell? ⟨b, 3, none⟩ = some a3 ∧ ∀ x, u.frozen? ⟨b, x, none⟩ = false := by
  simp [World.cell?, World.frozen?, h]
def sR (y m d s : Int) : Array Value := #[.int .i64 y, .int .i64 m, .int .i64 d, .int .i64 s]
/-- A stamp under way: the answer's box, and the one at work. -/
structure T2 (w u : World) (y m d s : Int) : Prop where
  bel : Below w.heap.size w u
  b0 : u.heap[w.heap.size]? = some (.cells #[.int .i64 0, .int .i64 0, .int .i64 0, .int .i64 0] 23 (0, 0))
  b1 : u.heap[w.heap.size + 1]? = some (.cells #[.int .i64 y, .int .i64 m, .int .i64 d, .int .i64 s] 23 (0, 0))
theorem T2.lt {w u : World} {y m d s : Int} (h : T2 w u y m d s) : w.heap.size + 1 < u.heap.size := (Array.getElem?_eq_some_iff.1 h.b1).1
theorem T2.step {w u u' : World} {y m d s : Int} (h : T2 w u y m d s) (hb : Below u.heap.size u u') : T2 w u' y m d s := by
  have := h.lt
  exact ⟨h.bel.trans (hb.mono h.bel.size), (hb.block _ (by omega)).trans h.b0, (hb.block _ (by omega)).trans h.b1⟩
theorem T2.drewN {w u : World} {y m d s : Int} (h : T2 w u y m d s) (n : Nat) : T2 w (u.drewN n) y m d s := h.step (bdn (Below.refl _ _) n)
theorem T2.sety {w u : World} {y m d s : Int} (h : T2 w u y m d s) (x : Int) : T2 w (u.setCell ⟨w.heap.size + 1, 0, none⟩ (.int .i64 x)) x m d s :=
  ⟨h.bel.setCell (by simp only; omega) _, (Below.heap_setCell _ _ _ _ (by simp only; omega)).trans h.b0, blk_set h.b1 0 _⟩
theorem T2.setm {w u : World} {y m d s : Int} (h : T2 w u y m d s) (x : Int) : T2 w (u.setCell ⟨w.heap.size + 1, 1, none⟩ (.int .i64 x)) y x d s :=
  ⟨h.bel.setCell (by simp only; omega) _, (Below.heap_setCell _ _ _ _ (by simp only; omega)).trans h.b0, blk_set h.b1 1 _⟩
theorem T2.setd {w u : World} {y m d s : Int} (h : T2 w u y m d s) (x : Int) : T2 w (u.setCell ⟨w.heap.size + 1, 2, none⟩ (.int .i64 x)) y m x s :=
  ⟨h.bel.setCell (by simp only; omega) _, (Below.heap_setCell _ _ _ _ (by simp only; omega)).trans h.b0, blk_set h.b1 2 _⟩
theorem T2.new (w : World) (y m d s : Int) : T2 w ((w.alloc (.cells #[.int .i64 0, .int .i64 0, .int .i64 0, .int .i64 0] 23)).alloc (.cells #[.int .i64 y, .int .i64 m, .int .i64 d, .int .i64 s] 23)) y m d s := by
  refine ⟨((Below.refl _ _).alloc (Nat.le_refl _) _).alloc (by simp) _, ?_, ?_⟩
  · rw [Below.heap_alloc _ _ _ (by simp)]
    exact heap_new _ _
  · simpa using heap_new (w.alloc (.cells #[.int .i64 0, .int .i64 0, .int .i64 0, .int .i64 0] 23)) (.cells #[.int .i64 y, .int .i64 m, .int .i64 d, .int .i64 s] 23)
theorem st4 {B : Nat} {w u : World} {b : Nat} {t : TypeId} {a0 a1 a2 a3 : Value} (hb : Below B w u) (hB : B ≤ b) (h : u.heap[b]? = some (.cells #[a0, a1, a2, a3] t (0, 0))) (v0 v1 v2 v3 : Value) {U : World}
    (hU : (((u.setCell ⟨b, 0, none⟩ v0).setCell ⟨b, 1, none⟩ v1).setCell ⟨b, 2, none⟩ v2).setCell ⟨b, 3, none⟩ v3 = U) : Below B w U ∧ U.heap[b]? = some (.cells #[v0, v1, v2, v3] t (0, 0)) ∧ (∀ k, k ≠ b → U.heap[k]? = u.heap[k]?) := by
  subst hU
  refine ⟨?_, ?_, fun k hk => ?_⟩
  · exact (((hb.setCell (p := ⟨b, 0, none⟩) hB _).setCell (p := ⟨b, 1, none⟩) hB _).setCell (p := ⟨b, 2, none⟩) hB _).setCell (p := ⟨b, 3, none⟩) hB _
  · exact blk_set (blk_set (blk_set (blk_set h 0 v0) 1 v1) 2 v2) 3 v3
  · exact (Below.heap_setCell _ _ _ _ hk).trans ((Below.heap_setCell _ _ _ _ hk).trans ((Below.heap_setCell _ _ _ _ hk).trans (Below.heap_setCell _ _ _ _ hk)))
def sA (y m d s : Int) : Value := .agg #[.int .i64 y, .int .i64 m, .int .i64 d, .int .i64 s]
/-- The stamp of n seconds. -/
def StampAt (n y m d s : Int) : Prop := 2000 ≤ y ∧ y ≤ 2099 ∧ 1 ≤ m ∧ m ≤ 12 ∧ d = n / 86400 - cy y - cm y m + 1 ∧ 1 ≤ d ∧ d ≤ dm y m ∧ s = n % 86400
theorem StampAt.uniq {n y m d s y' m' d' s' : Int} (h : StampAt n y m d s) (g : StampAt n y' m' d' s') : y = y' ∧ m = m' ∧ d = d' ∧ s = s' := by
  obtain ⟨_, _, h0, h1, hd, h2, h3, hs⟩ := h
  obtain ⟨_, _, g0, g1, gd, g2, g3, gs⟩ := g
  obtain ⟨rfl, rfl⟩ := same_day (D := n / 86400) (y := y) (y' := y') h0 h1 g0 g1 (by omega) (by omega) (by omega) (by omega)
  exact ⟨rfl, rfl, by omega, by omega⟩
theorem bodyT2 {w u : World} {y m d s : Int} (h : T2 w u y m d s) : ∃ U, (((u.setCell ⟨w.heap.size, 0, none⟩ (.int .i64 y)).setCell ⟨w.heap.size, 1, none⟩ (.int .i64 m)).setCell ⟨w.heap.size, 2, none⟩ (.int .i64 d)).setCell ⟨w.heap.size, 3, none⟩ (.int .i64 s) = U ∧ Below w.heap.size w U ∧ U.cell? ⟨w.heap.size, 0, none⟩ = some (.int .i64 y) ∧ U.cell? ⟨w.heap.size, 1, none⟩ = some (.int .i64 m) ∧ U.cell? ⟨w.heap.size, 2, none⟩ = some (.int .i64 d) ∧ U.cell? ⟨w.heap.size, 3, none⟩ = some (.int .i64 s) := by
  obtain ⟨e1, e2, e3⟩ := st4 h.bel (Nat.le_refl _) h.b0 (.int .i64 y) (.int .i64 m) (.int .i64 d) (.int .i64 s) rfl
  obtain ⟨f0, f1, f2, f3, _⟩ := cel4 e2
  exact ⟨_, rfl, e1, f0, f1, f2, f3⟩
set_option maxRecDepth 100000 in
set_option maxHeartbeats 4000000 in
theorem implStamp_yes (n : Int) (w : World) (n0 : 0 ≤ n) (n1 : n < 3155760000) : Calls Try.prog 7 #[.int .i64 n] w fun e w' => ∃ y m d s, e = .returned (sA y m d s) ∧ StampAt n y m d s ∧ Below w.heap.size w w' := by
  have hq : n.tdiv 86400 = n / 86400 := Int.tdiv_eq_ediv_of_nonneg n0
  have hr : n.tmod 86400 = n % 86400 := Int.tmod_eq_emod_of_nonneg n0
  have hq0 : 0 ≤ n / 86400 := by omega
  have hq1 : n / 86400 < 36525 := by omega
  have hr0 : 0 ≤ n % 86400 := by omega
  have hr1 : n % 86400 < 86400 := by omega
  have n2 : ¬ n < 0 := by omega
  have n3 : ¬ 3155760000 ≤ n := by omega
  unfold StampAt
  generalize hD : n / 86400 = D at *
  generalize hS : n % 86400 = S at *
  have HT0 : Hid (T2 w ((w.alloc (.cells #[.int .i64 0, .int .i64 0, .int .i64 0, .int .i64 0] 23)).alloc (.cells #[.int .i64 2000, .int .i64 1, .int .i64 0, .int .i64 S] 23)) 2000 1 0 S) := T2.new _ _ _ _ _
  go_enter Try.func7, Try.ntmps7
  go_wp2_with fail
  generalize ((w.alloc (.cells #[.int .i64 0, .int .i64 0, .int .i64 0, .int .i64 0] 23)).alloc (.cells #[.int .i64 2000, .int .i64 1, .int .i64 0, .int .i64 S] 23)) = u0 at *
  go_loopw [4] (fun i wr => ∃ y : Int, 2000 ≤ y ∧ 0 ≤ D - cy y ∧ i = .int .i64 (D - cy y) ∧ T2 w wr y 1 0 S) (fun i _ => (intOf i).toNat)
  case atStart => exact ⟨2000, by omega, by unfold cy; omega, by unfold cy; simp, HT0.out⟩
  case round =>
    obtain ⟨y, hy0, hd0, rfl, ht⟩ := hrel
    have hy1 : y ≤ 2099 := by unfold cy at hd0; omega
    have HT : Hid (T2 w wr y 1 0 S) := ht
    obtain ⟨c0, c1, c2, c3, cf⟩ := cel4 ht.b1
    have lt := ht.lt
    clear ht
    have HY : Hid _ := fun u => daysOfYear_any y u (by omega)
    have hp := dy_pos y
    have HSU : Hid (cy (y + 1) = cy y + dy y) := cy_succ y
    have hy2 : 0 ≤ y := by omega
    have HCE0 : Hid (cm y 13 = dy y) := cm_end y
    have hdm : D - cy y < 36525 := by unfold cy; omega
    generalize dy y = Y at *
    generalize hx : D - cy y = x at *
    by_cases hlt : Y ≤ x
    · go_wp2_with (go_at_call 14; refine (HY.out _).mono ?_; rintro e u1 ⟨rfl, hu1⟩; rw [hu1]; clear hu1)
      go_roundw
      case rel => exact ⟨y + 1, by omega, by rw [HSU.out]; omega, by rw [HSU.out]; go_num, HT.out.sety _⟩
      case measure => simp [intOf]; omega
    · have HLT : Hid (x < Y) := (show x < Y by omega)
      have HCE : Hid (cm y 13 = Y) := HCE0.out
      go_wp2_with (go_at_call 14; refine (HY.out _).mono ?_; rintro e u1 ⟨rfl, hu1⟩; rw [hu1]; clear hu1)
      clear c0 c1 c2 c3 cf lt HY
      go_loopw [4] (fun i wr => ∃ m : Int, 1 ≤ m ∧ m ≤ 12 ∧ 0 ≤ x - cm y m ∧ i = .int .i64 (x - cm y m) ∧ T2 w wr y m 0 S) (fun i _ => (intOf i).toNat)
      case atStart => exact ⟨1, by omega, by omega, by rw [cm_one]; omega, by rw [cm_one]; simp, HT.out⟩
      case round =>
        obtain ⟨m, m0, m1, hx0, rfl, ht⟩ := hrel
        have HT : Hid (T2 w wr y m 0 S) := ht
        obtain ⟨c0, c1, c2, c3, cf⟩ := cel4 ht.b1
        obtain ⟨z0, z1, z2, z3, zf⟩ := cel4 ht.b0
        have lt := ht.lt
        have lt0 : w.heap.size < wr.heap.size := by omega
        have ne0 : ¬ w.heap.size = w.heap.size + 1 := by omega
        have ne1 : ¬ w.heap.size + 1 = w.heap.size := by omega
        clear ht
        have HM : Hid _ := fun u => daysOfMonth_any y m u (by omega)
        have hp := dm_pos y m
        have HSU2 : Hid (cm y (m + 1) = cm y m + dm y m) := cm_succ m0 m1
        have HM12 : Hid (dm y m ≤ x - cm y m → m ≤ 11) := fun h => by
          rcases Int.lt_or_le m 12 with h12 | h12
          · omega
          · have e : m = 12 := by omega
            subst e
            have k := HSU2.out
            rw [show (12 : Int) + 1 = 13 from rfl] at k
            have := HCE.out
            have := HLT.out
            omega
        have HLE : Hid (x - cm y m < dm y m → x - cm y m + 1 ≤ dm y m) := fun h => by omega
        have hxm : x - cm y m < 366 := by have := (cm_in (y := y) m0 m1).1; have := HLT.out; omega
        generalize hdd : dm y m = M at *
        generalize hx2 : x - cm y m = x2 at *
        by_cases hlt2 : M ≤ x2
        · go_wp2_with (go_at_call 15; refine (HM.out _).mono ?_; rintro e u1 ⟨rfl, hu1⟩; rw [hu1]; clear hu1)
          go_roundw
          case rel => exact ⟨m + 1, by omega, by have := HM12.out hlt2; omega, by rw [HSU2.out]; omega, by rw [HSU2.out]; go_num, HT.out.setm _⟩
          case measure => simp [intOf]; omega
        · go_wp2_with (go_at_call 15; refine (HM.out _).mono ?_; rintro e u1 ⟨rfl, hu1⟩; rw [hu1]; clear hu1)
          obtain ⟨U, hU, e1, f0, f1, f2, f3⟩ := bodyT2 (HT.out.setd (x2 + 1))
          subst hU
          refine bodyPost_ret (v := sA y m (x2 + 1) S) ?_ rfl ⟨_, _, _, _, rfl, ⟨hy0, hy1, m0, m1, by omega, by omega, by rw [hdd]; omega, rfl⟩, e1⟩
          clear e1 HT
          unfold sA
          simp only [results, Try.results7, go_sem]
          simp [go_sem, f0, f1, f2, f3]
set_option maxRecDepth 100000 in
set_option maxHeartbeats 4000000 in
theorem implStamp_no (n : Int) (w : World) (h : n < 0 ∨ 3155760000 ≤ n) : Calls Try.prog 7 #[.int .i64 n] w fun e w' => e = .returned (sA 0 0 0 0) ∧ Below w.heap.size w w' := by
  rcases h with h | h
  · go_enter Try.func7, Try.ntmps7
    go_wp2
    refine bodyPost_ret (v := sA 0 0 0 0) ?_ rfl ⟨rfl, (Below.refl _ _).alloc (Nat.le_refl _) _⟩
    unfold sA
    simp only [results, Try.results7, go_sem]
    simp [go_sem]
  · have h0 : ¬ n < 0 := by omega
    go_enter Try.func7, Try.ntmps7
    go_wp2
    refine bodyPost_ret (v := sA 0 0 0 0) ?_ rfl ⟨rfl, (Below.refl _ _).alloc (Nat.le_refl _) _⟩
    unfold sA
    simp only [results, Try.results7, go_sem]
    simp [go_sem]
end Go.Proofs.Ytakacapcphbjiaa
