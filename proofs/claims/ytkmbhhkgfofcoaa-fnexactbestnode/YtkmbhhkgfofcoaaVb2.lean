import Derived.Test.YtkmbhhkgfofcoaaVb1
import Derived.RangeFuncWrites
import Derived.RangeFuncBox
import Derived.RangeFuncFrom
import Derived.RegionIn
namespace Go.Proofs.Ytkmbhhkgfofcoaa
open Go.RowKit Go.Shelf
attribute [local go_sem] Oper.semAt_some

/-- The first one of the least. -/
def lsS (key : Int → Int) (o : Option Int) (x : Int) : Option Int := match o with
  | none => some x
  | some b => if key x < key b then some x else some b
def lsF (key : Int → Int) (zs : List Int) : Option Int := zs.foldl (lsS key) none
theorem lsF_snoc (key : Int → Int) (zs : List Int) (x : Int) : lsF key (zs ++ [x]) = lsS key (lsF key zs) x := by simp [lsF]
theorem lsF_mem (key : Int → Int) (zs : List Int) : ∀ b, lsF key zs = some b → b ∈ zs := by
  have : ∀ (ys : List Int) (o : Option Int), (∀ b, o = some b → b ∈ zs) → (∀ y ∈ ys, y ∈ zs) → ∀ b, ys.foldl (lsS key) o = some b → b ∈ zs := by
    intro ys
    induction ys with
    | nil => intro o ho _ b hb; exact ho b hb
    | cons y ys ih =>
      intro o ho hy b hb
      refine ih (lsS key o y) (fun b2 hb2 => ?_) (fun z hz => hy z (by simp [hz])) b hb
      cases o with
      | none =>
        simp [lsS] at hb2
        subst hb2
        exact hy _ (by simp)
      | some c =>
        simp only [lsS] at hb2
        split at hb2
        · injection hb2 with e
          subst e
          exact hy _ (by simp)
        · injection hb2 with e
          subst e
          exact ho _ rfl
  exact this zs none (fun b hb => by cases hb) (fun y hy => hy)
theorem vlV_mem {zs : List Int} {ys : List (TV zs)} {b : Int} (h : b ∈ vlV zs ys) : b ∈ zs := by
  unfold vlV at h
  obtain ⟨x, _, rfl⟩ := List.mem_map.1 h
  exact List.getElem_mem _
theorem ktV_below {n0 Bm : Nat} {W v : World} (h : Below W.heap.size W v) (h0 : n0 ≤ W.heap.size) (h1 : Bm < W.heap.size) : KtV n0 Bm W v := ⟨h.mono h0, h.block _ h1⟩
theorem keepsV {B : Nat} {W W' : World} (h : Below W.heap.size W W') : KeepsFrom B W W' :=
  ⟨h.size, fun k _ _ hk _ => (h.block k (Array.getElem?_eq_some_iff.1 hk).1).trans hk⟩
theorem cel1 {W : World} {b t : Nat} {x : Value} (h : W.heap[b]? = some (.cells #[x] t (0, 0))) : W.cell? ⟨b, 0, none⟩ = some x ∧ W.frozen? ⟨b, 0, none⟩ = false ∧ b < W.heap.size := ⟨by simp [World.cell?, h], by simp [World.frozen?, h], (Array.getElem?_eq_some_iff.1 h).1⟩
theorem setObj {W : World} {b t : Nat} {x : Value} (h : W.heap[b]? = some (.cells #[x] t (0, 0))) (y : Value) : (W.setCell ⟨b, 0, none⟩ y).heap[b]? = some (.cells #[y] t (0, 0)) := by
  simp [World.setCell, Array.getElem?_modify, h]
/-- What stands behind a round that has put a new best one. -/
theorem putV {w V0 W v : World} {Bm n : Nat} {F : Obj} {a c x d : Value} {t1 t2 : Nat} (hn : n = w.heap.size) (hV : V0.heap.size = n + 3) (hBm : Bm < n) (hB : Below w.heap.size w W) (hw : Below W.heap.size W v) (hs : n + 3 ≤ W.heap.size)
    (e0 : W.heap[n]? = some F) (e1 : W.heap[n + 1]? = some (.cells #[a] t1 (0, 0))) (e2 : W.heap[n + 1 + 1]? = some (.cells #[c] t2 (0, 0))) :
    KeepsFrom V0.heap.size W ((v.setCell ⟨n + 1, 0, none⟩ x).setCell ⟨n + 1 + 1, 0, none⟩ d) ∧ KtV w.heap.size Bm W ((v.setCell ⟨n + 1, 0, none⟩ x).setCell ⟨n + 1 + 1, 0, none⟩ d) ∧
    (((v.setCell ⟨n + 1, 0, none⟩ x).setCell ⟨n + 1 + 1, 0, none⟩ d).heap[n]? = some F ∧ ((v.setCell ⟨n + 1, 0, none⟩ x).setCell ⟨n + 1 + 1, 0, none⟩ d).heap[n + 1]? = some (.cells #[x] t1 (0, 0)) ∧ ((v.setCell ⟨n + 1, 0, none⟩ x).setCell ⟨n + 1 + 1, 0, none⟩ d).heap[n + 1 + 1]? = some (.cells #[d] t2 (0, 0)) ∧ n + 3 ≤ ((v.setCell ⟨n + 1, 0, none⟩ x).setCell ⟨n + 1 + 1, 0, none⟩ d).heap.size) ∧ Below w.heap.size w ((v.setCell ⟨n + 1, 0, none⟩ x).setCell ⟨n + 1 + 1, 0, none⟩ d) := by
  subst hn
  have g0 := (hw.block _ (by omega)).trans e0
  have g1 := (hw.block _ (by omega)).trans e1
  have g2 := (hw.block _ (by omega)).trans e2
  have q1 := setObj g1 x
  have q2 : (v.setCell ⟨w.heap.size + 1, 0, none⟩ x).heap[w.heap.size + 1 + 1]? = some (.cells #[c] t2 (0, 0)) := (Below.heap_setCell _ _ _ _ (by simp only; omega)).trans g2
  have b1 : Below w.heap.size w (v.setCell ⟨w.heap.size + 1, 0, none⟩ x) := (hB.trans (hw.mono hB.size)).setCell (p := ⟨w.heap.size + 1, 0, none⟩) (by simp only; omega) _
  have c1 : Below w.heap.size W (v.setCell ⟨w.heap.size + 1, 0, none⟩ x) := (hw.mono (by omega)).setCell (p := ⟨w.heap.size + 1, 0, none⟩) (by simp only; omega) _
  refine ⟨((keepsV hw).trans ((KeepsOthers.setCell _ _ _).from _)).trans ((KeepsOthers.setCell _ _ _).from _), ⟨c1.setCell (p := ⟨w.heap.size + 1 + 1, 0, none⟩) (by simp only; omega) _, ?_⟩, ⟨?_, ?_, setObj q2 d, ?_⟩, b1.setCell (p := ⟨w.heap.size + 1 + 1, 0, none⟩) (by simp only; omega) _⟩
  · rw [Below.heap_setCell _ _ _ _ (by simp only; omega), Below.heap_setCell _ _ _ _ (by simp only; omega)]
    exact hw.block _ (by omega)
  · rw [Below.heap_setCell _ _ _ _ (by simp only; omega), Below.heap_setCell _ _ _ _ (by simp only; omega)]
    exact g0
  · rw [Below.heap_setCell _ _ _ _ (by simp only; omega)]
    exact q1
  · have := hw.size
    simp [World.setCell]
    omega
set_option maxRecDepth 100000 in
set_option maxHeartbeats 8000000 in
theorem least_any {w : World} {v : Value} {zs : List Int} (h : Irow w v zs) (hl : zs.length ≤ 1048576) (Bm : Nat) (hBl : Bm < w.heap.size) (hBm : w.cell? ⟨Bm, 0, none⟩ = some v) (F : Nat) (caps : Array Value) (key : Int → Int)
    (hcf : ∀ (xs : Array Value) (w' : World), (callFunc F xs).run Try.prog w' = .ok (.enter F xs) w')
    (hf : ∀ x, x ∈ zs → ∀ (w' : World), Below w.heap.size w w' → Calls Try.prog F (#[.int .i64 x] ++ caps) w' fun r w'' => r = .returned (.int .i64 (key x)) ∧ Below w'.heap.size w' w'') :
    Calls Try.prog 65 #[.func (.func 79) #[] #[.pointer (some ⟨Bm, 0, none⟩)], .func (.func F) #[] caps] w fun r w' => r = .returned (.tuple #[.int .i64 ((lsF key zs).getD 0), .bool (lsF key zs).isSome]) ∧ Below w.heap.size w w' := by
  refine (callsIn_wide (n := 5)).1 ?_
  refine callsIn_of_wp_marks Try.func65 rfl trivial ?_ rfl
  simp only [Try.ntmps65, List.size_toArray, List.length_cons, List.length_nil, Nat.reduceAdd, Nat.reduceSub, Array.replicate_succ, Array.replicate_zero, List.push_toArray, List.append_toArray, List.nil_append, List.cons_append]
  gi_wp2
  obtain ⟨V0, hV0⟩ : ∃ V, V = (((w.alloc (.cells #[.func (.func F) #[] caps] 110)).alloc (.cells #[.int .i64 0] 3)).alloc (.cells #[.bool false] 4)) := ⟨_, rfl⟩
  have hB0 : Below w.heap.size w V0 := by rw [hV0]; exact (((Below.refl _ w).alloc (Nat.le_refl _) _).alloc (by simp) _).alloc (by simp; omega) _
  have hsz : V0.heap.size = w.heap.size + 3 := by rw [hV0]; simp
  have b0 : V0.heap[w.heap.size]? = some (.cells #[.func (.func F) #[] caps] 110 (0, 0)) := by
    rw [hV0, Below.heap_alloc _ _ _ (by simp; omega), Below.heap_alloc _ _ _ (by simp)]; exact heap_new _ _
  have b1 : V0.heap[w.heap.size + 1]? = some (.cells #[.int .i64 ((lsF key (vlV zs [])).getD 0)] 3 (0, 0)) := by
    rw [show lsF key (vlV zs []) = none from rfl, hV0, Below.heap_alloc _ _ _ (by simp)]; simpa using heap_new (w.alloc (.cells #[.func (.func F) #[] caps] 110)) (.cells #[.int .i64 0] 3)
  have b2 : V0.heap[w.heap.size + 1 + 1]? = some (.cells #[.bool (lsF key (vlV zs [])).isSome] 4 (0, 0)) := by
    rw [show lsF key (vlV zs []) = none from rfl, hV0]; simpa using heap_new ((w.alloc (.cells #[.func (.func F) #[] caps] 110)).alloc (.cells #[.int .i64 0] 3)) (.cells #[.bool false] 4)
  rw [← hV0]
  clear hV0
  have hBv : V0.cell? ⟨Bm, 0, none⟩ = some v := (hB0.cell (p := ⟨Bm, 0, none⟩) hBl).trans hBm
  refine wpIn_rangeFunc_ownG rfl (by omega) (gf := 79) (lb := #[.pointer (some ⟨Bm, 0, none⟩)]) rfl trivial (enters_of Try.func79 (by kernel_rfl) rfl)
    (values_stops 4 (by omega) Bm v zs w V0 h hB0 (by omega) hBv hl) (fun h k => KtV.trans h k)
    (fun W l o o' h1 h2 h3 h4 => ⟨belowK_b (w := V0) (by omega) W l o o' h1 h2 h3 h4, (grownBy_putObj' W l o').block _ (by have := (Array.getElem?_eq_some_iff.1 h2).1; omega) (by simp; omega)⟩) (Below.refl _ _) (fun _ => rfl)
    (fun pre W => (W.heap[w.heap.size]? = some (.cells #[.func (.func F) #[] caps] 110 (0, 0)) ∧ W.heap[w.heap.size + 1]? = some (.cells #[.int .i64 ((lsF key (vlV zs pre)).getD 0)] 3 (0, 0)) ∧ W.heap[w.heap.size + 1 + 1]? = some (.cells #[.bool (lsF key (vlV zs pre)).isSome] 4 (0, 0)) ∧ w.heap.size + 3 ≤ W.heap.size) ∧ Below w.heap.size w W)
    (fun _ _ W => False ∧ Below w.heap.size w W)
    (OwnFrom.and (Own.from (fun s A B row hs hg hr => ⟨(grownBy_keeps_cells hg hr hs.1 rfl).trans hs.1, (grownBy_keeps_cells hg hr hs.2.1 rfl).trans hs.2.1, (grownBy_keeps_cells hg hr hs.2.2.1 rfl).trans hs.2.2.1, Nat.le_trans hs.2.2.2 hg.size⟩) _) (ownFrom_below (Nat.le_refl _) (by omega)))
    (fun c => OwnFrom.and (Own.from (fun s A B row hs hg hr => hs) _) (ownFrom_below (Nat.le_refl _) (by omega)))
    ⟨⟨b0, b1, b2, by omega⟩, hB0⟩
    (fun x => { tmps := #[.func (.func 79) #[] #[.pointer (some ⟨Bm, 0, none⟩)], .func (.func F) #[] caps, undef, .pointer (some ⟨w.heap.size, 0, none⟩), .pointer (some ⟨w.heap.size + 1, 0, none⟩), .pointer (some ⟨w.heap.size + 1 + 1, 0, none⟩), .int .i64 (zs[x.1]'x.2), .func (.func 79) #[] #[.pointer (some ⟨Bm, 0, none⟩)], .int .i64 (zs[x.1]'x.2), undef, undef, undef, undef, undef, undef, undef, undef, undef, undef, undef, undef, undef, undef], defers := [] }) ?assign ?body ?done ?stop
  case assign =>
    intro l x W K hK
    gi_wp2
    exact hK
  case body =>
    rintro l pre x W ⟨⟨e0, e1, e2, hszW⟩, hB⟩ hpl
    obtain ⟨z, hz⟩ : ∃ z, zs[x.1]'x.2 = z := ⟨_, rfl⟩
    have hzm : z ∈ zs := hz ▸ List.getElem_mem _
    have HSN : Hid (lsF key (vlV zs (pre ++ [x])) = lsS key (lsF key (vlV zs pre)) z) := (show _ = _ by rw [vlV_snoc, lsF_snoc, hz])
    have HMB : Hid (∀ b, lsF key (vlV zs pre) = some b → b ∈ zs) := fun b hb => vlV_mem (lsF_mem key _ b hb)
    have HE0 : Hid _ := e0
    have HB : Hid (Below w.heap.size w W) := hB
    have HF : Hid _ := hf
    rw [hz]
    cases ho : lsF key (vlV zs pre) with
    | none =>
      rw [ho] at e1 e2 HSN
      simp only [Option.getD_none, Option.isSome_none] at e1 e2
      obtain ⟨t0, f0, l0⟩ := cel1 e0
      obtain ⟨t1, f1, l1⟩ := cel1 e1
      obtain ⟨t2, f2, l2⟩ := cel1 e2
      have HE1 : Hid _ := e1
      have HE2 : Hid _ := e2
      have HPV : Hid _ := putV (x := .int .i64 z) (d := .bool true) (v := W) rfl hsz hBl hB (Below.refl _ _) hszW e0 e1 e2
      have HSO : Hid (lsF key (vlV zs (pre ++ [x])) = some z) := (show _ = _ by rw [HSN.out]; rfl)
      clear e0 e1 e2 hB hf ho HMB
      gi_wp2
      gi_region_with (refine ⟨by rintro f ⟨⟩, ?_⟩)
      all_goals gi_wp2
      all_goals exact ⟨⟨HPV.out.1.size, HPV.out.1.same⟩, ⟨HPV.out.2.1.1.drew, HPV.out.2.1.2⟩, by simp only [HSO.out]; exact ⟨HPV.out.2.2.1, HPV.out.2.2.2.drew⟩⟩
    | some b =>
      have hbm := HMB.out b ho
      rw [ho] at e1 e2 HSN
      simp only [Option.getD_some, Option.isSome_some] at e1 e2
      obtain ⟨t0, f0, l0⟩ := cel1 e0
      obtain ⟨t1, f1, l1⟩ := cel1 e1
      obtain ⟨t2, f2, l2⟩ := cel1 e2
      have HE1 : Hid _ := e1
      have HE2 : Hid _ := e2
      have HPV : Hid (∀ v, Below W.heap.size W v → _) := fun v hv => putV (x := .int .i64 z) (d := .bool true) (v := v) rfl hsz hBl hB hv hszW e0 e1 e2
      have HCX : Hid (∀ v, Below W.heap.size W v → Calls Try.prog F (#[.int .i64 z] ++ caps) v fun r w'' => r = .returned (.int .i64 (key z)) ∧ Below v.heap.size v w'') := fun v hv => hf z hzm v (hB.trans (hv.mono hB.size))
      have HCB : Hid (∀ v, Below W.heap.size W v → Calls Try.prog F (#[.int .i64 b] ++ caps) v fun r w'' => r = .returned (.int .i64 (key b)) ∧ Below v.heap.size v w'') := fun v hv => hf b hbm v (hB.trans (hv.mono hB.size))
      have HCE : Hid (∀ v, Below W.heap.size W v → v.cell? ⟨w.heap.size, 0, none⟩ = some (.func (.func F) #[] caps) ∧ v.cell? ⟨w.heap.size + 1, 0, none⟩ = some (.int .i64 b) ∧ v.frozen? ⟨w.heap.size + 1, 0, none⟩ = false ∧ v.cell? ⟨w.heap.size + 1 + 1, 0, none⟩ = some (.bool true) ∧ v.frozen? ⟨w.heap.size + 1 + 1, 0, none⟩ = false ∧ w.heap.size + 3 ≤ v.heap.size) := fun v hv =>
        have g0 := cel1 ((hv.block _ (by omega)).trans e0)
        have g1 := cel1 ((hv.block _ (by omega)).trans e1)
        have g2 := cel1 ((hv.block _ (by omega)).trans e2)
        ⟨g0.1, g1.1, g1.2.1, g2.1, g2.2.1, Nat.le_trans hszW hv.size⟩
      have HSO : Hid (lsF key (vlV zs (pre ++ [x])) = if key z < key b then some z else some b) := (show _ = _ by rw [HSN.out]; rfl)
      have HKP : Hid (∀ v, Below W.heap.size W v → KeepsFrom V0.heap.size W v ∧ KtV w.heap.size Bm W v ∧ (v.heap[w.heap.size]? = some (.cells #[.func (.func F) #[] caps] 110 (0, 0)) ∧ v.heap[w.heap.size + 1]? = some (.cells #[.int .i64 b] 3 (0, 0)) ∧ v.heap[w.heap.size + 1 + 1]? = some (.cells #[.bool true] 4 (0, 0)) ∧ w.heap.size + 3 ≤ v.heap.size) ∧ Below w.heap.size w v) := fun v hv => ⟨keepsV hv, ktV_below hv (by omega) (by omega), ⟨(hv.block _ (by omega)).trans e0, (hv.block _ (by omega)).trans e1, (hv.block _ (by omega)).trans e2, Nat.le_trans hszW hv.size⟩, hB.trans (hv.mono hB.size)⟩
      generalize key z = kz at *
      generalize key b = kb at *
      clear e0 e1 e2 hB hf ho HMB HE0 HE1 HE2 HF HSN
      gi_wp2
      gi_region_with (first
          | (refine ⟨trivial, ?_⟩; refine (CallsIn.inRound l (callsIn_wide.2 (HCX.out W.drew (Below.refl _ _).drew))).mono ?_; rintro e v1 ⟨rfl, hu1⟩; have hw1 : Below W.heap.size W v1 := (Below.refl _ _).drew.trans (hu1.mono (Nat.le_refl _)); obtain ⟨x0, x1, x2, x3, x4, x5⟩ := HCE.out v1 hw1; have HW1 : Hid (Below W.heap.size W v1) := hw1; have y0 : w.heap.size < v1.heap.size := by omega
             have y1 : w.heap.size + 1 < v1.heap.size := by omega
             have y2 : w.heap.size + 1 + 1 < v1.heap.size := by omega
             clear hu1 hw1)
          | (refine ⟨trivial, ?_⟩; refine (CallsIn.inRound l (callsIn_wide.2 (HCB.out _ HW1.out))).mono ?_; rintro e v2 ⟨rfl, hu2⟩; have HW2 : Hid (Below W.heap.size W v2) := HW1.out.trans (hu2.mono HW1.out.size); obtain ⟨x0, x1, x2, x3, x4, x5⟩ := HCE.out v2 HW2.out; have y0 : w.heap.size < v2.heap.size := by omega
             have y1 : w.heap.size + 1 < v2.heap.size := by omega
             have y2 : w.heap.size + 1 + 1 < v2.heap.size := by omega
             clear hu2))
      all_goals (cases hd : decide (kz < kb))
      all_goals gi_wp2
      all_goals first
        | (have hd2 : ¬ kz < kb := of_decide_eq_false hd; exact ⟨⟨(HKP.out _ HW2.out).1.size, (HKP.out _ HW2.out).1.same⟩, (HKP.out _ HW2.out).2.1, by simp only [HSO.out, if_neg hd2]; exact (HKP.out _ HW2.out).2.2⟩)
        | (have hd2 : kz < kb := of_decide_eq_true hd; exact ⟨⟨(HPV.out _ HW2.out).1.size, (HPV.out _ HW2.out).1.same⟩, (HPV.out _ HW2.out).2.1, by simp only [HSO.out, if_pos hd2]; exact (HPV.out _ HW2.out).2.2⟩)
  case done =>
    rintro D ys W hD hup ⟨⟨e0, e1, e2, hszW⟩, hB⟩ hK
    rw [vlV_all hup] at e1 e2
    obtain ⟨t1, f1, l1⟩ := cel1 e1
    obtain ⟨t2, f2, l2⟩ := cel1 e2
    gi_wp2
    gi_region
    all_goals gi_wp2
    have HPV : Hid _ := putV (x := .int .i64 ((lsF key zs).getD 0)) (d := .bool (lsF key zs).isSome) (v := W) rfl hsz hBl hB (Below.refl _ _) hszW e0 e1 e2
    have hKD : (((W.setCell ⟨w.heap.size + 1, 0, none⟩ (.int .i64 ((lsF key zs).getD 0))).setCell ⟨w.heap.size + 1 + 1, 0, none⟩ (.bool (lsF key zs).isSome)).drew).heap[D]? = some (.deferred (some [])) := (Below.heap_setCell _ _ _ _ (by simp only; omega)).trans ((Below.heap_setCell _ _ _ _ (by simp only; omega)).trans hK)
    have g1 : (((W.setCell ⟨w.heap.size + 1, 0, none⟩ (.int .i64 ((lsF key zs).getD 0))).setCell ⟨w.heap.size + 1 + 1, 0, none⟩ (.bool (lsF key zs).isSome)).drew).cell? ⟨w.heap.size + 1, 0, none⟩ = some (.int .i64 ((lsF key zs).getD 0)) := (cel1 HPV.out.2.2.1.2.1).1
    have g2 : (((W.setCell ⟨w.heap.size + 1, 0, none⟩ (.int .i64 ((lsF key zs).getD 0))).setCell ⟨w.heap.size + 1 + 1, 0, none⟩ (.bool (lsF key zs).isSome)).drew).cell? ⟨w.heap.size + 1 + 1, 0, none⟩ = some (.bool (lsF key zs).isSome) := (cel1 HPV.out.2.2.1.2.2.1).1
    have gs : w.heap.size + 3 ≤ (((W.setCell ⟨w.heap.size + 1, 0, none⟩ (.int .i64 ((lsF key zs).getD 0))).setCell ⟨w.heap.size + 1 + 1, 0, none⟩ (.bool (lsF key zs).isSome)).drew).heap.size := HPV.out.2.2.1.2.2.2
    have hBF : Below w.heap.size w (((W.setCell ⟨w.heap.size + 1, 0, none⟩ (.int .i64 ((lsF key zs).getD 0))).setCell ⟨w.heap.size + 1 + 1, 0, none⟩ (.bool (lsF key zs).isSome)).drew) := HPV.out.2.2.2.drew
    generalize (((W.setCell ⟨w.heap.size + 1, 0, none⟩ (.int .i64 ((lsF key zs).getD 0))).setCell ⟨w.heap.size + 1 + 1, 0, none⟩ (.bool (lsF key zs).isSome)).drew) = W9 at *
    refine ⟨by simp, .inl ⟨_, _, rfl, run_takeDeferred hKD, ?_⟩⟩
    have g3 : (W9.putObj D (.deferred none)).cell? ⟨w.heap.size + 1, 0, none⟩ = some (.int .i64 ((lsF key zs).getD 0)) := (World.cell?_of_block (show (W9.putObj D (.deferred none)).heap[w.heap.size + 1]? = W9.heap[w.heap.size + 1]? from (grownBy_putObj' W9 D (.deferred none)).block _ (by omega) (by simp; omega))).trans g1
    have g4 : (W9.putObj D (.deferred none)).cell? ⟨w.heap.size + 1 + 1, 0, none⟩ = some (.bool (lsF key zs).isSome) := (World.cell?_of_block (show (W9.putObj D (.deferred none)).heap[w.heap.size + 1 + 1]? = W9.heap[w.heap.size + 1 + 1]? from (grownBy_putObj' W9 D (.deferred none)).block _ (by omega) (by simp; omega))).trans g2
    refine ⟨.tuple #[.int .i64 ((lsF key zs).getD 0), .bool (lsF key zs).isSome], ?_, rfl, hBF.trans (belowK_b (w := w) (Nat.le_refl _) W9 D _ _ (by omega) hKD rfl rfl)⟩
    simp [results, Try.f65, go_sem, g3, g4]
  case stop =>
    rintro D c pre W hD _ ⟨hf, _⟩ hK
    exact hf.elim
end Go.Proofs.Ytkmbhhkgfofcoaa
