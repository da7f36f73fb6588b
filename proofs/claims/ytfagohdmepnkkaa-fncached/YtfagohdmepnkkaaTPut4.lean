import Derived.Test.YtfagohdmepnkkaaTPut3
import Derived.OrdersHeld
import Derived.Deep.DeepCutAuto
namespace Go.Proofs.Ytfagohdmepnkkaa
open Go.ChangeShapes Go.WideShapes Go.ChangeAt Go.RowKit

theorem held_step {P : Program} {md : Region.Mode} {ops : Array Oper} {Q : Exit → Act → World → Prop} {S : World → Prop} {fuel : Nat} {listed : Array Bool} {a : Act} {w : World} {i : Nat} {o : Oper} (ho : ops[i]? = some o)
    (hw : Region.wanted o (yielded ops a.tmps) = true) (h : ∀ K : Act → World → Prop, (∀ a' w', S w' → wpAnyH P md ops Q S fuel (listed.setIfInBounds i true) a' w' → K a' w') → o.wp P a w K Q) :
    wpOp P ops Q i (fun a' w' => S w' ∧ wpAnyH P md ops Q S fuel (listed.setIfInBounds i true) a' w') a w := by
  unfold wpOp
  rw [ho]
  simp only [hw, if_true]
  exact Or.inl (h _ fun a' w' h1 h2 => ⟨h1, h2⟩)
theorem all_two {p : Nat → Prop} {i j : Nat} (h1 : p i) (h2 : p j) : ∀ k ∈ [i, j], p k := by
  intro k hk
  rcases List.mem_cons.1 hk with rfl | hk
  · exact h1
  · rw [List.mem_singleton.1 hk]; exact h2
theorem all_one {p : Nat → Prop} {i : Nat} (h1 : p i) : ∀ k ∈ [i], p k := by
  intro k hk
  rw [List.mem_singleton.1 hk]; exact h1
/-- An append, by what it is known to come to. -/
theorem wp_append_ex {P : Program} (w : World) {o : Oper} {a : Act} {K : Act → World → Prop} {Q : Exit → Act → World → Prop} (s x : Operand) (t : TypeId)
    (ho : o.op = .call { callee := .builtin .append, args := #[s, x], argTypes := #[t, t] }) (v v2 : Value) (hs : a.eval s = v) (hx : a.eval x = v2) {R : Value → World → Prop}
    (hr : ∃ v' w', (Builtin.append_ #[t, t] o.type #[v, v2]).run P w = .ok v' w' ∧ R v' w') (h : ∀ v' w', R v' w' → K (a.put o.dst v') w') : o.wp P a w K Q := by
  obtain ⟨v', w', hr, hR⟩ := hr
  unfold Oper.wp execOp
  simp only [ho, resolve, invoke, builtin, Sem.run_bind, Sem.run_pure, Result.andThen_ok, List.map_toArray, List.map_cons, List.map_nil, hs, hx, hr]
  exact h v' w' hR
/-- Ahead of the store into the new box. -/
structure PQ (w u : World) (b : Nat) (v : Value) (zs : List TE) (v0 : Value) (nx0 : Int) (e : TE) : Prop where
  base : PX0 w u v0 nx0 e
  lb : w.heap.size + 1 + 1 < b
  box : u.heap[b]? = some (.cells #[.slice none 0 0, .int .i64 0] 61 (0, 0))
  row : u.ownsRow (w.heap.size + 3) 66 5 v zs.length (teR zs)
  ne : v.ownBlock ≠ some b
theorem PQ.put {w u : World} {b : Nat} {v : Value} {zs : List TE} {v0 : Value} {nx0 : Int} {e : TE} (h : PQ w u b v zs v0 nx0 e) (nx : Int) : PX w ((u.setCell ⟨b, 0, none⟩ v).setCell ⟨b, 1, none⟩ (.int .i64 nx)) b v nx zs v0 nx0 e := by
  have hl := h.lb
  refine ⟨⟨(h.base.bel.setCell (by simp only; omega) _).setCell (by simp only; omega) _, ?_, ?_, ?_⟩, h.lb, putBoxT h.box _ _, own_set (own_set h.row h.ne) h.ne, h.ne⟩
  · exact (Below.heap_setCell _ _ _ _ (by simp only; omega)).trans ((Below.heap_setCell _ _ _ _ (by simp only; omega)).trans h.base.b0)
  · exact (Below.heap_setCell _ _ _ _ (by simp only; omega)).trans ((Below.heap_setCell _ _ _ _ (by simp only; omega)).trans h.base.b1)
  · exact (Below.heap_setCell _ _ _ _ (by simp only; omega)).trans ((Below.heap_setCell _ _ _ _ (by simp only; omega)).trans h.base.b2)
theorem te_read {w : World} {B g cap : Nat} {zs : List TE} (h : w.ownsRow B 66 5 (.slice (some ⟨g, 0, none⟩) zs.length cap) zs.length (teR zs)) (k : Nat) (hk : k < zs.length) : w.cell? ⟨g, k * 5, none⟩ = some (.int .i64 zs[k].asid) ∧ w.cell? ⟨g, k * 5 + 1, none⟩ = some (.int .i64 zs[k].page) ∧ w.cell? ⟨g, k * 5 + 2, none⟩ = some (.int .i64 zs[k].frame) ∧ w.cell? ⟨g, k * 5 + 3, none⟩ = some (.int .i64 zs[k].flags) ∧ w.cell? ⟨g, k * 5 + 4, none⟩ = some (.bool zs[k].large) := by
  rcases TErow.of h with ⟨e, _⟩ | ⟨g2, o, cap2, hv, _, _, hc⟩
  · rw [e] at hk
    simp at hk
  · injection hv with e1
    injection e1 with e2
    obtain ⟨rfl, rfl⟩ : g = g2 ∧ 0 = o := ⟨congrArg Addr.block e2, congrArg Addr.off e2⟩
    have h3 := hc k hk
    simp only [Nat.zero_add] at h3
    exact h3
set_option maxRecDepth 100000 in
set_option maxHeartbeats 4000000 in
theorem specPut_good {w : World} {B : Nat} {ao : Option Addr} {cap : Nat} {zs : List TE} (h : w.ownsRow B 66 5 (.slice ao zs.length cap) zs.length (teR zs)) (nx : Int) (e : TE) (hl : zs.length ≤ 16) (hc : tlbC zs nx = 0) (x0 : 0 ≤ nx) (x1 : nx ≤ 15) :
    Calls Try.prog 125 #[tlA (.slice ao zs.length cap) nx, teA e] w fun r w' => ∃ ao2 cap2, r = .returned (tlA (.slice ao2 (putL zs nx e).length cap2) (putN zs nx e)) ∧ w'.ownsRow w.heap.size 66 5 (.slice ao2 (putL zs nx e).length cap2) (putL zs nx e).length (teR (putL zs nx e)) ∧ Below w.heap.size w w' := by
  have HX0 : Hid (PX0 w (((w.alloc (.cells #[.slice ao zs.length cap, .int .i64 nx] 61)).alloc (.cells #[.int .i64 e.asid, .int .i64 e.page, .int .i64 e.frame, .int .i64 e.flags, .bool e.large] 66)).alloc (.cells #[.slice none 0 0, .int .i64 0] 61)) (.slice ao zs.length cap) nx e) := PX0.new w ao zs.length cap nx e
  have HRW : Hid (w.ownsRow B 66 5 (.slice ao zs.length cap) zs.length (teR zs)) := h
  have HF := specFaultT_any ((TErow.of h).below (HX0.out.bel)) nx (by omega)
  rw [hc] at HF
  have HFH : Hid _ := HF
  clear h HF hc
  unfold tlA teA at *
  go_enter Try.func125, Try.ntmps125
  go_upto_region 3 with (go_at_call 32; refine Calls.mono HFH.out ?_; rintro r u1 ⟨rfl, hu1⟩; have HX : Hid (PX0 w u1 (.slice ao zs.length cap) nx e) := HX0.out.step hu1; have yl := HX.out.lt; clear hu1 HFH HX0)
  go_cut [5] (fun s5 wc => ∃ (b : Nat) (ao2 : Option Addr) (cap2 : Nat), s5 = .pointer (some ⟨b, 0, none⟩) ∧ PX w wc b (.slice ao2 zs.length cap2) nx zs (.slice ao zs.length cap) nx e)
  case first =>
    have HSB : Hid (∀ u : World, Below u1.heap.size u1 u → u.cell? ⟨w.heap.size, 0, none⟩ = some (.slice ao zs.length cap) ∧ u.cell? ⟨w.heap.size, 1, none⟩ = some (.int .i64 nx)) := fun u hu => by
      obtain ⟨c0, c1⟩ := HX.out.b0.cel
      exact ⟨(World.cell?_of_block (a := ⟨w.heap.size, 0, none⟩) (hu.block _ (by simp only; omega))).trans c0, (World.cell?_of_block (a := ⟨w.heap.size, 1, none⟩) (hu.block _ (by simp only; omega))).trans c1⟩
    have HAP : Hid (∀ (u : World) (v : Value), u.ownsRow u1.heap.size 66 5 v 0 [] → Below u1.heap.size u1 u → ∃ v' u', (Builtin.append_ #[59, 59] 59 #[v, .slice ao zs.length cap]).run Try.prog u = .ok v' u' ∧ (u'.ownsRow u1.heap.size 66 5 v' zs.length (teR zs) ∧ u.grownBy u' v.ownBlock ∧ (v'.ownBlock = v.ownBlock ∨ v'.ownBlock = some u.heap.size))) := fun u v hv hu => append_copy _ hv (te_below HRW.out (HX.out.bel.trans (hu.mono HX.out.bel.size))) hl hu.size
    have hzT : ∀ u : World, Sem.run Try.prog (zeroValue 61) u = .ok (.agg #[.slice none 0 0, .int .i64 0]) u := fun u => by kernel_rfl
    obtain ⟨c0, c1⟩ := HX.out.b0.cel
    have HS : Hid (u1.drew.cell? ⟨w.heap.size, 0, none⟩ = some (.slice ao zs.length cap) ∧ u1.drew.cell? ⟨w.heap.size, 1, none⟩ = some (.int .i64 nx)) := ⟨c0, c1⟩
    clear c0 c1
    refine wp_region_held (S := fun w' => w'.cell? ⟨w.heap.size, 0, none⟩ = some (.slice ao zs.length cap) ∧ w'.cell? ⟨w.heap.size, 1, none⟩ = some (.int .i64 nx)) (by kernel_rfl) ?_
    change wpAnyH _ _ _ _ _ _ _ _ (World.drew _)
    refine wpAnyH_take (i := 1) (v := .pointer (some ⟨w.heap.size, 0, none⟩)) rfl (by kernel_rfl) (by kernel_rfl) (by kernel_rfl) (fun _ _ _ h => h) (Or.inl ⟨by rfl, fun w9 _ => ?_⟩) HS.out ?_
    · go_simp
    refine wpAnyH_take (i := 4) (v := .pointer (some ⟨w.heap.size, 1, none⟩)) rfl (by kernel_rfl) (by kernel_rfl) (by kernel_rfl) (fun _ _ _ h => h) (Or.inl ⟨by rfl, fun w9 _ => ?_⟩) HS.out ?_
    · go_simp
    refine wpAnyH_take (i := 2) (v := .slice ao zs.length cap) rfl (by kernel_rfl) (by kernel_rfl) (by kernel_rfl) (fun _ _ _ h => h) (Or.inl ⟨by rfl, fun w9 h9 => ?_⟩) HS.out ?_
    · have h91 := h9.1
      go_simp
    refine wpAnyH_take (i := 5) (v := .int .i64 nx) rfl (by kernel_rfl) (by kernel_rfl) (by kernel_rfl) (fun _ _ _ h => h) (Or.inl ⟨by rfl, fun w9 h9 => ?_⟩) HS.out ?_
    · have h92 := h9.2
      go_simp
    refine wpAnyH_all (rs := [0, 7]) (by kernel_rfl) (by simp) (all_two (held_step rfl (by rfl) fun K hK => ?_) (held_step rfl (by rfl) fun K hK => ?_))
    · have FB1 : Hid (Below u1.heap.size u1 (u1.alloc (.cells #[] 66)).drew) := ((Below.refl _ _).alloc (Nat.le_refl _) _).drew
      have FO1 : Hid ((u1.alloc (.cells #[] 66)).drew.ownsRow u1.heap.size 66 5 (.slice (some ⟨u1.heap.size, 0, none⟩) 0 0) 0 []) := (World.ownsRow_lit _ #[] 0 (by simp) (by decide) rfl).drew
      go_simp
      refine hK _ _ (HSB.out _ FB1.out) ?_
      clear hK K
      generalize (u1.alloc (.cells #[] 66)).drew = W1 at *
      refine wpAnyH_all (rs := [3, 7]) (by kernel_rfl) (by simp) (all_two (held_step rfl (by rfl) fun K hK => ?_) (held_step rfl (by rfl) fun K hK => ?_))
      · have PL : Hid (u1.heap.size ≤ u1.heap.size) := Nat.le_refl _
        refine wp_append_ex _ _ _ 59 rfl _ _ rfl rfl (HAP.out W1 _ FO1.out FB1.out) ?_
        rintro v' W5 ⟨ho, hg, hd⟩
        obtain ⟨ao2, cap2, rfl⟩ := te_sl ho
        have SB : Hid (Below u1.heap.size u1 W5) := FB1.out.grown hg FB1.out.size (fun j hj => by cases hj; have := PL.out; omega)
        have HO : Hid (W5.ownsRow u1.heap.size 66 5 (.slice ao2 zs.length cap2) zs.length (teR zs)) := ho
        have HG : Hid (W1.grownBy W5 (some (u1.heap.size))) := hg
        have HD : Hid ((Value.slice ao2 zs.length cap2).ownBlock = some (u1.heap.size) ∨ (Value.slice ao2 zs.length cap2).ownBlock = some W1.heap.size) := hd
        clear ho hg hd
        refine hK _ _ (HSB.out _ SB.out) ?_
        clear hK K
        refine wpAnyH_take (i := 6) (v := .agg #[.slice ao2 zs.length cap2, .int .i64 nx]) rfl (by kernel_rfl) (by kernel_rfl) (by kernel_rfl) (fun _ _ _ h => h) (Or.inl ⟨by rfl, fun w9 _ => ?_⟩) (HSB.out _ SB.out) ?_
        · go_simp
        refine wpAnyH_all (rs := [7]) (by kernel_rfl) (by simp) (all_one (held_step rfl (by rfl) fun K hK => ?_))
        have FBL : Hid (Below u1.heap.size u1 (W5.alloc (.cells #[.slice none 0 0, .int .i64 0] 61))) := SB.out.alloc SB.out.size _
        have BL : Hid (u1.heap.size ≤ W5.heap.size) := SB.out.size
        have HQ : Hid (PQ w (W5.alloc (.cells #[.slice none 0 0, .int .i64 0] 61)) W5.heap.size (.slice ao2 zs.length cap2) zs (.slice ao zs.length cap) nx e) := ⟨HX.out.step FBL.out, by have := BL.out; omega, heap_new _ _, te_weak (te_below HO.out ((Below.refl _ _).alloc (Nat.le_refl _) _)) (by omega), fun q => by have := (HO.out.lt _ q).2; omega⟩
        go_simp
        refine hK _ _ (HSB.out _ FBL.out) ?_
        clear hK K
        generalize W5.alloc (.cells #[.slice none 0 0, .int .i64 0] 61) = W6 at *
        obtain ⟨k0, k1⟩ := cel2 HQ.out.box
        have kf : ∀ x, W6.frozen? ⟨W5.heap.size, x, none⟩ = false := (fun x => by simp [World.frozen?, HQ.out.box])
        have HFB : Hid (Below u1.heap.size u1 ((W6.setCell ⟨W5.heap.size, 0, none⟩ (.slice ao2 zs.length cap2)).setCell ⟨W5.heap.size, 1, none⟩ (.int .i64 nx))) := (FBL.out.setCell (by simp only; exact BL.out) _).setCell (by simp only; exact BL.out) _
        refine wpAnyH_all (rs := [8]) (by kernel_rfl) (by simp) (all_one (held_step rfl (by rfl) fun K hK => ?_))
        go_simp
        refine hK _ _ (HSB.out _ HFB.out) ?_
        clear hK K
        refine wpAnyH_done (by kernel_rfl) ?_ _
        go_simp
        go_wp2
        go_meet
        case rel => exact ⟨_, ao2, cap2, rfl, HQ.out.put nx⟩
      · have FB2 : Hid (Below u1.heap.size u1 (W1.alloc (.cells #[.slice none 0 0, .int .i64 0] 61))) := FB1.out.alloc FB1.out.size _
        have FO2 : Hid ((W1.alloc (.cells #[.slice none 0 0, .int .i64 0] 61)).ownsRow u1.heap.size 66 5 (.slice (some ⟨u1.heap.size, 0, none⟩) 0 0) 0 []) := te_below FO1.out ((Below.refl _ _).alloc (Nat.le_refl _) _)
        have HN : Hid ((W1.alloc (.cells #[.slice none 0 0, .int .i64 0] 61)).heap[W1.heap.size]? = some (.cells #[.slice none 0 0, .int .i64 0] 61 (0, 0))) := heap_new _ _
        have BL : Hid (u1.heap.size ≤ W1.heap.size) := FB1.out.size
        have LT1 : Hid (u1.heap.size < W1.heap.size) := (FO1.out.lt u1.heap.size rfl).2
        have LT2 : Hid (W1.heap.size < (W1.alloc (.cells #[.slice none 0 0, .int .i64 0] 61)).heap.size) := (show W1.heap.size < (W1.alloc (.cells #[.slice none 0 0, .int .i64 0] 61)).heap.size by simp)
        have PL : Hid (u1.heap.size ≤ u1.heap.size) := Nat.le_refl _
        go_simp
        refine hK _ _ (HSB.out _ FB2.out) ?_
        clear hK K
        generalize W1.alloc (.cells #[.slice none 0 0, .int .i64 0] 61) = W2 at *
        refine wpAnyH_all (rs := [3]) (by kernel_rfl) (by simp) (all_one (held_step rfl (by rfl) fun K hK => ?_))
        refine wp_append_ex _ _ _ 59 rfl _ _ rfl rfl (HAP.out W2 _ FO2.out FB2.out) ?_
        rintro v' W5 ⟨ho, hg, hd⟩
        obtain ⟨ao2, cap2, rfl⟩ := te_sl ho
        have SB : Hid (Below u1.heap.size u1 W5) := FB2.out.grown hg FB2.out.size (fun j hj => by cases hj; have := PL.out; omega)
        have HO : Hid (W5.ownsRow u1.heap.size 66 5 (.slice ao2 zs.length cap2) zs.length (teR zs)) := ho
        have HG : Hid (W2.grownBy W5 (some (u1.heap.size))) := hg
        have HD : Hid ((Value.slice ao2 zs.length cap2).ownBlock = some (u1.heap.size) ∨ (Value.slice ao2 zs.length cap2).ownBlock = some W2.heap.size) := hd
        clear ho hg hd
        refine hK _ _ (HSB.out _ SB.out) ?_
        clear hK K
        refine wpAnyH_take (i := 6) (v := .agg #[.slice ao2 zs.length cap2, .int .i64 nx]) rfl (by kernel_rfl) (by kernel_rfl) (by kernel_rfl) (fun _ _ _ h => h) (Or.inl ⟨by rfl, fun w9 _ => ?_⟩) (HSB.out _ SB.out) ?_
        · go_simp
        have HQ : Hid (PQ w W5 (W1.heap.size) (.slice ao2 zs.length cap2) zs (.slice ao zs.length cap) nx e) := by
          have l1 := LT1.out
          have l2 := LT2.out
          have l3 := BL.out
          refine ⟨HX.out.step SB.out, by omega, (HG.out.block _ l2 (fun q => by have := Option.some.inj q; omega)).trans HN.out, te_weak HO.out (by omega), fun q => ?_⟩
          rcases HD.out with q2 | q2
          · have := Option.some.inj (q.symm.trans q2); omega
          · have := Option.some.inj (q.symm.trans q2); omega
        have FBL : Hid (Below u1.heap.size u1 W5) := SB.out
        obtain ⟨k0, k1⟩ := cel2 HQ.out.box
        have kf : ∀ x, W5.frozen? ⟨W1.heap.size, x, none⟩ = false := (fun x => by simp [World.frozen?, HQ.out.box])
        have HFB : Hid (Below u1.heap.size u1 ((W5.setCell ⟨W1.heap.size, 0, none⟩ (.slice ao2 zs.length cap2)).setCell ⟨W1.heap.size, 1, none⟩ (.int .i64 nx))) := (FBL.out.setCell (by simp only; exact BL.out) _).setCell (by simp only; exact BL.out) _
        refine wpAnyH_all (rs := [8]) (by kernel_rfl) (by simp) (all_one (held_step rfl (by rfl) fun K hK => ?_))
        go_simp
        refine hK _ _ (HSB.out _ HFB.out) ?_
        clear hK K
        refine wpAnyH_done (by kernel_rfl) ?_ _
        go_simp
        go_wp2
        go_meet
        case rel => exact ⟨_, ao2, cap2, rfl, HQ.out.put nx⟩
    · have FB1 : Hid (Below u1.heap.size u1 (u1.alloc (.cells #[.slice none 0 0, .int .i64 0] 61)).drew) := ((Below.refl _ _).alloc (Nat.le_refl _) _).drew
      have HN1 : Hid ((u1.alloc (.cells #[.slice none 0 0, .int .i64 0] 61)).drew.heap[u1.heap.size]? = some (.cells #[.slice none 0 0, .int .i64 0] 61 (0, 0))) := heap_new _ _
      have LT0 : Hid ((u1.alloc (.cells #[.slice none 0 0, .int .i64 0] 61)).drew.heap.size = u1.heap.size + 1) := (show (u1.alloc (.cells #[.slice none 0 0, .int .i64 0] 61)).drew.heap.size = u1.heap.size + 1 by simp)
      go_simp
      refine hK _ _ (HSB.out _ FB1.out) ?_
      clear hK K
      generalize (u1.alloc (.cells #[.slice none 0 0, .int .i64 0] 61)).drew = W1 at *
      refine wpAnyH_all (rs := [0]) (by kernel_rfl) (by simp) (all_one (held_step rfl (by rfl) fun K hK => ?_))
      have FB2 : Hid (Below u1.heap.size u1 (W1.alloc (.cells #[] 66))) := FB1.out.alloc FB1.out.size _
      have FO2 : Hid ((W1.alloc (.cells #[] 66)).ownsRow u1.heap.size 66 5 (.slice (some ⟨W1.heap.size, 0, none⟩) 0 0) 0 []) := te_weak (World.ownsRow_lit _ #[] 0 (by simp) (by decide) rfl) FB1.out.size
      have HN : Hid ((W1.alloc (.cells #[] 66)).heap[u1.heap.size]? = some (.cells #[.slice none 0 0, .int .i64 0] 61 (0, 0))) := (Below.heap_alloc _ _ _ (by have := LT0.out; omega)).trans HN1.out
      have BL : Hid (u1.heap.size ≤ u1.heap.size) := Nat.le_refl _
      have LT1 : Hid (u1.heap.size < W1.heap.size) := (show u1.heap.size < W1.heap.size by have := LT0.out; omega)
      have LT3 : Hid (W1.heap.size < (W1.alloc (.cells #[] 66)).heap.size) := (show W1.heap.size < (W1.alloc (.cells #[] 66)).heap.size by simp)
      have LT2 : Hid (u1.heap.size < (W1.alloc (.cells #[] 66)).heap.size) := Nat.lt_trans LT1.out LT3.out
      have PL : Hid (u1.heap.size ≤ W1.heap.size) := FB1.out.size
      go_simp
      refine hK _ _ (HSB.out _ FB2.out) ?_
      clear hK K
      generalize W1.alloc (.cells #[] 66) = W2 at *
      refine wpAnyH_all (rs := [3]) (by kernel_rfl) (by simp) (all_one (held_step rfl (by rfl) fun K hK => ?_))
      refine wp_append_ex _ _ _ 59 rfl _ _ rfl rfl (HAP.out W2 _ FO2.out FB2.out) ?_
      rintro v' W5 ⟨ho, hg, hd⟩
      obtain ⟨ao2, cap2, rfl⟩ := te_sl ho
      have SB : Hid (Below u1.heap.size u1 W5) := FB2.out.grown hg FB2.out.size (fun j hj => by cases hj; have := PL.out; omega)
      have HO : Hid (W5.ownsRow u1.heap.size 66 5 (.slice ao2 zs.length cap2) zs.length (teR zs)) := ho
      have HG : Hid (W2.grownBy W5 (some (W1.heap.size))) := hg
      have HD : Hid ((Value.slice ao2 zs.length cap2).ownBlock = some (W1.heap.size) ∨ (Value.slice ao2 zs.length cap2).ownBlock = some W2.heap.size) := hd
      clear ho hg hd
      refine hK _ _ (HSB.out _ SB.out) ?_
      clear hK K
      refine wpAnyH_take (i := 6) (v := .agg #[.slice ao2 zs.length cap2, .int .i64 nx]) rfl (by kernel_rfl) (by kernel_rfl) (by kernel_rfl) (fun _ _ _ h => h) (Or.inl ⟨by rfl, fun w9 _ => ?_⟩) (HSB.out _ SB.out) ?_
      · go_simp
      have HQ : Hid (PQ w W5 (u1.heap.size) (.slice ao2 zs.length cap2) zs (.slice ao zs.length cap) nx e) := by
        have l1 := LT1.out
        have l2 := LT2.out
        have l3 := BL.out
        refine ⟨HX.out.step SB.out, by omega, (HG.out.block _ l2 (fun q => by have := Option.some.inj q; omega)).trans HN.out, te_weak HO.out (by omega), fun q => ?_⟩
        rcases HD.out with q2 | q2
        · have := Option.some.inj (q.symm.trans q2); omega
        · have := Option.some.inj (q.symm.trans q2); omega
      have FBL : Hid (Below u1.heap.size u1 W5) := SB.out
      obtain ⟨k0, k1⟩ := cel2 HQ.out.box
      have kf : ∀ x, W5.frozen? ⟨u1.heap.size, x, none⟩ = false := (fun x => by simp [World.frozen?, HQ.out.box])
      have HFB : Hid (Below u1.heap.size u1 ((W5.setCell ⟨u1.heap.size, 0, none⟩ (.slice ao2 zs.length cap2)).setCell ⟨u1.heap.size, 1, none⟩ (.int .i64 nx))) := (FBL.out.setCell (by simp only; exact BL.out) _).setCell (by simp only; exact BL.out) _
      refine wpAnyH_all (rs := [8]) (by kernel_rfl) (by simp) (all_one (held_step rfl (by rfl) fun K hK => ?_))
      go_simp
      refine hK _ _ (HSB.out _ HFB.out) ?_
      clear hK K
      refine wpAnyH_done (by kernel_rfl) ?_ _
      go_simp
      go_wp2
      go_meet
      case rel => exact ⟨_, ao2, cap2, rfl, HQ.out.put nx⟩
  case rest =>
    obtain ⟨b, ao2, cap2, rfl, hP⟩ := hcut
    have HP : Hid (PX w wc b (.slice ao2 zs.length cap2) nx zs (.slice ao zs.length cap) nx e) := hP
    clear hP HX HRW yl
    obtain ⟨k0, k1⟩ := HP.out.box.cel
    obtain ⟨e0, e1, e2, e3, e4⟩ := cel5 HP.out.base.b1
    have bl := HP.out.lb
    by_cases hok : teOk e = false
    · go_wp2_with (go_at_call 81; refine Calls.mono (specEntry_any e wc) ?_; rintro r u4 ⟨rfl, hu4⟩; rw [hok]; have HP4 : Hid (PX w u4 b (.slice ao2 zs.length cap2) nx zs (.slice ao zs.length cap) nx e) := HP.out.step hu4; obtain ⟨m0, m1⟩ := HP4.out.box.cel; obtain ⟨q0, q1⟩ := cel2 HP4.out.base.b2; have qf : ∀ x, u4.frozen? ⟨w.heap.size + 1 + 1, x, none⟩ = false := (fun x => by simp [World.frozen?, HP4.out.base.b2]); clear hu4 HP k0 k1 e0 e1 e2 e3 e4)
      obtain ⟨f1, f2, f3⟩ := HP4.out.fin
      obtain ⟨r0, r1⟩ := f3.cel
      have p1 : putL zs nx e = zs := by simp [putL, hok]
      have p2 : putN zs nx e = nx := by simp [putN, hok]
      rw [p1, p2]
      exact bodyPost_ret (v := .agg #[.slice ao2 zs.length cap2, .int .i64 nx]) (by simp [results, Try.results125, go_sem, r0, r1]) rfl ⟨ao2, cap2, rfl, f1, f2⟩
    · rw [Bool.not_eq_false] at hok
      go_upto_region 7 with (go_at_call 81; refine Calls.mono (specEntry_any e wc) ?_; rintro r u4 ⟨rfl, hu4⟩; rw [hok]; have HP4 : Hid (PX w u4 b (.slice ao2 zs.length cap2) nx zs (.slice ao zs.length cap) nx e) := HP.out.step hu4; clear hu4 HP k0 k1 e0 e1 e2 e3 e4)
      go_loopw [6] (fun i wr => ∃ k : Nat, k ≤ zs.length ∧ i = .int .i64 k ∧ PX w wr b (.slice ao2 zs.length cap2) nx zs (.slice ao zs.length cap) nx e ∧ Hid (∀ (j : Nat) (hj : j < zs.length), j < k → same zs[j] e = false)) (fun i _ => zs.length - (intOf i).toNat)
      case atStart => exact ⟨0, Nat.zero_le _, rfl, HP4.out, show ∀ (j : Nat) (hj : j < zs.length), j < 0 → same zs[j] e = false from fun j hj h => absurd h (Nat.not_lt_zero _)⟩
      case round =>
        obtain ⟨k, hk, rfl, hP, hno⟩ := hrel
        clear HP4
        have HP5 : Hid (PX w wr b (.slice ao2 zs.length cap2) nx zs (.slice ao zs.length cap) nx e) := hP
        clear hP
        obtain ⟨m0, m1⟩ := HP5.out.box.cel
        obtain ⟨t0, t1, t2, t3, t4⟩ := cel5 HP5.out.base.b1
        by_cases hlt : k < zs.length
        · obtain ⟨g, rfl⟩ := HP5.out.addr (by omega)
          have hz := te_read HP5.out.row k hlt
          obtain ⟨z, hze⟩ : ∃ z, zs[k] = z := ⟨_, rfl⟩
          rw [hze] at hz
          obtain ⟨d0, d1, d2, d3, d4⟩ := hz
          have HZ : Hid (zs[k] = z) := hze
          have hk0 : (0 : Int) ≤ (k : Int) := by omega
          have hk1 : (k : Int) < (zs.length : Int) := by omega
          have HPW : Hid (PX w (wr.alloc (.cells #[.int .i64 z.asid, .int .i64 z.page, .int .i64 z.frame, .int .i64 z.flags, .bool z.large] 66)) b (.slice (some ⟨g, 0, none⟩) zs.length cap2) nx zs (.slice ao zs.length cap) nx e) := HP5.out.step ((Below.refl _ _).alloc (Nat.le_refl _) _)
          have HBX : Hid ((wr.alloc (.cells #[.int .i64 z.asid, .int .i64 z.page, .int .i64 z.frame, .int .i64 z.flags, .bool z.large] 66)).heap[wr.heap.size]? = some (.cells #[.int .i64 z.asid, .int .i64 z.page, .int .i64 z.frame, .int .i64 z.flags, .bool z.large] 66 (0, 0))) := heap_new _ _
          have HNX : Hid (same z e = false → ∀ (j : Nat) (hj : j < zs.length), j < k + 1 → same zs[j] e = false) := fun hs j hj hjk => by
            by_cases ejk : j = k
            · subst ejk
              rw [HZ.out]
              exact hs
            · exact hno.out j hj (by omega)
          clear hze
          go_upto_region 10 with fail
          generalize wr.alloc (.cells #[.int .i64 z.asid, .int .i64 z.page, .int .i64 z.frame, .int .i64 z.flags, .bool z.large] 66) = W at *
          clear d0 d1 d2 d3 d4 m0 m1 t0 t1 t2 t3 t4
          obtain ⟨y0, y1, y2, y3, y4⟩ := cel5 HBX.out
          obtain ⟨t0, t1, t2, t3, t4⟩ := cel5 HPW.out.base.b1
          by_cases h1 : z.asid = e.asid
          · by_cases h2 : z.page = e.page
            · by_cases h3 : z.large = e.large
              · have HSM : Hid (same zs[k] e = true) := (show same zs[k] e = true by rw [HZ.out]; simp [same, h1, h2, h3])
                have hi : idxI (fun x => same x e) zs = k := idxI_at hlt HSM.out (fun j hj => hno.out j (by omega) hj)
                have HPL : Hid (putL zs nx e = zs.set k e ∧ putN zs nx e = nx) := by
                  constructor
                  · simp [putL, hok, hi]
                  · simp [putN, hi]
                obtain ⟨m0, m1⟩ := HPW.out.box.cel
                have gb := (HPW.out.row.lt g rfl).1
                have n1 : ¬ g = b := fun q => HPW.out.ne (by rw [q]; rfl)
                have n2 : ¬ b = g := fun q => n1 q.symm
                have n3 : ¬ g = w.heap.size + 1 + 1 := by omega
                have n4 : ¬ w.heap.size + 1 + 1 = g := by omega
                have n5 : ¬ b = w.heap.size + 1 + 1 := by omega
                have n6 : ¬ w.heap.size + 1 + 1 = b := by omega
                have n7 : ¬ g = w.heap.size + 1 := by omega
                have n8 : ¬ w.heap.size + 1 = g := by omega
                obtain ⟨v, v0, v1, v2, v3, v4⟩ := te_cells HPW.out.row rfl k hlt
                have hfz := HPW.out.row.frozenAt
                obtain ⟨q0, q1⟩ := cel2 HPW.out.base.b2
                have qf : ∀ x, W.frozen? ⟨w.heap.size + 1 + 1, x, none⟩ = false := (fun x => by simp [World.frozen?, HPW.out.base.b2])
                clear hi
                go_wp2
                obtain ⟨f1, f2, f3⟩ := (HPW.out.set k hlt e).fin
                obtain ⟨r0, r1⟩ := f3.cel
                rw [HPL.out.1, HPL.out.2]
                rw [List.length_set] at f1 ⊢
                exact bodyPost_ret (v := .agg #[.slice (some ⟨g, 0, none⟩) zs.length cap2, .int .i64 nx]) (by simp [results, Try.results125, go_sem, r0, r1]) rfl ⟨_, cap2, rfl, f1, f2⟩
              · have HS : Hid (same z e = false) := (show same z e = false by simp [same, h1, h2]; exact h3)
                have h4 : (z.large == e.large) = false := by simpa using h3
                go_wp2
                refine ⟨⟨k + 1, hlt, by go_num, HPW.out, HNX.out HS.out⟩, by simp [intOf]; omega⟩
            · have HS : Hid (same z e = false) := (show same z e = false by simp [same, h1, h2])
              go_wp2
              refine ⟨⟨k + 1, hlt, by go_num, HPW.out, HNX.out HS.out⟩, by simp [intOf]; omega⟩
          · have HS : Hid (same z e = false) := (show same z e = false by simp [same, h1])
            go_wp2
            refine ⟨⟨k + 1, hlt, by go_num, HPW.out, HNX.out HS.out⟩, by simp [intOf]; omega⟩
        · obtain rfl : k = zs.length := by omega
          have HIX : Hid (idxI (fun x => same x e) zs = -1) := idxI_none (fun j hj => hno.out j hj hj)
          have hj : ¬ 0 ≤ idxI (fun x => same x e) zs := by rw [HIX.out]; decide
          by_cases h16 : zs.length < 16
          · have HPL : Hid (putL zs nx e = zs ++ [e] ∧ putN zs nx e = nx) := by
              constructor
              · simp [putL, hok, hj, h16]
              · simp [putN, h16]
            have h17 : (zs.length : Int) < 16 := by omega
            have n5 : ¬ b = w.heap.size + 1 + 1 := by omega
            have n6 : ¬ w.heap.size + 1 + 1 = b := by omega
            obtain ⟨i0, hi0, hz0, hz1, hz2⟩ := info_parts Try.info66
            have HI0 : Hid (Try.prog.info? 66 = some i0) := hi0
            clear hj h16 hi0
            go_wp2_with (at_builtin; (refine wpList_append_lies _ rfl _ _ 59 rfl (w.heap.size + 3) 66 i0 (.agg #[.int .i64 0, .int .i64 0, .int .i64 0, .int .i64 0, .bool false]) 5 40 Try.underlying59 HI0.out hz0 hz1 hz2 rfl (by decide) (.slice ao2 zs.length cap2) zs.length (teR zs) rfl (by exact HP5.out.row.alloc _) ⟨wr.heap.size, 0, none⟩ 1 1 (teC e) rfl rfl (World.news_of_block (cs := #[.int .i64 e.asid, .int .i64 e.page, .int .i64 e.frame, .int .i64 e.flags, .bool e.large]) (by exact heap_new wr _)) (te_oneC e) (by decide) (by unfold maxLen; omega) (by omega) (by have := HP5.out.lb; have := HP5.out.box.lt; simp; omega) _ rfl ?_; intro g cap3 w1 ho hgr hli _; have HA := (HP5.out.step ((Below.refl _ _).alloc (Nat.le_refl _) _)).app (m := e) ho hgr hli; obtain ⟨v0, v1⟩ := HA.1.cel; obtain ⟨q0, q1⟩ := cel2 HA.2.1; have qf : ∀ x, w1.frozen? ⟨w.heap.size + 1 + 1, x, none⟩ = false := (fun x => by simp [World.frozen?, HA.2.1]); have bf : ∀ x, w1.frozen? ⟨b, x, none⟩ = false := (fun x => by simp [World.frozen?, (show w1.heap[b]? = _ from HA.1)]); have HP7 : Hid (PX w (w1.setCell ⟨b, 0, none⟩ (.slice (some ⟨g, 0, none⟩) (zs.length + 1) cap3)) b (.slice (some ⟨g, 0, none⟩) (zs.length + 1) cap3) nx (zs ++ [e]) (.slice ao zs.length cap) nx e) := HA.2.2; clear HA ho hgr hli HP5 m0 m1 t0 t1 t2 t3 t4 hz0 hz1 hz2))
            obtain ⟨f1, f2, f3⟩ := HP7.out.fin
            obtain ⟨r0, r1⟩ := f3.cel
            rw [HPL.out.1, HPL.out.2]
            have hln : (zs ++ [e]).length = zs.length + 1 := by simp
            rw [hln] at f1 ⊢
            exact bodyPost_ret (v := .agg #[.slice (some ⟨g, 0, none⟩) (zs.length + 1) cap3, .int .i64 nx]) (by simp [results, Try.results125, go_sem, r0, r1]) rfl ⟨_, cap3, rfl, f1, f2⟩
          · obtain ⟨k, rfl⟩ : ∃ k : Nat, nx = k := ⟨nx.toNat, by omega⟩
            have HPL : Hid (putL zs k e = zs.set k e ∧ putN zs k e = ((k : Int) + 1) % 16) := by
              constructor
              · simp [putL, hok, hj, h16]
              · simp [putN, hok, hj, h16]
            obtain ⟨g, rfl⟩ := HP5.out.addr (by omega)
            have hk : k < zs.length := by omega
            have hk1 : (k : Int) < (zs.length : Int) := by omega
            have hk2 : (k : Int) < 16 := by omega
            have gb := (HP5.out.row.lt g rfl).1
            have n1 : ¬ g = b := fun q => HP5.out.ne (by rw [q]; rfl)
            have n2 : ¬ b = g := fun q => n1 q.symm
            have n3 : ¬ g = w.heap.size + 1 + 1 := by omega
            have n4 : ¬ w.heap.size + 1 + 1 = g := by omega
            have n5 : ¬ b = w.heap.size + 1 + 1 := by omega
            have n6 : ¬ w.heap.size + 1 + 1 = b := by omega
            have n7 : ¬ g = w.heap.size + 1 := by omega
            have n8 : ¬ w.heap.size + 1 = g := by omega
            have h17 : ¬ (zs.length : Int) < 16 := by omega
            have hk3 : (0 : Int) ≤ (k : Int) := by omega
            obtain ⟨v, v0, v1, v2, v3, v4⟩ := te_cells HP5.out.row rfl k hk
            have hfz := HP5.out.row.frozenAt
            obtain ⟨q0, q1⟩ := cel2 HP5.out.base.b2
            have qf : ∀ x, wr.frozen? ⟨w.heap.size + 1 + 1, x, none⟩ = false := (fun x => by simp [World.frozen?, HP5.out.base.b2])
            have bf : ∀ x, wr.frozen? ⟨b, x, none⟩ = false := (fun x => by simp [World.frozen?, (show wr.heap[b]? = _ from HP5.out.box)])
            clear hj h16
            go_wp2
            obtain ⟨f1, f2, f3⟩ := ((HP5.out.set k hk e).nxt (((k : Int) + 1) % 16)).fin
            obtain ⟨r0, r1⟩ := f3.cel
            rw [HPL.out.1, HPL.out.2]
            rw [List.length_set] at f1 ⊢
            exact bodyPost_ret (v := .agg #[.slice (some ⟨g, 0, none⟩) zs.length cap2, .int .i64 (((k : Int) + 1) % 16)]) (by simp [results, Try.results125, go_sem, r0, r1]) rfl ⟨_, cap2, rfl, f1, f2⟩
end Go.Proofs.Ytfagohdmepnkkaa
