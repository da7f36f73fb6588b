import Derived.Test.YtegcbghhcidcaaaDoorCp7
import Derived.Test.YtegcbghhcidcaaaDoorCq2
import Derived.Test.YtegcbghhcidcaaaDoorCk6
namespace Go.Proofs.YtegcbghhcidcaaaDoor
open Go.ChangeShapes Go.WideShapes Go.ChangeAt Go.RowKit

theorem OpsAt.heap {w w' : World} {g : Nat} {xs : List Int} (h : OpsAt w g xs) (he : w'.heap[g]? = w.heap[g]?) : OpsAt w' g xs := fun k hk => by
  obtain ⟨a0, a1, a2, a3, a4, a5, a6⟩ := h k hk
  have e : ∀ x, w'.cell? ⟨g, x, none⟩ = w.cell? ⟨g, x, none⟩ := fun x => World.cell?_of_block he
  exact ⟨(e _).trans a0, (e _).trans a1, (e _).trans a2, (e _).trans a3, (e _).trans a4, (e _).trans a5, (e _).trans a6⟩
/-- A run under way, by the specification. -/
structure RS (w u : World) (g : Nat) (c : CK) (xs : List Int) (v : Value) (k : Nat) : Prop where
  rc : ∃ a2 k2, RC w u c (.slice a2 0 k2)
  ops : OpsAt u g xs
  own : ∃ ys, u.ownsRow (w.heap.size + 2) 55 3 v k ys
set_option maxRecDepth 100000 in
set_option maxHeartbeats 8000000 in
theorem specRun0 {w : World} {g : Nat} {c : CK} {a : Addr} {cap : Nat} {xs : List Int} (hts : c.ts = []) (hck : ckB c = true) (ho : OpsAt w g xs) (hgl : g < w.heap.size) (hm : Mays c xs) (hl : xs.length ≤ 1000) : Calls Tryd.prog 8 #[ckA c (.slice (some a) 0 cap), .slice (some ⟨g, 0, none⟩) xs.length xs.length] w fun e w' => ∃ a2 k2 a3 k3, e = .returned (runA (advs c xs) (.slice a2 0 k2) (.slice a3 xs.length k3)) ∧ Below w.heap.size w w' := by
  have HR0 : Hid (RC w ((w.alloc (.cells #[.int .i64 c.host, .int .i64 c.guest, .int .i64 c.num, .int .i64 c.den, .int .i64 c.part, .bool c.frz, .slice (some a) 0 cap] 25)).alloc (.cells #[.int .i64 0, .int .i64 0, .int .i64 0, .int .i64 0, .int .i64 0, .int .i64 0, .bool false, .slice none 0 0, .slice none 0 0] 31)) c (.slice (some a) 0 cap)) := RC.new _ _ _
  have HO : Hid (OpsAt w g xs) := ho
  have HM : Hid (Mays c xs) := hm
  have HFC : Hid (fcB c = 0) := (show _ = _ by unfold fcB; rw [hck]; rfl)
  have HTS : Hid (c.ts = []) := hts
  have hl' : decide ((1000 : Int) < (xs.length : Int)) = false := decide_eq_false (by omega)
  clear ho hm hck hts
  unfold ckA
  go_enter Tryd.func8, Tryd.ntmps8
  go_wp2_with fail
  generalize ((w.alloc (.cells #[.int .i64 c.host, .int .i64 c.guest, .int .i64 c.num, .int .i64 c.den, .int .i64 c.part, .bool c.frz, .slice (some a) 0 cap] 25)).alloc (.cells #[.int .i64 0, .int .i64 0, .int .i64 0, .int .i64 0, .int .i64 0, .int .i64 0, .bool false, .slice none 0 0, .slice none 0 0] 31)) = u0 at *
  have HF : Hid _ := specClockFault_any (w := u0) (c := c) (v := .slice (some a) 0 cap) (by rw [HTS.out]; exact .inl ⟨rfl, some a, cap, rfl⟩) (by rw [HTS.out]; simp)
  rw [HFC.out] at HF
  unfold ckA at HF
  refine Calls.mono HF.out ?_
  rintro e u1 ⟨rfl, hb1⟩
  have HR1 : Hid (RC w u1 c (.slice (some a) 0 cap)) := HR0.out.step hb1
  clear hb1 HF HR0
  obtain ⟨c0, c1, c2, c3, c4, c5, c6, cf⟩ := HR1.out.box.cel
  have lt1 := HR1.out.lt
  have lt1' : w.heap.size < u1.heap.size := by omega
  have HAP : Hid _ := app0 u1 a cap
  clear c0 c1 c2 c3 c4 c5
  go_wp2_with (at_builtin; refine wl_append_ex rfl _ _ 23 rfl _ _ rfl rfl HAP.out ?_; rintro v' u2 ⟨⟨a2, k2, rfl⟩, hg2⟩; have HR2 : Hid (RC w u2 c (.slice (some a) 0 cap)) := HR1.out.step ((bx1 u1 (.cells #[] 34)).grown hg2 (by simp) (fun j hj => by cases hj; exact Nat.le_refl _)); clear hg2 c6 cf lt1 lt1'; obtain ⟨c0, c1, c2, c3, c4, c5, c6, cf⟩ := HR2.out.box.cel; have lt2 := HR2.out.lt; have lt2' : w.heap.size < u2.heap.size := (by omega); clear c0 c1 c2 c3 c4 c5)
  have HR3 : Hid (RC w ((u2.setCell ⟨w.heap.size, 6, none⟩ (.slice a2 0 k2)).alloc (.cells #[] 55)) c (.slice a2 0 k2)) := (HR2.out.set6 _).step (bx1 _ _)
  have hsz : (u2.setCell ⟨w.heap.size, 6, none⟩ (.slice a2 0 k2)).heap.size = u2.heap.size := by simp [World.setCell]
  have hown0 : ((u2.setCell ⟨w.heap.size, 6, none⟩ (.slice a2 0 k2)).alloc (.cells #[] 55)).ownsRow (u2.setCell ⟨w.heap.size, 6, none⟩ (.slice a2 0 k2)).heap.size 55 3 (.slice (some ⟨(u2.setCell ⟨w.heap.size, 6, none⟩ (.slice a2 0 k2)).heap.size, 0, none⟩) 0 0) 0 [] := World.ownsRow_lit _ #[] 0 (by simp) (by decide) rfl
  rw [hsz] at hown0
  have HD0 : Hid (RS w ((u2.setCell ⟨w.heap.size, 6, none⟩ (.slice a2 0 k2)).alloc (.cells #[] 55)) g c xs (.slice (some ⟨u2.heap.size, 0, none⟩) 0 0) 0) := ⟨⟨_, _, HR3.out⟩, HO.out.below HR3.out.bel, [], own_weak hown0 (by omega)⟩
  clear hown0 c6 cf lt2 lt2' HR2 HR3 hsz HAP HR1
  generalize ((u2.setCell ⟨w.heap.size, 6, none⟩ (.slice a2 0 k2)).alloc (.cells #[] 55)) = u3 at *
  go_loopw [5, 6] (fun v i wr => ∃ k : Nat, k ≤ xs.length ∧ i = .int .i64 k ∧ RS w wr g (advs c (xs.take k)) xs v k) (fun _ i _ => xs.length - (intOf i).toNat)
  case atStart => exact ⟨0, Nat.zero_le _, rfl, HD0.out⟩
  case round =>
    obtain ⟨k, hk, rfl, hd⟩ := hrel
    obtain ⟨ys, how⟩ := hd.own
    obtain ⟨ao4, cap4, rfl⟩ := own_sl3 how
    obtain ⟨a5, k5, hrc⟩ := hd.rc
    have HOW : Hid (wr.ownsRow (w.heap.size + 2) 55 3 (.slice ao4 k cap4) k ys) := how
    have HRC : Hid (RC w wr (advs c (xs.take k)) (.slice a5 0 k5)) := hrc
    have HOP : Hid (OpsAt wr g xs) := hd.ops
    clear how hd HD0 hrc
    by_cases hlt : k < xs.length
    · have hk0 : (0 : Int) ≤ (k : Int) := by omega
      have hk1 : (k : Int) < (xs.length : Int) := by omega
      have HSU : Hid (advs c (xs.take (k + 1)) = adv (advs c (xs.take k)) xs[k]) := advs_succ c xs k hlt
      have HMY : Hid (May (advs c (xs.take k)) xs[k]) := HM.out.at k hlt
      have HB1 : Hid (Below wr.heap.size wr (wr.alloc (.cells #[.int .i64 0, .int .i64 0, .slice none 0 0] 55)).drew) := (bx1 _ _).drew
      have HRC1 : Hid (RC w (wr.alloc (.cells #[.int .i64 0, .int .i64 0, .slice none 0 0] 55)).drew (advs c (xs.take k)) (.slice a5 0 k5)) := HRC.out.step HB1.out
      have HOP1 : Hid (OpsAt (wr.alloc (.cells #[.int .i64 0, .int .i64 0, .slice none 0 0] 55)).drew g xs) := HOP.out.below HB1.out
      have HOW1 : Hid ((wr.alloc (.cells #[.int .i64 0, .int .i64 0, .slice none 0 0] 55)).drew.ownsRow (w.heap.size + 2) 55 3 (.slice ao4 k cap4) k ys) := own_below HOW.out HB1.out
      have HQ1 : Hid ((wr.alloc (.cells #[.int .i64 0, .int .i64 0, .slice none 0 0] 55)).drew.heap[wr.heap.size]? = some (.cells #[.int .i64 0, .int .i64 0, .slice none 0 0] 55 (0, 0))) := heap_new wr _
      have HQL : Hid (w.heap.size + 1 < wr.heap.size) := HRC.out.lt
      have HOL : Hid (∀ b, (Value.slice ao4 k cap4).ownBlock = some b → b ≠ wr.heap.size) := fun b hb => by have := (HOW.out.lt b hb).2; omega
      obtain ⟨d0, d1, d2, d3, d4, d5, d6⟩ := HOP1.out k hlt
      generalize hxk : xs[k] = t at *
      generalize hck : advs c (xs.take k) = ck at *
      have HDO : Hid _ := fun u => specDo0 (w := u) (ao := a5) (cap := k5) HMY.out
      unfold ckA opA outA at HDO
      obtain ⟨c0, c1, c2, c3, c4, c5, c6, cf⟩ := HRC1.out.box.cel
      have lt1 := HRC1.out.lt
      have lt1' : w.heap.size < (wr.alloc (.cells #[.int .i64 0, .int .i64 0, .slice none 0 0] 55)).drew.heap.size := by omega
      have hgr : g < (wr.alloc (.cells #[.int .i64 0, .int .i64 0, .slice none 0 0] 55)).drew.heap.size := Nat.lt_of_lt_of_le hgl HRC1.out.bel.size
      have HXK : Hid (xs[k] = t) := hxk
      have HCK : Hid (advs c (xs.take k) = ck) := hck
      clear hxk hck HRC HOP HOW
      go_wp2_with fail
      refine wp_region_held (S := fun w' => OpsAt w' g xs) (by kernel_rfl) ?_
      change wpAnyH _ _ _ _ _ _ _ _ (World.drew _)
      generalize (wr.alloc (.cells #[.int .i64 0, .int .i64 0, .slice none 0 0] 55)).drew = x1 at *
      clear d0 d1 d2 d3 d4 d5 d6
      refine wpAnyH_take (i := 1) (v := .slice (some ⟨g, 0, none⟩) xs.length xs.length) rfl (by kernel_rfl) (by kernel_rfl) (by kernel_rfl) (fun _ _ _ h => h) (Or.inl ⟨by kernel_rfl, fun w9 h9 => ?_⟩) HOP1.out ?_
      · clear h9; go_simp
      refine wpAnyH_take (i := 2) (v := .int .i64 k) rfl (by kernel_rfl) (by kernel_rfl) (by kernel_rfl) (fun _ _ _ h => h) (Or.inl ⟨by kernel_rfl, fun w9 h9 => ?_⟩) HOP1.out ?_
      · clear h9; go_simp
      refine wpAnyH_take (i := 3) (v := .pointer (some ⟨g, k * 7, none⟩)) rfl (by kernel_rfl) (by kernel_rfl) (by kernel_rfl) (fun _ _ _ h => h) (Or.inl ⟨by kernel_rfl, fun w9 h9 => ?_⟩) HOP1.out ?_
      · clear h9; go_simp
      refine wpAnyH_take (i := 4) (v := .agg #[.int .i64 1, .int .i64 t, .int .i64 0, .int .i64 0, .int .i64 0, .int .i64 0, .int .i64 0]) rfl (by kernel_rfl) (by kernel_rfl) (by kernel_rfl) (fun _ _ _ h => h) (Or.inl ⟨by kernel_rfl, fun w9 h9 => ?_⟩) HOP1.out ?_
      · obtain ⟨d0, d1, d2, d3, d4, d5, d6⟩ := h9 k hlt
        rw [HXK.out] at d1
        clear h9
        go_simp
      refine held_one 0 (by kernel_rfl) rfl (by kernel_rfl) fun K hK => ?_
      go_simp
      refine hK _ _ HOP1.out ?_
      clear hK K
      generalize hcn : adv ck t = cn at *
      have HCN : Hid (adv ck t = cn) := hcn
      clear hcn
      refine held_one 5 (by kernel_rfl) rfl (by kernel_rfl) fun K hK => ?_
      go_simp
      refine Calls.mono (HDO.out _) ?_
      rintro e u5 ⟨a6, k6, rfl, hb5⟩
      have HRC5 : Hid (RC w u5 ck (.slice a5 0 k5)) := HRC1.out.step hb5
      have HOP5 : Hid (OpsAt u5 g xs) := HOP1.out.below hb5
      have HQ5 : Hid (u5.heap[wr.heap.size]? = some (.cells #[.int .i64 0, .int .i64 0, .slice none 0 0] 55 (0, 0))) := (hb5.block _ (Array.getElem?_eq_some_iff.1 HQ1.out).1).trans HQ1.out
      have HOW5 : Hid (u5.ownsRow (w.heap.size + 2) 55 3 (.slice ao4 k cap4) k ys) := own_below HOW1.out hb5
      clear hb5 c0 c1 c2 c3 c4 c5 c6 cf lt1 lt1' hgr HDO HRC1 HOP1 HQ1 HOW1
      go_simp
      refine hK _ _ HOP5.out ?_
      clear hK K
      refine wpAnyH_take (i := 6) (v := .tuple #[.agg #[.int .i64 cn.host, .int .i64 cn.guest, .int .i64 cn.num, .int .i64 cn.den, .int .i64 cn.part, .bool cn.frz, .slice a6 0 k6], .agg #[.int .i64 0, .int .i64 cn.guest, .slice none 0 0]]) rfl (by kernel_rfl) (by kernel_rfl) (by kernel_rfl) (fun _ _ _ h => h) (Or.inl ⟨by kernel_rfl, fun w9 h9 => ?_⟩) HOP5.out ?_
      · clear h9; go_simp
      refine wpAnyH_take (i := 7) (v := .agg #[.int .i64 cn.host, .int .i64 cn.guest, .int .i64 cn.num, .int .i64 cn.den, .int .i64 cn.part, .bool cn.frz, .slice a6 0 k6]) rfl (by kernel_rfl) (by kernel_rfl) (by kernel_rfl) (fun _ _ _ h => h) (Or.inl ⟨by kernel_rfl, fun w9 h9 => ?_⟩) HOP5.out ?_
      · clear h9; go_simp
      refine wpAnyH_take (i := 8) (v := .agg #[.int .i64 0, .int .i64 cn.guest, .slice none 0 0]) rfl (by kernel_rfl) (by kernel_rfl) (by kernel_rfl) (fun _ _ _ h => h) (Or.inl ⟨by kernel_rfl, fun w9 h9 => ?_⟩) HOP5.out ?_
      · clear h9; go_simp
      obtain ⟨z1, z2, z3⟩ := st7 HRC5.out.bel (Nat.le_refl _) HRC5.out.box (.int .i64 cn.host) (.int .i64 cn.guest) (.int .i64 cn.num) (.int .i64 cn.den) (.int .i64 cn.part) (.bool cn.frz) (.slice a6 0 k6) rfl
      have HRC9 : Hid (RC w (((((((u5.setCell ⟨w.heap.size, 0, none⟩ (.int .i64 cn.host)).setCell ⟨w.heap.size, 1, none⟩ (.int .i64 cn.guest)).setCell ⟨w.heap.size, 2, none⟩ (.int .i64 cn.num)).setCell ⟨w.heap.size, 3, none⟩ (.int .i64 cn.den)).setCell ⟨w.heap.size, 4, none⟩ (.int .i64 cn.part)).setCell ⟨w.heap.size, 5, none⟩ (.bool cn.frz)).setCell ⟨w.heap.size, 6, none⟩ (.slice a6 0 k6)) cn (.slice a6 0 k6)) := ⟨z1, z2, (z3 _ (by omega)).trans HRC5.out.res⟩
      have HOP9 : Hid (OpsAt (((((((u5.setCell ⟨w.heap.size, 0, none⟩ (.int .i64 cn.host)).setCell ⟨w.heap.size, 1, none⟩ (.int .i64 cn.guest)).setCell ⟨w.heap.size, 2, none⟩ (.int .i64 cn.num)).setCell ⟨w.heap.size, 3, none⟩ (.int .i64 cn.den)).setCell ⟨w.heap.size, 4, none⟩ (.int .i64 cn.part)).setCell ⟨w.heap.size, 5, none⟩ (.bool cn.frz)).setCell ⟨w.heap.size, 6, none⟩ (.slice a6 0 k6)) g xs) := HOP5.out.heap (z3 _ (by omega))
      have HQ9 : Hid ((((((((u5.setCell ⟨w.heap.size, 0, none⟩ (.int .i64 cn.host)).setCell ⟨w.heap.size, 1, none⟩ (.int .i64 cn.guest)).setCell ⟨w.heap.size, 2, none⟩ (.int .i64 cn.num)).setCell ⟨w.heap.size, 3, none⟩ (.int .i64 cn.den)).setCell ⟨w.heap.size, 4, none⟩ (.int .i64 cn.part)).setCell ⟨w.heap.size, 5, none⟩ (.bool cn.frz)).setCell ⟨w.heap.size, 6, none⟩ (.slice a6 0 k6)).heap[wr.heap.size]? = some (.cells #[.int .i64 0, .int .i64 0, .slice none 0 0] 55 (0, 0))) := (z3 _ (by have := HQL.out; omega)).trans HQ5.out
      have HOW9 : Hid ((((((((u5.setCell ⟨w.heap.size, 0, none⟩ (.int .i64 cn.host)).setCell ⟨w.heap.size, 1, none⟩ (.int .i64 cn.guest)).setCell ⟨w.heap.size, 2, none⟩ (.int .i64 cn.num)).setCell ⟨w.heap.size, 3, none⟩ (.int .i64 cn.den)).setCell ⟨w.heap.size, 4, none⟩ (.int .i64 cn.part)).setCell ⟨w.heap.size, 5, none⟩ (.bool cn.frz)).setCell ⟨w.heap.size, 6, none⟩ (.slice a6 0 k6)).ownsRow (w.heap.size + 2) 55 3 (.slice ao4 k cap4) k ys) := own_heap HOW5.out (fun k hk => z3 k (by omega)) (Nat.le_refl _)
      obtain ⟨c0, c1, c2, c3, c4, c5, c6, cf⟩ := HRC5.out.box.cel
      have lt5 := HRC5.out.box.lt
      clear z1 z2 z3
      refine held_one 9 (by kernel_rfl) rfl (by kernel_rfl) fun K hK => ?_
      go_simp
      clear c0 c1 c2 c3 c4 c5 c6 cf lt5 HRC5 HOP5 HQ5 HOW5
      generalize (((((((u5.setCell ⟨w.heap.size, 0, none⟩ (.int .i64 cn.host)).setCell ⟨w.heap.size, 1, none⟩ (.int .i64 cn.guest)).setCell ⟨w.heap.size, 2, none⟩ (.int .i64 cn.num)).setCell ⟨w.heap.size, 3, none⟩ (.int .i64 cn.den)).setCell ⟨w.heap.size, 4, none⟩ (.int .i64 cn.part)).setCell ⟨w.heap.size, 5, none⟩ (.bool cn.frz)).setCell ⟨w.heap.size, 6, none⟩ (.slice a6 0 k6)) = u9 at *
      refine hK _ _ HOP9.out ?_
      clear hK K
      obtain ⟨z4, z5, z6⟩ := st3 HRC9.out.bel (by have := HQL.out; omega) HQ9.out (.int .i64 0) (.int .i64 cn.guest) (.slice none 0 0) rfl
      have HRC10 : Hid (RC w (((u9.setCell ⟨wr.heap.size, 0, none⟩ (.int .i64 0)).setCell ⟨wr.heap.size, 1, none⟩ (.int .i64 cn.guest)).setCell ⟨wr.heap.size, 2, none⟩ (.slice none 0 0)) cn (.slice a6 0 k6)) := ⟨z4, (z6 _ (by have := HQL.out; omega)).trans HRC9.out.box, (z6 _ (by have := HQL.out; omega)).trans HRC9.out.res⟩
      have HOP10 : Hid (OpsAt (((u9.setCell ⟨wr.heap.size, 0, none⟩ (.int .i64 0)).setCell ⟨wr.heap.size, 1, none⟩ (.int .i64 cn.guest)).setCell ⟨wr.heap.size, 2, none⟩ (.slice none 0 0)) g xs) := HOP9.out.heap (z6 _ (by have := HQL.out; omega))
      have HQ10 : Hid ((((u9.setCell ⟨wr.heap.size, 0, none⟩ (.int .i64 0)).setCell ⟨wr.heap.size, 1, none⟩ (.int .i64 cn.guest)).setCell ⟨wr.heap.size, 2, none⟩ (.slice none 0 0)).heap[wr.heap.size]? = some (.cells #[.int .i64 0, .int .i64 cn.guest, .slice none 0 0] 55 (0, 0))) := z5
      have HOW10 : Hid ((((u9.setCell ⟨wr.heap.size, 0, none⟩ (.int .i64 0)).setCell ⟨wr.heap.size, 1, none⟩ (.int .i64 cn.guest)).setCell ⟨wr.heap.size, 2, none⟩ (.slice none 0 0)).ownsRow (w.heap.size + 2) 55 3 (.slice ao4 k cap4) k ys) := HOW9.out.kept (row := some wr.heap.size) (gsetK (gsetK (gsetK (World.grownBy.refl _ _) 0 _) 1 _) 2 _) (by
        cases hv : (Value.slice ao4 k cap4).ownBlock with
        | none => exact .inl rfl
        | some b => exact .inr (fun e => HOL.out b hv (Option.some.inj e)))
      obtain ⟨q0, q1, q2⟩ := cel3x HQ9.out
      have qf := frz3 HQ9.out
      have ltq : wr.heap.size < u9.heap.size := (Array.getElem?_eq_some_iff.1 HQ9.out).1
      clear z4 z5 z6
      refine held_one 10 (by kernel_rfl) rfl (by kernel_rfl) fun K hK => ?_
      go_simp
      clear q0 q1 q2 qf ltq HRC9 HOP9 HQ9 HOW9
      generalize (((u9.setCell ⟨wr.heap.size, 0, none⟩ (.int .i64 0)).setCell ⟨wr.heap.size, 1, none⟩ (.int .i64 cn.guest)).setCell ⟨wr.heap.size, 2, none⟩ (.slice none 0 0)) = u10 at *
      refine hK _ _ HOP10.out ?_
      clear hK K
      refine wpAnyH_done (by kernel_rfl) ?_ _
      go_simp
      obtain ⟨q0, q1, q2⟩ := cel3x HQ10.out
      have ltq : wr.heap.size < u10.heap.size := (Array.getElem?_eq_some_iff.1 HQ10.out).1
      have HAP : Hid _ := appO HOW10.out (by omega) (by have := HRC10.out.lt; omega) 0 cn.guest none 0 0
      go_wp2_with (at_builtin; refine wl_append_ex rfl _ _ 29 rfl _ _ rfl rfl HAP.out ?_; rintro v' u7 ⟨ho2, hg2⟩; have HO2 : Hid _ := ho2; have HG2 : Hid _ := hg2; clear ho2 hg2)
      have ho2 := HO2.out
      have hg12 : u10.grownBy u7 (Value.slice ao4 k cap4).ownBlock := Lib.grownBy_trans (World.grownBy_alloc u10 _ _) HG2.out
      have hnb : ∀ b, b < w.heap.size + 2 → some b ≠ (Value.slice ao4 k cap4).ownBlock := fun b hb e => by
        have := (HOW10.out.lt _ e.symm).1
        omega
      have HD2 : Hid (RS w u7 g cn xs v' (k + 1)) := ⟨⟨_, _, HRC10.out.bel.grown hg12 HRC10.out.bel.size (fun j hj => by have := (HOW10.out.lt _ hj).1; omega), HRC10.out.box.kept hg12 (hnb _ (by omega)), (hg12.block _ HRC10.out.lt (hnb _ (by omega))).trans HRC10.out.res⟩, HOP10.out.kept hg12 (hnb _ (by omega)), _, ho2⟩
      clear ho2 hg12 hnb HRC10 HOP10 HQ10 HOW10 HAP q0 q1 q2 ltq HO2 HG2
      go_roundw
      case rel => exact ⟨k + 1, hlt, by go_num, by rw [HSU.out]; exact HD2.out⟩
      case measure => simp [intOf]; omega
    · obtain rfl : k = xs.length := by omega
      have HCC : Hid (advs c (xs.take xs.length) = advs c xs) := (show _ = _ by rw [List.take_length])
      rw [HCC.out] at HRC
      clear HCC
      generalize hcc : advs c xs = cc at *
      have HCC : Hid (advs c xs = cc) := hcc
      clear hcc HOW HOP
      obtain ⟨c0, c1, c2, c3, c4, c5, c6, cf⟩ := HRC.out.box.cel
      obtain ⟨d0, d1, d2, d3, d4, d5, d6, d7, d8, df⟩ := cel9 HRC.out.res
      have lt4 := HRC.out.lt
      have lt4' : w.heap.size < wr.heap.size := by omega
      go_wp2_with fail
      obtain ⟨e1, e2, e3⟩ := st9 HRC.out.bel (by omega) HRC.out.res (.int .i64 0) (.int .i64 cc.host) (.int .i64 cc.guest) (.int .i64 cc.num) (.int .i64 cc.den) (.int .i64 cc.part) (.bool cc.frz) (.slice a5 0 k5) (.slice ao4 xs.length cap4) rfl
      obtain ⟨f0, f1, f2, f3, f4, f5, f6, f7, f8, _⟩ := cel9 e2
      refine bodyPost_ret (v := runA cc (.slice a5 0 k5) (.slice ao4 xs.length cap4)) ?_ rfl ⟨_, _, _, _, by rw [HCC.out], e1⟩
      clear e1 e2 e3 HRC c0 c1 c2 c3 c4 c5 c6 cf d0 d1 d2 d3 d4 d5 d6 d7 d8 df
      unfold runA
      simp only [results, Tryd.results8, go_sem]
      simp [go_sem, f0, f1, f2, f3, f4, f5, f6, f7, f8]
end Go.Proofs.YtegcbghhcidcaaaDoor
