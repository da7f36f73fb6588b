import Derived.Test.YtkicaihfknfgkaaDoorVt1
import Derived.Test.YtkicaihfknfgkaaDoorRowS
import Derived.Laws.AppendOwn
import Derived.Maps.AppendAt
import Derived.OwnWalk
import Derived.Deep.QuietTactic
namespace Go.Proofs.YtkicaihfknfgkaaDoor
open Go.ChangeShapes Go.WideShapes Go.ChangeAt Go.RowKit

set_option maxRecDepth 100000
theorem infoVt : (Tryd.prog.info? 9).map (fun i => (i.zero, i.size, i.bytes)) = some (some (.string ⟨#[]⟩), 1, 16) := by kernel_rfl
/-- Three texts more. -/
theorem app3S {w : World} {B n : Nat} {v : Value} {xs : List Value} (H0 : w.ownsRow B 9 1 v n xs) (x y z : ByteArray) (hn : n ≤ 1048576) (hB : B ≤ w.heap.size) :
    ∃ v' u', (Builtin.append_ #[31, 31] 31 #[v, .slice (some ⟨w.heap.size, 0, none⟩) 3 3]).run Tryd.prog (w.alloc (.cells #[.string x, .string y, .string z] 9)) = .ok v' u' ∧ (u'.ownsRow B 9 1 v' (n + 3) (xs ++ [.string x, .string y, .string z]) ∧ (w.alloc (.cells #[.string x, .string y, .string z] 9)).grownBy u' v.ownBlock ∧ (v'.ownBlock = v.ownBlock ∨ v'.ownBlock = some (w.heap.size + 1))) := by
  obtain ⟨i0, hi0, hz0, hz1, hz2⟩ := info_parts infoVt
  obtain ⟨v', w', hr, h2, h3, _, h4⟩ := run_append_own_at (P := Tryd.prog) (w.alloc (.cells #[.string x, .string y, .string z] 9)) B 31 31 9 i0 (.string ⟨#[]⟩) 1 16 Tryd.underlying31 hi0 hz0 hz1 hz2 rfl (by decide) v n xs (World.ownsRow.alloc H0 _) ⟨w.heap.size, 0, none⟩ 3 3 [.string x, .string y, .string z] rfl (by
    intro j u hj
    match j, hj with
    | 0, hj => simp at hj; subst hj; simp [Addr.add_lit]
    | 1, hj => simp at hj; subst hj; simp [Addr.add_lit]
    | 2, hj => simp at hj; subst hj; simp [Addr.add_lit]) (by intro u hu; simp at hu; rcases hu with rfl | rfl | rfl <;> rfl) (by unfold maxLen; omega) (by omega) (by simp; omega)
  refine ⟨v', w', hr, h2, h3, ?_⟩
  simpa using h4
theorem wp_append_exV {P : Program} {o : Oper} {a : Act} {w : World} {K : Act → World → Prop} {Q : Exit → Act → World → Prop} (s x : Operand) (t : TypeId)
    (ho : o.op = .call { callee := .builtin .append, args := #[s, x], argTypes := #[t, t] }) (v v2 : Value) (hs : a.eval s = v) (hx : a.eval x = v2) {R : Value → World → Prop}
    (hr : ∃ v' w', (Builtin.append_ #[t, t] o.type #[v, v2]).run P w = .ok v' w' ∧ R v' w') (h : ∀ v' w', R v' w' → K (a.put o.dst v') w') : o.wp P a w K Q := by
  obtain ⟨v', w', hr, hR⟩ := hr
  unfold Oper.wp execOp
  simp only [ho, resolve, invoke, builtin, Sem.run_bind, Sem.run_pure, Result.andThen_ok, List.map_toArray, List.map_cons, List.map_nil, hs, hx, hr]
  exact h v' w' hR
theorem joined_nilV (w : World) : Calls Tryd.prog 21 #[.slice none 0 0] w fun e w' => e = .returned (.string ⟨#[]⟩) ∧ Below w.heap.size w w' := by
  go_enter Tryd.func21, Tryd.ntmps21
  go_wp2
  go_loopw [3, 8] (fun v i wr => v = .slice none 0 0 ∧ i = .int .i64 0 ∧ wr = w) (fun _ _ _ => 0)
  case atStart => exact ⟨rfl, rfl, rfl⟩
  case round =>
    obtain ⟨rfl, rfl, rfl⟩ := hrel
    have hcv := conv_own wr 0 _ 0 [] (World.ownsRow_nil _ _ _ _)
    go_wp2
    go_ret
    exact ⟨rfl, Below.refl _ _⟩
theorem joined_rowV {w : World} {v : Value} {B : Nat} {ps : List ByteArray} (h : w.ownsRow B 9 1 v ps.length (sR ps)) (hn : ps.length ≤ 1000) (hsz : (catB ps).length ≤ 1099511627776) :
    Calls Tryd.prog 21 #[v] w fun e w' => e = .returned (.string (⟨(catB ps).toArray⟩)) ∧ Below w.heap.size w w' := by
  rcases h.2 with ⟨hv, e⟩ | ⟨g, cap, cur, hv, h1, h2, _⟩
  · subst hv
    have : ps = [] := List.eq_nil_of_length_eq_zero e
    subst this
    exact joined_nilV w
  · subst hv
    refine joined_any g ps.length cap ps w rfl (Array.getElem?_eq_some_iff.1 h2).1 (fun i hi => ?_) hn hsz
    rw [h.cellAt i (by omega)]
    simp [sR, List.getElem?_eq_getElem hi]
theorem s_slV {w : World} {B n : Nat} {v : Value} {xs : List Value} (h : w.ownsRow B 9 1 v n xs) : ∃ ao cap, v = .slice ao n cap := by
  rcases h.2 with ⟨rfl, e⟩ | ⟨g, cap, cur, rfl, _⟩
  · exact ⟨none, 0, by rw [e]⟩
  · exact ⟨_, cap, rfl⟩
def vkS (k : Nat) : ByteArray := [vk0, vk1, vk2, vk3, vk4].getD k ⟨#[]⟩
def vnN (v : VMC) (k : Nat) : Int := [v.tenant, v.cpu, v.mem, v.zone, v.apart].getD k 0
theorem vtL_succ (v : VMC) (k : Nat) (hk : k < 5) : vtL v (k + 1) = vtL v k ++ [vbl, vkS k, decB (vnN v k)] := by
  obtain rfl | rfl | rfl | rfl | rfl : k = 0 ∨ k = 1 ∨ k = 2 ∨ k = 3 ∨ k = 4 := by omega
  all_goals simp [vtL, vtP, vkS, vnN]
theorem vtL_len (v : VMC) (k : Nat) (hk : k ≤ 5) : (vtL v k).length = 3 * k + 1 := by
  simp [vtL, vtP]
  omega
theorem catB_len (a : ByteArray) (l : List ByteArray) : (catB (a :: l)).length = a.size + (catB l).length := by
  simp [catB]
theorem vtL_size {v : VMC} (h : vmB 8 v = true) : (catB (vtL v 5)).length ≤ 300 := by
  obtain ⟨n0, c0, c1, m0, m1, t0, t1, z0, z1, a0, a1⟩ := vm_b h
  have d0 := decB_size v.tenant (by omega) (by omega)
  have d1 := decB_size v.cpu (by omega) (by omega)
  have d2 := decB_size v.mem (by omega) (by omega)
  have d3 := decB_size v.zone (by omega) (by omega)
  have d4 := decB_size v.apart (by omega) (by omega)
  have e0 : vtL v 5 = [v.name, vbl, vk0, decB v.tenant, vbl, vk1, decB v.cpu, vbl, vk2, decB v.mem, vbl, vk3, decB v.zone, vbl, vk4, decB v.apart] := by simp [vtL, vtP]
  clear h c0 c1 m0 m1 t0 t1 z0 z1 a0 a1
  rw [e0]
  clear e0
  simp only [catB_len]
  generalize decB v.tenant = D0 at *
  generalize decB v.cpu = D1 at *
  generalize decB v.mem = D2 at *
  generalize decB v.zone = D3 at *
  generalize decB v.apart = D4 at *
  have b0 : vbl.size = 1 := rfl
  have b1 : vk0.size = 7 := rfl
  have b2 : vk1.size = 4 := rfl
  have b3 : vk2.size = 4 := rfl
  have b4 : vk3.size = 5 := rfl
  have b5 : vk4.size = 6 := rfl
  have b6 : (catB []).length = 0 := rfl
  generalize vbl.size = x0 at *
  generalize vk0.size = x1 at *
  generalize vk1.size = x2 at *
  generalize vk2.size = x3 at *
  generalize vk3.size = x4 at *
  generalize vk4.size = x5 at *
  generalize (catB []).length = x6 at *
  generalize v.name.size = x7 at *
  generalize D0.size = y0 at *
  generalize D1.size = y1 at *
  generalize D2.size = y2 at *
  generalize D3.size = y3 at *
  generalize D4.size = y4 at *
  clear D0 D1 D2 D3 D4
  omega
set_option maxRecDepth 100000 in
set_option maxHeartbeats 8000000 in
theorem fields_any (b : Nat) (w : World) : Calls Tryd.prog 19 #[.pointer (some ⟨b, 0, none⟩)] w fun e w' => e = .returned (.slice (some ⟨w.heap.size, 0, none⟩) 5 5) ∧ LG w w' w.heap.size #[.string ⟨#[116, 101, 110, 97, 110, 116, 61]⟩, .pointer (some ⟨b, 1, none⟩), .string ⟨#[99, 112, 117, 61]⟩, .pointer (some ⟨b, 2, none⟩), .string ⟨#[109, 101, 109, 61]⟩, .pointer (some ⟨b, 3, none⟩), .string ⟨#[122, 111, 110, 101, 61]⟩, .pointer (some ⟨b, 4, none⟩), .string ⟨#[97, 112, 97, 114, 116, 61]⟩, .pointer (some ⟨b, 5, none⟩)] 45 := by
  have HN : Hid (LG w (w.drew.alloc (.cells #[.string ⟨#[116, 101, 110, 97, 110, 116, 61]⟩, .pointer (some ⟨b, 1, none⟩), .string ⟨#[99, 112, 117, 61]⟩, .pointer (some ⟨b, 2, none⟩), .string ⟨#[109, 101, 109, 61]⟩, .pointer (some ⟨b, 3, none⟩), .string ⟨#[122, 111, 110, 101, 61]⟩, .pointer (some ⟨b, 4, none⟩), .string ⟨#[97, 112, 97, 114, 116, 61]⟩, .pointer (some ⟨b, 5, none⟩)] 45)) w.heap.size #[.string ⟨#[116, 101, 110, 97, 110, 116, 61]⟩, .pointer (some ⟨b, 1, none⟩), .string ⟨#[99, 112, 117, 61]⟩, .pointer (some ⟨b, 2, none⟩), .string ⟨#[109, 101, 109, 61]⟩, .pointer (some ⟨b, 3, none⟩), .string ⟨#[122, 111, 110, 101, 61]⟩, .pointer (some ⟨b, 4, none⟩), .string ⟨#[97, 112, 97, 114, 116, 61]⟩, .pointer (some ⟨b, 5, none⟩)] 45) := ⟨(bdn (Below.refl _ _) 1).trans ((bx1 (w.drewN 1) _).mono (Nat.le_refl _)), heap_new _ _, Nat.le_refl _⟩
  go_enter Tryd.func19, Tryd.ntmps19
  go_upto_region 1 with fail
  have HSB : Hid (Below w.heap.size w w.drew) := bdn (Below.refl _ _) 1
  refine wp_region_held (S := fun w9 => Below w.heap.size w w9) (by kernel_rfl) ?_
  change wpAnyH _ _ _ _ _ _ _ _ (World.drew _)
  refine wpAnyH_take (i := 0) (v := .pointer (some ⟨b, 0, none⟩)) rfl (by kernel_rfl) (by kernel_rfl) (by kernel_rfl) (fun _ _ _ h => h) (Or.inl ⟨by kernel_rfl, fun w9 h9 => ?_⟩) HSB.out ?_
  · go_simp
  refine wpAnyH_take (i := 1) (v := .pointer (some ⟨b, 0, none⟩)) rfl (by kernel_rfl) (by kernel_rfl) (by kernel_rfl) (fun _ _ _ h => h) (Or.inl ⟨by kernel_rfl, fun w9 h9 => ?_⟩) HSB.out ?_
  · go_simp
  refine wpAnyH_take (i := 2) (v := .pointer (some ⟨b, 1, none⟩)) rfl (by kernel_rfl) (by kernel_rfl) (by kernel_rfl) (fun _ _ _ h => h) (Or.inl ⟨by kernel_rfl, fun w9 h9 => ?_⟩) HSB.out ?_
  · go_simp
  refine wpAnyH_take (i := 3) (v := .agg #[.string ⟨#[116, 101, 110, 97, 110, 116, 61]⟩, .pointer (some ⟨b, 1, none⟩)]) rfl (by kernel_rfl) (by kernel_rfl) (by kernel_rfl) (fun _ _ _ h => h) (Or.inl ⟨by kernel_rfl, fun w9 h9 => ?_⟩) HSB.out ?_
  · go_simp
  refine wpAnyH_take (i := 4) (v := .pointer (some ⟨b, 0, none⟩)) rfl (by kernel_rfl) (by kernel_rfl) (by kernel_rfl) (fun _ _ _ h => h) (Or.inl ⟨by kernel_rfl, fun w9 h9 => ?_⟩) HSB.out ?_
  · go_simp
  refine wpAnyH_take (i := 5) (v := .pointer (some ⟨b, 0, none⟩)) rfl (by kernel_rfl) (by kernel_rfl) (by kernel_rfl) (fun _ _ _ h => h) (Or.inl ⟨by kernel_rfl, fun w9 h9 => ?_⟩) HSB.out ?_
  · go_simp
  refine wpAnyH_take (i := 6) (v := .pointer (some ⟨b, 2, none⟩)) rfl (by kernel_rfl) (by kernel_rfl) (by kernel_rfl) (fun _ _ _ h => h) (Or.inl ⟨by kernel_rfl, fun w9 h9 => ?_⟩) HSB.out ?_
  · go_simp
  refine wpAnyH_take (i := 7) (v := .agg #[.string ⟨#[99, 112, 117, 61]⟩, .pointer (some ⟨b, 2, none⟩)]) rfl (by kernel_rfl) (by kernel_rfl) (by kernel_rfl) (fun _ _ _ h => h) (Or.inl ⟨by kernel_rfl, fun w9 h9 => ?_⟩) HSB.out ?_
  · go_simp
  refine wpAnyH_take (i := 8) (v := .pointer (some ⟨b, 0, none⟩)) rfl (by kernel_rfl) (by kernel_rfl) (by kernel_rfl) (fun _ _ _ h => h) (Or.inl ⟨by kernel_rfl, fun w9 h9 => ?_⟩) HSB.out ?_
  · go_simp
  refine wpAnyH_take (i := 9) (v := .pointer (some ⟨b, 0, none⟩)) rfl (by kernel_rfl) (by kernel_rfl) (by kernel_rfl) (fun _ _ _ h => h) (Or.inl ⟨by kernel_rfl, fun w9 h9 => ?_⟩) HSB.out ?_
  · go_simp
  refine wpAnyH_take (i := 10) (v := .pointer (some ⟨b, 3, none⟩)) rfl (by kernel_rfl) (by kernel_rfl) (by kernel_rfl) (fun _ _ _ h => h) (Or.inl ⟨by kernel_rfl, fun w9 h9 => ?_⟩) HSB.out ?_
  · go_simp
  refine wpAnyH_take (i := 11) (v := .agg #[.string ⟨#[109, 101, 109, 61]⟩, .pointer (some ⟨b, 3, none⟩)]) rfl (by kernel_rfl) (by kernel_rfl) (by kernel_rfl) (fun _ _ _ h => h) (Or.inl ⟨by kernel_rfl, fun w9 h9 => ?_⟩) HSB.out ?_
  · go_simp
  refine wpAnyH_take (i := 12) (v := .pointer (some ⟨b, 0, none⟩)) rfl (by kernel_rfl) (by kernel_rfl) (by kernel_rfl) (fun _ _ _ h => h) (Or.inl ⟨by kernel_rfl, fun w9 h9 => ?_⟩) HSB.out ?_
  · go_simp
  refine wpAnyH_take (i := 13) (v := .pointer (some ⟨b, 0, none⟩)) rfl (by kernel_rfl) (by kernel_rfl) (by kernel_rfl) (fun _ _ _ h => h) (Or.inl ⟨by kernel_rfl, fun w9 h9 => ?_⟩) HSB.out ?_
  · go_simp
  refine wpAnyH_take (i := 14) (v := .pointer (some ⟨b, 4, none⟩)) rfl (by kernel_rfl) (by kernel_rfl) (by kernel_rfl) (fun _ _ _ h => h) (Or.inl ⟨by kernel_rfl, fun w9 h9 => ?_⟩) HSB.out ?_
  · go_simp
  refine wpAnyH_take (i := 15) (v := .agg #[.string ⟨#[122, 111, 110, 101, 61]⟩, .pointer (some ⟨b, 4, none⟩)]) rfl (by kernel_rfl) (by kernel_rfl) (by kernel_rfl) (fun _ _ _ h => h) (Or.inl ⟨by kernel_rfl, fun w9 h9 => ?_⟩) HSB.out ?_
  · go_simp
  refine wpAnyH_take (i := 16) (v := .pointer (some ⟨b, 0, none⟩)) rfl (by kernel_rfl) (by kernel_rfl) (by kernel_rfl) (fun _ _ _ h => h) (Or.inl ⟨by kernel_rfl, fun w9 h9 => ?_⟩) HSB.out ?_
  · go_simp
  refine wpAnyH_take (i := 17) (v := .pointer (some ⟨b, 0, none⟩)) rfl (by kernel_rfl) (by kernel_rfl) (by kernel_rfl) (fun _ _ _ h => h) (Or.inl ⟨by kernel_rfl, fun w9 h9 => ?_⟩) HSB.out ?_
  · go_simp
  refine wpAnyH_take (i := 18) (v := .pointer (some ⟨b, 5, none⟩)) rfl (by kernel_rfl) (by kernel_rfl) (by kernel_rfl) (fun _ _ _ h => h) (Or.inl ⟨by kernel_rfl, fun w9 h9 => ?_⟩) HSB.out ?_
  · go_simp
  refine wpAnyH_take (i := 19) (v := .agg #[.string ⟨#[97, 112, 97, 114, 116, 61]⟩, .pointer (some ⟨b, 5, none⟩)]) rfl (by kernel_rfl) (by kernel_rfl) (by kernel_rfl) (fun _ _ _ h => h) (Or.inl ⟨by kernel_rfl, fun w9 h9 => ?_⟩) HSB.out ?_
  · go_simp
  refine held_one 20 (by kernel_rfl) rfl (by kernel_rfl) fun K hK => ?_
  go_simp
  refine hK _ _ (HSB.out.trans ((bx1 _ _).mono HSB.out.size)) ?_
  clear hK K
  refine wpAnyH_take (i := 21) (v := .slice (some ⟨w.drew.heap.size, 0, none⟩) 5 5) rfl (by kernel_rfl) (by kernel_rfl) (by kernel_rfl) (fun _ _ _ h => h) (Or.inl ⟨by kernel_rfl, fun w9 h9 => ?_⟩) (HSB.out.trans ((bx1 _ _).mono HSB.out.size)) ?_
  · go_simp
  refine wpAnyH_done (by kernel_rfl) ?_ _
  go_simp
  go_wp2
  go_ret
  exact ⟨rfl, HN.out⟩
set_option maxRecDepth 100000 in
set_option maxHeartbeats 8000000 in
theorem implVT_any (v : VMC) (w : World) (ht : Tab w) (hw : 0 < w.heap.size) : Calls Tryd.prog 9 #[.agg #[.string v.name, .int .i64 v.tenant, .int .i64 v.cpu, .int .i64 v.mem, .int .i64 v.zone, .int .i64 v.apart, .string v.node, .int .i64 v.epoch]] w fun e w' => e = .returned (.string (vtV v)) ∧ Below w.heap.size w w' := by
  have HI : Hid (∀ u, Calls Tryd.prog 18 #[.agg #[.string v.name, .int .i64 v.tenant, .int .i64 v.cpu, .int .i64 v.mem, .int .i64 v.zone, .int .i64 v.apart, .string v.node, .int .i64 v.epoch], .int .i64 8] u fun e w' => e = .returned (.bool (vmB 8 v)) ∧ Below u.heap.size u w') := fun u => vmOne_any v 8 (by decide) u
  have HL0 : Hid (LG w (w.alloc (.cells #[.string v.name, .int .i64 v.tenant, .int .i64 v.cpu, .int .i64 v.mem, .int .i64 v.zone, .int .i64 v.apart, .string v.node, .int .i64 v.epoch] 23)) w.heap.size #[.string v.name, .int .i64 v.tenant, .int .i64 v.cpu, .int .i64 v.mem, .int .i64 v.zone, .int .i64 v.apart, .string v.node, .int .i64 v.epoch] 23) := LG.new w _ _
  have HTB : Hid (∀ u, Aft w u → Tab u) := fun u hu => ht.below hu.out hw
  clear ht hw
  cases hv : vmB 8 v
  · have E : Hid (vtV v = ⟨#[]⟩) := (show _ = _ by unfold vtV; rw [hv]; rfl)
    rw [hv] at HI
    clear hv
    generalize vtV v = G at *
    go_enter Tryd.func9, Tryd.ntmps9
    go_upto_region 1 with fail
    generalize (w.alloc (.cells #[.string v.name, .int .i64 v.tenant, .int .i64 v.cpu, .int .i64 v.mem, .int .i64 v.zone, .int .i64 v.apart, .string v.node, .int .i64 v.epoch] 23)) = u0 at *
    generalize w.heap.size = b0 at *
    have k0 := HL0.out.cel 0 _ rfl
    have k1 := HL0.out.cel 1 _ rfl
    have k2 := HL0.out.cel 2 _ rfl
    have k3 := HL0.out.cel 3 _ rfl
    have k4 := HL0.out.cel 4 _ rfl
    have k5 := HL0.out.cel 5 _ rfl
    have k6 := HL0.out.cel 6 _ rfl
    have k7 := HL0.out.cel 7 _ rfl
    have kl := HL0.out.lt
    go_wp2_with (go_at_call 18; refine Calls.mono (HI.out _) ?_; rintro e u1 ⟨rfl, hb⟩; have HL1 : Hid (Below _ w u1) := (HL0.out.step hb).bel; clear hb)
    go_ret
    exact ⟨ret_str E.out.symm, HL1.out⟩
  · have E : Hid (vtV v = ⟨(catB (vtL v 5)).toArray⟩) := (show vtV v = _ by unfold vtV; rw [hv, if_pos rfl]; rfl)
    have HZ : Hid ((catB (vtL v 5)).length ≤ 300) := vtL_size hv
    have HVB : Hid (∀ k, k < 5 → 0 ≤ vnN v k ∧ vnN v k ≤ 1000) := (by
      obtain ⟨n0, c0, c1, m0, m1, t0, t1, z0, z1, a0, a1⟩ := vm_b hv
      intro k hk
      obtain rfl | rfl | rfl | rfl | rfl : k = 0 ∨ k = 1 ∨ k = 2 ∨ k = 3 ∨ k = 4 := by omega
      all_goals simp [vnN]
      all_goals omega)
    rw [hv] at HI
    clear hv
    generalize vtV v = G at *
    have HV1 : Hid (∀ u : World, (u.alloc (.cells #[.string v.name] 9)).ownsRow u.heap.size 9 1 (.slice (some ⟨u.heap.size, 0, none⟩) 1 1) 1 (sR (vtL v 0))) := fun u => World.ownsRow_lit u #[.string v.name] 1 (by simp) (by decide) rfl
    have HF : Hid (∀ b u, Calls Tryd.prog 19 #[.pointer (some ⟨b, 0, none⟩)] u fun e w' => e = .returned (.slice (some ⟨u.heap.size, 0, none⟩) 5 5) ∧ LG u w' u.heap.size #[.string ⟨#[116, 101, 110, 97, 110, 116, 61]⟩, .pointer (some ⟨b, 1, none⟩), .string ⟨#[99, 112, 117, 61]⟩, .pointer (some ⟨b, 2, none⟩), .string ⟨#[109, 101, 109, 61]⟩, .pointer (some ⟨b, 3, none⟩), .string ⟨#[122, 111, 110, 101, 61]⟩, .pointer (some ⟨b, 4, none⟩), .string ⟨#[97, 112, 97, 114, 116, 61]⟩, .pointer (some ⟨b, 5, none⟩)] 45) := fun b u => fields_any b u
    go_enter Tryd.func9, Tryd.ntmps9
    go_upto_region 1 with fail
    generalize (w.alloc (.cells #[.string v.name, .int .i64 v.tenant, .int .i64 v.cpu, .int .i64 v.mem, .int .i64 v.zone, .int .i64 v.apart, .string v.node, .int .i64 v.epoch] 23)) = u0 at *
    generalize hb0 : w.heap.size = b0 at *
    have HB9 : Hid (w.heap.size = b0) := hb0
    clear hb0
    have k0 := HL0.out.cel 0 _ rfl
    have k1 := HL0.out.cel 1 _ rfl
    have k2 := HL0.out.cel 2 _ rfl
    have k3 := HL0.out.cel 3 _ rfl
    have k4 := HL0.out.cel 4 _ rfl
    have k5 := HL0.out.cel 5 _ rfl
    have k6 := HL0.out.cel 6 _ rfl
    have k7 := HL0.out.cel 7 _ rfl
    have kl := HL0.out.lt
    go_upto_region 3 with (go_at_call 18; refine Calls.mono (HI.out _) ?_; rintro e u1 ⟨rfl, hb⟩; have HL1 : Hid (LG w u1 b0 #[.string v.name, .int .i64 v.tenant, .int .i64 v.cpu, .int .i64 v.mem, .int .i64 v.zone, .int .i64 v.apart, .string v.node, .int .i64 v.epoch] 23) := HL0.out.step hb; clear hb)
    clear k0 k1 k2 k3 k4 k5 k6 k7 kl HL0 HI
    have k0 := HL1.out.cel 0 _ rfl
    have kl := HL1.out.lt
    have HO1 : Hid _ := HV1.out u1
    have HL2 : Hid (LG w (u1.alloc (.cells #[.string v.name] 9)) b0 #[.string v.name, .int .i64 v.tenant, .int .i64 v.cpu, .int .i64 v.mem, .int .i64 v.zone, .int .i64 v.apart, .string v.node, .int .i64 v.epoch] 23) := HL1.out.step (bx1 _ _)
    go_upto_region 4 with fail
    generalize hB : u1.heap.size = B at *
    have HB0 : Hid (b0 < B) := (show b0 < B by rw [← hB]; exact HL1.out.lt)
    have HBB0 : Hid (w.heap.size ≤ B) := (show _ ≤ _ by have := HB0.out; have := HB9.out; omega)
    have HU2 : Hid (B < (u1.alloc (.cells #[.string v.name] 9)).heap.size) := (show _ < _ by rw [← hB]; simp)
    clear k0 kl HL1 HV1
    generalize (u1.alloc (.cells #[.string v.name] 9)) = u2 at *
    go_upto_region 5 with (go_at_call 19; refine Calls.mono (HF.out _ _) ?_; rintro e u4 ⟨rfl, hx⟩; have HG4 : Hid (LG w u4 u2.heap.size #[.string ⟨#[116, 101, 110, 97, 110, 116, 61]⟩, .pointer (some ⟨b0, 1, none⟩), .string ⟨#[99, 112, 117, 61]⟩, .pointer (some ⟨b0, 2, none⟩), .string ⟨#[109, 101, 109, 61]⟩, .pointer (some ⟨b0, 3, none⟩), .string ⟨#[122, 111, 110, 101, 61]⟩, .pointer (some ⟨b0, 4, none⟩), .string ⟨#[97, 112, 97, 114, 116, 61]⟩, .pointer (some ⟨b0, 5, none⟩)] 45) := ⟨HL2.out.bel.trans (hx.bel.mono HL2.out.bel.size), hx.box, Nat.le_trans HL2.out.bel.size hx.ge⟩; have HL4 : Hid (LG w u4 b0 #[.string v.name, .int .i64 v.tenant, .int .i64 v.cpu, .int .i64 v.mem, .int .i64 v.zone, .int .i64 v.apart, .string v.node, .int .i64 v.epoch] 23) := HL2.out.step hx.bel; have HO4 : Hid (u4.ownsRow B 9 1 (.slice (some ⟨B, 0, none⟩) 1 1) 1 (sR (vtL v 0))) := own_belowN HO1.out hx.bel; have HU4 : Hid (B ≤ u4.heap.size) := (show _ ≤ _ by have := hx.bel.size; have := HU2.out; omega); clear hx)
    have HGB : Hid (B < u2.heap.size) := HU2.out
    clear HO1 HL2 HF HU2
    generalize u2.heap.size = g at *
    go_loopw [3, 14] (fun st i wr => ∃ k : Nat, k ≤ 5 ∧ i = .int .i64 k ∧ wr.ownsRow B 9 1 st (3 * k + 1) (sR (vtL v k)) ∧ (∀ j, st.ownBlock = some j → j ≠ g) ∧ LG w wr b0 #[.string v.name, .int .i64 v.tenant, .int .i64 v.cpu, .int .i64 v.mem, .int .i64 v.zone, .int .i64 v.apart, .string v.node, .int .i64 v.epoch] 23 ∧ LG w wr g #[.string ⟨#[116, 101, 110, 97, 110, 116, 61]⟩, .pointer (some ⟨b0, 1, none⟩), .string ⟨#[99, 112, 117, 61]⟩, .pointer (some ⟨b0, 2, none⟩), .string ⟨#[109, 101, 109, 61]⟩, .pointer (some ⟨b0, 3, none⟩), .string ⟨#[122, 111, 110, 101, 61]⟩, .pointer (some ⟨b0, 4, none⟩), .string ⟨#[97, 112, 97, 114, 116, 61]⟩, .pointer (some ⟨b0, 5, none⟩)] 45 ∧ B ≤ wr.heap.size) (fun _ i _ => 5 - (intOf i).toNat)
    case atStart => exact ⟨0, by omega, rfl, HO4.out, (by intro j hj; simp [Value.ownBlock] at hj; have := HGB.out; omega), HL4.out, HG4.out, HU4.out⟩
    case round =>
      obtain ⟨k, hk, rfl, hown, hng, hlb, hlg, hbb⟩ := hrel
      obtain ⟨a3, c3, rfl⟩ := s_slV hown
      have HOW : Hid (wr.ownsRow B 9 1 (.slice a3 (3 * k + 1) c3) (3 * k + 1) (sR (vtL v k))) := hown
      clear HO4 HL4 HG4 HU4
      by_cases hlt : k < 5
      · have HT : Hid (vtL v (k + 1) = vtL v k ++ [vbl, vkS k, decB (vnN v k)]) := vtL_succ v k hlt
        obtain ⟨n0, n1⟩ := HVB.out k hlt
        have HD : Hid (∀ u, Aft w u → Calls Tryd.prog 20 #[.int .i64 (vnN v k)] u fun e w' => e = .returned (.string (decB (vnN v k))) ∧ Below u.heap.size u w') := fun u hu => decimal_any _ (by omega) (by omega) u (HTB.out u hu)
        have HC : Hid ((#[.string v.name, .int .i64 v.tenant, .int .i64 v.cpu, .int .i64 v.mem, .int .i64 v.zone, .int .i64 v.apart, .string v.node, .int .i64 v.epoch] : Array Value)[k + 1]? = some (.int .i64 (vnN v k))) := (by
          obtain rfl | rfl | rfl | rfl | rfl : k = 0 ∨ k = 1 ∨ k = 2 ∨ k = 3 ∨ k = 4 := by omega
          all_goals rfl)
        have q0 : wr.cell? ⟨g, k * 2, none⟩ = some (.string (vkS k)) := hlg.cel (k * 2) _ (by
          obtain rfl | rfl | rfl | rfl | rfl : k = 0 ∨ k = 1 ∨ k = 2 ∨ k = 3 ∨ k = 4 := by omega
          all_goals rfl)
        have q1 : wr.cell? ⟨g, k * 2 + 1, none⟩ = some (.pointer (some ⟨b0, k + 1, none⟩)) := hlg.cel (k * 2 + 1) _ (by
          obtain rfl | rfl | rfl | rfl | rfl : k = 0 ∨ k = 1 ∨ k = 2 ∨ k = 3 ∨ k = 4 := by omega
          all_goals rfl)
        have hgl := hlg.lt
        generalize vkS k = mk at *
        generalize decB (vnN v k) = dk at *
        generalize vnN v k = nk at *
        have HLN : Hid (LG w (wr.alloc (.cells #[.string mk, .pointer (some ⟨b0, k + 1, none⟩)] 45)) wr.heap.size #[.string mk, .pointer (some ⟨b0, k + 1, none⟩)] 45 ∧ LG w (wr.alloc (.cells #[.string mk, .pointer (some ⟨b0, k + 1, none⟩)] 45)) b0 #[.string v.name, .int .i64 v.tenant, .int .i64 v.cpu, .int .i64 v.mem, .int .i64 v.zone, .int .i64 v.apart, .string v.node, .int .i64 v.epoch] 23 ∧ LG w (wr.alloc (.cells #[.string mk, .pointer (some ⟨b0, k + 1, none⟩)] 45)) g #[.string ⟨#[116, 101, 110, 97, 110, 116, 61]⟩, .pointer (some ⟨b0, 1, none⟩), .string ⟨#[99, 112, 117, 61]⟩, .pointer (some ⟨b0, 2, none⟩), .string ⟨#[109, 101, 109, 61]⟩, .pointer (some ⟨b0, 3, none⟩), .string ⟨#[122, 111, 110, 101, 61]⟩, .pointer (some ⟨b0, 4, none⟩), .string ⟨#[97, 112, 97, 114, 116, 61]⟩, .pointer (some ⟨b0, 5, none⟩)] 45) := ⟨⟨hlb.bel.trans ((bx1 wr _).mono hlb.bel.size), heap_new _ _, hlb.bel.size⟩, hlb.step (bx1 _ _), hlg.step (bx1 _ _)⟩
        have HO0 : Hid ((wr.alloc (.cells #[.string mk, .pointer (some ⟨b0, k + 1, none⟩)] 45)).ownsRow B 9 1 (.slice a3 (3 * k + 1) c3) (3 * k + 1) (sR (vtL v k))) := World.ownsRow.alloc HOW.out _
        have HLT : Hid (∀ j, (Value.slice a3 (3 * k + 1) c3).ownBlock = some j → j < wr.heap.size ∧ j ≠ g) := fun j hj => ⟨(HOW.out.lt j hj).2, hng j hj⟩
        have hgw : g < wr.heap.size := hgl
        have hk0 : (0 : Int) ≤ (k : Int) := by omega
        have hk1 : (k : Int) < 5 := by omega
        clear hown hng hlb hlg HOW hbb
        go_upto_region 7 with fail
        clear q0 q1 hgl hgw
        generalize (wr.alloc (.cells #[.string mk, .pointer (some ⟨b0, k + 1, none⟩)] 45)) = v0 at *
        generalize wr.heap.size = bn at *
        have HSB : Hid (LG w v0.drew bn #[.string mk, .pointer (some ⟨b0, k + 1, none⟩)] 45 ∧ LG w v0.drew b0 #[.string v.name, .int .i64 v.tenant, .int .i64 v.cpu, .int .i64 v.mem, .int .i64 v.zone, .int .i64 v.apart, .string v.node, .int .i64 v.epoch] 23 ∧ LG w v0.drew g #[.string ⟨#[116, 101, 110, 97, 110, 116, 61]⟩, .pointer (some ⟨b0, 1, none⟩), .string ⟨#[99, 112, 117, 61]⟩, .pointer (some ⟨b0, 2, none⟩), .string ⟨#[109, 101, 109, 61]⟩, .pointer (some ⟨b0, 3, none⟩), .string ⟨#[122, 111, 110, 101, 61]⟩, .pointer (some ⟨b0, 4, none⟩), .string ⟨#[97, 112, 97, 114, 116, 61]⟩, .pointer (some ⟨b0, 5, none⟩)] 45) := ⟨HLN.out.1.drew, HLN.out.2.1.drew, HLN.out.2.2.drew⟩
        have HO0d : Hid (v0.drew.ownsRow B 9 1 (.slice a3 (3 * k + 1) c3) (3 * k + 1) (sR (vtL v k))) := HO0.out
        refine wp_region_held (S := fun w9 => LG w w9 bn #[.string mk, .pointer (some ⟨b0, k + 1, none⟩)] 45 ∧ LG w w9 b0 #[.string v.name, .int .i64 v.tenant, .int .i64 v.cpu, .int .i64 v.mem, .int .i64 v.zone, .int .i64 v.apart, .string v.node, .int .i64 v.epoch] 23 ∧ LG w w9 g #[.string ⟨#[116, 101, 110, 97, 110, 116, 61]⟩, .pointer (some ⟨b0, 1, none⟩), .string ⟨#[99, 112, 117, 61]⟩, .pointer (some ⟨b0, 2, none⟩), .string ⟨#[109, 101, 109, 61]⟩, .pointer (some ⟨b0, 3, none⟩), .string ⟨#[122, 111, 110, 101, 61]⟩, .pointer (some ⟨b0, 4, none⟩), .string ⟨#[97, 112, 97, 114, 116, 61]⟩, .pointer (some ⟨b0, 5, none⟩)] 45) (by kernel_rfl) ?_
        change wpAnyH _ _ _ _ _ _ _ _ (World.drew _)
        refine wpAnyH_take (i := 0) (v := .slice a3 (3 * k + 1) c3) rfl (by kernel_rfl) (by kernel_rfl) (by kernel_rfl) (fun _ _ _ h => h) (Or.inl ⟨by kernel_rfl, fun w9 h9 => ?_⟩) HSB.out ?_
        · go_simp
        refine wpAnyH_take (i := 1) (v := .pointer (some ⟨bn, 0, none⟩)) rfl (by kernel_rfl) (by kernel_rfl) (by kernel_rfl) (fun _ _ _ h => h) (Or.inl ⟨by kernel_rfl, fun w9 h9 => ?_⟩) HSB.out ?_
        · go_simp
        refine wpAnyH_take (i := 2) (v := .string mk) rfl (by kernel_rfl) (by kernel_rfl) (by kernel_rfl) (fun _ _ _ h => h) (Or.inl ⟨by kernel_rfl, fun w9 h9 => ?_⟩) HSB.out ?_
        · have k0 := h9.1.cel 0 _ rfl; have k1 := h9.1.cel 1 _ rfl; have kc := h9.2.1.cel (k + 1) _ HC.out; clear h9; go_simp
        refine wpAnyH_take (i := 3) (v := .pointer (some ⟨bn, 1, none⟩)) rfl (by kernel_rfl) (by kernel_rfl) (by kernel_rfl) (fun _ _ _ h => h) (Or.inl ⟨by kernel_rfl, fun w9 h9 => ?_⟩) HSB.out ?_
        · go_simp
        refine wpAnyH_take (i := 4) (v := .pointer (some ⟨b0, k + 1, none⟩)) rfl (by kernel_rfl) (by kernel_rfl) (by kernel_rfl) (fun _ _ _ h => h) (Or.inl ⟨by kernel_rfl, fun w9 h9 => ?_⟩) HSB.out ?_
        · have k0 := h9.1.cel 0 _ rfl; have k1 := h9.1.cel 1 _ rfl; have kc := h9.2.1.cel (k + 1) _ HC.out; clear h9; go_simp
        refine wpAnyH_take (i := 5) (v := .pointer (some ⟨b0, k + 1, none⟩)) rfl (by kernel_rfl) (by kernel_rfl) (by kernel_rfl) (fun _ _ _ h => h) (Or.inl ⟨by kernel_rfl, fun w9 h9 => ?_⟩) HSB.out ?_
        · go_simp
        refine wpAnyH_take (i := 6) (v := .int .i64 nk) rfl (by kernel_rfl) (by kernel_rfl) (by kernel_rfl) (fun _ _ _ h => h) (Or.inl ⟨by kernel_rfl, fun w9 h9 => ?_⟩) HSB.out ?_
        · have k0 := h9.1.cel 0 _ rfl; have k1 := h9.1.cel 1 _ rfl; have kc := h9.2.1.cel (k + 1) _ HC.out; clear h9; go_simp
        refine held_one 7 (by kernel_rfl) rfl (by kernel_rfl) fun K hK => ?_
        go_simp
        go_wp2_with (go_at_call 20; refine Calls.mono (HD.out _ HSB.out.1.aft) ?_; rintro e u3 ⟨rfl, hu⟩; have HS3 : Hid (LG w u3 bn #[.string mk, .pointer (some ⟨b0, k + 1, none⟩)] 45 ∧ LG w u3 b0 #[.string v.name, .int .i64 v.tenant, .int .i64 v.cpu, .int .i64 v.mem, .int .i64 v.zone, .int .i64 v.apart, .string v.node, .int .i64 v.epoch] 23 ∧ LG w u3 g #[.string ⟨#[116, 101, 110, 97, 110, 116, 61]⟩, .pointer (some ⟨b0, 1, none⟩), .string ⟨#[99, 112, 117, 61]⟩, .pointer (some ⟨b0, 2, none⟩), .string ⟨#[109, 101, 109, 61]⟩, .pointer (some ⟨b0, 3, none⟩), .string ⟨#[122, 111, 110, 101, 61]⟩, .pointer (some ⟨b0, 4, none⟩), .string ⟨#[97, 112, 97, 114, 116, 61]⟩, .pointer (some ⟨b0, 5, none⟩)] 45) := ⟨HSB.out.1.step hu, HSB.out.2.1.step hu, HSB.out.2.2.step hu⟩; have HO3 : Hid (u3.ownsRow B 9 1 (.slice a3 (3 * k + 1) c3) (3 * k + 1) (sR (vtL v k))) := own_belowN HO0d.out hu; clear hu)
        refine hK _ _ HS3.out ?_
        clear hK K
        refine held_one 8 (by kernel_rfl) rfl (by kernel_rfl) fun K hK => ?_
        have HAP : Hid _ := app3S HO3.out vbl mk dk (by omega) (by have := HGB.out; have := HS3.out.2.2.lt; omega)
        have HOB : Hid (∀ j, (Value.slice a3 (3 * k + 1) c3).ownBlock = some j → B ≤ j ∧ j < bn ∧ j ≠ g) := fun j hj => ⟨(HO3.out.lt j hj).1, HLT.out j hj⟩
        go_simp
        refine hK _ _ ⟨HS3.out.1.step (bx1 _ _), HS3.out.2.1.step (bx1 _ _), HS3.out.2.2.step (bx1 _ _)⟩ ?_
        clear hK K
        refine held_one 9 (by kernel_rfl) rfl (by kernel_rfl) fun K hK => ?_
        have HS4 : Hid (LG w (u3.alloc (.cells #[.string vbl, .string mk, .string dk] 9)) bn #[.string mk, .pointer (some ⟨b0, k + 1, none⟩)] 45 ∧ LG w (u3.alloc (.cells #[.string vbl, .string mk, .string dk] 9)) b0 #[.string v.name, .int .i64 v.tenant, .int .i64 v.cpu, .int .i64 v.mem, .int .i64 v.zone, .int .i64 v.apart, .string v.node, .int .i64 v.epoch] 23 ∧ LG w (u3.alloc (.cells #[.string vbl, .string mk, .string dk] 9)) g #[.string ⟨#[116, 101, 110, 97, 110, 116, 61]⟩, .pointer (some ⟨b0, 1, none⟩), .string ⟨#[99, 112, 117, 61]⟩, .pointer (some ⟨b0, 2, none⟩), .string ⟨#[109, 101, 109, 61]⟩, .pointer (some ⟨b0, 3, none⟩), .string ⟨#[122, 111, 110, 101, 61]⟩, .pointer (some ⟨b0, 4, none⟩), .string ⟨#[97, 112, 97, 114, 116, 61]⟩, .pointer (some ⟨b0, 5, none⟩)] 45) := ⟨HS3.out.1.step (bx1 _ _), HS3.out.2.1.step (bx1 _ _), HS3.out.2.2.step (bx1 _ _)⟩
        refine wp_append_exV _ _ 31 rfl (.slice a3 (3 * k + 1) c3) (.slice (some ⟨u3.heap.size, 0, none⟩) 3 3) rfl rfl HAP.out ?_
        rintro sv u5 ⟨ho, hg, hown2⟩
        obtain ⟨a5, c5, rfl⟩ := s_slV ho
        have hob := HOB.out
        have hb0B := HB0.out
        have HK5 : Hid (∀ (b t : Nat) (cs : Array Value), LG w (u3.alloc (.cells #[.string vbl, .string mk, .string dk] 9)) b cs t → some b ≠ (Value.slice a3 (3 * k + 1) c3).ownBlock → LG w u5 b cs t) := fun b t cs h hne => ⟨h.bel.grown hg h.bel.size (fun j hj => by have := hob j hj; have := HBB0.out; omega), (hg.block b h.lt hne).trans h.box, h.ge⟩
        have HS5 : Hid (LG w u5 bn #[.string mk, .pointer (some ⟨b0, k + 1, none⟩)] 45 ∧ LG w u5 b0 #[.string v.name, .int .i64 v.tenant, .int .i64 v.cpu, .int .i64 v.mem, .int .i64 v.zone, .int .i64 v.apart, .string v.node, .int .i64 v.epoch] 23 ∧ LG w u5 g #[.string ⟨#[116, 101, 110, 97, 110, 116, 61]⟩, .pointer (some ⟨b0, 1, none⟩), .string ⟨#[99, 112, 117, 61]⟩, .pointer (some ⟨b0, 2, none⟩), .string ⟨#[109, 101, 109, 61]⟩, .pointer (some ⟨b0, 3, none⟩), .string ⟨#[122, 111, 110, 101, 61]⟩, .pointer (some ⟨b0, 4, none⟩), .string ⟨#[97, 112, 97, 114, 116, 61]⟩, .pointer (some ⟨b0, 5, none⟩)] 45) := ⟨HK5.out _ _ _ HS4.out.1 (fun e9 => by have := hob _ e9.symm; omega), HK5.out _ _ _ HS4.out.2.1 (fun e9 => by have := hob _ e9.symm; omega), HK5.out _ _ _ HS4.out.2.2 (fun e9 => by have := hob _ e9.symm; omega)⟩
        have HO5 : Hid (u5.ownsRow B 9 1 (.slice a5 (3 * k + 1 + 3) c5) (3 * k + 1 + 3) (sR (vtL v (k + 1)))) := (by rw [HT.out]; unfold sR at ho ⊢; rw [List.map_append]; exact ho)
        have HL5 : Hid (∀ j, (Value.slice a5 (3 * k + 1 + 3) c5).ownBlock = some j → j ≠ g) := (by intro j hj e9; subst e9; exact hown2.elim (fun h9 => (hob _ (h9 ▸ hj)).2.2 rfl) (fun h9 => by rw [h9] at hj; injection hj with hj; have := HS3.out.2.2.lt; omega))
        clear ho hg hob hown2
        refine hK _ _ HS5.out ?_
        clear hK K
        refine wpAnyH_take (i := 10) (v := .slice a5 (3 * k + 1 + 3) c5) rfl (by kernel_rfl) (by kernel_rfl) (by kernel_rfl) (fun _ _ _ h => h) (Or.inl ⟨by kernel_rfl, fun w9 h9 => ?_⟩) HS5.out ?_
        · go_simp
        refine wpAnyH_done (by kernel_rfl) ?_ _
        go_simp
        go_wp2
        exact ⟨⟨k + 1, hlt, by go_num, (by rw [show 3 * (k + 1) + 1 = 3 * k + 1 + 3 by omega]; exact HO5.out), HL5.out, HS5.out.2.1, HS5.out.2.2, (by have := HGB.out; have := HS5.out.2.2.lt; omega)⟩, by simp [intOf]; omega⟩
      · obtain rfl : k = 5 := by omega
        have HB : Hid (Below w.heap.size w wr) := hlb.bel
        have HJ : Hid (Calls Tryd.prog 21 #[.slice a3 (3 * 5 + 1) c3] wr fun e w' => e = .returned (.string G) ∧ Below wr.heap.size wr w') := (show Calls _ _ _ _ _ by
          have h1 := joined_rowV (ps := vtL v 5) (v := .slice a3 (3 * 5 + 1) c3) (B := B) (w := wr) (by rw [vtL_len v 5 (by omega)]; exact HOW.out) (by rw [vtL_len v 5 (by omega)]; omega) (by have := HZ.out; omega)
          rw [← E.out] at h1
          exact h1)
        clear hown hng hlb hlg HOW hbb
        go_wp2_with (go_at_call 21; refine Calls.mono HJ.out ?_; rintro e u9 ⟨rfl, hu⟩; have HU : Hid (Below w.heap.size w u9) := HB.out.trans (hu.mono HB.out.size); clear hu)
        go_ret
        exact ⟨rfl, HB9.out ▸ HU.out⟩
end Go.Proofs.YtkicaihfknfgkaaDoor
