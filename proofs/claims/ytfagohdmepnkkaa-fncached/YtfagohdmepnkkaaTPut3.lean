import Derived.Test.YtfagohdmepnkkaaTPut2
import Derived.Maps.AppendAt
import Derived.Laws.OwnMore
namespace Go.Proofs.Ytfagohdmepnkkaa
open Go.ChangeShapes Go.WideShapes Go.ChangeAt Go.RowKit

/-- An append at a step of a drawn region, by what it is known to come to. -/
theorem step_append_ex {P : Program} (w : World) {ops : Array Oper} {o : Oper} {a : Act} {K : Act → World → Prop} {Q : Exit → Act → World → Prop} {E : Prop} (hgd : o.guard = none) (s x : Operand) (t : TypeId)
    (ho : o.op = .call { callee := .builtin .append, args := #[s, x], argTypes := #[t, t] }) (v v2 : Value) (hs : a.eval s = v) (hx : a.eval x = v2) {R : Value → World → Prop}
    (hr : ∃ v' w', (Builtin.append_ #[t, t] o.type #[v, v2]).run P w = .ok v' w' ∧ R v' w') (h : ∀ v' w', R v' w' → K (a.put o.dst v') w') :
    if Region.wanted o (yielded ops a.tmps) = true then Oper.wp P o a w K Q else E := by
  have hw : Region.wanted o (yielded ops a.tmps) = true := by simp [Region.wanted, hgd]
  rw [if_pos hw]
  obtain ⟨v', w', hr, hR⟩ := hr
  unfold Oper.wp execOp
  simp only [ho, resolve, invoke, builtin, Sem.run_bind, Sem.run_pure, Result.andThen_ok, List.map_toArray, List.map_cons, List.map_nil, hs, hx, hr]
  exact h v' w' hR
/-- What the copy by append comes to. -/
theorem append_copy {u : World} {B C : Nat} {v : Value} {ao : Option Addr} {cap : Nat} {zs : List TE} (ty : TypeId) (hv : u.ownsRow C 66 5 v 0 []) (h : u.ownsRow B 66 5 (.slice ao zs.length cap) zs.length (teR zs)) (hl : zs.length ≤ 16) (hC : C ≤ u.heap.size) :
    ∃ v' u', (Builtin.append_ #[59, 59] ty #[v, .slice ao zs.length cap]).run Try.prog u = .ok v' u' ∧ (u'.ownsRow C 66 5 v' zs.length (teR zs) ∧ u.grownBy u' v.ownBlock ∧ (v'.ownBlock = v.ownBlock ∨ v'.ownBlock = some u.heap.size)) := by
  obtain ⟨i0, hi0, hz0, hz1, hz2⟩ := info_parts Try.info66
  rcases h.2 with ⟨e, e2⟩ | ⟨g, cap2, cur, hq, _⟩
  · injection e with e3 e4 e5
    subst e3 e5
    have hz : zs = [] := List.length_eq_zero_iff.1 e2
    subst hz
    exact ⟨v, u, run_append_owned_none u C 59 ty 66 i0 5 Try.underlying59 hi0 v 0 [] hv, hv, ⟨rfl, rfl, rfl, Nat.le_refl _, fun _ _ _ => rfl⟩, .inl rfl⟩
  · injection hq with e3 e4 e5
    subst e3 e5
    obtain ⟨v', w', hr, h2, h3, _, h5⟩ := run_append_own_at (P := Try.prog) u C 59 ty 66 i0 (.agg #[.int .i64 0, .int .i64 0, .int .i64 0, .int .i64 0, .bool false]) 5 40 Try.underlying59 hi0 hz0 hz1 hz2 rfl (by decide) v 0 [] hv ⟨g, 0, none⟩ zs.length cap (teR zs) (teR_len zs) (te_rowC h rfl) (teR_one zs) (by unfold maxLen; omega) (by omega) hC
    exact ⟨v', w', hr, te_cast h2 (by omega) (by simp), h3, h5⟩
set_option maxRecDepth 100000 in
set_option maxHeartbeats 4000000 in
theorem specPut_bad {w : World} {ao : Option Addr} {cap : Nat} {zs : List TE} (h : TErow w (.slice ao zs.length cap) zs) (nx : Int) (e : TE) (hl : zs.length ≤ 1048576) (hc : tlbC zs nx = 1) :
    Calls Try.prog 125 #[tlA (.slice ao zs.length cap) nx, teA e] w fun r w' => r = .returned (tlA (.slice none 0 0) 0) ∧ Below w.heap.size w w' := by
  have HX0 : Hid (PX0 w (((w.alloc (.cells #[.slice ao zs.length cap, .int .i64 nx] 61)).alloc (.cells #[.int .i64 e.asid, .int .i64 e.page, .int .i64 e.frame, .int .i64 e.flags, .bool e.large] 66)).alloc (.cells #[.slice none 0 0, .int .i64 0] 61)) (.slice ao zs.length cap) nx e) := PX0.new w ao zs.length cap nx e
  have HF := specFaultT_any (h.below (HX0.out.bel)) nx hl
  rw [hc] at HF
  have HFH : Hid _ := HF
  clear h HF hc
  unfold tlA teA at *
  go_enter Try.func125, Try.ntmps125
  go_wp2_with (go_at_call 32; refine Calls.mono HFH.out ?_; rintro r u1 ⟨rfl, hu1⟩; have HX : Hid (PX0 w u1 (.slice ao zs.length cap) nx e) := HX0.out.step hu1; obtain ⟨k0, k1⟩ := cel2 HX.out.b2; have kf : ∀ x, u1.frozen? ⟨w.heap.size + 1 + 1, x, none⟩ = false := (fun x => by simp [World.frozen?, HX.out.b2]); have yl := HX.out.lt; clear hu1 HFH HX0)
  refine bodyPost_ret (v := .agg #[.slice none 0 0, .int .i64 0]) ?_ rfl ⟨rfl, (HX.out.bel.setCell (by simp only; omega) _).setCell (by simp only; omega) _⟩
  simp [results, Try.results125, go_sem, k0, k1]
end Go.Proofs.Ytfagohdmepnkkaa
