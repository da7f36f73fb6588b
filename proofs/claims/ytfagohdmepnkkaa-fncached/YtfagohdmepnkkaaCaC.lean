import Derived.Test.YtfagohdmepnkkaaCaW
import Derived.Test.YtfagohdmepnkkaaTFl4
import Derived.Test.YtfagohdmepnkkaaTPut2
import Derived.Test.YtfagohdmepnkkaaTPut4
import Derived.Test.YtfagohdmepnkkaaTFn3
import Derived.Test.YtfagohdmepnkkaaTlbF4
import Derived.Test.YtfagohdmepnkkaaDr8
import Derived.Test.YtfagohdmepnkkaaLawWk
namespace Go.Proofs.Ytfagohdmepnkkaa
open Go.ChangeShapes Go.WideShapes Go.ChangeAt Go.RowKit

theorem flA {u : World} {B : Nat} {ao : Option Addr} {cap : Nat} {zs : List TE} (h : u.ownsRow B 66 5 (.slice ao zs.length cap) zs.length (teR zs)) (nx va : Int) (hc : tlbC zs nx = 0) (v0 : 0 ≤ va) :
    Calls Try.prog 33 #[.agg #[.slice ao zs.length cap, .int .i64 nx], .int .i64 (-1), .int .i64 va] u fun r w' => ∃ (ao2 : Option Addr) (zc : List TE) (cap2 : Nat), r = .returned (.agg #[.slice ao2 zc.length cap2, .int .i64 0]) ∧ w'.ownsRow 0 66 5 (.slice ao2 zc.length cap2) zc.length (teR zc) ∧ (tlbC zc 0 = 0 ∧ ∀ x ∈ zc, holdsB x va = false) ∧ Below u.heap.size u w' := by
  refine (implFlush_good h nx (-1) va ((tlbC_iff zs nx).1 hc).1 hc).mono ?_
  rintro r w' ⟨ao2, cap2, rfl, ho, hb⟩
  exact ⟨ao2, _, cap2, rfl, te_weak ho (Nat.zero_le _), ⟨tlbC_filter hc _, fun x hx => clear_no v0 hx⟩, hb⟩
theorem puA {u : World} {B : Nat} {ao : Option Addr} {cap : Nat} {zc : List TE} {va : Int} (h : u.ownsRow B 66 5 (.slice ao zc.length cap) zc.length (teR zc)) (hc : tlbC zc 0 = 0 ∧ ∀ x ∈ zc, holdsB x va = false) (e : TE) (he : teOk e = true) (hh : holdsB e va = true) :
    Calls Try.prog 34 #[.agg #[.slice ao zc.length cap, .int .i64 0], .agg #[.int .i64 e.asid, .int .i64 e.page, .int .i64 e.frame, .int .i64 e.flags, .bool e.large]] u fun r w' => ∃ (ao2 : Option Addr) (zu : List TE) (cap2 : Nat) (nu : Int), r = .returned (.agg #[.slice ao2 zu.length cap2, .int .i64 nu]) ∧ w'.ownsRow 0 66 5 (.slice ao2 zu.length cap2) zu.length (teR zu) ∧ (tlbC zu nu = 0 ∧ ∃ (k : Nat) (hk : k < zu.length), zu[k] = e ∧ ∀ (j : Nat) (hj : j < zu.length), j ≠ k → holdsB zu[j] va = false) ∧ Below u.heap.size u w' := by
  refine (implPut_good h 0 e ((tlbC_iff zc 0).1 hc.1).1 hc.1 (by decide) (by decide)).mono ?_
  rintro r w' ⟨ao2, cap2, rfl, ho, hb⟩
  exact ⟨ao2, _, cap2, _, rfl, te_weak ho (Nat.zero_le _), put_new hc.1 hc.2 he hh, hb⟩
theorem fnA {u : World} {B : Nat} {ao : Option Addr} {cap : Nat} {zu : List TE} {nu va : Int} {e : TE} (h : u.ownsRow B 66 5 (.slice ao zu.length cap) zu.length (teR zu)) (hu : tlbC zu nu = 0 ∧ ∃ (k : Nat) (hk : k < zu.length), zu[k] = e ∧ ∀ (j : Nat) (hj : j < zu.length), j ≠ k → holdsB zu[j] va = false) (acc : Int) (user : Bool) (pa : Int) (v0 : 0 ≤ va) (v1 : va ≤ 262143) (a0 : 1 ≤ acc) (a1 : acc ≤ 3) (hh : holdsB e va = true) (ha : e.asid = 7) (ht : ∀ k : Nat, tfR e va acc user k = hitA true pa k) :
    Calls Try.prog 35 #[.agg #[.slice ao zu.length cap, .int .i64 nu], .int .i64 7, .int .i64 va, .int .i64 acc, .bool user] u fun r w' => ∃ k : Int, r = .returned (.agg #[.bool true, .int .i64 pa, .int .i64 k]) ∧ Below u.heap.size u w' := by
  obtain ⟨hc, k, hk, hz, ho⟩ := hu
  have hl := ((tlbC_iff zu nu).1 hc).1
  refine (implFind_at (TErow.of h) nu 7 va acc user (by omega) hc (by decide) (by decide) v0 (by omega) a0 a1 k hk (find_new hk hz ho hh ha)).mono ?_
  rintro r w' ⟨rfl, hb⟩
  refine ⟨k, ?_, hb⟩
  rw [hz, ht k]
  rfl
theorem gnA {u : World} {B : Nat} {ao : Option Addr} {cap : Nat} {zc : List TE} {va : Int} (h : u.ownsRow B 66 5 (.slice ao zc.length cap) zc.length (teR zc)) (hc : tlbC zc 0 = 0 ∧ ∀ x ∈ zc, holdsB x va = false) (acc : Int) (user : Bool) (v0 : 0 ≤ va) (v1 : va ≤ 262143) (a0 : 1 ≤ acc) (a1 : acc ≤ 3) :
    Calls Try.prog 35 #[.agg #[.slice ao zc.length cap, .int .i64 0], .int .i64 7, .int .i64 va, .int .i64 acc, .bool user] u fun r w' => r = .returned (.agg #[.bool false, .int .i64 0, .int .i64 0]) ∧ Below u.heap.size u w' := by
  have hl := ((tlbC_iff zc 0).1 hc.1).1
  refine (implFind_none (TErow.of h) 0 7 va acc user (by omega) hc.1 (by decide) (by decide) v0 (by omega) a0 a1 ?_).mono ?_
  · refine idxI_none fun j hj => ?_
    unfold fP
    rw [hc.2 _ (List.getElem_mem hj)]
    rfl
  · rintro r w' ⟨rfl, hb⟩
    exact ⟨rfl, hb⟩
theorem tlI {u : World} {B : Nat} {v : Value} {zs : List TE} (h : u.ownsRow B 66 5 v zs.length (teR zs)) (nx : Int) (hl : zs.length ≤ 17) : Calls Try.prog 31 #[.agg #[v, .int .i64 nx]] u fun r w' => r = .returned (.int .i64 (tlbC zs nx)) ∧ Below u.heap.size u w' := implFaultT_any (TErow.of h) nx (by omega)
theorem tlS {u : World} {B : Nat} {v : Value} {zs : List TE} (h : u.ownsRow B 66 5 v zs.length (teR zs)) (nx : Int) (hl : zs.length ≤ 17) : Calls Try.prog 32 #[.agg #[v, .int .i64 nx]] u fun r w' => r = .returned (.int .i64 (tlbC zs nx)) ∧ Below u.heap.size u w' := specFaultT_any (TErow.of h) nx (by omega)
/-- An entry in its box. -/
def EBx (U : World) (p : Nat) (e : TE) : Prop := U.heap[p]? = some (.cells #[.int .i64 e.asid, .int .i64 e.page, .int .i64 e.frame, .int .i64 e.flags, .bool e.large] 66 (0, 0))
theorem ebx_page {U : World} {p : Nat} {x0 x1 x2 x3 : Int} {x4 : Bool} (h : EBx U p ⟨x0, x1, x2, x3, x4⟩) (y : Int) : EBx (U.setCell ⟨p, 1, none⟩ (.int .i64 y)) p ⟨x0, y, x2, x3, x4⟩ := by
  unfold EBx at h ⊢
  have := heap_setCell_same U p 1 _ _ (.int .i64 y) h
  simpa using this
theorem ebx_frame {U : World} {p : Nat} {x0 x1 x2 x3 : Int} {x4 : Bool} (h : EBx U p ⟨x0, x1, x2, x3, x4⟩) (y : Int) : EBx (U.setCell ⟨p, 2, none⟩ (.int .i64 y)) p ⟨x0, x1, y, x3, x4⟩ := by
  unfold EBx at h ⊢
  have := heap_setCell_same U p 2 _ _ (.int .i64 y) h
  simpa using this
theorem blk {U U' : World} {p : Nat} {o : Obj} (hb : Below U.heap.size U U') (h : U.heap[p]? = some o) : U'.heap[p]? = some o := (hb.block _ (Array.getElem?_eq_some_iff.1 h).1).trans h
theorem EBx.step {U U' : World} {p : Nat} {e : TE} (h : EBx U p e) (hb : Below U.heap.size U U') : EBx U' p e := blk hb h
theorem EBx.cel {U : World} {p : Nat} {x0 x1 x2 x3 : Int} {x4 : Bool} (h : EBx U p ⟨x0, x1, x2, x3, x4⟩) : U.cell? ⟨p, 0, none⟩ = some (.int .i64 x0) ∧ U.cell? ⟨p, 1, none⟩ = some (.int .i64 x1) ∧ U.cell? ⟨p, 2, none⟩ = some (.int .i64 x2) ∧ U.cell? ⟨p, 3, none⟩ = some (.int .i64 x3) ∧ U.cell? ⟨p, 4, none⟩ = some (.bool x4) ∧ ∀ x, U.frozen? ⟨p, x, none⟩ = false := by
  unfold EBx at h
  simp [World.cell?, World.frozen?, h]
/-- A hit in its box. -/
def HBx (U : World) (p : Nat) (g : Bool) (pa k : Int) : Prop := U.heap[p]? = some (.cells #[.bool g, .int .i64 pa, .int .i64 k] 70 (0, 0))
theorem HBx.step {U U' : World} {p : Nat} {g : Bool} {pa k : Int} (h : HBx U p g pa k) (hb : Below U.heap.size U U') : HBx U' p g pa k := blk hb h
theorem HBx.cel {U : World} {p : Nat} {g : Bool} {pa k : Int} (h : HBx U p g pa k) : U.cell? ⟨p, 0, none⟩ = some (.bool g) ∧ U.cell? ⟨p, 1, none⟩ = some (.int .i64 pa) := by
  unfold HBx at h
  simp [World.cell?, h]
/-- The one operation that is ready, where it makes memory. -/
theorem held_one {P : Program} {md : Region.Mode} {ops : Array Oper} {Q : Exit → Act → World → Prop} {S : World → Prop} {fuel : Nat} {listed : Array Bool} {a : Act} {w : World} (i : Nat) {o : Oper} (hr : Region.ready md ops listed = [i]) (ho : ops[i]? = some o)
    (hw : Region.wanted o (yielded ops a.tmps) = true) (h : ∀ K : Act → World → Prop, (∀ a' w', S w' → wpAnyH P md ops Q S fuel (listed.setIfInBounds i true) a' w' → K a' w') → o.wp P a w K Q) : wpAnyH P md ops Q S (fuel + 1) listed a w :=
  wpAnyH_all hr (by simp) (all_one (held_step ho hw h))
end Go.Proofs.Ytfagohdmepnkkaa
