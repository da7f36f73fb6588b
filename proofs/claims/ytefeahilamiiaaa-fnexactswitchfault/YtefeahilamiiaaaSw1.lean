import Derived.Test.YtefeahilamiiaaaRowPQ3
import Derived.Test.YtefeahilamiiaaaRowI
import Derived.Test.YtefeahilamiiaaaRt12x
import Derived.Test.YtefeahilamiiaaaLG
namespace Go.Proofs.Ytefeahilamiiaaa
open Go.ChangeShapes Go.WideShapes Go.ChangeAt Go.RowKit

theorem celN {u : World} {p t : Nat} {cs : Array Value} (h : u.heap[p]? = some (.cells cs t (0, 0))) (k : Nat) (v : Value) (hv : cs[k]? = some v) : u.cell? ⟨p, k, none⟩ = some v := by
  simp [World.cell?, h, hv]
theorem frzN {u : World} {p t : Nat} {cs : Array Value} (h : u.heap[p]? = some (.cells cs t (0, 0))) : ∀ k, u.frozen? ⟨p, k, none⟩ = false := by
  intro k
  simp [World.frozen?, h]
/-- A port. -/
structure PO where
  net : Int
  own : Int
  up : Bool
  rate : Int
  burst : Int
  lev : Int
  ns : List Int
def poQ (p : PO) (v : Value) : PQ := ⟨p.net, v, p.own, p.up, p.rate, p.burst, p.lev⟩
def poC (p : PO) (v : Value) : Array Value := #[.int .i64 p.net, v, .int .i64 p.own, .bool p.up, .int .i64 p.rate, .int .i64 p.burst, .int .i64 p.lev]
def poA (p : PO) (v : Value) : Value := .agg (poC p v)
/-- The rows of ports. -/
structure POin (w : World) (qs : List PQ) (cs : List PO) : Prop where
  len : qs.length = cs.length
  el : ∀ k (hq : k < qs.length) (hc : k < cs.length), qs[k] = poQ cs[k] qs[k].nets ∧ Irow w qs[k].nets cs[k].ns
theorem POin.below {w w' : World} {qs : List PQ} {cs : List PO} (h : POin w qs cs) (hb : Below w.heap.size w w') : POin w' qs cs :=
  ⟨h.len, fun k hq hc => ⟨(h.el k hq hc).1, (h.el k hq hc).2.below hb⟩⟩
set_option maxRecDepth 100000 in
set_option maxHeartbeats 4000000 in
theorem toPort_any {w : World} {p : PO} {v : Value} (hp : Irow w v p.ns) (lp : p.ns.length ≤ 1048576) : Calls Try.prog 53 #[poA p v] w fun e w' => ∃ u, e = .returned (poA p u) ∧ w'.ownsRow (w.heap.size + 3) 2 1 u p.ns.length (iR p.ns) ∧ Below w.heap.size w w' := by
  obtain ⟨ap, kp, rfl⟩ := hp.sl
  have HP : Hid (Irow w (.slice ap p.ns.length kp) p.ns) := hp
  clear hp
  unfold poA poC
  go_enter Try.func53, Try.ntmps53
  go_wp2_with fail
  have HT0 : Hid (T3 w (((w.alloc (.cells #[.int .i64 p.net, .slice ap p.ns.length kp, .int .i64 p.own, .bool p.up, .int .i64 p.rate, .int .i64 p.burst, .int .i64 p.lev] 95)).alloc (.cells #[.int .i64 0, .slice none 0 0, .int .i64 0, .bool false, .int .i64 0, .int .i64 0, .int .i64 0] 73)).alloc (.cells #[.int .i64 p.net, .slice none 0 0, .int .i64 0, .bool false, .int .i64 0, .int .i64 0, .int .i64 0] 73)) 95 73 #[.int .i64 p.net, .slice ap p.ns.length kp, .int .i64 p.own, .bool p.up, .int .i64 p.rate, .int .i64 p.burst, .int .i64 p.lev] #[.int .i64 0, .slice none 0 0, .int .i64 0, .bool false, .int .i64 0, .int .i64 0, .int .i64 0] #[.int .i64 p.net, .slice none 0 0, .int .i64 0, .bool false, .int .i64 0, .int .i64 0, .int .i64 0]) := T3.new _ _ _ _ _ _
  generalize (((w.alloc (.cells #[.int .i64 p.net, .slice ap p.ns.length kp, .int .i64 p.own, .bool p.up, .int .i64 p.rate, .int .i64 p.burst, .int .i64 p.lev] 95)).alloc (.cells #[.int .i64 0, .slice none 0 0, .int .i64 0, .bool false, .int .i64 0, .int .i64 0, .int .i64 0] 73)).alloc (.cells #[.int .i64 p.net, .slice none 0 0, .int .i64 0, .bool false, .int .i64 0, .int .i64 0, .int .i64 0] 73)) = u0 at *
  refine Calls.mono (toIS_any (HP.out.below HT0.out.bel) lp) ?_
  rintro e u1 ⟨v1, rfl, o1, hb1⟩
  obtain ⟨ap2, kp2, rfl⟩ := i_sl o1
  have HT1 : Hid (T3 w u1 95 73 #[.int .i64 p.net, .slice ap p.ns.length kp, .int .i64 p.own, .bool p.up, .int .i64 p.rate, .int .i64 p.burst, .int .i64 p.lev] #[.int .i64 0, .slice none 0 0, .int .i64 0, .bool false, .int .i64 0, .int .i64 0, .int .i64 0] #[.int .i64 p.net, .slice none 0 0, .int .i64 0, .bool false, .int .i64 0, .int .i64 0, .int .i64 0]) := HT0.out.step hb1
  have HRp : Hid (u1.ownsRow (w.heap.size + 3) 2 1 (.slice ap2 p.ns.length kp2) p.ns.length (iR p.ns)) := own_weak o1 (by have := HT0.out.lt; omega)
  clear o1 hb1 HT0
  have c0 := celN HT1.out.b0 0 _ rfl
  have c2 := celN HT1.out.b0 2 _ rfl
  have c3 := celN HT1.out.b0 3 _ rfl
  have c4 := celN HT1.out.b0 4 _ rfl
  have c5 := celN HT1.out.b0 5 _ rfl
  have c6 := celN HT1.out.b0 6 _ rfl
  have d0 := celN HT1.out.b2 0 _ rfl
  have d1 := celN HT1.out.b2 1 _ rfl
  have d2 := celN HT1.out.b2 2 _ rfl
  have d3 := celN HT1.out.b2 3 _ rfl
  have d4 := celN HT1.out.b2 4 _ rfl
  have d5 := celN HT1.out.b2 5 _ rfl
  have d6 := celN HT1.out.b2 6 _ rfl
  have df := frzN HT1.out.b2
  have k0 := celN HT1.out.b1 0 _ rfl
  have k1 := celN HT1.out.b1 1 _ rfl
  have k2 := celN HT1.out.b1 2 _ rfl
  have k3 := celN HT1.out.b1 3 _ rfl
  have k4 := celN HT1.out.b1 4 _ rfl
  have k5 := celN HT1.out.b1 5 _ rfl
  have k6 := celN HT1.out.b1 6 _ rfl
  have kf := frzN HT1.out.b1
  have lt1 := HT1.out.lt
  have g0 : w.heap.size < u1.heap.size := by omega
  have g1 : w.heap.size + 1 < u1.heap.size := by omega
  have g2 : w.heap.size + 1 + 1 < u1.heap.size := by omega
  go_wp2
  have hk : ∀ (x : World) (k o : Nat) (y : Value) (a : Nat), k ≠ a → (x.setCell ⟨a, o, none⟩ y).heap[k]? = x.heap[k]? := fun x k o y a h => Below.heap_setCell _ _ _ _ (by simpa using h)
  refine bodyPost_ret (v := .agg #[.int .i64 p.net, .slice ap2 p.ns.length kp2, .int .i64 p.own, .bool p.up, .int .i64 p.rate, .int .i64 p.burst, .int .i64 p.lev]) ?_ rfl ⟨_, rfl, own_heap HRp.out (fun k hk2 => ?_) (Nat.le_refl _), ?_⟩
  · simp only [results, Try.results53, go_sem]
    simp [go_sem, k0, k1, k2, k3, k4, k5, k6]
  · repeat rw [hk _ _ _ _ _ (by omega)]
  · have hB := HT1.out.bel
    repeat refine Below.setCell ?_ (by simp only; omega) _
    exact hB
end Go.Proofs.Ytefeahilamiiaaa
