import Derived.Test.YtjaelkagacmpkaaTFl5
namespace Go.Proofs.Ytjaelkagacmpkaa
open Go.ChangeShapes Go.WideShapes Go.ChangeAt Go.RowKit

/-- What the law keeps. -/
structure TG (w u : World) (v : Value) (nx : Int) (zs : List TE) (l : List TI) : Prop where
  bel : Below w.heap.size w u
  b0 : u.heap[w.heap.size]? = some (.cells #[v, .int .i64 nx] 51 (0, 0))
  row : TErow w v zs
  its : ∀ t ∈ l, TIok (w.heap.size + 1) u t
  ap : l.Pairwise TI.apart
theorem TG.rw {w u : World} {v : Value} {nx : Int} {zs : List TE} {l : List TI} (h : TG w u v nx zs l) : TErow u v zs := h.row.below h.bel
theorem TG.lt {w u : World} {v : Value} {nx : Int} {zs : List TE} {l : List TI} (h : TG w u v nx zs l) : w.heap.size < u.heap.size := (Array.getElem?_eq_some_iff.1 h.b0).1
theorem TG.step {w u u' : World} {v : Value} {nx : Int} {zs : List TE} {l : List TI} (h : TG w u v nx zs l) (hb : Below u.heap.size u u') : TG w u' v nx zs l := by
  have := h.lt
  exact ⟨h.bel.trans (hb.mono h.bel.size), (hb.block _ (by omega)).trans h.b0, h.row, fun t ht => (h.its t ht).step hb, h.ap⟩
theorem TG.new {w : World} {v : Value} {nx : Int} {zs : List TE} (h : TErow w v zs) : TG w (w.alloc (.cells #[v, .int .i64 nx] 51)) v nx zs [] :=
  ⟨(Below.refl _ _).alloc (Nat.le_refl _) _, heap_new _ _, h, fun _ ht => (List.not_mem_nil ht).elim, List.Pairwise.nil⟩
/-- A new one: all of it was made behind s. -/
theorem TG.add {w s u : World} {v : Value} {nx : Int} {zs : List TE} {l : List TI} (h : TG w u v nx zs l) (hs : TG w s v nx zs l) (t : TI) (hp : s.heap.size ≤ t.p) (ho : u.ownsRow s.heap.size 60 5 t.v t.m (teR t.xs)) (hb : BoxT u t.p t.v t.n) (hn : t.v.ownBlock ≠ some t.p) : TG w u v nx zs (t :: l) := by
  have hl := hs.lt
  refine ⟨h.bel, h.b0, h.row, fun x hx => ?_, List.Pairwise.cons (fun x hx => ?_) h.ap⟩
  · rcases List.mem_cons.1 hx with rfl | hx
    · exact ⟨hb, te_weak ho (by omega), by omega, hn⟩
    · exact h.its x hx
  · have k := hs.its x hx
    have kp := k.box.lt
    refine ⟨by omega, fun q => ?_, fun q => ?_, fun j q q2 => ?_⟩
    · have := (ho.lt _ q).1
      omega
    · have := (k.row.lt _ q).2
      omega
    · have h1 := (ho.lt _ q).1
      have h2 := (k.row.lt _ q2).2
      omega
theorem TG.mark {w u u' : World} {v : Value} {nx : Int} {zs : List TE} {t : TI} {l : List TI} (h : TG w u v nx zs (t :: l)) (ys : List TE) (hg : u.grownBy u' t.v.ownBlock) (ho : u'.ownsRow (w.heap.size + 1) 60 5 t.v t.m (teR ys)) : TG w u' v nx zs ({ t with xs := ys } :: l) := by
  have hl := h.lt
  have k := h.its t (List.mem_cons_self ..)
  have hlo : ∀ j, t.v.ownBlock = some j → w.heap.size + 1 ≤ j := fun j q => (k.row.lt _ q).1
  have hk : ∀ j, j < w.heap.size + 1 → u'.heap[j]? = u.heap[j]? := fun j hj => hg.block j (by omega) (fun q => by have := hlo j q.symm; omega)
  have hpw := List.pairwise_cons.1 h.ap
  refine ⟨h.bel.grown hg h.bel.size (fun j hj => by have := hlo j hj; omega), (hk _ (by omega)).trans h.b0, h.row, fun x hx => ?_, List.Pairwise.cons (fun x hx => ?_) hpw.2⟩
  · rcases List.mem_cons.1 hx with rfl | hx
    · exact ⟨(hg.block _ k.box.lt (fun q => k.ne q.symm)).trans k.box, ho, k.lo, k.ne⟩
    · exact (h.its x (List.mem_cons_of_mem _ hx)).other (hpw.1 x hx) hg
  · exact hpw.1 x hx
theorem TG.swap {w u : World} {v : Value} {nx : Int} {zs : List TE} {a b : TI} {l : List TI} (h : TG w u v nx zs (a :: b :: l)) : TG w u v nx zs (b :: a :: l) := by
  have h1 := List.pairwise_cons.1 h.ap
  have h2 := List.pairwise_cons.1 h1.2
  refine ⟨h.bel, h.b0, h.row, fun x hx => h.its x ?_, List.Pairwise.cons (fun x hx => ?_) (List.Pairwise.cons (fun x hx => h1.1 x (List.mem_cons_of_mem _ hx)) h2.2)⟩
  · rcases List.mem_cons.1 hx with rfl | hx
    · simp
    · rcases List.mem_cons.1 hx with rfl | hx
      · simp
      · simp [hx]
  · rcases List.mem_cons.1 hx with rfl | hx
    · exact (h1.1 b (List.mem_cons_self ..)).symm
    · exact h2.1 x hx
/-- What a side answers. -/
def AnsF (F : Nat) (zs : List TE) (nx asid va : Int) (L : List TE) (N : Int) : Prop := ∀ (U : World) (B : Nat) (a : Option Addr) (c : Nat), U.ownsRow B 60 5 (.slice a zs.length c) zs.length (teR zs) → Calls Try.prog F #[tlA (.slice a zs.length c) nx, .int .i64 asid, .int .i64 va] U fun r w' => ∃ a2 c2, r = .returned (tlA (.slice a2 L.length c2) N) ∧ w'.ownsRow U.heap.size 60 5 (.slice a2 L.length c2) L.length (teR L) ∧ Below U.heap.size U w'
end Go.Proofs.Ytjaelkagacmpkaa
