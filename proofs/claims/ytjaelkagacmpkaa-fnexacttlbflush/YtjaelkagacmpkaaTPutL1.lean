import Derived.Test.YtjaelkagacmpkaaTPut4
import Derived.Test.YtjaelkagacmpkaaRowTE5
namespace Go.Proofs.Ytjaelkagacmpkaa
open Go.ChangeShapes Go.WideShapes Go.ChangeAt Go.RowKit

set_option maxRecDepth 100000 in
set_option maxHeartbeats 4000000 in
theorem markTlb_ok {w : World} {B : Nat} {ao : Option Addr} {cap : Nat} {zs : List TE} (nx : Int) (h : w.ownsRow B 60 5 (.slice ao zs.length cap) zs.length (teR zs)) (hl : zs.length ≤ 1048576) :
    Calls Try.prog 35 #[tlA (.slice ao zs.length cap) nx, .int .i64 1] w fun e u => e = .returned (.int .i64 (1 + 5 * (zs.length : Int))) ∧ u.ownsRow B 60 5 (.slice ao zs.length cap) zs.length (teR (mkPL zs.length)) ∧ w.grownBy u (Value.slice ao zs.length cap).ownBlock := by
  unfold tlA
  have HM : Hid _ := markTES_ok (te_below h ((Below.refl _ _).alloc (Nat.le_refl _) (.cells #[.slice ao zs.length cap, .int .i64 nx] 57))) hl
  clear h
  go_enter Try.func35, Try.ntmps35
  go_wp2_with (go_at_call 84; refine Calls.mono HM.out ?_; rintro e u ⟨rfl, ho, hg⟩; have HO : Hid _ := ho; have HG : Hid (World.grownBy _ u _) := hg; clear ho hg HM)
  go_ret
  exact ⟨rfl, HO.out, HG.out.os, HG.out.tape, HG.out.output, Nat.le_trans (by simp) HG.out.size, fun k hk hn => (HG.out.block k (by simp; omega) hn).trans (Below.heap_alloc _ _ _ hk)⟩
set_option maxRecDepth 100000 in
set_option maxHeartbeats 4000000 in
theorem heldTlb_ok {w : World} {ao : Option Addr} {cap : Nat} (n : Nat) (nx : Int) (h : TErow w (.slice ao n cap) (mkPL n)) (hl : n ≤ 1048576) :
    Calls Try.prog 36 #[tlA (.slice ao n cap) nx, .int .i64 1] w fun e u => e = .returned (.int .i64 (1 + 5 * (n : Int))) ∧ Below w.heap.size w u := by
  unfold tlA
  have HM : Hid _ := heldTES_ok n (h.below ((Below.refl _ _).alloc (Nat.le_refl _) (.cells #[.slice ao n cap, .int .i64 nx] 57))) hl
  have hp : ¬ (1 + 5 * (n : Int)) < 0 := by omega
  clear h
  go_enter Try.func36, Try.ntmps36
  go_wp2_with (go_at_call 85; refine Calls.mono HM.out ?_; rintro e u ⟨rfl, hb⟩; have HB : Hid (Below _ _ u) := hb; clear hb HM)
  go_ret
  exact ⟨rfl, ((Below.refl _ _).alloc (Nat.le_refl _) _).trans (HB.out.mono (by simp))⟩

/-- A cache that an answer was put into: its box, its row. -/
structure TI where
  p : Nat
  ao : Option Addr
  cap : Nat
  m : Nat
  xs : List TE
  n : Int
def TI.v (t : TI) : Value := .slice t.ao t.m t.cap
structure TIok (B : Nat) (u : World) (t : TI) : Prop where
  box : BoxT u t.p t.v t.n
  row : u.ownsRow B 60 5 t.v t.m (teR t.xs)
  lo : B ≤ t.p
  ne : t.v.ownBlock ≠ some t.p
def TI.apart (s t : TI) : Prop := s.p ≠ t.p ∧ s.v.ownBlock ≠ some t.p ∧ t.v.ownBlock ≠ some s.p ∧ ∀ k, s.v.ownBlock = some k → t.v.ownBlock ≠ some k
theorem TIok.step {B : Nat} {u u' : World} {t : TI} (h : TIok B u t) (hb : Below u.heap.size u u') : TIok B u' t :=
  ⟨h.box.below hb h.box.lt, te_below h.row hb, h.lo, h.ne⟩
/-- One that is apart from a row that is written to. -/
theorem TIok.other {B : Nat} {u u' : World} {s t : TI} (h : TIok B u t) (ha : s.apart t) (hg : u.grownBy u' s.v.ownBlock) : TIok B u' t := by
  obtain ⟨_, a2, _, a4⟩ := ha
  refine ⟨(hg.block _ h.box.lt (fun q => a2 q.symm)).trans h.box, ?_, h.lo, h.ne⟩
  cases hv : t.v.ownBlock with
  | none => exact h.row.kept hg (.inl hv)
  | some k => exact h.row.kept hg (.inr (fun e => a4 k (e.symm.trans hv) hv))
theorem TI.apart.symm {s t : TI} (h : s.apart t) : t.apart s := ⟨h.1.symm, h.2.2.1, h.2.1, fun k e q => h.2.2.2 k q e⟩
/-- What the law keeps. -/
structure TS (w u : World) (v : Value) (nx : Int) (zs : List TE) (e : TE) (l : List TI) : Prop where
  bel : Below w.heap.size w u
  b0 : u.heap[w.heap.size]? = some (.cells #[v, .int .i64 nx] 51 (0, 0))
  b1 : u.heap[w.heap.size + 1]? = some (.cells #[.int .i64 e.asid, .int .i64 e.page, .int .i64 e.frame, .int .i64 e.flags, .bool e.large] 53 (0, 0))
  row : TErow w v zs
  its : ∀ t ∈ l, TIok (w.heap.size + 2) u t
  ap : l.Pairwise TI.apart
theorem TS.rw {w u : World} {v : Value} {nx : Int} {zs : List TE} {e : TE} {l : List TI} (h : TS w u v nx zs e l) : TErow u v zs := h.row.below h.bel
theorem TS.lt {w u : World} {v : Value} {nx : Int} {zs : List TE} {e : TE} {l : List TI} (h : TS w u v nx zs e l) : w.heap.size + 1 < u.heap.size := (Array.getElem?_eq_some_iff.1 h.b1).1
theorem TS.step {w u u' : World} {v : Value} {nx : Int} {zs : List TE} {e : TE} {l : List TI} (h : TS w u v nx zs e l) (hb : Below u.heap.size u u') : TS w u' v nx zs e l := by
  have := h.lt
  exact ⟨h.bel.trans (hb.mono h.bel.size), (hb.block _ (by omega)).trans h.b0, (hb.block _ (by omega)).trans h.b1, h.row, fun t ht => (h.its t ht).step hb, h.ap⟩
theorem TS.new {w : World} {v : Value} {nx : Int} {zs : List TE} (e : TE) (h : TErow w v zs) : TS w ((w.alloc (.cells #[v, .int .i64 nx] 51)).alloc (.cells #[.int .i64 e.asid, .int .i64 e.page, .int .i64 e.frame, .int .i64 e.flags, .bool e.large] 53)) v nx zs e [] := by
  have hb : Below w.heap.size w ((w.alloc (.cells #[v, .int .i64 nx] 51)).alloc (.cells #[.int .i64 e.asid, .int .i64 e.page, .int .i64 e.frame, .int .i64 e.flags, .bool e.large] 53)) := ((Below.refl _ _).alloc (Nat.le_refl _) _).alloc (by simp) _
  refine ⟨hb, (Below.heap_alloc _ _ _ (by simp)).trans (heap_new _ _), ?_, h, fun t ht => (List.not_mem_nil ht).elim, List.Pairwise.nil⟩
  simpa using heap_new (w.alloc (.cells #[v, .int .i64 nx] 51)) (.cells #[.int .i64 e.asid, .int .i64 e.page, .int .i64 e.frame, .int .i64 e.flags, .bool e.large] 53)
/-- A new one: all of it was made behind s. -/
theorem TS.add {w s u : World} {v : Value} {nx : Int} {zs : List TE} {e : TE} {l : List TI} (h : TS w u v nx zs e l) (hs : TS w s v nx zs e l) (t : TI) (hp : s.heap.size ≤ t.p) (ho : u.ownsRow s.heap.size 60 5 t.v t.m (teR t.xs)) (hb : BoxT u t.p t.v t.n) (hn : t.v.ownBlock ≠ some t.p) : TS w u v nx zs e (t :: l) := by
  have hl := hs.lt
  refine ⟨h.bel, h.b0, h.b1, h.row, fun x hx => ?_, List.Pairwise.cons (fun x hx => ?_) h.ap⟩
  · rcases List.mem_cons.1 hx with rfl | hx
    · exact ⟨hb, te_weak ho (by omega), by omega, hn⟩
    · exact h.its x hx
  · have k := hs.its x hx
    have kp := k.box.lt
    refine ⟨by omega, fun q => ?_, fun q => ?_, fun j q q2 => ?_⟩
    · have := (ho.lt _ q).1
      omega
    · have := (k.row.lt _ q).2
      omega
    · have h1 := (ho.lt _ q).1
      have h2 := (k.row.lt _ q2).2
      omega
/-- Two cells put into a new box. -/
theorem TS.put {w s u : World} {v : Value} {nx : Int} {zs : List TE} {e : TE} {l : List TI} (h : TS w u v nx zs e l) (hs : TS w s v nx zs e l) (p : Nat) (x y : Value) (hp : s.heap.size ≤ p) : TS w ((u.setCell ⟨p, 0, none⟩ x).setCell ⟨p, 1, none⟩ y) v nx zs e l := by
  have hl := hs.lt
  have hk : ∀ k, k < s.heap.size → ((u.setCell ⟨p, 0, none⟩ x).setCell ⟨p, 1, none⟩ y).heap[k]? = u.heap[k]? := fun k hk => (Below.heap_setCell _ _ _ _ (by simp only; omega)).trans (Below.heap_setCell _ _ _ _ (by simp only; omega))
  refine ⟨(h.bel.setCell (by simp only; omega) _).setCell (by simp only; omega) _, (hk _ (by omega)).trans h.b0, (hk _ (by omega)).trans h.b1, h.row, fun t ht => ?_, h.ap⟩
  · have k := h.its t ht
    have ks := hs.its t ht
    have kp := ks.box.lt
    have hne : t.v.ownBlock ≠ some p := fun q => by have := (ks.row.lt _ q).2; omega
    exact ⟨(hk _ kp).trans k.box, own_set (own_set k.row hne) hne, k.lo, k.ne⟩
/-- The first row of those that are kept is written to. -/
theorem TS.mark {w u u' : World} {v : Value} {nx : Int} {zs : List TE} {e : TE} {t : TI} {l : List TI} (h : TS w u v nx zs e (t :: l)) (ys : List TE) (hg : u.grownBy u' t.v.ownBlock) (ho : u'.ownsRow (w.heap.size + 2) 60 5 t.v t.m (teR ys)) : TS w u' v nx zs e ({ t with xs := ys } :: l) := by
  have hl := h.lt
  have k := h.its t (List.mem_cons_self ..)
  have hlo : ∀ j, t.v.ownBlock = some j → w.heap.size + 2 ≤ j := fun j q => (k.row.lt _ q).1
  have hk : ∀ j, j < w.heap.size + 2 → u'.heap[j]? = u.heap[j]? := fun j hj => hg.block j (by omega) (fun q => by have := hlo j q.symm; omega)
  have hpw := List.pairwise_cons.1 h.ap
  refine ⟨h.bel.grown hg h.bel.size (fun j hj => by have := hlo j hj; omega), (hk _ (by omega)).trans h.b0, (hk _ (by omega)).trans h.b1, h.row, fun x hx => ?_, List.Pairwise.cons (fun x hx => ?_) hpw.2⟩
  · rcases List.mem_cons.1 hx with rfl | hx
    · exact ⟨(hg.block _ k.box.lt (fun q => k.ne q.symm)).trans k.box, ho, k.lo, k.ne⟩
    · exact (h.its x (List.mem_cons_of_mem _ hx)).other (hpw.1 x hx) hg
  · exact hpw.1 x hx
theorem TS.swap {w u : World} {v : Value} {nx : Int} {zs : List TE} {e : TE} {a b : TI} {l : List TI} (h : TS w u v nx zs e (a :: b :: l)) : TS w u v nx zs e (b :: a :: l) := by
  have h1 := List.pairwise_cons.1 h.ap
  have h2 := List.pairwise_cons.1 h1.2
  refine ⟨h.bel, h.b0, h.b1, h.row, fun x hx => h.its x ?_, List.Pairwise.cons (fun x hx => ?_) (List.Pairwise.cons (fun x hx => h1.1 x (List.mem_cons_of_mem _ hx)) h2.2)⟩
  · rcases List.mem_cons.1 hx with rfl | hx
    · simp
    · rcases List.mem_cons.1 hx with rfl | hx
      · simp
      · simp [hx]
  · rcases List.mem_cons.1 hx with rfl | hx
    · exact (h1.1 b (List.mem_cons_self ..)).symm
    · exact h2.1 x hx
theorem TIok.cel {B : Nat} {u : World} {t : TI} (h : TIok B u t) : u.cell? ⟨t.p, 0, none⟩ = some (.slice t.ao t.m t.cap) ∧ u.cell? ⟨t.p, 1, none⟩ = some (.int .i64 t.n) := h.box.cel
theorem te_mkP {u : World} {B : Nat} {ao : Option Addr} {cap n : Nat} (h : u.ownsRow B 60 5 (.slice ao n cap) n (teR (mkPL n))) : TErow u (.slice ao n cap) (mkPL n) := by
  have h2 : u.ownsRow B 60 5 (.slice ao (mkPL n).length cap) (mkPL n).length (teR (mkPL n)) := by
    rw [mkPL_len]
    exact h
  have h3 := TErow.of h2
  rwa [mkPL_len] at h3
/-- What a side answers. -/
def AnsP (F : Nat) (zs : List TE) (nx : Int) (e : TE) (L : List TE) (N : Int) : Prop := ∀ (U : World) (B : Nat) (a : Option Addr) (c : Nat), U.ownsRow B 60 5 (.slice a zs.length c) zs.length (teR zs) → Calls Try.prog F #[tlA (.slice a zs.length c) nx, teA e] U fun r w' => ∃ a2 c2, r = .returned (tlA (.slice a2 L.length c2) N) ∧ w'.ownsRow U.heap.size 60 5 (.slice a2 L.length c2) L.length (teR L) ∧ Below U.heap.size U w'
end Go.Proofs.Ytjaelkagacmpkaa
