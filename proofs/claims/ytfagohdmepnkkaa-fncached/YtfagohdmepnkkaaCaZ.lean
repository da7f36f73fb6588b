import Derived.Test.YtfagohdmepnkkaaTfZ
import Derived.Test.YtfagohdmepnkkaaWkM
import Derived.Test.YtfagohdmepnkkaaDr3
import Derived.Test.YtfagohdmepnkkaaLtZ
import Derived.Deep.DeepCutAuto
import Derived.Test.YtfagohdmepnkkaaTeZ
import Derived.Test.YtfagohdmepnkkaaWkZ
import Derived.Test.YtfagohdmepnkkaaDr5
import Derived.OrdersHeld
import Derived.Test.YtfagohdmepnkkaaSrc2
namespace Go.Proofs.Ytfagohdmepnkkaa
open Go.ChangeShapes Go.WideShapes Go.ChangeAt Go.RowKit

theorem allOk_iff (zs : List TE) : allOk zs zs.length = true ↔ (∀ x ∈ zs, teOk x = true) ∧ zs.Pairwise (fun x y => same x y = false) := by
  have h1 : allOk zs zs.length = true ↔ ∀ (k : Nat) (hk : k < zs.length), teOk zs[k] = true ∧ ((zs.take k).any fun x => same x zs[k]) = false := by
    unfold allOk
    rw [List.all_eq_true]
    constructor
    · intro h k hk
      have := h k (List.mem_range.2 hk)
      rw [tok_eq hk, Bool.and_eq_true] at this
      exact ⟨this.1, by simpa using this.2⟩
    · intro h k hk
      have hk2 := List.mem_range.1 hk
      rw [tok_eq hk2, Bool.and_eq_true]
      exact ⟨(h k hk2).1, by rw [(h k hk2).2]; rfl⟩
  rw [h1]
  constructor
  · intro h
    refine ⟨fun x hx => ?_, ?_⟩
    · obtain ⟨k, hk, rfl⟩ := List.getElem_of_mem hx
      exact (h k hk).1
    · rw [List.pairwise_iff_getElem]
      intro i j hi hj hij
      have h2 := List.any_eq_false.1 (h j hj).2 zs[i] (by
        rw [List.mem_take_iff_getElem]
        exact ⟨i, by omega, rfl⟩)
      simpa using h2
  · rintro ⟨ha, hp⟩ k hk
    refine ⟨ha _ (List.getElem_mem hk), ?_⟩
    rw [List.any_eq_false]
    intro x hx
    rw [List.mem_take_iff_getElem] at hx
    obtain ⟨i, hi, rfl⟩ := hx
    have h2 := List.pairwise_iff_getElem.1 hp i k (by omega) hk (by omega)
    simp [h2]
theorem tlbC_iff (zs : List TE) (nx : Int) : tlbC zs nx = 0 ↔ zs.length ≤ 16 ∧ (0 ≤ nx ∧ nx ≤ 15) ∧ (∀ x ∈ zs, teOk x = true) ∧ zs.Pairwise (fun x y => same x y = false) := by
  unfold tlbC
  constructor
  · intro h
    split at h
    · rename_i q
      exact ⟨q.1, ⟨q.2.1, q.2.2.1⟩, (allOk_iff zs).1 q.2.2.2⟩
    · cases h
  · rintro ⟨h1, h2, h3⟩
    rw [if_pos ⟨h1, h2.1, h2.2, (allOk_iff zs).2 h3⟩]
theorem tlbC_filter {zs : List TE} {nx : Int} (h : tlbC zs nx = 0) (p : TE → Bool) : tlbC (zs.filter p) 0 = 0 := by
  obtain ⟨h1, _, h3, h4⟩ := (tlbC_iff zs nx).1 h
  refine (tlbC_iff _ _).2 ⟨Nat.le_trans (List.length_filter_le _ _) h1, ⟨by decide, by decide⟩, fun x hx => h3 x ((List.mem_filter.1 hx).1), h4.filter _⟩
theorem flP_all (va : Int) (hv : 0 ≤ va) (x : TE) : flP (-1) va x = holdsB x va := by
  unfold flP
  have h1 : decide ((-1 : Int) < 0) = true := by decide
  have h2 : decide (va < 0) = false := by simpa using hv
  rw [h1, h2]
  simp
theorem clear_no {zs : List TE} {va : Int} (hv : 0 ≤ va) {x : TE} (hx : x ∈ zs.filter fun x => !flP (-1) va x) : holdsB x va = false := by
  have := (List.mem_filter.1 hx).2
  rw [flP_all va hv] at this
  simpa using this
theorem same_holds {x y : TE} (va : Int) (h : same x y = true) : holdsB x va = holdsB y va := by
  unfold same at h
  simp only [Bool.and_eq_true, decide_eq_true_eq, beq_iff_eq] at h
  unfold holdsB
  rw [h.1.2, h.2]
/-- An entry put into a cache that holds none for the address. -/
theorem put_new {c : List TE} {e : TE} {va : Int} (hc : tlbC c 0 = 0) (hn : ∀ x ∈ c, holdsB x va = false) (he : teOk e = true) (hh : holdsB e va = true) :
    tlbC (putL c 0 e) (putN c 0 e) = 0 ∧ ∃ (k : Nat) (hk : k < (putL c 0 e).length), (putL c 0 e)[k] = e ∧ ∀ (j : Nat) (hj : j < (putL c 0 e).length), j ≠ k → holdsB ((putL c 0 e)[j]) va = false := by
  obtain ⟨h1, _, h3, h4⟩ := (tlbC_iff c 0).1 hc
  have hs : ∀ x ∈ c, same x e = false := fun x hx => by
    cases hq : same x e
    · rfl
    · have := same_holds va hq
      rw [hn x hx, hh] at this
      cases this
  have hs2 : ∀ x ∈ c, same e x = false := fun x hx => by
    cases hq : same e x
    · rfl
    · have := same_holds va hq
      rw [hn x hx, hh] at this
      cases this
  have hi : idxI (fun x => same x e) c = -1 := idxI_none fun j hj => hs _ (List.getElem_mem hj)
  have hi0 : ¬ 0 ≤ idxI (fun x => same x e) c := by rw [hi]; decide
  by_cases hl : c.length < 16
  · have E : putL c 0 e = c ++ [e] := by
      unfold putL
      rw [if_neg (by rw [he]; decide), if_neg hi0, if_pos hl]
    have EN : putN c 0 e = 0 := by
      unfold putN
      rw [if_neg (fun q => q.2.2 hl)]
    rw [E, EN]
    refine ⟨(tlbC_iff _ _).2 ⟨by simp; omega, ⟨by decide, by decide⟩, fun x hx => ?_, ?_⟩, c.length, by simp, by simp, fun j hj hjk => ?_⟩
    · rcases List.mem_append.1 hx with hx | hx
      · exact h3 x hx
      · rw [List.mem_singleton.1 hx]
        exact he
    · rw [List.pairwise_append]
      exact ⟨h4, List.pairwise_singleton _ _, fun x hx y hy => by rw [List.mem_singleton.1 hy]; exact hs x hx⟩
    · have hj2 : j < c.length := by simp at hj; omega
      rw [List.getElem_append_left hj2]
      exact hn _ (List.getElem_mem hj2)
  · obtain ⟨z, rest, rfl⟩ : ∃ z rest, c = z :: rest := by
      cases c with
      | nil => exact absurd (by decide) hl
      | cons z rest => exact ⟨z, rest, rfl⟩
    have E : putL (z :: rest) 0 e = e :: rest := by
      unfold putL
      rw [if_neg (by rw [he]; decide), if_neg hi0, if_neg hl]
      rfl
    have EN : putN (z :: rest) 0 e = 1 := by
      unfold putN
      rw [if_pos ⟨he, hi0, hl⟩]
      rfl
    rw [E, EN]
    refine ⟨(tlbC_iff _ _).2 ⟨by simpa using h1, ⟨by decide, by decide⟩, fun x hx => ?_, ?_⟩, 0, by simp, rfl, fun j hj hjk => ?_⟩
    · rcases List.mem_cons.1 hx with rfl | hx
      · exact he
      · exact h3 x (List.mem_cons_of_mem _ hx)
    · exact List.Pairwise.cons (fun x hx => hs2 x (List.mem_cons_of_mem _ hx)) (List.pairwise_cons.1 h4).2
    · cases j with
      | zero => exact absurd rfl hjk
      | succ j => exact hn _ (List.mem_cons_of_mem _ (List.getElem_mem _))
theorem find_new {zs : List TE} {e : TE} {va : Int} {k : Nat} (hk : k < zs.length) (hz : zs[k] = e) (ho : ∀ (j : Nat) (hj : j < zs.length), j ≠ k → holdsB zs[j] va = false) (hh : holdsB e va = true) (ha : e.asid = 7) : idxI (fP 7 va) zs = k := by
  refine idxI_at hk ?_ fun j hj => ?_
  · rw [hz]
    unfold fP
    rw [hh, ha]
    simp
  · unfold fP
    rw [ho j (Nat.lt_trans hj hk) (by omega)]
    rfl
theorem find_gone {zs : List TE} {va : Int} (hv : 0 ≤ va) : idxI (fP 7 va) (zs.filter fun x => !flP (-1) va x) = -1 := by
  refine idxI_none fun j hj => ?_
  unfold fP
  rw [clear_no hv (List.getElem_mem hj)]
  rfl

/-- The entry that a cache keeps of a walk. -/
def entW (va : Int) (r : WV) : TE := if r.large = true then ⟨7, va / 256 / 32 * 32, r.pa / 256 / 32 * 32, r.entry % 256, true⟩ else ⟨7, va / 256, r.pa / 256, r.entry % 256, false⟩
/-- What a walk without fault tells. -/
structure GoodW (s : ByteArray) (va acc : Int) (user : Bool) (r : WV) : Prop where
  e0 : 0 ≤ r.entry ∧ r.entry ≤ 4294967295
  may : mayV r.entry acc user = true
  pg : r.pa = pgV r.entry va r.large * 256 + va % 256
  inn : (pgV r.entry va r.large + 1) * 256 ≤ (s.size : Int)
  lg : r.large = true → r.entry / 256 % 32 = 0
  dt : acc = 2 → r.entry / 64 % 2 = 1
theorem fin_good {s : ByteArray} {reads : List Int} {k : Nat} {large : Bool} {va acc : Int} {user : Bool} (hf : (finV s reads k large va acc user).fault = 0) : GoodW s va acc user (finV s reads k large va acc user) := by
  obtain ⟨x0, x1⟩ := wv_b s k
  by_cases hg : goodV (wv s k) acc user large = true
  · by_cases hp : (pgV (wv s k) va large + 1) * 256 ≤ (s.size : Int)
    · have E2 : finV s reads k large va acc user = ⟨0, pgV (wv s k) va large * 256 + va % 256, putA (wv s k) acc, large, reads, setv s k (putA (wv s k) acc)⟩ := by
        unfold finV
        rw [if_pos hg, if_pos hp]
      rw [E2]
      have hg2 := putA_good (wv s k) acc user large x0 x1
      rw [hg] at hg2
      unfold goodV at hg2
      simp only [Bool.and_eq_true, decide_eq_true_eq, Bool.or_eq_true, Bool.not_eq_true'] at hg2
      refine ⟨putA_b _ _ x0 x1, hg2.2, ?_, ?_, ?_, (putA_f _ _ x0 x1).2.2.2.2⟩
      · simp only
        rw [putA_pg _ _ _ _ x0 x1]
      · simp only
        rw [putA_pg _ _ _ _ x0 x1]
        exact hp
      · intro q
        simp only at q ⊢
        rcases hg2.1.2 with q2 | q2
        · rw [q] at q2
          cases q2
        · exact q2
    · unfold finV at hf
      rw [if_pos hg, if_neg hp] at hf
      cases hf
  · unfold finV at hf
    rw [if_neg hg] at hf
    cases hf
theorem walk_good {s : ByteArray} {root va acc : Int} {user : Bool} (hf : (walkV s root va acc user).fault = 0) : GoodW s va acc user (walkV s root va acc user) := by
  by_cases h1 : (root + 1) * 256 ≤ (s.size : Int)
  · by_cases h2 : wv s (at1 root va) % 16 = 1
    · by_cases h3 : (wv s (at1 root va) / 256 + 1) * 256 ≤ (s.size : Int)
      · have E : walkV s root va acc user = finV s [root, wv s (at1 root va) / 256] (at2 (wv s (at1 root va)) va) false va acc user := by
          unfold walkV
          rw [if_pos h1, if_pos h2, if_pos h3]
        rw [E] at hf ⊢
        exact fin_good hf
      · unfold walkV at hf
        rw [if_pos h1, if_pos h2, if_neg h3] at hf
        cases hf
    · have E : walkV s root va acc user = finV s [root] (at1 root va) true va acc user := by
        unfold walkV
        rw [if_pos h1, if_neg h2]
      rw [E] at hf ⊢
      exact fin_good hf
  · unfold walkV at hf
    rw [if_neg h1] at hf
    cases hf
theorem entW_ok {s : ByteArray} {va acc : Int} {user : Bool} {r : WV} (h : GoodW s va acc user r) (hs : s.size ≤ 65536) (v0 : 0 ≤ va) (v1 : va ≤ 262143) : teOk (entW va r) = true ∧ holdsB (entW va r) va = true ∧ (entW va r).asid = 7 := by
  have he := h.e0
  have hp := h.pg
  have hi := h.inn
  cases hl : r.large
  · rw [hl] at hp hi
    have e1 : pgV r.entry va false = r.entry / 256 := rfl
    rw [e1] at hp hi
    have E : entW va r = ⟨7, va / 256, r.pa / 256, r.entry % 256, false⟩ := by unfold entW; rw [if_neg (by rw [hl]; decide)]
    rw [E]
    refine ⟨?_, ?_, rfl⟩
    · unfold teOk
      simp
      omega
    · unfold holdsB
      simp
  · rw [hl] at hp hi
    have e1 : pgV r.entry va true = r.entry / 256 + va / 256 % 32 := rfl
    rw [e1] at hp hi
    have E : entW va r = ⟨7, va / 256 / 32 * 32, r.pa / 256 / 32 * 32, r.entry % 256, true⟩ := by unfold entW; rw [if_pos hl]
    rw [E]
    refine ⟨?_, ?_, rfl⟩
    · unfold teOk
      simp
      omega
    · unfold holdsB
      simp
      omega
theorem may_low (e acc : Int) (user : Bool) (_h0 : 0 ≤ e) : mayV (e % 256) acc user = mayV e acc user := by
  unfold mayV
  rw [show e % 256 / 4 % 2 = e / 4 % 2 by omega, show e % 256 / 8 % 2 = e / 8 % 2 by omega, show e % 256 / 2 % 2 = e / 2 % 2 by omega, show e % 256 / 16 % 2 = e / 16 % 2 by omega]
theorem hit_new {s : ByteArray} {va acc : Int} {user : Bool} {r : WV} (h : GoodW s va acc user r) (_v0 : 0 ≤ va) (k : Nat) : tfR (entW va r) va acc user k = hitA true r.pa k := by
  have he := h.e0
  have hp := h.pg
  have hm := may_low r.entry acc user he.1
  rw [h.may] at hm
  have hd : (decide (acc = 2) && decide (r.entry % 256 / 64 % 2 = 0)) = false := by
    by_cases ha : acc = 2
    · have := h.dt ha
      have h2 : ¬ r.entry % 256 / 64 % 2 = 0 := by omega
      simp [h2]
    · simp [ha]
  cases hl : r.large
  · rw [hl] at hp
    have e1 : pgV r.entry va false = r.entry / 256 := rfl
    rw [e1] at hp
    have E : entW va r = ⟨7, va / 256, r.pa / 256, r.entry % 256, false⟩ := by unfold entW; rw [if_neg (by rw [hl]; decide)]
    rw [E]
    unfold tfR
    simp only
    rw [hm, hd]
    simp only [Bool.not_false, Bool.and_self, if_true]
    rw [show va + (r.pa / 256 - va / 256) * 256 = r.pa by omega]
  · have hg := h.lg hl
    rw [hl] at hp
    have e1 : pgV r.entry va true = r.entry / 256 + va / 256 % 32 := rfl
    rw [e1] at hp
    have E : entW va r = ⟨7, va / 256 / 32 * 32, r.pa / 256 / 32 * 32, r.entry % 256, true⟩ := by unfold entW; rw [if_pos hl]
    rw [E]
    unfold tfR
    simp only
    rw [hm, hd]
    simp only [Bool.not_false, Bool.and_self, if_true]
    rw [show va + (r.pa / 256 / 32 * 32 - va / 256 / 32 * 32) * 256 = r.pa by omega]

def KTE (v : Value) : Prop := ∃ m : TE, v = teA m
def KBoxT (B : Nat) (v : Value) (u : World) : Prop := ∃ p, v = .pointer (some ⟨p, 0, none⟩) ∧ B ≤ p ∧ u.heap[p]? = some (.cells #[.int .i64 0, .int .i64 0, .int .i64 0, .int .i64 0, .bool false] 66 (0, 0))
theorem KBoxT.grow {B b : Nat} {v : Value} {u u' : World} (h : KBoxT B v u) (hb : b < B) (hg : u.grownBy u' (some b)) : KBoxT B v u' := by
  obtain ⟨p, h1, h2, h3⟩ := h
  exact ⟨p, h1, h2, (hg.block p (Array.getElem?_eq_some_iff.1 h3).1 (by simp; omega)).trans h3⟩
/-- An entry under way, in its box. -/
structure EB (B0 : Nat) (a : Option Addr) (len cap : Nat) (w : World) (p : Nat) (m : TE) (u : World) : Prop where
  lt : B0 < w.heap.size
  src : SrcOk u B0 a len cap
  gr : w.grownBy u (some B0)
  lo : w.heap.size ≤ p
  box : u.heap[p]? = some (.cells #[.int .i64 m.asid, .int .i64 m.page, .int .i64 m.frame, .int .i64 m.flags, .bool m.large] 66 (0, 0))
theorem EB.step {B0 : Nat} {a : Option Addr} {len cap : Nat} {w : World} {p : Nat} {m : TE} {u u' : World} (h : EB B0 a len cap w p m u) (hs : SrcOk u' B0 a len cap) (hg : u.grownBy u' (some B0)) : EB B0 a len cap w p m u' := by
  have h1 := h.lt
  have h2 := h.lo
  exact ⟨h.lt, hs, Lib.grownBy_trans h.gr hg, h.lo, (hg.block p (Array.getElem?_eq_some_iff.1 h.box).1 (by simp; omega)).trans h.box⟩
theorem EB.set1 {B0 : Nat} {a : Option Addr} {len cap : Nat} {w : World} {p : Nat} {u : World} (lt : B0 < w.heap.size) (src : SrcOk u B0 a len cap) (gr : w.grownBy u (some B0)) (lo : w.heap.size ≤ p) (o : Nat) (x : Value) : SrcOk (u.setCell ⟨p, o, none⟩ x) B0 a len cap ∧ w.grownBy (u.setCell ⟨p, o, none⟩ x) (some B0) :=
  ⟨src.keep (fun j hj => Below.heap_setCell _ _ _ _ (by simp only; omega)), gfar gr (row := some p) ⟨rfl, rfl, rfl, by simp [World.setCell], fun j _ hj => Below.heap_setCell _ _ _ _ (fun q => hj (by rw [q]))⟩ (fun j hj => by cases hj; exact lo)⟩
theorem eb_put {B0 : Nat} {a : Option Addr} {len cap : Nat} {w : World} {p : Nat} {u : World} {x0 x1 x2 x3 x4 : Value} (lt : B0 < w.heap.size) (src : SrcOk u B0 a len cap) (gr : w.grownBy u (some B0)) (lo : w.heap.size ≤ p) (box : u.heap[p]? = some (.cells #[x0, x1, x2, x3, x4] 66 (0, 0))) (m : TE) {U : World} (hU : ((((u.setCell ⟨p, 0, none⟩ (.int .i64 m.asid)).setCell ⟨p, 1, none⟩ (.int .i64 m.page)).setCell ⟨p, 2, none⟩ (.int .i64 m.frame)).setCell ⟨p, 3, none⟩ (.int .i64 m.flags)).setCell ⟨p, 4, none⟩ (.bool m.large) = U) : EB B0 a len cap w p m U := by
  subst hU
  have s0 := EB.set1 lt src gr lo 0 (.int .i64 m.asid)
  have s1 := EB.set1 lt s0.1 s0.2 lo 1 (.int .i64 m.page)
  have s2 := EB.set1 lt s1.1 s1.2 lo 2 (.int .i64 m.frame)
  have s3 := EB.set1 lt s2.1 s2.2 lo 3 (.int .i64 m.flags)
  have s4 := EB.set1 lt s3.1 s3.2 lo 4 (.bool m.large)
  refine ⟨lt, s4.1, s4.2, lo, ?_⟩
  have h0 := heap_setCell_same u p 0 _ _ (.int .i64 m.asid) box
  have h1 := heap_setCell_same _ p 1 _ _ (.int .i64 m.page) h0
  have h2 := heap_setCell_same _ p 2 _ _ (.int .i64 m.frame) h1
  have h3 := heap_setCell_same _ p 3 _ _ (.int .i64 m.flags) h2
  have h4 := heap_setCell_same _ p 4 _ _ (.bool m.large) h3
  simpa using h4
theorem EB.put {B0 : Nat} {a : Option Addr} {len cap : Nat} {w : World} {p : Nat} {x0 x1 x2 x3 : Int} {x4 : Bool} {u : World} (h : EB B0 a len cap w p ⟨x0, x1, x2, x3, x4⟩ u) :
    (∀ y : Int, EB B0 a len cap w p ⟨x0, y, x2, x3, x4⟩ (u.setCell ⟨p, 1, none⟩ (.int .i64 y))) ∧ (∀ y : Int, EB B0 a len cap w p ⟨x0, x1, y, x3, x4⟩ (u.setCell ⟨p, 2, none⟩ (.int .i64 y))) ∧ (∀ y : Bool, EB B0 a len cap w p ⟨x0, x1, x2, x3, y⟩ (u.setCell ⟨p, 4, none⟩ (.bool y))) := by
  refine ⟨fun y => ?_, fun y => ?_, fun y => ?_⟩
  · have s0 := EB.set1 h.lt h.src h.gr h.lo 1 (.int .i64 y)
    exact ⟨h.lt, s0.1, s0.2, h.lo, by simpa using heap_setCell_same u p 1 _ _ (.int .i64 y) h.box⟩
  · have s0 := EB.set1 h.lt h.src h.gr h.lo 2 (.int .i64 y)
    exact ⟨h.lt, s0.1, s0.2, h.lo, by simpa using heap_setCell_same u p 2 _ _ (.int .i64 y) h.box⟩
  · have s0 := EB.set1 h.lt h.src h.gr h.lo 4 (.bool y)
    exact ⟨h.lt, s0.1, s0.2, h.lo, by simpa using heap_setCell_same u p 4 _ _ (.bool y) h.box⟩
theorem cel5F {u : World} {b t : Nat} {a0 a1 a2 a3 a4 : Value} (h : u.heap[b]? = some (.cells #[a0, a1, a2, a3, a4] t (0, 0))) : u.cell? ⟨b, 0, none⟩ = some a0 ∧ u.cell? ⟨b, 1, none⟩ = some a1 ∧ u.cell? ⟨b, 2, none⟩ = some a2 ∧ u.cell? ⟨b, 3, none⟩ = some a3 ∧ u.cell? ⟨b, 4, none⟩ = some a4 ∧ ∀ x, u.frozen? ⟨b, x, none⟩ = false := by
  refine ⟨?_, ?_, ?_, ?_, ?_, fun x => ?_⟩
  all_goals first | (simp [World.cell?, h]; done) | (simp [World.frozen?, h]; done)
theorem te_box {u : World} {b : Nat} {a0 a1 a2 a3 a4 : Value} (h : u.heap[b]? = some (.cells #[a0, a1, a2, a3, a4] 66 (0, 0))) (x0 x1 x2 x3 : Int) (x4 : Bool) : (((((u.setCell ⟨b, 0, none⟩ (.int .i64 x0)).setCell ⟨b, 1, none⟩ (.int .i64 x1)).setCell ⟨b, 2, none⟩ (.int .i64 x2)).setCell ⟨b, 3, none⟩ (.int .i64 x3)).setCell ⟨b, 4, none⟩ (.bool x4)).heap[b]? = some (.cells #[.int .i64 x0, .int .i64 x1, .int .i64 x2, .int .i64 x3, .bool x4] 66 (0, 0)) := by
  have h0 := heap_setCell_same u b 0 _ _ (.int .i64 x0) h
  have h1 := heap_setCell_same _ b 1 _ _ (.int .i64 x1) h0
  have h2 := heap_setCell_same _ b 2 _ _ (.int .i64 x2) h1
  have h3 := heap_setCell_same _ b 3 _ _ (.int .i64 x3) h2
  have h4 := heap_setCell_same _ b 4 _ _ (.bool x4) h3
  simpa using h4
theorem te_keep {u : World} {b j : Nat} {y0 y1 y2 y3 y4 : Value} (h : j ≠ b) : (((((u.setCell ⟨b, 0, none⟩ y0).setCell ⟨b, 1, none⟩ y1).setCell ⟨b, 2, none⟩ y2).setCell ⟨b, 3, none⟩ y3).setCell ⟨b, 4, none⟩ y4).heap[j]? = u.heap[j]? := by
  iterate 5 rw [Below.heap_setCell _ _ _ _ h]
theorem g_set {w u : World} {B0 b o : Nat} {y : Value} (h : w.grownBy u (some B0)) (hb : w.heap.size ≤ b) : w.grownBy (u.setCell ⟨b, o, none⟩ y) (some B0) :=
  gfar h (row := some b) ⟨rfl, rfl, rfl, by simp [World.setCell], fun j _ hj => Below.heap_setCell _ _ _ _ (fun q => hj (by rw [q]))⟩ (fun j hj => by cases hj; exact hb)
theorem te_gr {w W u : World} {B0 b : Nat} {y0 y1 y2 y3 y4 : Value} (h : w.grownBy W (some B0)) (h2 : W.grownBy u (some B0)) (hb : w.heap.size ≤ b) : w.grownBy (((((u.setCell ⟨b, 0, none⟩ y0).setCell ⟨b, 1, none⟩ y1).setCell ⟨b, 2, none⟩ y2).setCell ⟨b, 3, none⟩ y3).setCell ⟨b, 4, none⟩ y4) (some B0) :=
  g_set (g_set (g_set (g_set (g_set (Lib.grownBy_trans h h2) hb) hb) hb) hb) hb
structure TeR (B0 B : Nat) (w : World) (a : Option Addr) (len cap : Nat) (b0 b1 b2 b3 b4 b5 b6 b7 b8 b9 b10 b11 b12 b13 : Bool) (v4 v5 v6 v7 v8 v9 v10 v11 v12 v13 v14 v15 v3 : Value) (u : World) : Prop where
  lt : B0 < B
  le : B ≤ w.heap.size
  src : SrcOk u B0 a len cap
  gr : w.grownBy u (some B0)
  c0 : b0 = true → KSrc B0 v4
  c1 : b1 = true → KNum 0 2 v5
  c2 : b2 = true → KLit B [0, 1, 2, 31, 32, 33, 64, 1023] v6 u
  c3 : b3 = true → KSrc B0 v7
  c4 : b4 = true → KNum 0 7 v8
  c5 : b5 = true → KPtr B [0, 1, 2, 31, 32, 33, 64, 1023] v9 u
  c6 : b6 = true → KNum 0 1023 v10
  c7 : b7 = true → KSrc B0 v11
  c8 : b8 = true → KNum 0 39 v12
  c9 : b9 = true → KSrc B0 v13
  c10 : b10 = true → KNum 0 255 v14
  c11 : b11 = true → KTE v15
  c12 : b12 = true → KBoxT B v3 u
set_option maxRecDepth 100000 in
set_option maxHeartbeats 8000000 in
theorem src_tlbEntry (B0 : Nat) (a : Option Addr) (len cap : Nat) (w : World) (h : SrcOk w B0 a len cap) :
    Calls Try.prog 126 #[.pointer (some ⟨B0, 0, none⟩)] w fun e w' => ∃ m : TE, e = .returned (teA m) ∧ SrcOk w' B0 a len cap ∧ w.grownBy w' (some B0) := by
  have hlt := h.lt
  have HS : Hid (SrcOk (w.alloc (.cells #[.int .i64 0, .int .i64 0, .int .i64 0, .int .i64 0, .bool false] 66)) B0 a len cap) := h.far (World.grownBy_alloc _ _ none)
  have HGW : Hid (w.grownBy (w.alloc (.cells #[.int .i64 0, .int .i64 0, .int .i64 0, .int .i64 0, .bool false] 66)) (some B0)) := gAl
  have HR0 : Hid ((w.alloc (.cells #[.int .i64 0, .int .i64 0, .int .i64 0, .int .i64 0, .bool false] 66)).heap[w.heap.size]? = some (.cells #[.int .i64 0, .int .i64 0, .int .i64 0, .int .i64 0, .bool false] 66 (0, 0))) := (MapKept.heap_alloc w _).1
  have HSZ : Hid ((w.alloc (.cells #[.int .i64 0, .int .i64 0, .int .i64 0, .int .i64 0, .bool false] 66)).heap.size = w.heap.size + 1) := (show _ = _ by simp)
  clear h
  go_enter Try.func126, Try.ntmps126
  go_wp2_with fail
  generalize w.alloc (.cells #[.int .i64 0, .int .i64 0, .int .i64 0, .int .i64 0, .bool false] 66) = W at *
  refine wp_region_any (by kernel_rfl) ?_
  refine wpAny_inv (fun L a9 u => ∃ (b0 b1 b2 b3 b4 b5 b6 b7 b8 b9 b10 b11 b12 b13 : Bool) (v4 v5 v6 v7 v8 v9 v10 v11 v12 v13 v14 v15 v3 : Value), L = #[b0, b1, b2, b3, b4, b5, b6, b7, b8, b9, b10, b11, b12, b13] ∧ a9 = { tmps := #[.pointer (some ⟨B0, 0, none⟩), undef, .pointer (some ⟨w.heap.size, 0, none⟩), v3, v4, v5, v6, v7, v8, v9, v10, v11, v12, v13, v14, v15, undef, undef, undef, undef, undef, undef, undef, undef, undef, undef, undef, undef], defers := [] } ∧ ((b13 = false ∧ TeR B0 W.heap.size W a len cap b0 b1 b2 b3 b4 b5 b6 b7 b8 b9 b10 b11 b12 b13 v4 v5 v6 v7 v8 v9 v10 v11 v12 v13 v14 v15 v3 u) ∨ (b0 = true ∧ b1 = true ∧ b2 = true ∧ b3 = true ∧ b4 = true ∧ b5 = true ∧ b6 = true ∧ b7 = true ∧ b8 = true ∧ b9 = true ∧ b10 = true ∧ b11 = true ∧ b12 = true ∧ b13 = true ∧ ∃ (p : Nat) (m : TE), v3 = .pointer (some ⟨p, 0, none⟩) ∧ EB B0 a len cap W p m u))) ?hs ?hd _ _ _ _ (by decide) ?st
  case st => exact ⟨false, false, false, false, false, false, false, false, false, false, false, false, false, false, undef, undef, undef, undef, undef, undef, undef, undef, undef, undef, undef, undef, undef, rfl, rfl, .inl ⟨rfl, ⟨by have := HSZ.out; omega, Nat.le_refl _, HS.out.bel (Below.refl _ _).drew, ⟨rfl, rfl, rfl, Nat.le_refl _, fun _ _ _ => rfl⟩, (fun e => by cases e), (fun e => by cases e), (fun e => by cases e), (fun e => by cases e), (fun e => by cases e), (fun e => by cases e), (fun e => by cases e), (fun e => by cases e), (fun e => by cases e), (fun e => by cases e), (fun e => by cases e), (fun e => by cases e), (fun e => by cases e)⟩⟩⟩
  case hd =>
    rintro L a9 u ⟨b0, b1, b2, b3, b4, b5, b6, b7, b8, b9, b10, b11, b12, b13, v4, v5, v6, v7, v8, v9, v10, v11, v12, v13, v14, v15, v3, rfl, rfl, hI⟩ hr
    have hall := fun he hL => all_up (md := _) he hL hr
    have hall2 := hall (by kernel_rfl) rfl
    rcases hI with ⟨rfl, hI⟩ | ⟨rfl, rfl, rfl, rfl, rfl, rfl, rfl, rfl, rfl, rfl, rfl, rfl, rfl, rfl, p, ⟨x0, x1, x2, x3, x4⟩, rfl, hM⟩
    · exact Bool.noConfusion (show false = true from hall2 13 (by decide))
    have HM1 : Hid (EB B0 a len cap W p ⟨x0, x1, x2, x3, x4⟩ u) := hM
    clear hM hr hall hall2 HS
    go_wp2_with fail
    refine (src_one B0 a len cap 4 u HM1.out.src (by omega)).mono ?_
    rintro e U1 ⟨t1, rfl, hs1, hg1⟩
    have HM2 : Hid (EB B0 a len cap W p ⟨x0, x1, x2, x3, x4⟩ U1) := HM1.out.step hs1 hg1
    clear hs1 hg1 HM1
    cases t1
    · skip
      obtain ⟨d0, d1, d2, d3, d4, df⟩ := cel5F HM2.out.box
      have HRB : Hid (U1.heap[w.heap.size]? = some (.cells #[.int .i64 0, .int .i64 0, .int .i64 0, .int .i64 0, .bool false] 66 (0, 0))) := (HM2.out.gr.block _ (Array.getElem?_eq_some_iff.1 HR0.out).1 (by simp; omega)).trans HR0.out
      obtain ⟨r0, r1, r2, r3, r4, rf⟩ := cel5F HRB.out
      have hltR := (Array.getElem?_eq_some_iff.1 HRB.out).1
      have hltP := (Array.getElem?_eq_some_iff.1 HM2.out.box).1
      go_wp2
      have hfin := te_box HRB.out x0 x1 x2 x3 x4
      obtain ⟨f0, f1, f2, f3, f4, _⟩ := cel5F hfin
      refine bodyPost_ret (v := teA ⟨x0, x1, x2, x3, x4⟩) (by simp [results, Try.results126, go_sem, teA, f0, f1, f2, f3, f4]) rfl ?_
      have qA := fun y0 y1 y2 y3 y4 => HM2.out.src.keep (fun j hj => te_keep (b := w.heap.size) (y0 := y0) (y1 := y1) (y2 := y2) (y3 := y3) (y4 := y4) (by omega))
      first
        | exact ⟨_, rfl, qA _ _ _ _ _, te_gr HGW.out HM2.out.gr (Nat.le_refl _)⟩
        | exact ⟨⟨_, rfl⟩, qA _ _ _ _ _, te_gr HGW.out HM2.out.gr (Nat.le_refl _)⟩
    · go_wp2_with fail
      refine (src_n B0 a len cap 3 U1 HM2.out.src (by omega)).mono ?_
      rintro e U2 ⟨q2, rfl, q20, q21, hs2, hg2⟩
      have HM3 : Hid (EB B0 a len cap W p ⟨x0, x1, x2, x3, x4⟩ U2) := HM2.out.step hs2 hg2
      clear hs2 hg2 HM2
      obtain ⟨d0, d1, d2, d3, d4, df⟩ := cel5F HM3.out.box
      have HM4 : Hid (EB B0 a len cap W p ⟨x0, 32 * q2, x2, x3, x4⟩ (U2.setCell ⟨p, 1, none⟩ (.int .i64 (32 * q2)))) := HM3.out.put.1 (32 * q2)
      go_upto_region 4 with fail
      generalize U2.setCell ⟨p, 1, none⟩ (.int .i64 (32 * q2)) = U3 at *
      clear HM3 d0 d1 d2 d3 d4 df
      go_wp2_with fail
      refine (src_n B0 a len cap 2 U3 HM4.out.src (by omega)).mono ?_
      rintro e U4 ⟨q4, rfl, q40, q41, hs4, hg4⟩
      have HM5 : Hid (EB B0 a len cap W p ⟨x0, 32 * q2, x2, x3, x4⟩ U4) := HM4.out.step hs4 hg4
      clear hs4 hg4 HM4
      obtain ⟨d0, d1, d2, d3, d4, df⟩ := cel5F HM5.out.box
      have HM6 : Hid (EB B0 a len cap W p ⟨x0, 32 * q2, 32 * q4, x3, x4⟩ (U4.setCell ⟨p, 2, none⟩ (.int .i64 (32 * q4)))) := HM5.out.put.2.1 (32 * q4)
      go_upto_region 5 with fail
      generalize U4.setCell ⟨p, 2, none⟩ (.int .i64 (32 * q4)) = U5 at *
      clear HM5 d0 d1 d2 d3 d4 df
      obtain ⟨d0, d1, d2, d3, d4, df⟩ := cel5F HM6.out.box
      have HM7 : Hid (EB B0 a len cap W p ⟨x0, 32 * q2, 32 * q4, x3, true⟩ (U5.setCell ⟨p, 4, none⟩ (.bool true))) := HM6.out.put.2.2 true
      go_upto_region 6 with fail
      generalize U5.setCell ⟨p, 4, none⟩ (.bool true) = U6 at *
      clear HM6 d0 d1 d2 d3 d4 df
      obtain ⟨d0, d1, d2, d3, d4, df⟩ := cel5F HM7.out.box
      have HRB : Hid (U6.heap[w.heap.size]? = some (.cells #[.int .i64 0, .int .i64 0, .int .i64 0, .int .i64 0, .bool false] 66 (0, 0))) := (HM7.out.gr.block _ (Array.getElem?_eq_some_iff.1 HR0.out).1 (by simp; omega)).trans HR0.out
      obtain ⟨r0, r1, r2, r3, r4, rf⟩ := cel5F HRB.out
      have hltR := (Array.getElem?_eq_some_iff.1 HRB.out).1
      have hltP := (Array.getElem?_eq_some_iff.1 HM7.out.box).1
      go_wp2
      have hfin := te_box HRB.out x0 (32 * q2) (32 * q4) x3 true
      obtain ⟨f0, f1, f2, f3, f4, _⟩ := cel5F hfin
      refine bodyPost_ret (v := teA ⟨x0, (32 * q2), (32 * q4), x3, true⟩) (by simp [results, Try.results126, go_sem, teA, f0, f1, f2, f3, f4]) rfl ?_
      have qA := fun y0 y1 y2 y3 y4 => HM7.out.src.keep (fun j hj => te_keep (b := w.heap.size) (y0 := y0) (y1 := y1) (y2 := y2) (y3 := y3) (y4 := y4) (by omega))
      first
        | exact ⟨_, rfl, qA _ _ _ _ _, te_gr HGW.out HM7.out.gr (Nat.le_refl _)⟩
        | exact ⟨⟨_, rfl⟩, qA _ _ _ _ _, te_gr HGW.out HM7.out.gr (Nat.le_refl _)⟩
  case hs =>
    rintro L a9 u i ⟨b0, b1, b2, b3, b4, b5, b6, b7, b8, b9, b10, b11, b12, b13, v4, v5, v6, v7, v8, v9, v10, v11, v12, v13, v14, v15, v3, rfl, rfl, hI⟩ hi
    obtain ⟨hf, o, ho, hall⟩ := mem_ready.1 hi
    have hi8 : i < 14 := (Array.getElem?_eq_some_iff.1 ho).1
    rcases hI with ⟨rfl, hI⟩ | ⟨rfl, rfl, rfl, rfl, rfl, rfl, rfl, rfl, rfl, rfl, rfl, rfl, rfl, rfl, _⟩
    · obtain rfl | rfl | rfl | rfl | rfl | rfl | rfl | rfl | rfl | rfl | rfl | rfl | rfl | rfl : i = 0 ∨ i = 1 ∨ i = 2 ∨ i = 3 ∨ i = 4 ∨ i = 5 ∨ i = 6 ∨ i = 7 ∨ i = 8 ∨ i = 9 ∨ i = 10 ∨ i = 11 ∨ i = 12 ∨ i = 13 := by omega
      · obtain rfl : b0 = false := hf
        have HI : Hid _ := hI
        clear hI hall hi
        refine wpOp_step rfl (fun K hK => ?_)
        go_simp
        have h := HI.out
        exact hK _ _ ⟨true, b1, b2, b3, b4, b5, b6, b7, b8, b9, b10, b11, b12, false, _, v5, v6, v7, v8, v9, v10, v11, v12, v13, v14, v15, v3, rfl, rfl, .inl ⟨rfl, ⟨h.lt, h.le, h.src, h.gr, fun _ => rfl, h.c1, h.c2, h.c3, h.c4, h.c5, h.c6, h.c7, h.c8, h.c9, h.c10, h.c11, h.c12⟩⟩⟩
      · obtain rfl : b1 = false := hf
        cases ho
        have hb0 : b0 = true := hall { on := 0, ground := .data } (by simp) rfl
        have e0 : v4 = .pointer (some ⟨B0, 0, none⟩) := hI.c0 hb0
        subst e0
        have HN : Hid _ := src_n B0 a len cap 3 u hI.src (by omega)
        have HI : Hid _ := hI
        clear hI hall hi
        refine wpOp_step rfl (fun K hK => ?_)
        go_simp
        refine Calls.mono HN.out ?_
        rintro e9 u5 ⟨r, rfl, r0, r1, hs5, hg5⟩
        have h := HI.out
        exact hK _ _ ⟨b0, true, b2, b3, b4, b5, b6, b7, b8, b9, b10, b11, b12, false, _, _, v6, v7, v8, v9, v10, v11, v12, v13, v14, v15, v3, rfl, rfl, .inl ⟨rfl, ⟨h.lt, h.le, hs5, Lib.grownBy_trans h.gr hg5, h.c0, fun _ => ⟨r, rfl, r0, by omega⟩, fun e => (h.c2 e).grow h.lt hg5, h.c3, h.c4, fun e => (h.c5 e).grow h.lt hg5, h.c6, h.c7, h.c8, h.c9, h.c10, h.c11, fun e => (h.c12 e).grow h.lt hg5⟩⟩⟩
      · obtain rfl : b2 = false := hf
        have HI : Hid _ := hI
        clear hI hall hi
        refine wpOp_step rfl (fun K hK => ?_)
        go_simp
        have h := HI.out
        exact hK _ _ ⟨b0, b1, true, b3, b4, b5, b6, b7, b8, b9, b10, b11, b12, false, v4, v5, _, v7, v8, v9, v10, v11, v12, v13, v14, v15, v3, rfl, rfl, .inl ⟨rfl, ⟨h.lt, h.le, h.src.far (World.grownBy_alloc _ _ none), Lib.grownBy_trans h.gr gAl, h.c0, h.c1, fun _ => ⟨u.heap.size, rfl, Nat.le_trans h.le h.gr.size, (MapKept.heap_alloc u _).1⟩, h.c3, h.c4, fun e => (h.c5 e).grow h.lt gAl, h.c6, h.c7, h.c8, h.c9, h.c10, h.c11, fun e => (h.c12 e).grow h.lt gAl⟩⟩⟩
      · obtain rfl : b3 = false := hf
        have HI : Hid _ := hI
        clear hI hall hi
        refine wpOp_step rfl (fun K hK => ?_)
        go_simp
        have h := HI.out
        exact hK _ _ ⟨b0, b1, b2, true, b4, b5, b6, b7, b8, b9, b10, b11, b12, false, v4, v5, v6, _, v8, v9, v10, v11, v12, v13, v14, v15, v3, rfl, rfl, .inl ⟨rfl, ⟨h.lt, h.le, h.src, h.gr, h.c0, h.c1, h.c2, fun _ => rfl, h.c4, h.c5, h.c6, h.c7, h.c8, h.c9, h.c10, h.c11, h.c12⟩⟩⟩
      · obtain rfl : b4 = false := hf
        cases ho
        have hb3 : b3 = true := hall { on := 3, ground := .data } (by simp) rfl
        have e3 : v7 = .pointer (some ⟨B0, 0, none⟩) := hI.c3 hb3
        subst e3
        have HN : Hid _ := src_n B0 a len cap 8 u hI.src (by omega)
        have HI : Hid _ := hI
        clear hI hall hi
        refine wpOp_step rfl (fun K hK => ?_)
        go_simp
        refine Calls.mono HN.out ?_
        rintro e9 u5 ⟨r, rfl, r0, r1, hs5, hg5⟩
        have h := HI.out
        exact hK _ _ ⟨b0, b1, b2, b3, true, b5, b6, b7, b8, b9, b10, b11, b12, false, v4, v5, v6, _, _, v9, v10, v11, v12, v13, v14, v15, v3, rfl, rfl, .inl ⟨rfl, ⟨h.lt, h.le, hs5, Lib.grownBy_trans h.gr hg5, h.c0, h.c1, fun e => (h.c2 e).grow h.lt hg5, h.c3, fun _ => ⟨r, rfl, r0, by omega⟩, fun e => (h.c5 e).grow h.lt hg5, h.c6, h.c7, h.c8, h.c9, h.c10, h.c11, fun e => (h.c12 e).grow h.lt hg5⟩⟩⟩
      · obtain rfl : b5 = false := hf
        cases ho
        have hb2 : b2 = true := hall { on := 2, ground := .data } (by simp) rfl
        have hb4 : b4 = true := hall { on := 4, ground := .data } (by simp) rfl
        obtain ⟨p2, e2, p2b, p2c⟩ := hI.c2 hb2
        replace e2 : v6 = .slice (some ⟨p2, 0, none⟩) 8 8 := e2
        subst e2
        obtain ⟨y4, rfl, y4b, y4c⟩ := hI.c4 hb4
        obtain ⟨R, rfl⟩ := Int.eq_ofNat_of_zero_le y4b
        have R1 : (R : Int) < 8 := by omega
        have R0 : R < 8 := by omega
        have HI : Hid _ := hI
        clear hI hall hi
        refine wpOp_step rfl (fun K hK => ?_)
        go_simp
        have h := HI.out
        exact hK _ _ ⟨b0, b1, b2, b3, b4, true, b6, b7, b8, b9, b10, b11, b12, false, v4, v5, _, v7, _, _, v10, v11, v12, v13, v14, v15, v3, rfl, rfl, .inl ⟨rfl, ⟨h.lt, h.le, h.src, h.gr, h.c0, h.c1, h.c2, h.c3, h.c4, fun _ => ⟨p2, R, rfl, R0, p2b, p2c⟩, h.c6, h.c7, h.c8, h.c9, h.c10, h.c11, h.c12⟩⟩⟩
      · obtain rfl : b6 = false := hf
        cases ho
        have hb5 : b5 = true := hall { on := 5, ground := .data } (by simp) rfl
        obtain ⟨p5, r5, rfl, r5b, p5b, p5c⟩ := hI.c5 hb5
        have hcl := lit_cell p5c r5b
        have hbd := inB.at (lo := 0) (hi := 1023) (by unfold inB; decide) r5b
        generalize ([0, 1, 2, 31, 32, 33, 64, 1023] : List Int)[r5] = y at hcl hbd
        have HI : Hid _ := hI
        clear hI hall hi
        refine wpOp_step rfl (fun K hK => ?_)
        go_simp
        have h := HI.out
        exact hK _ _ ⟨b0, b1, b2, b3, b4, b5, true, b7, b8, b9, b10, b11, b12, false, v4, v5, v6, v7, v8, _, _, v11, v12, v13, v14, v15, v3, rfl, rfl, .inl ⟨rfl, ⟨h.lt, h.le, h.src, h.gr, h.c0, h.c1, h.c2, h.c3, h.c4, h.c5, fun _ => ⟨y, rfl, hbd.1, hbd.2⟩, h.c7, h.c8, h.c9, h.c10, h.c11, h.c12⟩⟩⟩
      · obtain rfl : b7 = false := hf
        have HI : Hid _ := hI
        clear hI hall hi
        refine wpOp_step rfl (fun K hK => ?_)
        go_simp
        have h := HI.out
        exact hK _ _ ⟨b0, b1, b2, b3, b4, b5, b6, true, b8, b9, b10, b11, b12, false, v4, v5, v6, v7, v8, v9, v10, _, v12, v13, v14, v15, v3, rfl, rfl, .inl ⟨rfl, ⟨h.lt, h.le, h.src, h.gr, h.c0, h.c1, h.c2, h.c3, h.c4, h.c5, h.c6, fun _ => rfl, h.c8, h.c9, h.c10, h.c11, h.c12⟩⟩⟩
      · obtain rfl : b8 = false := hf
        cases ho
        have hb7 : b7 = true := hall { on := 7, ground := .data } (by simp) rfl
        have e7 : v11 = .pointer (some ⟨B0, 0, none⟩) := hI.c7 hb7
        subst e7
        have HN : Hid _ := src_n B0 a len cap 40 u hI.src (by omega)
        have HI : Hid _ := hI
        clear hI hall hi
        refine wpOp_step rfl (fun K hK => ?_)
        go_simp
        refine Calls.mono HN.out ?_
        rintro e9 u5 ⟨r, rfl, r0, r1, hs5, hg5⟩
        have h := HI.out
        exact hK _ _ ⟨b0, b1, b2, b3, b4, b5, b6, b7, true, b9, b10, b11, b12, false, v4, v5, v6, v7, v8, v9, v10, _, _, v13, v14, v15, v3, rfl, rfl, .inl ⟨rfl, ⟨h.lt, h.le, hs5, Lib.grownBy_trans h.gr hg5, h.c0, h.c1, fun e => (h.c2 e).grow h.lt hg5, h.c3, h.c4, fun e => (h.c5 e).grow h.lt hg5, h.c6, h.c7, fun _ => ⟨r, rfl, r0, by omega⟩, h.c9, h.c10, h.c11, fun e => (h.c12 e).grow h.lt hg5⟩⟩⟩
      · obtain rfl : b9 = false := hf
        have HI : Hid _ := hI
        clear hI hall hi
        refine wpOp_step rfl (fun K hK => ?_)
        go_simp
        have h := HI.out
        exact hK _ _ ⟨b0, b1, b2, b3, b4, b5, b6, b7, b8, true, b10, b11, b12, false, v4, v5, v6, v7, v8, v9, v10, v11, v12, _, v14, v15, v3, rfl, rfl, .inl ⟨rfl, ⟨h.lt, h.le, h.src, h.gr, h.c0, h.c1, h.c2, h.c3, h.c4, h.c5, h.c6, h.c7, h.c8, fun _ => rfl, h.c10, h.c11, h.c12⟩⟩⟩
      · obtain rfl : b10 = false := hf
        cases ho
        have hb9 : b9 = true := hall { on := 9, ground := .data } (by simp) rfl
        have e9 : v13 = .pointer (some ⟨B0, 0, none⟩) := hI.c9 hb9
        subst e9
        have HN : Hid _ := src_n B0 a len cap 256 u hI.src (by omega)
        have HI : Hid _ := hI
        clear hI hall hi
        refine wpOp_step rfl (fun K hK => ?_)
        go_simp
        refine Calls.mono HN.out ?_
        rintro e9 u5 ⟨r, rfl, r0, r1, hs5, hg5⟩
        have h := HI.out
        exact hK _ _ ⟨b0, b1, b2, b3, b4, b5, b6, b7, b8, b9, true, b11, b12, false, v4, v5, v6, v7, v8, v9, v10, v11, v12, _, _, v15, v3, rfl, rfl, .inl ⟨rfl, ⟨h.lt, h.le, hs5, Lib.grownBy_trans h.gr hg5, h.c0, h.c1, fun e => (h.c2 e).grow h.lt hg5, h.c3, h.c4, fun e => (h.c5 e).grow h.lt hg5, h.c6, h.c7, h.c8, h.c9, fun _ => ⟨r, rfl, r0, by omega⟩, h.c11, fun e => (h.c12 e).grow h.lt hg5⟩⟩⟩
      · obtain rfl : b11 = false := hf
        cases ho
        have hb1 : b1 = true := hall { on := 1, ground := .data } (by simp) rfl
        have hb6 : b6 = true := hall { on := 6, ground := .data } (by simp) rfl
        have hb8 : b8 = true := hall { on := 8, ground := .data } (by simp) rfl
        have hb10 : b10 = true := hall { on := 10, ground := .data } (by simp) rfl
        obtain ⟨y1, rfl, y1b, y1c⟩ := hI.c1 hb1
        obtain ⟨y6, rfl, y6b, y6c⟩ := hI.c6 hb6
        obtain ⟨y8, rfl, y8b, y8c⟩ := hI.c8 hb8
        obtain ⟨y10, rfl, y10b, y10c⟩ := hI.c10 hb10
        have HI : Hid _ := hI
        clear hI hall hi
        refine wpOp_step rfl (fun K hK => ?_)
        go_simp
        have h := HI.out
        exact hK _ _ ⟨b0, b1, b2, b3, b4, b5, b6, b7, b8, b9, b10, true, b12, false, v4, _, v6, v7, v8, v9, _, v11, _, v13, _, _, v3, rfl, rfl, .inl ⟨rfl, ⟨h.lt, h.le, h.src, h.gr, h.c0, h.c1, h.c2, h.c3, h.c4, h.c5, h.c6, h.c7, h.c8, h.c9, h.c10, fun _ => ⟨⟨y1, y6, y8, y10, false⟩, rfl⟩, h.c12⟩⟩⟩
      · obtain rfl : b12 = false := hf
        have HI : Hid _ := hI
        clear hI hall hi
        refine wpOp_step rfl (fun K hK => ?_)
        go_simp
        have h := HI.out
        exact hK _ _ ⟨b0, b1, b2, b3, b4, b5, b6, b7, b8, b9, b10, b11, true, false, v4, v5, v6, v7, v8, v9, v10, v11, v12, v13, v14, v15, _, rfl, rfl, .inl ⟨rfl, ⟨h.lt, h.le, h.src.far (World.grownBy_alloc _ _ none), Lib.grownBy_trans h.gr gAl, h.c0, h.c1, fun e => (h.c2 e).grow h.lt gAl, h.c3, h.c4, fun e => (h.c5 e).grow h.lt gAl, h.c6, h.c7, h.c8, h.c9, h.c10, h.c11, fun _ => ⟨u.heap.size, rfl, Nat.le_trans h.le h.gr.size, (MapKept.heap_alloc u _).1⟩⟩⟩⟩
      · cases ho
        obtain rfl : b0 = true := hall { on := 0, ground := .phase } (by simp) rfl
        obtain rfl : b1 = true := hall { on := 1, ground := .phase } (by simp) rfl
        obtain rfl : b2 = true := hall { on := 2, ground := .phase } (by simp) rfl
        obtain rfl : b3 = true := hall { on := 3, ground := .phase } (by simp) rfl
        obtain rfl : b4 = true := hall { on := 4, ground := .phase } (by simp) rfl
        obtain rfl : b5 = true := hall { on := 5, ground := .phase } (by simp) rfl
        obtain rfl : b6 = true := hall { on := 6, ground := .phase } (by simp) rfl
        obtain rfl : b7 = true := hall { on := 7, ground := .phase } (by simp) rfl
        obtain rfl : b8 = true := hall { on := 8, ground := .phase } (by simp) rfl
        obtain rfl : b9 = true := hall { on := 9, ground := .phase } (by simp) rfl
        obtain rfl : b10 = true := hall { on := 10, ground := .phase } (by simp) rfl
        obtain rfl : b11 = true := hall { on := 11, ground := .phase } (by simp) rfl
        obtain rfl : b12 = true := hall { on := 12, ground := .phase } (by simp) rfl
        have hb12 : true = true := rfl
        have hb11 : true = true := rfl
        obtain ⟨p12, rfl, p12b, p12c⟩ := hI.c12 hb12
        obtain ⟨⟨m0, m1, m2, m3, m4⟩, hm9⟩ := hI.c11 hb11
        unfold teA at hm9
        simp only at hm9
        subst hm9
        have h := hI
        obtain ⟨c0, c1, c2, c3, c4, cf⟩ := cel5F p12c
        have HF : Hid (EB B0 a len cap W p12 ⟨m0, m1, m2, m3, m4⟩ (((((u.setCell ⟨p12, 0, none⟩ (.int .i64 m0)).setCell ⟨p12, 1, none⟩ (.int .i64 m1)).setCell ⟨p12, 2, none⟩ (.int .i64 m2)).setCell ⟨p12, 3, none⟩ (.int .i64 m3)).setCell ⟨p12, 4, none⟩ (.bool m4))) := eb_put h.lt h.src h.gr p12b p12c ⟨m0, m1, m2, m3, m4⟩ rfl
        clear hI h hall hi p12c
        refine wpOp_step rfl (fun K hK => ?_)
        go_simp
        exact hK _ _ ⟨true, true, true, true, true, true, true, true, true, true, true, true, true, true, v4, v5, v6, v7, v8, v9, v10, v11, v12, v13, v14, _, _, rfl, rfl, .inr ⟨rfl, rfl, rfl, rfl, rfl, rfl, rfl, rfl, rfl, rfl, rfl, rfl, rfl, rfl, p12, ⟨m0, m1, m2, m3, m4⟩, rfl, HF.out⟩⟩
    · exfalso
      obtain rfl | rfl | rfl | rfl | rfl | rfl | rfl | rfl | rfl | rfl | rfl | rfl | rfl | rfl : i = 0 ∨ i = 1 ∨ i = 2 ∨ i = 3 ∨ i = 4 ∨ i = 5 ∨ i = 6 ∨ i = 7 ∨ i = 8 ∨ i = 9 ∨ i = 10 ∨ i = 11 ∨ i = 12 ∨ i = 13 := by omega
      all_goals exact absurd hf (by decide)

theorem putL_len (zs : List TE) (nx : Int) (e : TE) (h : zs.length ≤ 16) : (putL zs nx e).length ≤ 16 := by
  unfold putL
  split
  · exact h
  · split
    · rw [List.length_set]
      exact h
    · split
      · rw [List.length_append, List.length_singleton]
        omega
      · rw [List.length_set]
        exact h
theorem tlbC_or (zs : List TE) (nx : Int) : tlbC zs nx = 0 ∨ tlbC zs nx = 1 := by
  unfold tlbC
  split <;> simp
theorem tlbC_z {zs : List TE} {nx : Int} (h : tlbC zs nx = 0) : zs.length ≤ 16 ∧ 0 ≤ nx ∧ nx ≤ 15 := by
  unfold tlbC at h
  split at h
  · rename_i q
    exact ⟨q.1, q.2.1, q.2.2.1⟩
  · cases h
/-- What putting an entry answers: a cache of its own. -/
def PutT (u : World) (r : Ending) (w' : World) : Prop := ∃ (ao2 : Option Addr) (zs2 : List TE) (cp2 : Nat) (nx2 : Int), r = .returned (.agg #[.slice ao2 zs2.length cp2, .int .i64 nx2]) ∧ zs2.length ≤ 16 ∧ w'.ownsRow u.heap.size 66 5 (.slice ao2 zs2.length cp2) zs2.length (teR zs2) ∧ Below u.heap.size u w'
theorem putT_any {u : World} {B : Nat} {ao : Option Addr} {cp : Nat} {zs : List TE} (h : u.ownsRow B 66 5 (.slice ao zs.length cp) zs.length (teR zs)) (nx : Int) (e : TE) (hl : zs.length ≤ 16) : Calls Try.prog 125 #[.agg #[.slice ao zs.length cp, .int .i64 nx], teA e] u fun r w' => PutT u r w' := by
  rcases tlbC_or zs nx with hc | hc
  · obtain ⟨_, x0, x1⟩ := tlbC_z hc
    refine (specPut_good h nx e hl hc x0 x1).mono ?_
    rintro r w' ⟨ao2, cap2, rfl, ho, hb⟩
    exact ⟨ao2, putL zs nx e, cap2, putN zs nx e, rfl, putL_len zs nx e hl, ho, hb⟩
  · refine (specPut_bad (TErow.of h) nx e (by omega) hc).mono ?_
    rintro r w' ⟨rfl, hb⟩
    exact ⟨none, [], 0, 0, rfl, by decide, World.ownsRow_nil _ _ _ _, hb⟩
def KTl (B : Nat) (v : Value) (u : World) : Prop := ∃ (ao : Option Addr) (zs : List TE) (cp : Nat) (nx : Int), v = .agg #[.slice ao zs.length cp, .int .i64 nx] ∧ zs.length ≤ 16 ∧ u.ownsRow B 66 5 (.slice ao zs.length cp) zs.length (teR zs)
theorem row_g {u u' : World} {B b n : Nat} {v : Value} {xs : List Value} (h : u.ownsRow B 66 5 v n xs) (hb : b < B) (hg : u.grownBy u' (some b)) : u'.ownsRow B 66 5 v n xs := by
  refine h.kept hg ?_
  cases ho : v.ownBlock with
  | none => exact .inl rfl
  | some q => exact .inr (by have := h.lt q ho; simp; omega)
theorem KTl.grow {B b : Nat} {v : Value} {u u' : World} (h : KTl B v u) (hb : b < B) (hg : u.grownBy u' (some b)) : KTl B v u' := by
  obtain ⟨ao, zs, cp, nx, h1, h2, h3⟩ := h
  exact ⟨ao, zs, cp, nx, h1, h2, row_g h3 hb hg⟩
/-- A cache under way, in its box. -/
structure TLs (B0 : Nat) (a : Option Addr) (len cap : Nat) (w : World) (ao : Option Addr) (zs : List TE) (cp : Nat) (nx : Int) (u : World) : Prop where
  lt : B0 < w.heap.size
  src : SrcOk u B0 a len cap
  gr : w.grownBy u (some B0)
  rbox : u.heap[w.heap.size]? = some (.cells #[.slice none 0 0, .int .i64 0] 61 (0, 0))
  box : u.heap[w.heap.size + 1]? = some (.cells #[.slice ao zs.length cp, .int .i64 nx] 61 (0, 0))
  row : u.ownsRow (w.heap.size + 2) 66 5 (.slice ao zs.length cp) zs.length (teR zs)
  l16 : zs.length ≤ 16
theorem TLs.put {B0 : Nat} {a : Option Addr} {len cap : Nat} {w W : World} {ao ao2 : Option Addr} {zs zs2 : List TE} {cp cp2 : Nat} {nx nx2 : Int} {u U : World} (h : TLs B0 a len cap w ao zs cp nx W) (src : SrcOk u B0 a len cap) (gr : W.grownBy u (some B0)) (row : u.ownsRow W.heap.size 66 5 (.slice ao2 zs2.length cp2) zs2.length (teR zs2)) (l : zs2.length ≤ 16) (hU : (u.setCell ⟨w.heap.size + 1, 0, none⟩ (.slice ao2 zs2.length cp2)).setCell ⟨w.heap.size + 1, 1, none⟩ (.int .i64 nx2) = U) : TLs B0 a len cap w ao2 zs2 cp2 nx2 U := by
  subst hU
  have h1 := h.lt
  have hW : w.heap.size + 1 < W.heap.size := (Array.getElem?_eq_some_iff.1 h.box).1
  have hb : u.heap[w.heap.size + 1]? = some (.cells #[.slice ao zs.length cp, .int .i64 nx] 61 (0, 0)) := (gr.block _ hW (by simp; omega)).trans h.box
  have hr : u.heap[w.heap.size]? = some (.cells #[.slice none 0 0, .int .i64 0] 61 (0, 0)) := (gr.block _ (by omega) (by simp; omega)).trans h.rbox
  have q0 := heap_setCell_same u (w.heap.size + 1) 0 _ _ (.slice ao2 zs2.length cp2) hb
  have q1 := heap_setCell_same _ (w.heap.size + 1) 1 _ _ (.int .i64 nx2) q0
  refine ⟨h.lt, ?_, g_set (g_set (Lib.grownBy_trans h.gr gr) (by omega)) (by omega), ?_, by simpa using q1, ?_, l⟩
  · exact (src.keep (fun j hj => (Below.heap_setCell _ _ _ _ (by simp only; omega)).trans (Below.heap_setCell _ _ _ _ (by simp only; omega))))
  · exact ((Below.heap_setCell _ _ _ _ (by simp only; omega)).trans (Below.heap_setCell _ _ _ _ (by simp only; omega))).trans hr
  · have hne : (Value.slice ao2 zs2.length cp2).ownBlock ≠ some (w.heap.size + 1) := fun q => by have := (row.lt _ q).1; omega
    exact te_weak (own_set (own_set row hne) hne) (by omega)
structure TlR (B0 B : Nat) (w : World) (a : Option Addr) (len cap : Nat) (ao : Option Addr) (zs : List TE) (cp : Nat) (nx : Int) (b0 b1 b2 b3 b4 : Bool) (v12 v13 v14 v15 : Value) (u : World) : Prop where
  lt : B0 < B
  le : B ≤ w.heap.size
  src : SrcOk u B0 a len cap
  gr : w.grownBy u (some B0)
  c0 : b0 = true → v12 = .agg #[.slice ao zs.length cp, .int .i64 nx]
  c1 : b1 = true → KSrc B0 v13
  c2 : b2 = true → KTE v14
  c3 : b3 = true → KTl B v15 u
set_option maxRecDepth 100000 in
set_option maxHeartbeats 8000000 in
theorem src_tlb (B0 : Nat) (a : Option Addr) (len cap : Nat) (w : World) (h : SrcOk w B0 a len cap) :
    Calls Try.prog 114 #[.pointer (some ⟨B0, 0, none⟩)] w fun e w' => ∃ (ao : Option Addr) (zs : List TE) (cp : Nat) (nx : Int), e = .returned (.agg #[.slice ao zs.length cp, .int .i64 nx]) ∧ zs.length ≤ 16 ∧ w'.ownsRow (w.heap.size + 2) 66 5 (.slice ao zs.length cp) zs.length (teR zs) ∧ SrcOk w' B0 a len cap ∧ w.grownBy w' (some B0) := by
  have hlt := h.lt
  have hb1 := (Below.refl w.heap.size w).alloc (Nat.le_refl _) (.cells #[.slice none 0 0, .int .i64 0] 61)
  have hb2 := hb1.alloc (by simp) (.cells #[.slice none 0 0, .int .i64 0] 61)
  have HT0 : Hid (TLs B0 a len cap w none [] 0 0 ((w.alloc (.cells #[.slice none 0 0, .int .i64 0] 61)).alloc (.cells #[.slice none 0 0, .int .i64 0] 61))) := ⟨hlt, h.bel hb2, gbel (World.grownBy.refl _ _) hb2, (Below.heap_alloc _ _ _ (by simp)).trans (MapKept.heap_alloc w _).1, by simpa using (MapKept.heap_alloc (w.alloc (.cells #[.slice none 0 0, .int .i64 0] 61)) (.cells #[.slice none 0 0, .int .i64 0] 61)).1, World.ownsRow_nil _ _ _ _, by decide⟩
  clear h hb1 hb2
  go_enter Try.func114, Try.ntmps114
  go_wp2_with fail
  generalize (w.alloc (.cells #[.slice none 0 0, .int .i64 0] 61)).alloc (.cells #[.slice none 0 0, .int .i64 0] 61) = W at *
  refine (src_n B0 a len cap 20 W HT0.out.src (by omega)).mono ?_
  rintro e w1 ⟨r, rfl, r0, r1, hs1, hg1⟩
  have HT1 : Hid (TLs B0 a len cap w none [] 0 0 w1) := ⟨hlt, hs1, Lib.grownBy_trans HT0.out.gr hg1, (hg1.block _ (Array.getElem?_eq_some_iff.1 HT0.out.rbox).1 (by simp; omega)).trans HT0.out.rbox, (hg1.block _ (Array.getElem?_eq_some_iff.1 HT0.out.box).1 (by simp; omega)).trans HT0.out.box, World.ownsRow_nil _ _ _ _, by decide⟩
  have r2 : r ≤ 19 := by omega
  clear hs1 hg1 HT0 r1
  go_wp2
  go_loopw [4] (fun k wr => ∃ (j : Nat) (ao : Option Addr) (zs : List TE) (cp : Nat) (nx : Int), k = .int .i64 j ∧ j ≤ 20 ∧ TLs B0 a len cap w ao zs cp nx wr) (fun k _ => (intOf k).toNat)
  case atStart => exact ⟨r.toNat, none, [], 0, 0, by rw [Int.toNat_of_nonneg r0], by omega, HT1.out⟩
  case round =>
    clear HT1
    obtain ⟨j, ao, zs, cp, nx, rfl, hj, ht⟩ := hrel
    have HT : Hid (TLs B0 a len cap w ao zs cp nx wr) := ht
    clear ht
    by_cases hj0 : j = 0
    · subst hj0
      obtain ⟨q0, q1⟩ := cel2 HT.out.box
      obtain ⟨t0, t1⟩ := cel2 HT.out.rbox
      have tf : ∀ x, wr.frozen? ⟨w.heap.size, x, none⟩ = false := fun x => by simp [World.frozen?, HT.out.rbox]
      have hlr := (Array.getElem?_eq_some_iff.1 HT.out.rbox).1
      have hlb := (Array.getElem?_eq_some_iff.1 HT.out.box).1
      go_wp2
      have hfin : ((wr.setCell ⟨w.heap.size, 0, none⟩ (.slice ao zs.length cp)).setCell ⟨w.heap.size, 1, none⟩ (.int .i64 nx)).heap[w.heap.size]? = some (.cells #[.slice ao zs.length cp, .int .i64 nx] 61 (0, 0)) := by
        have z0 := heap_setCell_same wr w.heap.size 0 _ _ (.slice ao zs.length cp) HT.out.rbox
        have z1 := heap_setCell_same _ w.heap.size 1 _ _ (.int .i64 nx) z0
        simpa using z1
      obtain ⟨f0, f1⟩ := cel2 hfin
      have hne : (Value.slice ao zs.length cp).ownBlock ≠ some w.heap.size := fun q => by have := (HT.out.row.lt _ q).1; omega
      exact bodyPost_ret (v := .agg #[.slice ao zs.length cp, .int .i64 nx]) (by simp [results, Try.results114, go_sem, f0, f1]) rfl ⟨ao, zs, cp, nx, rfl, HT.out.l16, own_set (own_set HT.out.row hne) hne, HT.out.src.keep (fun i hi => (Below.heap_setCell _ _ _ _ (by simp only; omega)).trans (Below.heap_setCell _ _ _ _ (by simp only; omega))), g_set (g_set HT.out.gr (Nat.le_refl _)) (Nat.le_refl _)⟩
    · have j1 : (0 : Int) < (j : Int) := by omega
      have hj8 : (0 < j) = True := by simp; omega
      have hj9 : (j : Int) ≤ 20 := by omega
      go_wp2_with fail
      refine wp_region_any (by kernel_rfl) ?_
      refine wpAny_inv (fun L a9 u => ∃ (b0 b1 b2 b3 b4 : Bool) (v12 v13 v14 v15 : Value), L = #[b0, b1, b2, b3, b4] ∧ a9 = { tmps := #[.pointer (some ⟨B0, 0, none⟩), undef, .pointer (some ⟨w.heap.size, 0, none⟩), .pointer (some ⟨w.heap.size + 1, 0, none⟩), .int .i64 (j : Int), .agg #[.slice none 0 0, .int .i64 0], .pointer (some ⟨B0, 0, none⟩), .int .i64 r, .int .i64 (j : Int), .bool true, u10, u11, v12, v13, v14, v15, undef], defers := [] } ∧ ((b4 = false ∧ TlR B0 wr.heap.size wr a len cap ao zs cp nx b0 b1 b2 b3 b4 v12 v13 v14 v15 u) ∨ (b0 = true ∧ b1 = true ∧ b2 = true ∧ b3 = true ∧ b4 = true ∧ ∃ (ao2 : Option Addr) (zs2 : List TE) (cp2 : Nat) (nx2 : Int), TLs B0 a len cap w ao2 zs2 cp2 nx2 u))) ?hs ?hd _ _ _ _ (by decide) ?st
      case st => exact ⟨false, false, false, false, false, u12, u13, u14, u15, rfl, rfl, .inl ⟨rfl, ⟨Nat.lt_of_lt_of_le hlt HT.out.gr.size, Nat.le_refl _, HT.out.src.bel (Below.refl _ _).drew, ⟨rfl, rfl, rfl, Nat.le_refl _, fun _ _ _ => rfl⟩, (fun e => by cases e), (fun e => by cases e), (fun e => by cases e), (fun e => by cases e)⟩⟩⟩
      case hd =>
        rintro L a9 u ⟨b0, b1, b2, b3, b4, v12, v13, v14, v15, rfl, rfl, hI⟩ hr
        have hall := fun he hL => all_up (md := _) he hL hr
        have hall2 := hall (by kernel_rfl) rfl
        rcases hI with ⟨rfl, hI⟩ | ⟨rfl, rfl, rfl, rfl, rfl, ao2, zs2, cp2, nx2, hM⟩
        · exact Bool.noConfusion (show false = true from hall2 4 (by decide))
        have HM1 : Hid (TLs B0 a len cap w ao2 zs2 cp2 nx2 u) := hM
        clear hM hr hall hall2
        go_wp2
        refine ⟨⟨j - 1, ao2, zs2, cp2, nx2, by go_num, by omega, HM1.out⟩, by simp [intOf]; omega⟩
      case hs =>
        rintro L a9 u i ⟨b0, b1, b2, b3, b4, v12, v13, v14, v15, rfl, rfl, hI⟩ hi
        obtain ⟨hf, o, ho, hall⟩ := mem_ready.1 hi
        have hi8 : i < 5 := (Array.getElem?_eq_some_iff.1 ho).1
        rcases hI with ⟨rfl, hI⟩ | ⟨rfl, rfl, rfl, rfl, rfl, _⟩
        · obtain rfl | rfl | rfl | rfl | rfl : i = 0 ∨ i = 1 ∨ i = 2 ∨ i = 3 ∨ i = 4 := by omega
          · obtain rfl : b0 = false := hf
            have HI : Hid _ := hI
            have hbx : u.heap[w.heap.size + 1]? = some (.cells #[.slice ao zs.length cp, .int .i64 nx] 61 (0, 0)) := (hI.gr.block _ (Array.getElem?_eq_some_iff.1 HT.out.box).1 (by simp; omega)).trans HT.out.box
            obtain ⟨q0, q1⟩ := cel2 hbx
            have hlx := (Array.getElem?_eq_some_iff.1 hbx).1
            clear hbx
            clear hI hall hi
            refine wpOp_step rfl (fun K hK => ?_)
            go_simp
            have h := HI.out
            exact hK _ _ ⟨true, b1, b2, b3, false, _, v13, v14, v15, rfl, rfl, .inl ⟨rfl, ⟨h.lt, h.le, h.src, h.gr, fun _ => rfl, h.c1, h.c2, h.c3⟩⟩⟩
          · obtain rfl : b1 = false := hf
            have HI : Hid _ := hI
            clear hI hall hi
            refine wpOp_step rfl (fun K hK => ?_)
            go_simp
            have h := HI.out
            exact hK _ _ ⟨b0, true, b2, b3, false, v12, _, v14, v15, rfl, rfl, .inl ⟨rfl, ⟨h.lt, h.le, h.src, h.gr, h.c0, fun _ => rfl, h.c2, h.c3⟩⟩⟩
          · obtain rfl : b2 = false := hf
            cases ho
            have hb1 : b1 = true := hall { on := 1, ground := .data } (by simp) rfl
            have e1 : v13 = .pointer (some ⟨B0, 0, none⟩) := hI.c1 hb1
            subst e1
            have HI : Hid _ := hI
            have HN : Hid _ := src_tlbEntry B0 a len cap u hI.src
            clear hI hall hi
            refine wpOp_step rfl (fun K hK => ?_)
            go_simp
            refine Calls.mono HN.out ?_
            rintro e9 u5 ⟨me, rfl, hs5, hg5⟩
            have h := HI.out
            exact hK _ _ ⟨b0, b1, true, b3, false, v12, _, _, v15, rfl, rfl, .inl ⟨rfl, ⟨h.lt, h.le, hs5, Lib.grownBy_trans h.gr hg5, h.c0, h.c1, fun _ => ⟨me, rfl⟩, fun e => (h.c3 e).grow h.lt hg5⟩⟩⟩
          · obtain rfl : b3 = false := hf
            cases ho
            have hb0 : b0 = true := hall { on := 0, ground := .data } (by simp) rfl
            have hb2 : b2 = true := hall { on := 2, ground := .data } (by simp) rfl
            have e0 : v12 = .agg #[.slice ao zs.length cp, .int .i64 nx] := hI.c0 hb0
            subst e0
            obtain ⟨me, e2⟩ := hI.c2 hb2
            subst e2
            have HI : Hid _ := hI
            have HN : Hid _ := putT_any (row_g HT.out.row (by have := HT.out.lt; omega) hI.gr) nx me HT.out.l16
            clear hI hall hi
            refine wpOp_step rfl (fun K hK => ?_)
            go_simp
            refine Calls.mono HN.out ?_
            rintro e9 u5 ⟨ao2, zs2, cp2, nx2, rfl, hl2, ho2, hb2⟩
            have hg5 : u.grownBy u5 (some B0) := gbel (World.grownBy.refl _ _) hb2
            have h := HI.out
            exact hK _ _ ⟨b0, b1, b2, true, false, _, v13, _, _, rfl, rfl, .inl ⟨rfl, ⟨h.lt, h.le, h.src.bel hb2, Lib.grownBy_trans h.gr hg5, h.c0, h.c1, h.c2, fun _ => ⟨ao2, zs2, cp2, nx2, rfl, hl2, te_weak ho2 (Nat.le_trans h.le h.gr.size)⟩⟩⟩⟩
          · cases ho
            obtain rfl : b0 = true := hall { on := 0, ground := .phase } (by simp) rfl
            obtain rfl : b1 = true := hall { on := 1, ground := .phase } (by simp) rfl
            obtain rfl : b2 = true := hall { on := 2, ground := .phase } (by simp) rfl
            obtain rfl : b3 = true := hall { on := 3, ground := .phase } (by simp) rfl
            have hb3 : true = true := rfl
            obtain ⟨ao9, zs9, cp9, nx9, e3, l3, r3⟩ := hI.c3 hb3
            subst e3
            have h := hI
            have hbx : u.heap[w.heap.size + 1]? = some (.cells #[.slice ao zs.length cp, .int .i64 nx] 61 (0, 0)) := (h.gr.block _ (Array.getElem?_eq_some_iff.1 HT.out.box).1 (by simp; omega)).trans HT.out.box
            obtain ⟨q0, q1⟩ := cel2 hbx
            have qf : ∀ x, u.frozen? ⟨w.heap.size + 1, x, none⟩ = false := fun x => by simp [World.frozen?, hbx]
            have hlx := (Array.getElem?_eq_some_iff.1 hbx).1
            have HF : Hid (TLs B0 a len cap w ao9 zs9 cp9 nx9 ((u.setCell ⟨w.heap.size + 1, 0, none⟩ (.slice ao9 zs9.length cp9)).setCell ⟨w.heap.size + 1, 1, none⟩ (.int .i64 nx9))) := HT.out.put h.src h.gr r3 l3 rfl
            clear hI h hall hi hbx
            refine wpOp_step rfl (fun K hK => ?_)
            go_simp
            exact hK _ _ ⟨true, true, true, true, true, v12, v13, v14, _, rfl, rfl, .inr ⟨rfl, rfl, rfl, rfl, rfl, ao9, zs9, cp9, nx9, HF.out⟩⟩
        · exfalso
          obtain rfl | rfl | rfl | rfl | rfl : i = 0 ∨ i = 1 ∨ i = 2 ∨ i = 3 ∨ i = 4 := by omega
          all_goals exact absurd hf (by decide)

theorem flA {u : World} {B : Nat} {ao : Option Addr} {cap : Nat} {zs : List TE} (h : u.ownsRow B 66 5 (.slice ao zs.length cap) zs.length (teR zs)) (nx va : Int) (hc : tlbC zs nx = 0) (v0 : 0 ≤ va) :
    Calls Try.prog 33 #[.agg #[.slice ao zs.length cap, .int .i64 nx], .int .i64 (-1), .int .i64 va] u fun r w' => ∃ (ao2 : Option Addr) (zc : List TE) (cap2 : Nat), r = .returned (.agg #[.slice ao2 zc.length cap2, .int .i64 0]) ∧ w'.ownsRow 0 66 5 (.slice ao2 zc.length cap2) zc.length (teR zc) ∧ (tlbC zc 0 = 0 ∧ ∀ x ∈ zc, holdsB x va = false) ∧ Below u.heap.size u w' := by
  refine (implFlush_good h nx (-1) va ((tlbC_iff zs nx).1 hc).1 hc).mono ?_
  rintro r w' ⟨ao2, cap2, rfl, ho, hb⟩
  exact ⟨ao2, _, cap2, rfl, te_weak ho (Nat.zero_le _), ⟨tlbC_filter hc _, fun x hx => clear_no v0 hx⟩, hb⟩
theorem puA {u : World} {B : Nat} {ao : Option Addr} {cap : Nat} {zc : List TE} {va : Int} (h : u.ownsRow B 66 5 (.slice ao zc.length cap) zc.length (teR zc)) (hc : tlbC zc 0 = 0 ∧ ∀ x ∈ zc, holdsB x va = false) (e : TE) (he : teOk e = true) (hh : holdsB e va = true) :
    Calls Try.prog 34 #[.agg #[.slice ao zc.length cap, .int .i64 0], .agg #[.int .i64 e.asid, .int .i64 e.page, .int .i64 e.frame, .int .i64 e.flags, .bool e.large]] u fun r w' => ∃ (ao2 : Option Addr) (zu : List TE) (cap2 : Nat) (nu : Int), r = .returned (.agg #[.slice ao2 zu.length cap2, .int .i64 nu]) ∧ w'.ownsRow 0 66 5 (.slice ao2 zu.length cap2) zu.length (teR zu) ∧ (tlbC zu nu = 0 ∧ ∃ (k : Nat) (hk : k < zu.length), zu[k] = e ∧ ∀ (j : Nat) (hj : j < zu.length), j ≠ k → holdsB zu[j] va = false) ∧ Below u.heap.size u w' := by
  refine (implPut_good h 0 e ((tlbC_iff zc 0).1 hc.1).1 hc.1 (by decide) (by decide)).mono ?_
  rintro r w' ⟨ao2, cap2, rfl, ho, hb⟩
  exact ⟨ao2, _, cap2, _, rfl, te_weak ho (Nat.zero_le _), put_new hc.1 hc.2 he hh, hb⟩
theorem fnA {u : World} {B : Nat} {ao : Option Addr} {cap : Nat} {zu : List TE} {nu va : Int} {e : TE} (h : u.ownsRow B 66 5 (.slice ao zu.length cap) zu.length (teR zu)) (hu : tlbC zu nu = 0 ∧ ∃ (k : Nat) (hk : k < zu.length), zu[k] = e ∧ ∀ (j : Nat) (hj : j < zu.length), j ≠ k → holdsB zu[j] va = false) (acc : Int) (user : Bool) (pa : Int) (v0 : 0 ≤ va) (v1 : va ≤ 262143) (a0 : 1 ≤ acc) (a1 : acc ≤ 3) (hh : holdsB e va = true) (ha : e.asid = 7) (ht : ∀ k : Nat, tfR e va acc user k = hitA true pa k) :
    Calls Try.prog 35 #[.agg #[.slice ao zu.length cap, .int .i64 nu], .int .i64 7, .int .i64 va, .int .i64 acc, .bool user] u fun r w' => ∃ k : Int, r = .returned (.agg #[.bool true, .int .i64 pa, .int .i64 k]) ∧ Below u.heap.size u w' := by
  obtain ⟨hc, k, hk, hz, ho⟩ := hu
  have hl := ((tlbC_iff zu nu).1 hc).1
  refine (implFind_at (TErow.of h) nu 7 va acc user (by omega) hc (by decide) (by decide) v0 (by omega) a0 a1 k hk (find_new hk hz ho hh ha)).mono ?_
  rintro r w' ⟨rfl, hb⟩
  refine ⟨k, ?_, hb⟩
  rw [hz, ht k]
  rfl
theorem gnA {u : World} {B : Nat} {ao : Option Addr} {cap : Nat} {zc : List TE} {va : Int} (h : u.ownsRow B 66 5 (.slice ao zc.length cap) zc.length (teR zc)) (hc : tlbC zc 0 = 0 ∧ ∀ x ∈ zc, holdsB x va = false) (acc : Int) (user : Bool) (v0 : 0 ≤ va) (v1 : va ≤ 262143) (a0 : 1 ≤ acc) (a1 : acc ≤ 3) :
    Calls Try.prog 35 #[.agg #[.slice ao zc.length cap, .int .i64 0], .int .i64 7, .int .i64 va, .int .i64 acc, .bool user] u fun r w' => r = .returned (.agg #[.bool false, .int .i64 0, .int .i64 0]) ∧ Below u.heap.size u w' := by
  have hl := ((tlbC_iff zc 0).1 hc.1).1
  refine (implFind_none (TErow.of h) 0 7 va acc user (by omega) hc.1 (by decide) (by decide) v0 (by omega) a0 a1 ?_).mono ?_
  · refine idxI_none fun j hj => ?_
    unfold fP
    rw [hc.2 _ (List.getElem_mem hj)]
    rfl
  · rintro r w' ⟨rfl, hb⟩
    exact ⟨rfl, hb⟩
theorem tlI {u : World} {B : Nat} {v : Value} {zs : List TE} (h : u.ownsRow B 66 5 v zs.length (teR zs)) (nx : Int) (hl : zs.length ≤ 17) : Calls Try.prog 31 #[.agg #[v, .int .i64 nx]] u fun r w' => r = .returned (.int .i64 (tlbC zs nx)) ∧ Below u.heap.size u w' := implFaultT_any (TErow.of h) nx (by omega)
theorem tlS {u : World} {B : Nat} {v : Value} {zs : List TE} (h : u.ownsRow B 66 5 v zs.length (teR zs)) (nx : Int) (hl : zs.length ≤ 17) : Calls Try.prog 32 #[.agg #[v, .int .i64 nx]] u fun r w' => r = .returned (.int .i64 (tlbC zs nx)) ∧ Below u.heap.size u w' := specFaultT_any (TErow.of h) nx (by omega)
/-- An entry in its box. -/
def EBx (U : World) (p : Nat) (e : TE) : Prop := U.heap[p]? = some (.cells #[.int .i64 e.asid, .int .i64 e.page, .int .i64 e.frame, .int .i64 e.flags, .bool e.large] 66 (0, 0))
theorem ebx_page {U : World} {p : Nat} {x0 x1 x2 x3 : Int} {x4 : Bool} (h : EBx U p ⟨x0, x1, x2, x3, x4⟩) (y : Int) : EBx (U.setCell ⟨p, 1, none⟩ (.int .i64 y)) p ⟨x0, y, x2, x3, x4⟩ := by
  unfold EBx at h ⊢
  have := heap_setCell_same U p 1 _ _ (.int .i64 y) h
  simpa using this
theorem ebx_frame {U : World} {p : Nat} {x0 x1 x2 x3 : Int} {x4 : Bool} (h : EBx U p ⟨x0, x1, x2, x3, x4⟩) (y : Int) : EBx (U.setCell ⟨p, 2, none⟩ (.int .i64 y)) p ⟨x0, x1, y, x3, x4⟩ := by
  unfold EBx at h ⊢
  have := heap_setCell_same U p 2 _ _ (.int .i64 y) h
  simpa using this
theorem blk {U U' : World} {p : Nat} {o : Obj} (hb : Below U.heap.size U U') (h : U.heap[p]? = some o) : U'.heap[p]? = some o := (hb.block _ (Array.getElem?_eq_some_iff.1 h).1).trans h
theorem EBx.step {U U' : World} {p : Nat} {e : TE} (h : EBx U p e) (hb : Below U.heap.size U U') : EBx U' p e := blk hb h
theorem EBx.cel {U : World} {p : Nat} {x0 x1 x2 x3 : Int} {x4 : Bool} (h : EBx U p ⟨x0, x1, x2, x3, x4⟩) : U.cell? ⟨p, 0, none⟩ = some (.int .i64 x0) ∧ U.cell? ⟨p, 1, none⟩ = some (.int .i64 x1) ∧ U.cell? ⟨p, 2, none⟩ = some (.int .i64 x2) ∧ U.cell? ⟨p, 3, none⟩ = some (.int .i64 x3) ∧ U.cell? ⟨p, 4, none⟩ = some (.bool x4) ∧ ∀ x, U.frozen? ⟨p, x, none⟩ = false := by
  unfold EBx at h
  simp [World.cell?, World.frozen?, h]
/-- A hit in its box. -/
def HBx (U : World) (p : Nat) (g : Bool) (pa k : Int) : Prop := U.heap[p]? = some (.cells #[.bool g, .int .i64 pa, .int .i64 k] 70 (0, 0))
theorem HBx.step {U U' : World} {p : Nat} {g : Bool} {pa k : Int} (h : HBx U p g pa k) (hb : Below U.heap.size U U') : HBx U' p g pa k := blk hb h
theorem HBx.cel {U : World} {p : Nat} {g : Bool} {pa k : Int} (h : HBx U p g pa k) : U.cell? ⟨p, 0, none⟩ = some (.bool g) ∧ U.cell? ⟨p, 1, none⟩ = some (.int .i64 pa) := by
  unfold HBx at h
  simp [World.cell?, h]
/-- The one operation that is ready, where it makes memory. -/
theorem held_one {P : Program} {md : Region.Mode} {ops : Array Oper} {Q : Exit → Act → World → Prop} {S : World → Prop} {fuel : Nat} {listed : Array Bool} {a : Act} {w : World} (i : Nat) {o : Oper} (hr : Region.ready md ops listed = [i]) (ho : ops[i]? = some o)
    (hw : Region.wanted o (yielded ops a.tmps) = true) (h : ∀ K : Act → World → Prop, (∀ a' w', S w' → wpAnyH P md ops Q S fuel (listed.setIfInBounds i true) a' w' → K a' w') → o.wp P a w K Q) : wpAnyH P md ops Q S (fuel + 1) listed a w :=
  wpAnyH_all hr (by simp) (all_one (held_step ho hw h))

/-- What the law knows of a walk's answer. -/
structure CkF (s : ByteArray) (root va acc : Int) (user : Bool) (r : WV) : Prop where
  im : AnsWk 28 s root va acc user r
  sp : AnsWk 29 s root va acc user r
  how : (r.fault = 0 ∧ r.mem = ⟨#[]⟩) ∨ (¬ r.fault = 0) ∨ (r.fault = 0 ∧ 2047 ≤ r.mem.size ∧ GoodW s va acc user r ∧ 0 ≤ va ∧ va ≤ 262143 ∧ 1 ≤ acc ∧ acc ≤ 3)
theorem ckF (s : ByteArray) (root va acc : Int) (user : Bool) (hs : s.size ≤ 10240) (hs2 : 2047 ≤ s.size) : ∃ r, CkF s root va acc user r := by
  by_cases h : wkOk s root va acc
  · obtain ⟨h1, h2⟩ := ansWk_yes s root va acc user h
    refine ⟨_, h1, h2, ?_⟩
    by_cases hf : (walkV s root va acc user).fault = 0
    · obtain ⟨hm, r0, r1, v0, v1, a1, a2⟩ := h
      obtain ⟨R, rfl⟩ := Int.eq_ofNat_of_zero_le r0
      obtain ⟨V, rfl⟩ := Int.eq_ofNat_of_zero_le v0
      obtain ⟨⟨k, hk⟩, f1, f2, f3⟩ := walk_again s R V acc user (by omega) hf
      exact .inr (.inr ⟨hf, by rw [hk.sz]; exact hs2, walk_good hf, v0, v1, a1, a2⟩)
    · exact .inr (.inl hf)
  · obtain ⟨h1, h2⟩ := ansWk_no s root va acc user hs h
    exact ⟨_, h1, h2, .inl ⟨rfl, rfl⟩⟩
/-- What the law keeps: the cache in its box, both walks in theirs. -/
structure CaL (w U : World) (pT p1 p2 : Nat) (ao : Option Addr) (zs : List TE) (cp : Nat) (nx : Int) (r : WV) (a1 : Option Addr) (n1 c1 : Nat) (a2 : Option Addr) (n2 c2 : Nat) : Prop where
  bel : Below w.heap.size w U
  tb : U.heap[pT]? = some (.cells #[.slice ao zs.length cp, .int .i64 nx] 61 (0, 0))
  b1 : U.heap[p1]? = some (.cells #[.int .i64 r.fault, .int .i64 r.pa, .int .i64 r.entry, .bool r.large, .slice a1 n1 c1, .string r.mem] 56 (0, 0))
  b2 : U.heap[p2]? = some (.cells #[.int .i64 r.fault, .int .i64 r.pa, .int .i64 r.entry, .bool r.large, .slice a2 n2 c2, .string r.mem] 56 (0, 0))
  row : U.ownsRow 0 66 5 (.slice ao zs.length cp) zs.length (teR zs)
theorem CaL.step {w U U' : World} {pT p1 p2 : Nat} {ao : Option Addr} {zs : List TE} {cp : Nat} {nx : Int} {r : WV} {a1 : Option Addr} {n1 c1 : Nat} {a2 : Option Addr} {n2 c2 : Nat} (h : CaL w U pT p1 p2 ao zs cp nx r a1 n1 c1 a2 n2 c2) (hb : Below U.heap.size U U') : CaL w U' pT p1 p2 ao zs cp nx r a1 n1 c1 a2 n2 c2 :=
  ⟨h.bel.trans (hb.mono h.bel.size), (hb.block _ (Array.getElem?_eq_some_iff.1 h.tb).1).trans h.tb, (hb.block _ (Array.getElem?_eq_some_iff.1 h.b1).1).trans h.b1, (hb.block _ (Array.getElem?_eq_some_iff.1 h.b2).1).trans h.b2, te_below h.row hb⟩
set_option maxRecDepth 100000 in
set_option maxHeartbeats 8000000 in
theorem walkCa (a : Option Addr) (len cap : Nat) (b : Option Addr) (lenb capb : Nat) (w : World) (hcode : CodeAt w w.heap.size a len) (hl : len ≤ 1048576) (hlb : lenb ≤ 1048576)
    (HDT : Hid (∀ U : World, Below w.heap.size w U → Calls Try.prog 30 #[.slice b lenb capb] U fun e w' => ∃ (ao : Option Addr) (zs : List TE) (cp : Nat) (nx : Int), e = .returned (.agg #[.slice ao zs.length cp, .int .i64 nx]) ∧ zs.length ≤ 17 ∧ w'.ownsRow (U.heap.size + 1) 66 5 (.slice ao zs.length cp) zs.length (teR zs) ∧ Below U.heap.size U w')) :
    Calls Try.prog 7 #[.slice a len cap, .slice b lenb capb] w fun r w' => r = .returned (.bool true) ∧ Below w.heap.size w w' := by
  have HD : Hid _ := drawWalk_any a len cap w hcode hl
  have hd1 : ¬ 1048576 < (len : Int) := by omega
  have hd2 : ¬ 1048576 < (lenb : Int) := by omega
  clear hcode hl hlb
  go_enter Try.func7, Try.ntmps7
  go_upto_region 4 with (go_at_call 27; refine Calls.mono HD.out ?_; rintro e u0 ⟨s, root, va, acc, user, rfl, s1, s0, _, _, _, _, _, _, hb0⟩; have HB0 : Hid (Below w.heap.size w u0) := hb0; clear hb0 HD)
  obtain ⟨r, hr⟩ := ckF s root va acc user s1 s0
  have HW : Hid (CkF s root va acc user r) := hr
  clear hr
  go_upto_region 5 with (go_at_call 30; refine Calls.mono (HDT.out _ HB0.out) ?_; rintro e u1 ⟨ao, zs, cp, nx, rfl, l17, ho, hb⟩; have HB1 : Hid (Below w.heap.size w (u1.alloc (.cells #[.slice ao zs.length cp, .int .i64 nx] 61))) := (HB0.out.trans (hb.mono HB0.out.size)).alloc (Nat.le_trans HB0.out.size hb.size) _; have HX1 : Hid ((u1.alloc (.cells #[.slice ao zs.length cp, .int .i64 nx] 61)).heap[u1.heap.size]? = some (.cells #[.slice ao zs.length cp, .int .i64 nx] 61 (0, 0))) := (MapKept.heap_alloc u1 _).1; have HO1 : Hid ((u1.alloc (.cells #[.slice ao zs.length cp, .int .i64 nx] 61)).ownsRow 0 66 5 (.slice ao zs.length cp) zs.length (teR zs)) := te_weak (te_below ho ((Below.refl _ _).alloc (Nat.le_refl _) _)) (Nat.zero_le _); clear hb ho HB0 HDT)
  generalize u1.alloc (.cells #[.slice ao zs.length cp, .int .i64 nx] 61) = U1 at *
  generalize u1.heap.size = pT at *
  go_upto_region 6 with (go_at_call 29; refine Calls.mono (HW.out.sp.ans _) ?_; rintro e u2 ⟨a1, n1, c1, rfl, hb⟩; have hb2 : Below U1.heap.size U1 (u2.alloc (.cells #[.int .i64 r.fault, .int .i64 r.pa, .int .i64 r.entry, .bool r.large, .slice a1 n1 c1, .string r.mem] 56)) := hb.alloc hb.size _; have HB2 : Hid (Below U1.heap.size U1 (u2.alloc (.cells #[.int .i64 r.fault, .int .i64 r.pa, .int .i64 r.entry, .bool r.large, .slice a1 n1 c1, .string r.mem] 56))) := hb2; have HX2 : Hid ((u2.alloc (.cells #[.int .i64 r.fault, .int .i64 r.pa, .int .i64 r.entry, .bool r.large, .slice a1 n1 c1, .string r.mem] 56)).heap[u2.heap.size]? = some (.cells #[.int .i64 r.fault, .int .i64 r.pa, .int .i64 r.entry, .bool r.large, .slice a1 n1 c1, .string r.mem] 56 (0, 0))) := (MapKept.heap_alloc u2 _).1; clear hb hb2)
  generalize u2.alloc (.cells #[.int .i64 r.fault, .int .i64 r.pa, .int .i64 r.entry, .bool r.large, .slice a1 n1 c1, .string r.mem] 56) = U2 at *
  generalize u2.heap.size = p1 at *
  go_upto_region 7 with (go_at_call 28; refine Calls.mono (HW.out.im.ans _) ?_; rintro e u3 ⟨a2, n2, c2, rfl, hb⟩; have hb3 : Below U2.heap.size U2 (u3.alloc (.cells #[.int .i64 r.fault, .int .i64 r.pa, .int .i64 r.entry, .bool r.large, .slice a2 n2 c2, .string r.mem] 56)) := hb.alloc hb.size _; have HC : Hid (CaL w (u3.alloc (.cells #[.int .i64 r.fault, .int .i64 r.pa, .int .i64 r.entry, .bool r.large, .slice a2 n2 c2, .string r.mem] 56)) pT p1 u3.heap.size ao zs cp nx r a1 n1 c1 a2 n2 c2) := ⟨(HB1.out.trans (HB2.out.mono HB1.out.size)).trans (hb3.mono (Nat.le_trans HB1.out.size HB2.out.size)), blk hb3 (blk HB2.out HX1.out), blk hb3 HX2.out, (MapKept.heap_alloc u3 _).1, te_below (te_below HO1.out HB2.out) hb3⟩; clear hb hb3 HB1 HB2 HX1 HX2 HO1)
  generalize u3.alloc (.cells #[.int .i64 r.fault, .int .i64 r.pa, .int .i64 r.entry, .bool r.large, .slice a2 n2 c2, .string r.mem] 56) = U at *
  generalize u3.heap.size = p2 at *
  have HOW : Hid _ := HW.out.how
  clear HW
  obtain ⟨f, pa, en, lg, rd, M⟩ := r
  simp only at HC HOW
  go_cut [80] (fun s80 wc => s80 = .bool false ∧ CaL w wc pT p1 p2 ao zs cp nx ⟨f, pa, en, lg, rd, M⟩ a1 n1 c1 a2 n2 c2)
  case first =>
    have HS : Hid (Below U.heap.size U U.drew) := (Below.refl _ _).drew
    have HV : Hid (∀ u, Below U.heap.size U u → (u.cell? ⟨p1, 0, none⟩ = some (.int .i64 f) ∧ u.cell? ⟨p1, 1, none⟩ = some (.int .i64 pa) ∧ u.cell? ⟨p1, 2, none⟩ = some (.int .i64 en) ∧ u.cell? ⟨p1, 5, none⟩ = some (.string M)) ∧ (u.cell? ⟨p2, 0, none⟩ = some (.int .i64 f) ∧ u.cell? ⟨p2, 1, none⟩ = some (.int .i64 pa) ∧ u.cell? ⟨p2, 2, none⟩ = some (.int .i64 en) ∧ u.cell? ⟨p2, 5, none⟩ = some (.string M)) ∧ u.cell? ⟨pT, 0, none⟩ = some (.slice ao zs.length cp) ∧ u.cell? ⟨pT, 1, none⟩ = some (.int .i64 nx)) := fun u hu => by
      obtain ⟨x0, x1, x2, _, _, x5, _⟩ := cel6 (blk hu HC.out.b1)
      obtain ⟨y0, y1, y2, _, _, y5, _⟩ := cel6 (blk hu HC.out.b2)
      obtain ⟨t0, t1⟩ := cel2 (blk hu HC.out.tb)
      exact ⟨⟨x0, x1, x2, x5⟩, ⟨y0, y1, y2, y5⟩, t0, t1⟩
    refine wp_region_held (S := fun w' => Below U.heap.size U w') (by kernel_rfl) ?_
    change wpAnyH _ _ _ _ _ _ _ _ (World.drew _)
    refine wpAnyH_take (i := 0) (v := .pointer (some ⟨p2, 0, none⟩)) rfl (by kernel_rfl) (by kernel_rfl) (by kernel_rfl) (fun _ _ _ h => h) (Or.inl ⟨by kernel_rfl, fun w9 h9 => ?_⟩) HS.out ?_
    · go_simp
    refine wpAnyH_take (i := 1) (v := .int .i64 f) rfl (by kernel_rfl) (by kernel_rfl) (by kernel_rfl) (fun _ _ _ h => h) (Or.inl ⟨by kernel_rfl, fun w9 h9 => ?_⟩) HS.out ?_
    · have h8 := (HV.out w9 h9).2.1.1
      go_simp
    refine wpAnyH_take (i := 2) (v := .pointer (some ⟨p1, 0, none⟩)) rfl (by kernel_rfl) (by kernel_rfl) (by kernel_rfl) (fun _ _ _ h => h) (Or.inl ⟨by kernel_rfl, fun w9 h9 => ?_⟩) HS.out ?_
    · go_simp
    refine wpAnyH_take (i := 3) (v := .int .i64 f) rfl (by kernel_rfl) (by kernel_rfl) (by kernel_rfl) (fun _ _ _ h => h) (Or.inl ⟨by kernel_rfl, fun w9 h9 => ?_⟩) HS.out ?_
    · have h8 := (HV.out w9 h9).1.1
      go_simp
    refine wpAnyH_take (i := 4) (v := .bool false) rfl (by kernel_rfl) (by kernel_rfl) (by kernel_rfl) (fun _ _ _ h => h) (Or.inl ⟨by kernel_rfl, fun w9 h9 => ?_⟩) HS.out ?_
    · go_simp
    refine wpAnyH_take (i := 5) (v := .bool false) rfl (by kernel_rfl) (by kernel_rfl) (by kernel_rfl) (fun _ _ _ h => h) (Or.inl ⟨by kernel_rfl, fun w9 h9 => ?_⟩) HS.out ?_
    · go_simp
    refine wpAnyH_take (i := 6) (v := .pointer (some ⟨p2, 1, none⟩)) rfl (by kernel_rfl) (by kernel_rfl) (by kernel_rfl) (fun _ _ _ h => h) (Or.inl ⟨by kernel_rfl, fun w9 h9 => ?_⟩) HS.out ?_
    · go_simp
    refine wpAnyH_take (i := 7) (v := .int .i64 pa) rfl (by kernel_rfl) (by kernel_rfl) (by kernel_rfl) (fun _ _ _ h => h) (Or.inl ⟨by kernel_rfl, fun w9 h9 => ?_⟩) HS.out ?_
    · have h8 := (HV.out w9 h9).2.1.2.1
      go_simp
    refine wpAnyH_take (i := 8) (v := .pointer (some ⟨p1, 1, none⟩)) rfl (by kernel_rfl) (by kernel_rfl) (by kernel_rfl) (fun _ _ _ h => h) (Or.inl ⟨by kernel_rfl, fun w9 h9 => ?_⟩) HS.out ?_
    · go_simp
    refine wpAnyH_take (i := 9) (v := .int .i64 pa) rfl (by kernel_rfl) (by kernel_rfl) (by kernel_rfl) (fun _ _ _ h => h) (Or.inl ⟨by kernel_rfl, fun w9 h9 => ?_⟩) HS.out ?_
    · have h8 := (HV.out w9 h9).1.2.1
      go_simp
    refine wpAnyH_take (i := 10) (v := .bool false) rfl (by kernel_rfl) (by kernel_rfl) (by kernel_rfl) (fun _ _ _ h => h) (Or.inl ⟨by kernel_rfl, fun w9 h9 => ?_⟩) HS.out ?_
    · go_simp
    refine wpAnyH_take (i := 11) (v := .bool false) rfl (by kernel_rfl) (by kernel_rfl) (by kernel_rfl) (fun _ _ _ h => h) (Or.inl ⟨by kernel_rfl, fun w9 h9 => ?_⟩) HS.out ?_
    · go_simp
    refine wpAnyH_take (i := 12) (v := .bool false) rfl (by kernel_rfl) (by kernel_rfl) (by kernel_rfl) (fun _ _ _ h => h) (Or.inl ⟨by kernel_rfl, fun w9 h9 => ?_⟩) HS.out ?_
    · go_simp
    refine wpAnyH_take (i := 13) (v := .pointer (some ⟨p2, 5, none⟩)) rfl (by kernel_rfl) (by kernel_rfl) (by kernel_rfl) (fun _ _ _ h => h) (Or.inl ⟨by kernel_rfl, fun w9 h9 => ?_⟩) HS.out ?_
    · go_simp
    refine wpAnyH_take (i := 14) (v := .string M) rfl (by kernel_rfl) (by kernel_rfl) (by kernel_rfl) (fun _ _ _ h => h) (Or.inl ⟨by kernel_rfl, fun w9 h9 => ?_⟩) HS.out ?_
    · have h8 := (HV.out w9 h9).2.1.2.2.2
      go_simp
    refine wpAnyH_take (i := 15) (v := .pointer (some ⟨p1, 5, none⟩)) rfl (by kernel_rfl) (by kernel_rfl) (by kernel_rfl) (fun _ _ _ h => h) (Or.inl ⟨by kernel_rfl, fun w9 h9 => ?_⟩) HS.out ?_
    · go_simp
    refine wpAnyH_take (i := 16) (v := .string M) rfl (by kernel_rfl) (by kernel_rfl) (by kernel_rfl) (fun _ _ _ h => h) (Or.inl ⟨by kernel_rfl, fun w9 h9 => ?_⟩) HS.out ?_
    · have h8 := (HV.out w9 h9).1.2.2.2
      go_simp
    refine wpAnyH_take (i := 17) (v := .bool false) rfl (by kernel_rfl) (by kernel_rfl) (by kernel_rfl) (fun _ _ _ h => h) (Or.inl ⟨by kernel_rfl, fun w9 h9 => ?_⟩) HS.out ?_
    · go_simp
    refine wpAnyH_take (i := 18) (v := .bool false) rfl (by kernel_rfl) (by kernel_rfl) (by kernel_rfl) (fun _ _ _ h => h) (Or.inl ⟨by kernel_rfl, fun w9 h9 => ?_⟩) HS.out ?_
    · go_simp
    refine wpAnyH_take (i := 19) (v := .bool false) rfl (by kernel_rfl) (by kernel_rfl) (by kernel_rfl) (fun _ _ _ h => h) (Or.inl ⟨by kernel_rfl, fun w9 h9 => ?_⟩) HS.out ?_
    · go_simp
    refine wpAnyH_take (i := 20) (v := .pointer (some ⟨p2, 2, none⟩)) rfl (by kernel_rfl) (by kernel_rfl) (by kernel_rfl) (fun _ _ _ h => h) (Or.inl ⟨by kernel_rfl, fun w9 h9 => ?_⟩) HS.out ?_
    · go_simp
    refine wpAnyH_take (i := 21) (v := .int .i64 en) rfl (by kernel_rfl) (by kernel_rfl) (by kernel_rfl) (fun _ _ _ h => h) (Or.inl ⟨by kernel_rfl, fun w9 h9 => ?_⟩) HS.out ?_
    · have h8 := (HV.out w9 h9).2.1.2.2.1
      go_simp
    refine wpAnyH_take (i := 22) (v := .pointer (some ⟨p1, 2, none⟩)) rfl (by kernel_rfl) (by kernel_rfl) (by kernel_rfl) (fun _ _ _ h => h) (Or.inl ⟨by kernel_rfl, fun w9 h9 => ?_⟩) HS.out ?_
    · go_simp
    refine wpAnyH_take (i := 23) (v := .int .i64 en) rfl (by kernel_rfl) (by kernel_rfl) (by kernel_rfl) (fun _ _ _ h => h) (Or.inl ⟨by kernel_rfl, fun w9 h9 => ?_⟩) HS.out ?_
    · have h8 := (HV.out w9 h9).1.2.2.1
      go_simp
    refine wpAnyH_take (i := 24) (v := .bool false) rfl (by kernel_rfl) (by kernel_rfl) (by kernel_rfl) (fun _ _ _ h => h) (Or.inl ⟨by kernel_rfl, fun w9 h9 => ?_⟩) HS.out ?_
    · go_simp
    refine wpAnyH_take (i := 25) (v := .bool false) rfl (by kernel_rfl) (by kernel_rfl) (by kernel_rfl) (fun _ _ _ h => h) (Or.inl ⟨by kernel_rfl, fun w9 h9 => ?_⟩) HS.out ?_
    · go_simp
    refine wpAnyH_take (i := 26) (v := .bool false) rfl (by kernel_rfl) (by kernel_rfl) (by kernel_rfl) (fun _ _ _ h => h) (Or.inl ⟨by kernel_rfl, fun w9 h9 => ?_⟩) HS.out ?_
    · go_simp
    refine wpAnyH_take (i := 27) (v := .agg #[.slice ao zs.length cp, .int .i64 nx]) rfl (by kernel_rfl) (by kernel_rfl) (by kernel_rfl) (fun _ _ _ h => h) (Or.inl ⟨by kernel_rfl, fun w9 h9 => ?_⟩) HS.out ?_
    · have h8 := (HV.out w9 h9).2.2.1
      have h7 := (HV.out w9 h9).2.2.2
      go_simp
    refine wpAnyH_take (i := 29) (v := .agg #[.slice ao zs.length cp, .int .i64 nx]) rfl (by kernel_rfl) (by kernel_rfl) (by kernel_rfl) (fun _ _ _ h => h) (Or.inl ⟨by kernel_rfl, fun w9 h9 => ?_⟩) HS.out ?_
    · have h8 := (HV.out w9 h9).2.2.1
      have h7 := (HV.out w9 h9).2.2.2
      go_simp
    refine held_one 28 (by kernel_rfl) rfl (by kernel_rfl) fun K hK => ?_
    go_simp
    refine Calls.mono (tlI (te_below HC.out.row HS.out) nx l17) ?_
    rintro e X1 ⟨rfl, hb⟩
    have HX : Hid (Below U.heap.size U X1) := HS.out.trans (hb.mono HS.out.size)
    refine hK _ _ HX.out ?_
    clear hK K hb
    refine held_one 30 (by kernel_rfl) rfl (by kernel_rfl) fun K hK => ?_
    go_simp
    refine Calls.mono (tlS (te_below HC.out.row HX.out) nx l17) ?_
    rintro e X2 ⟨rfl, hb⟩
    have HY : Hid (Below U.heap.size U X2) := HX.out.trans (hb.mono HX.out.size)
    refine hK _ _ HY.out ?_
    clear hK K hb
    refine wpAnyH_take (i := 31) (v := .bool false) rfl (by kernel_rfl) (by kernel_rfl) (by kernel_rfl) (fun _ _ _ h => h) (Or.inl ⟨by kernel_rfl, fun w9 h9 => ?_⟩) HY.out ?_
    · go_simp
    refine wpAnyH_take (i := 32) (v := .bool false) rfl (by kernel_rfl) (by kernel_rfl) (by kernel_rfl) (fun _ _ _ h => h) (Or.inl ⟨by kernel_rfl, fun w9 h9 => ?_⟩) HY.out ?_
    · go_simp
    refine wpAnyH_done (by kernel_rfl) ?_ _
    go_simp
    go_wp2
    go_meet
    case rel => exact ⟨rfl, HC.out.step HY.out⟩
  case rest =>
    obtain ⟨rfl, hC⟩ := hcut
    have HK : Hid (CaL w wc pT p1 p2 ao zs cp nx ⟨f, pa, en, lg, rd, M⟩ a1 n1 c1 a2 n2 c2) := hC
    clear hC HC
    obtain ⟨x0, x1, x2, x3, x4, x5, _⟩ := cel6 HK.out.b1
    obtain ⟨t0, t1⟩ := cel2 HK.out.tb
    simp only at x0 x1 x2 x3 x4 x5
    rcases HOW.out with ⟨hf, hM⟩ | hf | ⟨hf, hM, hg, v0, v1, g1, g2⟩
    · subst hf hM
      clear HOW
      go_wp2
      go_ret
      exact ⟨rfl, HK.out.bel⟩
    · clear HOW
      go_wp2
      go_ret
      exact ⟨rfl, HK.out.bel⟩
    · subst hf
      clear HOW
      have hne : M.toList.isEmpty = false := isE_no hM
      have HG : Hid (GoodW s va acc user ⟨0, pa, en, lg, rd, M⟩) := hg
      clear hg
      rcases tlbC_or zs nx with hc | hc
      rotate_left
      · go_wp2_with (go_at_call 32; refine Calls.mono (tlS HK.out.row nx l17) ?_; rintro e u4 ⟨rfl, hb⟩; rw [hc]; have HK4 : Hid (CaL w u4 pT p1 p2 ao zs cp nx ⟨0, pa, en, lg, rd, M⟩ a1 n1 c1 a2 n2 c2) := HK.out.step hb; clear hb HK x0 x1 x2 x3 x4 x5 t0 t1)
        go_ret
        exact ⟨rfl, HK4.out.bel⟩
      · go_upto_region 11 with (go_at_call 32; refine Calls.mono (tlS HK.out.row nx l17) ?_; rintro e u4 ⟨rfl, hb⟩; rw [hc]; have HK4 : Hid (CaL w u4 pT p1 p2 ao zs cp nx ⟨0, pa, en, lg, rd, M⟩ a1 n1 c1 a2 n2 c2) := HK.out.step hb; clear hb HK x0 x1 x2 x3 x4 x5 t0 t1)
        obtain ⟨x0, x1, x2, x3, x4, x5, _⟩ := cel6 HK4.out.b1
        simp only at x0 x1 x2 x3 x4 x5
        have hen := HG.out.e0
        have hpg := HG.out.pg
        have hin := HG.out.inn
        have hlg := HG.out.lg
        simp only at hen hpg hin hlg
        have hpa : 0 ≤ pa ∧ pa ≤ 10240 := by
          cases lg
          · have e1 : pgV en va false = en / 256 := rfl
            rw [e1] at hpg hin
            omega
          · have e1 : pgV en va true = en / 256 + va / 256 % 32 := rfl
            rw [e1] at hpg hin
            omega
        have htm : en.tmod 256 = en % 256 := Int.tmod_eq_emod_of_nonneg hen.1
        clear hpg hin hlg
        go_upto_region 12 with fail
        have HE : Hid (EBx (u4.alloc (.cells #[.int .i64 7, .int .i64 (va / 256), .int .i64 (pa / 256), .int .i64 (en % 256), .bool lg] 66)) u4.heap.size ⟨7, va / 256, pa / 256, en % 256, lg⟩) := (MapKept.heap_alloc u4 _).1
        have HUP : Hid (Below u4.heap.size u4 (u4.alloc (.cells #[.int .i64 7, .int .i64 (va / 256), .int .i64 (pa / 256), .int .i64 (en % 256), .bool lg] 66))) := (Below.refl _ _).alloc (Nat.le_refl _) _
        generalize u4.alloc (.cells #[.int .i64 7, .int .i64 (va / 256), .int .i64 (pa / 256), .int .i64 (en % 256), .bool lg] 66) = U5 at *
        clear x0 x1 x2 x3 x4 x5
        obtain ⟨x0, x1, x2, x3, x4, x5, _⟩ := cel6 (blk HUP.out HK4.out.b1)
        simp only at x0 x1 x2 x3 x4 x5
        cases lg
        · go_upto_region 15 with fail
          have HEN : Hid (teOk (⟨7, va / 256, pa / 256, en % 256, false⟩ : TE) = true ∧ holdsB (⟨7, va / 256, pa / 256, en % 256, false⟩ : TE) va = true ∧ ((⟨7, va / 256, pa / 256, en % 256, false⟩ : TE) : TE).asid = 7 ∧ ∀ k : Nat, tfR (⟨7, va / 256, pa / 256, en % 256, false⟩ : TE) va acc user k = hitA true pa k) := by
            obtain ⟨h1, h2, h3⟩ := entW_ok HG.out (by omega) v0 v1
            exact ⟨h1, h2, h3, fun k => hit_new HG.out v0 k⟩
          have HX1 : Hid (U5.heap[p1]? = some (.cells #[.int .i64 0, .int .i64 pa, .int .i64 en, .bool false, .slice a1 n1 c1, .string M] 56 (0, 0))) := blk HUP.out HK4.out.b1
          have HXT : Hid (U5.heap[pT]? = some (.cells #[.slice ao zs.length cp, .int .i64 nx] 61 (0, 0))) := blk HUP.out HK4.out.tb
          have HRT : Hid ((U5).ownsRow 0 66 5 (.slice ao zs.length cp) zs.length (teR zs)) := te_below HK4.out.row HUP.out
          have HB5 : Hid (Below w.heap.size w U5) := HK4.out.bel.trans (HUP.out.mono HK4.out.bel.size)
          obtain ⟨t0, t1⟩ := cel2 HXT.out
          clear HK4 HUP HG
          go_upto_region 16 with (go_at_call 33; refine Calls.mono (flA HRT.out nx va hc v0) ?_; rintro e5 y5 ⟨a5, zc, c5, rfl, ho, hz, hb⟩; have hb2 : Below U5.heap.size U5 (y5.alloc (.cells #[.slice a5 zc.length c5, .int .i64 0] 61)) := hb.alloc hb.size _; have HT6 : Hid ((y5.alloc (.cells #[.slice a5 zc.length c5, .int .i64 0] 61)).heap[y5.heap.size]? = some (.cells #[.slice a5 zc.length c5, .int .i64 0] 61 (0, 0))) := (MapKept.heap_alloc y5 _).1; have HR6 : Hid ((y5.alloc (.cells #[.slice a5 zc.length c5, .int .i64 0] 61)).ownsRow 0 66 5 (.slice a5 zc.length c5) zc.length (teR zc)) := te_below ho ((Below.refl _ _).alloc (Nat.le_refl _) _); have HZ6 : Hid (tlbC zc 0 = 0 ∧ ∀ x ∈ zc, holdsB x va = false) := hz; have HX6 : Hid ((y5.alloc (.cells #[.slice a5 zc.length c5, .int .i64 0] 61)).heap[p1]? = some (.cells #[.int .i64 0, .int .i64 pa, .int .i64 en, .bool false, .slice a1 n1 c1, .string M] 56 (0, 0))) := blk hb2 HX1.out; have HE6 : Hid (EBx (y5.alloc (.cells #[.slice a5 zc.length c5, .int .i64 0] 61)) u4.heap.size (⟨7, va / 256, pa / 256, en % 256, false⟩ : TE)) := HE.out.step hb2; have HB6 : Hid (Below w.heap.size w (y5.alloc (.cells #[.slice a5 zc.length c5, .int .i64 0] 61))) := HB5.out.trans (hb2.mono HB5.out.size); clear hb hb2 ho hz HX1 HXT HRT HB5 HE t0 t1)
          generalize y5.alloc (.cells #[.slice a5 zc.length c5, .int .i64 0] 61) = U8 at *
          generalize y5.heap.size = p5 at *
          obtain ⟨t0, t1⟩ := cel2 HT6.out
          obtain ⟨d0, d1, d2, d3, d4, _⟩ := HE6.out.cel
          go_upto_region 17 with (go_at_call 34; refine Calls.mono (puA HR6.out HZ6.out (⟨7, va / 256, pa / 256, en % 256, false⟩ : TE) HEN.out.1 HEN.out.2.1) ?_; rintro e6 y6 ⟨a6, zu, c6, nu, rfl, ho, hz, hb⟩; have hb2 : Below U8.heap.size U8 (y6.alloc (.cells #[.slice a6 zu.length c6, .int .i64 nu] 61)) := hb.alloc hb.size _; have HT7 : Hid ((y6.alloc (.cells #[.slice a6 zu.length c6, .int .i64 nu] 61)).heap[y6.heap.size]? = some (.cells #[.slice a6 zu.length c6, .int .i64 nu] 61 (0, 0))) := (MapKept.heap_alloc y6 _).1; have HR7 : Hid ((y6.alloc (.cells #[.slice a6 zu.length c6, .int .i64 nu] 61)).ownsRow 0 66 5 (.slice a6 zu.length c6) zu.length (teR zu)) := te_below ho ((Below.refl _ _).alloc (Nat.le_refl _) _); have HZ7 : Hid (tlbC zu nu = 0 ∧ ∃ (k : Nat) (hk : k < zu.length), zu[k] = (⟨7, va / 256, pa / 256, en % 256, false⟩ : TE) ∧ ∀ (j : Nat) (hj : j < zu.length), j ≠ k → holdsB zu[j] va = false) := hz; have HX7 : Hid ((y6.alloc (.cells #[.slice a6 zu.length c6, .int .i64 nu] 61)).heap[p1]? = some (.cells #[.int .i64 0, .int .i64 pa, .int .i64 en, .bool false, .slice a1 n1 c1, .string M] 56 (0, 0))) := blk hb2 HX6.out; have HB7 : Hid (Below w.heap.size w (y6.alloc (.cells #[.slice a6 zu.length c6, .int .i64 nu] 61))) := HB6.out.trans (hb2.mono HB6.out.size); clear hb hb2 ho hz HX6 HT6 HR6 HZ6 HB6 HE6 t0 t1 d0 d1 d2 d3 d4)
          generalize y6.alloc (.cells #[.slice a6 zu.length c6, .int .i64 nu] 61) = U9 at *
          generalize y6.heap.size = p6 at *
          obtain ⟨t0, t1⟩ := cel2 HT7.out
          go_upto_region 18 with (go_at_call 35; refine Calls.mono (fnA HR7.out HZ7.out acc user pa v0 v1 g1 g2 HEN.out.2.1 rfl HEN.out.2.2.2) ?_; rintro e7 y7 ⟨k7, rfl, hb⟩; have hb2 : Below U9.heap.size U9 (y7.alloc (.cells #[.bool true, .int .i64 pa, .int .i64 k7] 70)) := hb.alloc hb.size _; have HH8 : Hid (HBx (y7.alloc (.cells #[.bool true, .int .i64 pa, .int .i64 k7] 70)) y7.heap.size true pa k7) := (MapKept.heap_alloc y7 _).1; have HT8 : Hid ((y7.alloc (.cells #[.bool true, .int .i64 pa, .int .i64 k7] 70)).heap[p6]? = some (.cells #[.slice a6 zu.length c6, .int .i64 nu] 61 (0, 0))) := blk hb2 HT7.out; have HR8 : Hid ((y7.alloc (.cells #[.bool true, .int .i64 pa, .int .i64 k7] 70)).ownsRow 0 66 5 (.slice a6 zu.length c6) zu.length (teR zu)) := te_below HR7.out hb2; have HX8 : Hid ((y7.alloc (.cells #[.bool true, .int .i64 pa, .int .i64 k7] 70)).heap[p1]? = some (.cells #[.int .i64 0, .int .i64 pa, .int .i64 en, .bool false, .slice a1 n1 c1, .string M] 56 (0, 0))) := blk hb2 HX7.out; have HB8 : Hid (Below w.heap.size w (y7.alloc (.cells #[.bool true, .int .i64 pa, .int .i64 k7] 70))) := HB7.out.trans (hb2.mono HB7.out.size); clear hb hb2 HX7 HT7 HR7 HB7 t0 t1)
          generalize y7.alloc (.cells #[.bool true, .int .i64 pa, .int .i64 k7] 70) = U10 at *
          generalize y7.heap.size = p7 at *
          obtain ⟨t0, t1⟩ := cel2 HT8.out
          go_upto_region 19 with (first | (go_at_call 33; refine Calls.mono (flA HR8.out nu va HZ7.out.1 v0) ?_; rintro e8 y8 ⟨a8, zg, c8, rfl, ho, hz, hb⟩; have HY8 : Hid (Below U10.heap.size U10 y8) := hb; have HR9 : Hid ((y8).ownsRow 0 66 5 (.slice a8 zg.length c8) zg.length (teR zg)) := ho; have HZ9 : Hid (tlbC zg 0 = 0 ∧ ∀ x ∈ zg, holdsB x va = false) := hz; clear hb ho hz t0 t1) | (go_at_call 35; refine Calls.mono (gnA HR9.out HZ9.out acc user v0 v1 g1 g2) ?_; rintro e9 y9 ⟨rfl, hb⟩; have hb2 : Below U10.heap.size U10 (y9.alloc (.cells #[.bool false, .int .i64 0, .int .i64 0] 70)) := (HY8.out.trans (hb.mono HY8.out.size)).alloc (Nat.le_trans HY8.out.size hb.size) _; have HG10 : Hid (HBx (y9.alloc (.cells #[.bool false, .int .i64 0, .int .i64 0] 70)) y9.heap.size false 0 0) := (MapKept.heap_alloc y9 _).1; have HH10 : Hid (HBx (y9.alloc (.cells #[.bool false, .int .i64 0, .int .i64 0] 70)) p7 true pa k7) := HH8.out.step hb2; have HT10 : Hid ((y9.alloc (.cells #[.bool false, .int .i64 0, .int .i64 0] 70)).heap[p6]? = some (.cells #[.slice a6 zu.length c6, .int .i64 nu] 61 (0, 0))) := blk hb2 HT8.out; have HR10 : Hid ((y9.alloc (.cells #[.bool false, .int .i64 0, .int .i64 0] 70)).ownsRow 0 66 5 (.slice a6 zu.length c6) zu.length (teR zu)) := te_below HR8.out hb2; have HX10 : Hid ((y9.alloc (.cells #[.bool false, .int .i64 0, .int .i64 0] 70)).heap[p1]? = some (.cells #[.int .i64 0, .int .i64 pa, .int .i64 en, .bool false, .slice a1 n1 c1, .string M] 56 (0, 0))) := blk hb2 HX8.out; have HB10 : Hid (Below w.heap.size w (y9.alloc (.cells #[.bool false, .int .i64 0, .int .i64 0] 70))) := HB8.out.trans (hb2.mono HB8.out.size); clear hb hb2 HX8 HT8 HR8 HB8 HH8 HY8 HR9 HZ9))
          generalize y9.alloc (.cells #[.bool false, .int .i64 0, .int .i64 0] 70) = U11 at *
          generalize y9.heap.size = p9 at *
          obtain ⟨t0, t1⟩ := cel2 HT10.out
          have hcu := HZ7.out.1
          have hlu : zu.length ≤ 17 := by have := ((tlbC_iff zu nu).1 hcu).1; omega
          clear x0 x1 x2 x3 x4 x5
          go_wp2_with (go_at_call 31; refine Calls.mono (tlI HR10.out nu hlu) ?_; rintro e10 y10 ⟨rfl, hb⟩; rw [hcu]; obtain ⟨x0, x1, x2, x3, x4, x5, _⟩ := cel6 (blk hb HX10.out); obtain ⟨h0, h1⟩ := (HH10.out.step hb).cel; obtain ⟨i0, i1⟩ := (HG10.out.step hb).cel; have HB11 : Hid (Below w.heap.size w y10) := HB10.out.trans (hb.mono HB10.out.size); clear hb HX10 HH10 HG10 HT10 HR10 HB10 t0 t1)
          go_ret
          exact ⟨rfl, HB11.out⟩
        · obtain ⟨d0, d1, d2, d3, d4, df⟩ := HE.out.cel
          have q1 : (va / 256).tdiv 32 = va / 256 / 32 := Int.tdiv_eq_ediv_of_nonneg (by omega)
          have q2 : (pa / 256).tdiv 32 = pa / 256 / 32 := Int.tdiv_eq_ediv_of_nonneg (by omega)
          go_upto_region 14 with fail
          have HE2 : Hid (EBx (U5.setCell ⟨u4.heap.size, 1, none⟩ (.int .i64 (va / 256 / 32 * 32))) u4.heap.size ⟨7, va / 256 / 32 * 32, pa / 256, en % 256, true⟩) := ebx_page HE.out _
          have HUP2 : Hid (Below u4.heap.size u4 (U5.setCell ⟨u4.heap.size, 1, none⟩ (.int .i64 (va / 256 / 32 * 32)))) := HUP.out.setCell (Nat.le_refl _) _
          clear HE HUP d0 d1 d2 d3 d4 df x0 x1 x2 x3 x4 x5
          generalize U5.setCell ⟨u4.heap.size, 1, none⟩ (.int .i64 (va / 256 / 32 * 32)) = U6 at *
          obtain ⟨d0, d1, d2, d3, d4, df⟩ := HE2.out.cel
          go_upto_region 15 with fail
          have HE : Hid (EBx (U6.setCell ⟨u4.heap.size, 2, none⟩ (.int .i64 (pa / 256 / 32 * 32))) u4.heap.size ⟨7, va / 256 / 32 * 32, pa / 256 / 32 * 32, en % 256, true⟩) := ebx_frame HE2.out _
          have HUP : Hid (Below u4.heap.size u4 (U6.setCell ⟨u4.heap.size, 2, none⟩ (.int .i64 (pa / 256 / 32 * 32)))) := HUP2.out.setCell (Nat.le_refl _) _
          clear HE2 HUP2 d0 d1 d2 d3 d4 df
          generalize U6.setCell ⟨u4.heap.size, 2, none⟩ (.int .i64 (pa / 256 / 32 * 32)) = U7 at *
          obtain ⟨x0, x1, x2, x3, x4, x5, _⟩ := cel6 (blk HUP.out HK4.out.b1)
          have HEN : Hid (teOk (⟨7, va / 256 / 32 * 32, pa / 256 / 32 * 32, en % 256, true⟩ : TE) = true ∧ holdsB (⟨7, va / 256 / 32 * 32, pa / 256 / 32 * 32, en % 256, true⟩ : TE) va = true ∧ ((⟨7, va / 256 / 32 * 32, pa / 256 / 32 * 32, en % 256, true⟩ : TE) : TE).asid = 7 ∧ ∀ k : Nat, tfR (⟨7, va / 256 / 32 * 32, pa / 256 / 32 * 32, en % 256, true⟩ : TE) va acc user k = hitA true pa k) := by
            obtain ⟨h1, h2, h3⟩ := entW_ok HG.out (by omega) v0 v1
            exact ⟨h1, h2, h3, fun k => hit_new HG.out v0 k⟩
          have HX1 : Hid (U7.heap[p1]? = some (.cells #[.int .i64 0, .int .i64 pa, .int .i64 en, .bool true, .slice a1 n1 c1, .string M] 56 (0, 0))) := blk HUP.out HK4.out.b1
          have HXT : Hid (U7.heap[pT]? = some (.cells #[.slice ao zs.length cp, .int .i64 nx] 61 (0, 0))) := blk HUP.out HK4.out.tb
          have HRT : Hid ((U7).ownsRow 0 66 5 (.slice ao zs.length cp) zs.length (teR zs)) := te_below HK4.out.row HUP.out
          have HB5 : Hid (Below w.heap.size w U7) := HK4.out.bel.trans (HUP.out.mono HK4.out.bel.size)
          obtain ⟨t0, t1⟩ := cel2 HXT.out
          clear HK4 HUP HG
          go_upto_region 16 with (go_at_call 33; refine Calls.mono (flA HRT.out nx va hc v0) ?_; rintro e5 y5 ⟨a5, zc, c5, rfl, ho, hz, hb⟩; have hb2 : Below U7.heap.size U7 (y5.alloc (.cells #[.slice a5 zc.length c5, .int .i64 0] 61)) := hb.alloc hb.size _; have HT6 : Hid ((y5.alloc (.cells #[.slice a5 zc.length c5, .int .i64 0] 61)).heap[y5.heap.size]? = some (.cells #[.slice a5 zc.length c5, .int .i64 0] 61 (0, 0))) := (MapKept.heap_alloc y5 _).1; have HR6 : Hid ((y5.alloc (.cells #[.slice a5 zc.length c5, .int .i64 0] 61)).ownsRow 0 66 5 (.slice a5 zc.length c5) zc.length (teR zc)) := te_below ho ((Below.refl _ _).alloc (Nat.le_refl _) _); have HZ6 : Hid (tlbC zc 0 = 0 ∧ ∀ x ∈ zc, holdsB x va = false) := hz; have HX6 : Hid ((y5.alloc (.cells #[.slice a5 zc.length c5, .int .i64 0] 61)).heap[p1]? = some (.cells #[.int .i64 0, .int .i64 pa, .int .i64 en, .bool true, .slice a1 n1 c1, .string M] 56 (0, 0))) := blk hb2 HX1.out; have HE6 : Hid (EBx (y5.alloc (.cells #[.slice a5 zc.length c5, .int .i64 0] 61)) u4.heap.size (⟨7, va / 256 / 32 * 32, pa / 256 / 32 * 32, en % 256, true⟩ : TE)) := HE.out.step hb2; have HB6 : Hid (Below w.heap.size w (y5.alloc (.cells #[.slice a5 zc.length c5, .int .i64 0] 61))) := HB5.out.trans (hb2.mono HB5.out.size); clear hb hb2 ho hz HX1 HXT HRT HB5 HE t0 t1)
          generalize y5.alloc (.cells #[.slice a5 zc.length c5, .int .i64 0] 61) = U8 at *
          generalize y5.heap.size = p5 at *
          obtain ⟨t0, t1⟩ := cel2 HT6.out
          obtain ⟨d0, d1, d2, d3, d4, _⟩ := HE6.out.cel
          go_upto_region 17 with (go_at_call 34; refine Calls.mono (puA HR6.out HZ6.out (⟨7, va / 256 / 32 * 32, pa / 256 / 32 * 32, en % 256, true⟩ : TE) HEN.out.1 HEN.out.2.1) ?_; rintro e6 y6 ⟨a6, zu, c6, nu, rfl, ho, hz, hb⟩; have hb2 : Below U8.heap.size U8 (y6.alloc (.cells #[.slice a6 zu.length c6, .int .i64 nu] 61)) := hb.alloc hb.size _; have HT7 : Hid ((y6.alloc (.cells #[.slice a6 zu.length c6, .int .i64 nu] 61)).heap[y6.heap.size]? = some (.cells #[.slice a6 zu.length c6, .int .i64 nu] 61 (0, 0))) := (MapKept.heap_alloc y6 _).1; have HR7 : Hid ((y6.alloc (.cells #[.slice a6 zu.length c6, .int .i64 nu] 61)).ownsRow 0 66 5 (.slice a6 zu.length c6) zu.length (teR zu)) := te_below ho ((Below.refl _ _).alloc (Nat.le_refl _) _); have HZ7 : Hid (tlbC zu nu = 0 ∧ ∃ (k : Nat) (hk : k < zu.length), zu[k] = (⟨7, va / 256 / 32 * 32, pa / 256 / 32 * 32, en % 256, true⟩ : TE) ∧ ∀ (j : Nat) (hj : j < zu.length), j ≠ k → holdsB zu[j] va = false) := hz; have HX7 : Hid ((y6.alloc (.cells #[.slice a6 zu.length c6, .int .i64 nu] 61)).heap[p1]? = some (.cells #[.int .i64 0, .int .i64 pa, .int .i64 en, .bool true, .slice a1 n1 c1, .string M] 56 (0, 0))) := blk hb2 HX6.out; have HB7 : Hid (Below w.heap.size w (y6.alloc (.cells #[.slice a6 zu.length c6, .int .i64 nu] 61))) := HB6.out.trans (hb2.mono HB6.out.size); clear hb hb2 ho hz HX6 HT6 HR6 HZ6 HB6 HE6 t0 t1 d0 d1 d2 d3 d4)
          generalize y6.alloc (.cells #[.slice a6 zu.length c6, .int .i64 nu] 61) = U9 at *
          generalize y6.heap.size = p6 at *
          obtain ⟨t0, t1⟩ := cel2 HT7.out
          go_upto_region 18 with (go_at_call 35; refine Calls.mono (fnA HR7.out HZ7.out acc user pa v0 v1 g1 g2 HEN.out.2.1 rfl HEN.out.2.2.2) ?_; rintro e7 y7 ⟨k7, rfl, hb⟩; have hb2 : Below U9.heap.size U9 (y7.alloc (.cells #[.bool true, .int .i64 pa, .int .i64 k7] 70)) := hb.alloc hb.size _; have HH8 : Hid (HBx (y7.alloc (.cells #[.bool true, .int .i64 pa, .int .i64 k7] 70)) y7.heap.size true pa k7) := (MapKept.heap_alloc y7 _).1; have HT8 : Hid ((y7.alloc (.cells #[.bool true, .int .i64 pa, .int .i64 k7] 70)).heap[p6]? = some (.cells #[.slice a6 zu.length c6, .int .i64 nu] 61 (0, 0))) := blk hb2 HT7.out; have HR8 : Hid ((y7.alloc (.cells #[.bool true, .int .i64 pa, .int .i64 k7] 70)).ownsRow 0 66 5 (.slice a6 zu.length c6) zu.length (teR zu)) := te_below HR7.out hb2; have HX8 : Hid ((y7.alloc (.cells #[.bool true, .int .i64 pa, .int .i64 k7] 70)).heap[p1]? = some (.cells #[.int .i64 0, .int .i64 pa, .int .i64 en, .bool true, .slice a1 n1 c1, .string M] 56 (0, 0))) := blk hb2 HX7.out; have HB8 : Hid (Below w.heap.size w (y7.alloc (.cells #[.bool true, .int .i64 pa, .int .i64 k7] 70))) := HB7.out.trans (hb2.mono HB7.out.size); clear hb hb2 HX7 HT7 HR7 HB7 t0 t1)
          generalize y7.alloc (.cells #[.bool true, .int .i64 pa, .int .i64 k7] 70) = U10 at *
          generalize y7.heap.size = p7 at *
          obtain ⟨t0, t1⟩ := cel2 HT8.out
          go_upto_region 19 with (first | (go_at_call 33; refine Calls.mono (flA HR8.out nu va HZ7.out.1 v0) ?_; rintro e8 y8 ⟨a8, zg, c8, rfl, ho, hz, hb⟩; have HY8 : Hid (Below U10.heap.size U10 y8) := hb; have HR9 : Hid ((y8).ownsRow 0 66 5 (.slice a8 zg.length c8) zg.length (teR zg)) := ho; have HZ9 : Hid (tlbC zg 0 = 0 ∧ ∀ x ∈ zg, holdsB x va = false) := hz; clear hb ho hz t0 t1) | (go_at_call 35; refine Calls.mono (gnA HR9.out HZ9.out acc user v0 v1 g1 g2) ?_; rintro e9 y9 ⟨rfl, hb⟩; have hb2 : Below U10.heap.size U10 (y9.alloc (.cells #[.bool false, .int .i64 0, .int .i64 0] 70)) := (HY8.out.trans (hb.mono HY8.out.size)).alloc (Nat.le_trans HY8.out.size hb.size) _; have HG10 : Hid (HBx (y9.alloc (.cells #[.bool false, .int .i64 0, .int .i64 0] 70)) y9.heap.size false 0 0) := (MapKept.heap_alloc y9 _).1; have HH10 : Hid (HBx (y9.alloc (.cells #[.bool false, .int .i64 0, .int .i64 0] 70)) p7 true pa k7) := HH8.out.step hb2; have HT10 : Hid ((y9.alloc (.cells #[.bool false, .int .i64 0, .int .i64 0] 70)).heap[p6]? = some (.cells #[.slice a6 zu.length c6, .int .i64 nu] 61 (0, 0))) := blk hb2 HT8.out; have HR10 : Hid ((y9.alloc (.cells #[.bool false, .int .i64 0, .int .i64 0] 70)).ownsRow 0 66 5 (.slice a6 zu.length c6) zu.length (teR zu)) := te_below HR8.out hb2; have HX10 : Hid ((y9.alloc (.cells #[.bool false, .int .i64 0, .int .i64 0] 70)).heap[p1]? = some (.cells #[.int .i64 0, .int .i64 pa, .int .i64 en, .bool true, .slice a1 n1 c1, .string M] 56 (0, 0))) := blk hb2 HX8.out; have HB10 : Hid (Below w.heap.size w (y9.alloc (.cells #[.bool false, .int .i64 0, .int .i64 0] 70))) := HB8.out.trans (hb2.mono HB8.out.size); clear hb hb2 HX8 HT8 HR8 HB8 HH8 HY8 HR9 HZ9))
          generalize y9.alloc (.cells #[.bool false, .int .i64 0, .int .i64 0] 70) = U11 at *
          generalize y9.heap.size = p9 at *
          obtain ⟨t0, t1⟩ := cel2 HT10.out
          have hcu := HZ7.out.1
          have hlu : zu.length ≤ 17 := by have := ((tlbC_iff zu nu).1 hcu).1; omega
          clear x0 x1 x2 x3 x4 x5
          go_wp2_with (go_at_call 31; refine Calls.mono (tlI HR10.out nu hlu) ?_; rintro e10 y10 ⟨rfl, hb⟩; rw [hcu]; obtain ⟨x0, x1, x2, x3, x4, x5, _⟩ := cel6 (blk hb HX10.out); obtain ⟨h0, h1⟩ := (HH10.out.step hb).cel; obtain ⟨i0, i1⟩ := (HG10.out.step hb).cel; have HB11 : Hid (Below w.heap.size w y10) := HB10.out.trans (hb.mono HB10.out.size); clear hb HX10 HH10 HG10 HT10 HR10 HB10 t0 t1)
          go_ret
          exact ⟨rfl, HB11.out⟩

/-- A drawn cache, in its box. -/
structure TX (B0 : Nat) (a : Option Addr) (len cap : Nat) (w : World) (p : Nat) (ao : Option Addr) (zs : List TE) (cp : Nat) (nx : Int) (u : World) : Prop where
  lt : B0 < w.heap.size
  src : SrcOk u B0 a len cap
  gr : w.grownBy u (some B0)
  lo : w.heap.size < p
  rbox : u.heap[w.heap.size]? = some (.cells #[.slice none 0 0, .int .i64 0] 61 (0, 0))
  box : u.heap[p]? = some (.cells #[.slice ao zs.length cp, .int .i64 nx] 61 (0, 0))
  row : u.ownsRow (w.heap.size + 1) 66 5 (.slice ao zs.length cp) zs.length (teR zs)
  ne : (Value.slice ao zs.length cp).ownBlock ≠ some p
  l17 : zs.length ≤ 17
theorem TX.step {B0 : Nat} {a : Option Addr} {len cap : Nat} {w : World} {p : Nat} {ao : Option Addr} {zs : List TE} {cp : Nat} {nx : Int} {u u' : World} (h : TX B0 a len cap w p ao zs cp nx u) (hs : SrcOk u' B0 a len cap) (hg : u.grownBy u' (some B0)) : TX B0 a len cap w p ao zs cp nx u' := by
  have h1 := h.lt
  have h2 := h.lo
  exact ⟨h.lt, hs, Lib.grownBy_trans h.gr hg, h.lo, (hg.block _ (Array.getElem?_eq_some_iff.1 h.rbox).1 (by simp; omega)).trans h.rbox, (hg.block _ (Array.getElem?_eq_some_iff.1 h.box).1 (by simp; omega)).trans h.box, row_g h.row (by omega) hg, h.ne, h.l17⟩
theorem TX.nx {B0 : Nat} {a : Option Addr} {len cap : Nat} {w : World} {p : Nat} {ao : Option Addr} {zs : List TE} {cp : Nat} {nx : Int} {u : World} (h : TX B0 a len cap w p ao zs cp nx u) (y : Int) : TX B0 a len cap w p ao zs cp y (u.setCell ⟨p, 1, none⟩ (.int .i64 y)) := by
  have h1 := h.lt
  have h2 := h.lo
  have q := heap_setCell_same u p 1 _ _ (.int .i64 y) h.box
  exact ⟨h.lt, h.src.keep (fun j hj => Below.heap_setCell _ _ _ _ (by simp only; omega)), g_set h.gr (by omega), h.lo, (Below.heap_setCell _ _ _ _ (by simp only; omega)).trans h.rbox, by simpa using q, own_set h.row h.ne, h.ne, h.l17⟩
/-- A cell of the first entry put. -/
theorem TX.first {B0 : Nat} {a : Option Addr} {len cap : Nat} {w : World} {p g : Nat} {zs : List TE} {cp : Nat} {nx : Int} {u : World} (h : TX B0 a len cap w p (some ⟨g, 0, none⟩) zs cp nx u) (j : Nat) (v : Value) (zs2 : List TE) (hl : zs2.length = zs.length) (hz : (teR zs).set j v = teR zs2) : TX B0 a len cap w p (some ⟨g, 0, none⟩) zs2 cp nx (u.setCell ⟨g, j, none⟩ v) := by
  have h1 := h.lt
  have h2 := h.lo
  have hg := h.row.lt g rfl
  have hne : g ≠ p := fun q => h.ne (by rw [q]; rfl)
  have st := h.row.stored j v
  rw [hz] at st
  refine ⟨h.lt, h.src.keep (fun i hi => Below.heap_setCell _ _ _ _ (by simp only; omega)), g_set h.gr (by omega), h.lo, (Below.heap_setCell _ _ _ _ (by simp only; omega)).trans h.rbox, ?_, ?_, ?_, by rw [hl]; exact h.l17⟩
  · rw [hl]
    exact (Below.heap_setCell _ _ _ _ (by simp only; omega)).trans h.box
  · rw [hl]
    exact st.1
  · rw [hl]
    exact h.ne
theorem cel2F {u : World} {b t : Nat} {a0 a1 : Value} (h : u.heap[b]? = some (.cells #[a0, a1] t (0, 0))) : u.cell? ⟨b, 0, none⟩ = some a0 ∧ u.cell? ⟨b, 1, none⟩ = some a1 ∧ ∀ x, u.frozen? ⟨b, x, none⟩ = false := by
  refine ⟨?_, ?_, fun x => ?_⟩
  all_goals first | (simp [World.cell?, h]; done) | (simp [World.frozen?, h]; done)
theorem TX.end {B0 : Nat} {a : Option Addr} {len cap : Nat} {w : World} {p : Nat} {ao : Option Addr} {zs : List TE} {cp : Nat} {nx : Int} {u U : World} (h : TX B0 a len cap w p ao zs cp nx u) (hU : (u.setCell ⟨w.heap.size, 0, none⟩ (.slice ao zs.length cp)).setCell ⟨w.heap.size, 1, none⟩ (.int .i64 nx) = U) : U.heap[w.heap.size]? = some (.cells #[.slice ao zs.length cp, .int .i64 nx] 61 (0, 0)) ∧ U.ownsRow (w.heap.size + 1) 66 5 (.slice ao zs.length cp) zs.length (teR zs) ∧ SrcOk U B0 a len cap ∧ w.grownBy U (some B0) := by
  subst hU
  have h1 := h.lt
  have z0 := heap_setCell_same u w.heap.size 0 _ _ (.slice ao zs.length cp) h.rbox
  have z1 := heap_setCell_same _ w.heap.size 1 _ _ (.int .i64 nx) z0
  have hne : (Value.slice ao zs.length cp).ownBlock ≠ some w.heap.size := fun q => by have := (h.row.lt _ q).1; omega
  exact ⟨by simpa using z1, own_set (own_set h.row hne) hne, h.src.keep (fun i hi => (Below.heap_setCell _ _ _ _ (by simp only; omega)).trans (Below.heap_setCell _ _ _ _ (by simp only; omega))), g_set (g_set h.gr (Nat.le_refl _)) (Nat.le_refl _)⟩
theorem first_cells {u : World} {B g cp n : Nat} {z : TE} {rest : List TE} (h : u.ownsRow B 66 5 (.slice (some ⟨g, 0, none⟩) n cp) n (teR (z :: rest))) : u.cell? ⟨g, 0, none⟩ = some (.int .i64 z.asid) ∧ u.cell? ⟨g, 1, none⟩ = some (.int .i64 z.page) ∧ u.cell? ⟨g, 2, none⟩ = some (.int .i64 z.frame) ∧ u.cell? ⟨g, 3, none⟩ = some (.int .i64 z.flags) ∧ u.cell? ⟨g, 4, none⟩ = some (.bool z.large) ∧ ∀ x, u.frozen? ⟨g, x, none⟩ = false := by
  have hn : 1 ≤ n := by
    have := h.1
    rw [teR_len] at this
    simp at this
    omega
  refine ⟨(h.cellAt 0 (by omega)).trans rfl, (h.cellAt 1 (by omega)).trans rfl, (h.cellAt 2 (by omega)).trans rfl, (h.cellAt 3 (by omega)).trans rfl, (h.cellAt 4 (by omega)).trans rfl, fun x => h.frozenAt x⟩
theorem appE {X : World} {B g q cp : Nat} {zs : List TE} {z : TE} (h : X.ownsRow B 66 5 (.slice (some ⟨g, 0, none⟩) zs.length cp) zs.length (teR zs)) (hq : X.heap[q]? = some (.cells #[.int .i64 z.asid, .int .i64 z.page, .int .i64 z.frame, .int .i64 z.flags, .bool z.large] 66 (0, 0))) (hl : zs.length ≤ 16) (hB : B ≤ X.heap.size) : ∃ v' u', (Builtin.append_ #[59, 59] 59 #[.slice (some ⟨g, 0, none⟩) zs.length cp, .slice (some ⟨q, 0, none⟩) 1 1]).run Try.prog X = .ok v' u' ∧ (u'.ownsRow B 66 5 v' (zs.length + 1) (teR (zs ++ [z])) ∧ X.grownBy u' (some g) ∧ (v'.ownBlock = some g ∨ v'.ownBlock = some X.heap.size)) := by
  obtain ⟨i0, hi0, hz0, hz1, hz2⟩ := info_parts Try.info66
  obtain ⟨v9, w2, hr9, h92, h93, _, h95⟩ := run_append_own_at (P := Try.prog) X B 59 59 66 i0 (.agg #[.int .i64 0, .int .i64 0, .int .i64 0, .int .i64 0, .bool false]) 5 40 Try.underlying59 hi0 hz0 hz1 hz2 rfl (by decide) (.slice (some ⟨g, 0, none⟩) zs.length cp) zs.length (teR zs) h ⟨q, 0, none⟩ 1 1 (teC z) rfl (World.news_of_block (cs := #[.int .i64 z.asid, .int .i64 z.page, .int .i64 z.frame, .int .i64 z.flags, .bool z.large]) hq) (te_oneC z) (by unfold maxLen; omega) (by omega) hB
  exact ⟨v9, w2, hr9, by rw [teR_app]; exact h92, h93, h95⟩
theorem TX.app {B0 : Nat} {a : Option Addr} {len cap : Nat} {w : World} {p g : Nat} {z : TE} {zs : List TE} {cp : Nat} {nx : Int} {X u : World} {ao2 : Option Addr} {cp2 : Nat} (h : TX B0 a len cap w p (some ⟨g, 0, none⟩) zs cp nx X) (hl : zs.length ≤ 16) (ho : u.ownsRow (w.heap.size + 1) 66 5 (.slice ao2 (zs.length + 1) cp2) (zs.length + 1) (teR (zs ++ [z]))) (hg : X.grownBy u (some g)) (hd : (Value.slice ao2 (zs.length + 1) cp2).ownBlock = some g ∨ (Value.slice ao2 (zs.length + 1) cp2).ownBlock = some X.heap.size) : TX B0 a len cap w p ao2 (zs ++ [z]) cp2 nx (u.setCell ⟨p, 0, none⟩ (.slice ao2 (zs.length + 1) cp2)) := by
  have hlt := h.lt
  have hlo := h.lo
  have hgl := (h.row.lt g rfl).1
  have hpl := (Array.getElem?_eq_some_iff.1 h.box).1
  have hgp : g ≠ p := fun q => h.ne (by rw [q]; rfl)
  have hk : ∀ j, j < X.heap.size → j ≠ g → u.heap[j]? = X.heap[j]? := fun j hj hq => hg.block j hj (by simp; omega)
  have hrl := (Array.getElem?_eq_some_iff.1 h.rbox).1
  have hln : (zs ++ [z]).length = zs.length + 1 := by simp
  have hbx := (hk p hpl (fun q => hgp q.symm)).trans h.box
  have hne2 : (Value.slice ao2 (zs.length + 1) cp2).ownBlock ≠ some p := fun q => by
    rcases hd with e | e
    · rw [e] at q
      exact hgp (Option.some.inj q)
    · rw [e] at q
      have q2 := Option.some.inj q
      omega
  have qb := heap_setCell_same u p 0 _ _ (.slice ao2 (zs.length + 1) cp2) hbx
  refine ⟨hlt, h.src.keep (fun j hj => (Below.heap_setCell _ _ _ _ (by simp only; omega)).trans (hk j (by have := h.src.lt; omega) (by omega))), g_set (gfar h.gr hg (fun q hq => by cases hq; omega)) (by omega), hlo, (Below.heap_setCell _ _ _ _ (by simp only; omega)).trans ((hk _ hrl (by omega)).trans h.rbox), ?_, ?_, ?_, by rw [hln]; omega⟩
  · rw [hln]
    simpa using qb
  · rw [hln]
    exact own_set ho hne2
  · rw [hln]
    exact hne2
theorem appN {X : World} {B g q cp n : Nat} {zs : List TE} {z : TE} (hn : zs.length = n) (h : X.ownsRow B 66 5 (.slice (some ⟨g, 0, none⟩) zs.length cp) zs.length (teR zs)) (hq : X.heap[q]? = some (.cells #[.int .i64 z.asid, .int .i64 z.page, .int .i64 z.frame, .int .i64 z.flags, .bool z.large] 66 (0, 0))) (hl : zs.length ≤ 16) (hB : B ≤ X.heap.size) : ∃ v' u', (Builtin.append_ #[59, 59] 59 #[.slice (some ⟨g, 0, none⟩) n cp, .slice (some ⟨q, 0, none⟩) 1 1]).run Try.prog X = .ok v' u' ∧ (u'.ownsRow B 66 5 v' (n + 1) (teR (zs ++ [z])) ∧ X.grownBy u' (some g) ∧ (v'.ownBlock = some g ∨ v'.ownBlock = some X.heap.size)) := by
  subst hn
  exact appE h hq hl hB
theorem TX.appN {B0 : Nat} {a : Option Addr} {len cap : Nat} {w : World} {p g n : Nat} {z : TE} {zs : List TE} {cp : Nat} {nx : Int} {X u : World} {ao2 : Option Addr} {cp2 : Nat} (h : TX B0 a len cap w p (some ⟨g, 0, none⟩) zs cp nx X) (hn : zs.length = n) (hl : zs.length ≤ 16) (ho : u.ownsRow (w.heap.size + 1) 66 5 (.slice ao2 (n + 1) cp2) (n + 1) (teR (zs ++ [z]))) (hg : X.grownBy u (some g)) (hd : (Value.slice ao2 (n + 1) cp2).ownBlock = some g ∨ (Value.slice ao2 (n + 1) cp2).ownBlock = some X.heap.size) : TX B0 a len cap w p ao2 (zs ++ [z]) cp2 nx (u.setCell ⟨p, 0, none⟩ (.slice ao2 (n + 1) cp2)) := by
  subst hn
  exact h.app hl ho hg hd
theorem lit_gr {u v : World} {b : Nat} (h : u.grownBy v (some b)) : u.grownBy v (some b) := h
/-- What a drawn cache is. -/
def DrT (B0 : Nat) (a : Option Addr) (len cap : Nat) (w : World) (e : Ending) (w' : World) : Prop := ∃ (ao : Option Addr) (zs : List TE) (cp : Nat) (nx : Int), e = .returned (.agg #[.slice ao zs.length cp, .int .i64 nx]) ∧ zs.length ≤ 17 ∧ w'.ownsRow (w.heap.size + 1) 66 5 (.slice ao zs.length cp) zs.length (teR zs) ∧ SrcOk w' B0 a len cap ∧ w.grownBy w' (some B0)
set_option maxRecDepth 100000 in
set_option maxHeartbeats 8000000 in
theorem src_anyTlb (B0 : Nat) (a : Option Addr) (len cap : Nat) (w : World) (h : SrcOk w B0 a len cap) :
    Calls Try.prog 78 #[.pointer (some ⟨B0, 0, none⟩)] w fun e w' => DrT B0 a len cap w e w' := by
  have hlt := h.lt
  have HS0 : Hid (SrcOk (w.alloc (.cells #[.slice none 0 0, .int .i64 0] 61)) B0 a len cap) := h.far (World.grownBy_alloc _ _ none)
  have HG0 : Hid (w.grownBy (w.alloc (.cells #[.slice none 0 0, .int .i64 0] 61)) (some B0)) := gAl
  have HR0 : Hid ((w.alloc (.cells #[.slice none 0 0, .int .i64 0] 61)).heap[w.heap.size]? = some (.cells #[.slice none 0 0, .int .i64 0] 61 (0, 0))) := (MapKept.heap_alloc w _).1
  have HSZ : Hid ((w.alloc (.cells #[.slice none 0 0, .int .i64 0] 61)).heap.size = w.heap.size + 1) := (show _ = _ by simp)
  clear h
  go_enter Try.func78, Try.ntmps78
  go_wp2_with fail
  generalize w.alloc (.cells #[.slice none 0 0, .int .i64 0] 61) = W at *
  refine (src_tlb B0 a len cap W HS0.out).mono ?_
  rintro e u1 ⟨ao, zs, cp, nx, rfl, l16, ho, hs1, hg1⟩
  have HT1 : Hid (TX B0 a len cap w u1.heap.size ao zs cp nx (u1.alloc (.cells #[.slice ao zs.length cp, .int .i64 nx] 61))) := (show TX B0 a len cap w u1.heap.size ao zs cp nx (u1.alloc (.cells #[.slice ao zs.length cp, .int .i64 nx] 61)) from by
    have hz := HSZ.out
    have hz1 := hg1.size
    exact ⟨hlt, hs1.far (World.grownBy_alloc _ _ none), Lib.grownBy_trans (Lib.grownBy_trans HG0.out hg1) gAl, by omega, (Below.heap_alloc _ _ _ (by omega)).trans ((hg1.block _ (Array.getElem?_eq_some_iff.1 HR0.out).1 (by simp; omega)).trans HR0.out), (MapKept.heap_alloc u1 _).1, te_weak (te_below ho ((Below.refl _ _).alloc (Nat.le_refl _) _)) (by omega), fun q => by have := (ho.lt _ q).2; omega, by omega⟩)
  clear ho hs1 hg1 HS0 HG0 HR0 HSZ
  go_upto_region 2 with fail
  generalize u1.alloc (.cells #[.slice ao zs.length cp, .int .i64 nx] 61) = U1 at *
  generalize u1.heap.size = p at *
  obtain ⟨q0, q1, qf⟩ := cel2F HT1.out.box
  have hlb := (Array.getElem?_eq_some_iff.1 HT1.out.box).1
  by_cases hz : zs.length = 0
  · have hz2 := List.length_eq_zero_iff.1 hz
    subst hz2
    clear hz
    go_upto_region 3 with fail
    clear q0 q1 qf hlb
    obtain ⟨nn, hnn⟩ : ∃ nn, ([] : List TE).length = nn := ⟨_, rfl⟩
    have HNN : Hid (([] : List TE).length = nn) := hnn
    obtain ⟨q0, q1, qf⟩ := cel2F HT1.out.box
    obtain ⟨t0, t1, tf⟩ := cel2F HT1.out.rbox
    have hlr := (Array.getElem?_eq_some_iff.1 HT1.out.rbox).1
    have hlb := (Array.getElem?_eq_some_iff.1 HT1.out.box).1
    rw [hnn] at q0
    clear hnn
    go_wp2
    obtain ⟨hfin, hro, hsr, hgr⟩ := HT1.out.end rfl
    rw [HNN.out] at hfin hro hsr hgr
    obtain ⟨f0, f1, _⟩ := cel2F hfin
    exact bodyPost_ret (v := .agg #[.slice ao nn cp, .int .i64 nx]) (by simp [results, Try.results78, go_sem, f0, f1]) rfl ⟨ao, ([] : List TE), cp, nx, by rw [HNN.out], HT1.out.l17, by rw [HNN.out]; exact hro, hsr, hgr⟩
  · have hz1 : ¬ ((zs.length : Nat) : Int) = 0 := by omega
    obtain ⟨z, rest, rfl⟩ : ∃ z rest, zs = z :: rest := by
      cases zs with
      | nil => exact absurd rfl hz
      | cons z rest => exact ⟨z, rest, rfl⟩
    obtain ⟨g, rfl⟩ : ∃ g, ao = some ⟨g, 0, none⟩ := by
      rcases HT1.out.row.2 with ⟨e, e2⟩ | ⟨g, cap2, cur, hv, _⟩
      · exact absurd e2 (by simp)
      · injection hv with e1
        exact ⟨g, e1⟩
    go_wp2_with fail
    refine (src_one B0 a len cap 5 U1 HT1.out.src (by omega)).mono ?_
    rintro e U2 ⟨t1, rfl, hs2, hg2⟩
    have HT2 : Hid (TX B0 a len cap w p (some ⟨g, 0, none⟩) (z :: rest) cp nx U2) := HT1.out.step hs2 hg2
    clear hs2 hg2 HT1 q0 q1 qf hlb
    cases t1
    · skip
      obtain ⟨nn, hnn⟩ : ∃ nn, (z :: rest).length = nn := ⟨_, rfl⟩
      have HNN : Hid ((z :: rest).length = nn) := hnn
      obtain ⟨q0, q1, qf⟩ := cel2F HT2.out.box
      obtain ⟨t0, t1, tf⟩ := cel2F HT2.out.rbox
      have hlr := (Array.getElem?_eq_some_iff.1 HT2.out.rbox).1
      have hlb := (Array.getElem?_eq_some_iff.1 HT2.out.box).1
      rw [hnn] at q0
      clear hnn
      go_wp2
      obtain ⟨hfin, hro, hsr, hgr⟩ := HT2.out.end rfl
      rw [HNN.out] at hfin hro hsr hgr
      obtain ⟨f0, f1, _⟩ := cel2F hfin
      exact bodyPost_ret (v := .agg #[.slice (some ⟨g, 0, none⟩) nn cp, .int .i64 nx]) (by simp [results, Try.results78, go_sem, f0, f1]) rfl ⟨(some ⟨g, 0, none⟩), (z :: rest), cp, nx, by rw [HNN.out], HT2.out.l17, by rw [HNN.out]; exact hro, hsr, hgr⟩
    · go_wp2_with fail
      refine (src_n B0 a len cap 5 U2 HT2.out.src (by omega)).mono ?_
      rintro e U3 ⟨k5, rfl, k50, k51, hs3, hg3⟩
      have HT3 : Hid (TX B0 a len cap w p (some ⟨g, 0, none⟩) (z :: rest) cp nx U3) := HT2.out.step hs3 hg3
      clear hs3 hg3 HT2
      obtain ⟨c0, c1, c2, c3, c4, cf⟩ := first_cells HT3.out.row
      obtain ⟨q0, q1, qf⟩ := cel2F HT3.out.box
      have hlb := (Array.getElem?_eq_some_iff.1 HT3.out.box).1
      have hlg := (HT3.out.row.lt g rfl).2
      have hgp : g ≠ p := fun q => HT3.out.ne (by rw [q]; rfl)
      have hn1 : (0 : Int) < (((z :: rest).length : Nat) : Int) := by simp
      obtain rfl | rfl | rfl | rfl | rfl : k5 = 0 ∨ k5 = 1 ∨ k5 = 2 ∨ k5 = 3 ∨ k5 = 4 := by omega
      · clear c0 c1 c2 c3 c4 cf
        have HS9 : Hid (SrcOk U3 B0 a len cap) := HT3.out.src
        have HG9 : Hid (w.grownBy U3 (some B0)) := HT3.out.gr
        have HSa : Hid (SrcOk (U3.alloc (.cells #[.int .i64 (-1), .int .i64 16, .int .i64 15] 2)) B0 a len cap) := HS9.out.far (World.grownBy_alloc _ _ none)
        have HGa : Hid (w.grownBy (U3.alloc (.cells #[.int .i64 (-1), .int .i64 16, .int .i64 15] 2)) (some B0)) := Lib.grownBy_trans HG9.out gAl
        have hPx : B0 < U3.heap.size := by have := HG9.out.size; omega
        go_wp2_with fail
        refine (src_n B0 a len cap 3 (U3.alloc (.cells #[.int .i64 (-1), .int .i64 16, .int .i64 15] 2)) HSa.out (by omega)).mono ?_
        rintro e X1 ⟨q9, rfl, q90, q91, hsV, hgV⟩
        obtain ⟨Q9, rfl⟩ := Int.eq_ofNat_of_zero_le q90
        have hQ9 : Q9 < 3 := by omega
        have hQ91 : (Q9 : Int) < 3 := by omega
        obtain ⟨y9, hy9, hy9lo, hy9hi, hy9m⟩ := lit_draw (C := [-1, 16, 15]) (lo := -1) (hi := 16) hPx hgV Q9 hQ9 (by unfold inB; decide)
        have HSX : Hid (SrcOk X1 B0 a len cap) := hsV
        have hgV9 : Hid _ := hgV
        have HGX : Hid (w.grownBy X1 (some B0)) := Lib.grownBy_trans HGa.out hgV
        clear hsV hgV HSa HGa HS9 HG9 q91 q90
        have HT5 : Hid (TX B0 a len cap w p (some ⟨g, 0, none⟩) (z :: rest) cp nx X1) := (HT3.out.step (HT3.out.src.far (World.grownBy_alloc _ (.cells #[.int .i64 (-1), .int .i64 16, .int .i64 15] 2) none)) gAl).step HSX.out (lit_gr hgV9.out)
        obtain ⟨d0, d1, df⟩ := cel2F HT5.out.box
        have hld := (Array.getElem?_eq_some_iff.1 HT5.out.box).1
        have HT6 : Hid _ := HT5.out.nx y9
        clear q0 q1 qf hlb HT3
        go_upto_region 15 with fail
        generalize X1.setCell ⟨p, 1, none⟩ (.int .i64 y9) = X2 at *
        clear d0 d1 df hld HT5
        obtain ⟨nn, hnn⟩ : ∃ nn, (z :: rest).length = nn := ⟨_, rfl⟩
        have HNN : Hid ((z :: rest).length = nn) := hnn
        obtain ⟨q0, q1, qf⟩ := cel2F HT6.out.box
        obtain ⟨t0, t1, tf⟩ := cel2F HT6.out.rbox
        have hlr := (Array.getElem?_eq_some_iff.1 HT6.out.rbox).1
        have hlb := (Array.getElem?_eq_some_iff.1 HT6.out.box).1
        rw [hnn] at q0
        clear hnn
        go_wp2
        obtain ⟨hfin, hro, hsr, hgr⟩ := HT6.out.end rfl
        rw [HNN.out] at hfin hro hsr hgr
        obtain ⟨f0, f1, _⟩ := cel2F hfin
        exact bodyPost_ret (v := .agg #[.slice (some ⟨g, 0, none⟩) nn cp, .int .i64 y9]) (by simp [results, Try.results78, go_sem, f0, f1]) rfl ⟨(some ⟨g, 0, none⟩), (z :: rest), cp, y9, by rw [HNN.out], HT6.out.l17, by rw [HNN.out]; exact hro, hsr, hgr⟩
      · clear c0 c1 c2 c3 c4 cf q0 q1 qf
        go_upto_region 8 with fail
        have HT4 : Hid (TX B0 a len cap w p (some ⟨g, 0, none⟩) (z :: rest) cp nx U3.drew) := HT3.out.step (HT3.out.src.bel (Below.refl _ _).drew) (gbel (World.grownBy.refl _ _) (Below.refl _ _).drew)
        obtain ⟨nn, hnn⟩ : ∃ nn, (z :: rest).length = nn := ⟨_, rfl⟩
        have HNN : Hid ((z :: rest).length = nn) := hnn
        rw [hnn] at hn1
        clear hnn hlb hlg
        refine wp_region_held (S := fun _ => True) (by kernel_rfl) ?_
        change wpAnyH _ _ _ _ _ _ _ _ (World.drew _)
        clear HT3
        generalize World.drew U3 = s3 at *
        refine wpAnyH_take (i := 0) (v := .pointer (some ⟨p, 0, none⟩)) rfl (by kernel_rfl) (by kernel_rfl) (by kernel_rfl) (fun _ _ _ h => h) (Or.inl ⟨by rfl, fun w9 _ => ?_⟩) trivial ?_
        · go_simp
        refine wpAnyH_take (i := 2) (v := .pointer (some ⟨p, 0, none⟩)) rfl (by kernel_rfl) (by kernel_rfl) (by kernel_rfl) (fun _ _ _ h => h) (Or.inl ⟨by rfl, fun w9 _ => ?_⟩) trivial ?_
        · go_simp
        refine wpAnyH_all (rs := [1, 3]) (by kernel_rfl) (by simp) (all_two (held_step rfl (by rfl) fun K hK => ?_) (held_step rfl (by rfl) fun K hK => ?_))
        · have q0 := (cel2F HT4.out.box).1
          rw [HNN.out] at q0
          go_simp
          refine hK _ _ trivial ?_
          clear hK K
          clear q0
          refine wpAnyH_all (rs := [3]) (by kernel_rfl) (by simp) (all_one (held_step rfl (by rfl) fun K hK => ?_))
          have q0 := (cel2F HT4.out.box).1
          rw [HNN.out] at q0
          go_simp
          refine hK _ _ trivial ?_
          clear hK K
          clear q0
          refine wpAnyH_take (i := 4) (v := .pointer (some ⟨g, 0, none⟩)) rfl (by kernel_rfl) (by kernel_rfl) (by kernel_rfl) (fun _ _ _ h => h) (Or.inl ⟨by rfl, fun w9 _ => ?_⟩) trivial ?_
          · (go_simp; try (intro h0; exfalso; omega))
          refine wpAnyH_all (rs := [5]) (by kernel_rfl) (by simp) (all_one (held_step rfl (by rfl) fun K hK => ?_))
          obtain ⟨c0, c1, c2, c3, c4, cf⟩ := first_cells HT4.out.row
          go_simp
          refine hK _ _ trivial ?_
          clear hK K
          clear c0 c1 c2 c3 c4 cf
          refine wpAnyH_all (rs := [6]) (by kernel_rfl) (by simp) (all_one (held_step rfl (by rfl) fun K hK => ?_))
          have HTX : Hid (TX B0 a len cap w p (some ⟨g, 0, none⟩) (z :: rest) cp nx (s3.alloc (.cells #[.int .i64 z.asid, .int .i64 z.page, .int .i64 z.frame, .int .i64 z.flags, .bool z.large] 66))) := HT4.out.step (HT4.out.src.far (World.grownBy_alloc _ _ none)) gAl
          have HXC : Hid ((s3.alloc (.cells #[.int .i64 z.asid, .int .i64 z.page, .int .i64 z.frame, .int .i64 z.flags, .bool z.large] 66)).heap[s3.heap.size]? = some (.cells #[.int .i64 z.asid, .int .i64 z.page, .int .i64 z.frame, .int .i64 z.flags, .bool z.large] 66 (0, 0))) := (MapKept.heap_alloc s3 _).1
          go_simp
          refine hK _ _ trivial ?_
          clear hK K
          generalize s3.alloc (.cells #[.int .i64 z.asid, .int .i64 z.page, .int .i64 z.frame, .int .i64 z.flags, .bool z.large] 66) = X at *
          refine wpAnyH_all (rs := [7]) (by kernel_rfl) (by simp) (all_one (held_step rfl (by rfl) fun K hK => ?_))
          have HA : Hid _ := appN (z := z) HNN.out HTX.out.row HXC.out l16 (by have h1 := HTX.out.gr.size; have h2 := HTX.out.lo; have h3 := (Array.getElem?_eq_some_iff.1 HTX.out.box).1; omega)
          refine wp_append_ex _ _ _ 59 rfl (.slice (some ⟨g, 0, none⟩) nn cp) (.slice (some ⟨s3.heap.size, 0, none⟩) 1 1) rfl rfl HA.out ?_
          rintro v9 W5 ⟨ho, hg, hd⟩
          obtain ⟨ao2, cp2, he9⟩ := te_sl ho
          subst he9
          have HTY : Hid (TX B0 a len cap w p ao2 ((z :: rest) ++ [z]) cp2 nx (W5.setCell ⟨p, 0, none⟩ (.slice ao2 (nn + 1) cp2))) := HTX.out.appN HNN.out l16 ho hg hd
          have hbx : Hid (W5.heap[p]? = some (.cells #[.slice (some ⟨g, 0, none⟩) nn cp, .int .i64 nx] 61 (0, 0))) := (show _ = _ by rw [← HNN.out]; exact (hg.block p (Array.getElem?_eq_some_iff.1 HTX.out.box).1 (by simp; omega)).trans HTX.out.box)
          clear ho hg hd
          refine hK _ _ trivial ?_
          clear hK K
          refine wpAnyH_take (i := 8) (v := .pointer (some ⟨p, 0, none⟩)) rfl (by kernel_rfl) (by kernel_rfl) (by kernel_rfl) (fun _ _ _ h => h) (Or.inl ⟨by rfl, fun w9 _ => ?_⟩) trivial ?_
          · go_simp
          refine wpAnyH_all (rs := [9]) (by kernel_rfl) (by simp) (all_one (held_step rfl (by rfl) fun K hK => ?_))
          obtain ⟨b0, b1, bf⟩ := cel2F hbx.out
          have hlb2 := (Array.getElem?_eq_some_iff.1 hbx.out).1
          go_simp
          refine hK _ _ trivial ?_
          clear hK K
          clear b0 b1 bf hlb2 hbx
          refine wpAnyH_done (by kernel_rfl) ?_ _
          go_simp
          clear HNN HA HTX HXC hn1 hgp
          generalize W5.setCell ⟨p, 0, none⟩ (.slice ao2 (nn + 1) cp2) = U4 at *
          obtain ⟨nn, hnn⟩ : ∃ nn, ((z :: rest) ++ [z]).length = nn := ⟨_, rfl⟩
          have HNN : Hid (((z :: rest) ++ [z]).length = nn) := hnn
          obtain ⟨q0, q1, qf⟩ := cel2F HTY.out.box
          obtain ⟨t0, t1, tf⟩ := cel2F HTY.out.rbox
          have hlr := (Array.getElem?_eq_some_iff.1 HTY.out.rbox).1
          have hlb := (Array.getElem?_eq_some_iff.1 HTY.out.box).1
          rw [hnn] at q0
          clear hnn
          go_wp2
          obtain ⟨hfin, hro, hsr, hgr⟩ := HTY.out.end rfl
          rw [HNN.out] at hfin hro hsr hgr
          obtain ⟨f0, f1, _⟩ := cel2F hfin
          exact bodyPost_ret (v := .agg #[.slice ao2 nn cp2, .int .i64 nx]) (by simp [results, Try.results78, go_sem, f0, f1]) rfl ⟨ao2, ((z :: rest) ++ [z]), cp2, nx, by rw [HNN.out], HTY.out.l17, by rw [HNN.out]; exact hro, hsr, hgr⟩
        · have q0 := (cel2F HT4.out.box).1
          rw [HNN.out] at q0
          go_simp
          refine hK _ _ trivial ?_
          clear hK K
          clear q0
          refine wpAnyH_take (i := 4) (v := .pointer (some ⟨g, 0, none⟩)) rfl (by kernel_rfl) (by kernel_rfl) (by kernel_rfl) (fun _ _ _ h => h) (Or.inl ⟨by rfl, fun w9 _ => ?_⟩) trivial ?_
          · (go_simp; try (intro h0; exfalso; omega))
          refine wpAnyH_all (rs := [1, 5]) (by kernel_rfl) (by simp) (all_two (held_step rfl (by rfl) fun K hK => ?_) (held_step rfl (by rfl) fun K hK => ?_))
          · have q0 := (cel2F HT4.out.box).1
            rw [HNN.out] at q0
            go_simp
            refine hK _ _ trivial ?_
            clear hK K
            clear q0
            refine wpAnyH_all (rs := [5]) (by kernel_rfl) (by simp) (all_one (held_step rfl (by rfl) fun K hK => ?_))
            obtain ⟨c0, c1, c2, c3, c4, cf⟩ := first_cells HT4.out.row
            go_simp
            refine hK _ _ trivial ?_
            clear hK K
            clear c0 c1 c2 c3 c4 cf
            refine wpAnyH_all (rs := [6]) (by kernel_rfl) (by simp) (all_one (held_step rfl (by rfl) fun K hK => ?_))
            have HTX : Hid (TX B0 a len cap w p (some ⟨g, 0, none⟩) (z :: rest) cp nx (s3.alloc (.cells #[.int .i64 z.asid, .int .i64 z.page, .int .i64 z.frame, .int .i64 z.flags, .bool z.large] 66))) := HT4.out.step (HT4.out.src.far (World.grownBy_alloc _ _ none)) gAl
            have HXC : Hid ((s3.alloc (.cells #[.int .i64 z.asid, .int .i64 z.page, .int .i64 z.frame, .int .i64 z.flags, .bool z.large] 66)).heap[s3.heap.size]? = some (.cells #[.int .i64 z.asid, .int .i64 z.page, .int .i64 z.frame, .int .i64 z.flags, .bool z.large] 66 (0, 0))) := (MapKept.heap_alloc s3 _).1
            go_simp
            refine hK _ _ trivial ?_
            clear hK K
            generalize s3.alloc (.cells #[.int .i64 z.asid, .int .i64 z.page, .int .i64 z.frame, .int .i64 z.flags, .bool z.large] 66) = X at *
            refine wpAnyH_all (rs := [7]) (by kernel_rfl) (by simp) (all_one (held_step rfl (by rfl) fun K hK => ?_))
            have HA : Hid _ := appN (z := z) HNN.out HTX.out.row HXC.out l16 (by have h1 := HTX.out.gr.size; have h2 := HTX.out.lo; have h3 := (Array.getElem?_eq_some_iff.1 HTX.out.box).1; omega)
            refine wp_append_ex _ _ _ 59 rfl (.slice (some ⟨g, 0, none⟩) nn cp) (.slice (some ⟨s3.heap.size, 0, none⟩) 1 1) rfl rfl HA.out ?_
            rintro v9 W5 ⟨ho, hg, hd⟩
            obtain ⟨ao2, cp2, he9⟩ := te_sl ho
            subst he9
            have HTY : Hid (TX B0 a len cap w p ao2 ((z :: rest) ++ [z]) cp2 nx (W5.setCell ⟨p, 0, none⟩ (.slice ao2 (nn + 1) cp2))) := HTX.out.appN HNN.out l16 ho hg hd
            have hbx : Hid (W5.heap[p]? = some (.cells #[.slice (some ⟨g, 0, none⟩) nn cp, .int .i64 nx] 61 (0, 0))) := (show _ = _ by rw [← HNN.out]; exact (hg.block p (Array.getElem?_eq_some_iff.1 HTX.out.box).1 (by simp; omega)).trans HTX.out.box)
            clear ho hg hd
            refine hK _ _ trivial ?_
            clear hK K
            refine wpAnyH_take (i := 8) (v := .pointer (some ⟨p, 0, none⟩)) rfl (by kernel_rfl) (by kernel_rfl) (by kernel_rfl) (fun _ _ _ h => h) (Or.inl ⟨by rfl, fun w9 _ => ?_⟩) trivial ?_
            · go_simp
            refine wpAnyH_all (rs := [9]) (by kernel_rfl) (by simp) (all_one (held_step rfl (by rfl) fun K hK => ?_))
            obtain ⟨b0, b1, bf⟩ := cel2F hbx.out
            have hlb2 := (Array.getElem?_eq_some_iff.1 hbx.out).1
            go_simp
            refine hK _ _ trivial ?_
            clear hK K
            clear b0 b1 bf hlb2 hbx
            refine wpAnyH_done (by kernel_rfl) ?_ _
            go_simp
            clear HNN HA HTX HXC hn1 hgp
            generalize W5.setCell ⟨p, 0, none⟩ (.slice ao2 (nn + 1) cp2) = U4 at *
            obtain ⟨nn, hnn⟩ : ∃ nn, ((z :: rest) ++ [z]).length = nn := ⟨_, rfl⟩
            have HNN : Hid (((z :: rest) ++ [z]).length = nn) := hnn
            obtain ⟨q0, q1, qf⟩ := cel2F HTY.out.box
            obtain ⟨t0, t1, tf⟩ := cel2F HTY.out.rbox
            have hlr := (Array.getElem?_eq_some_iff.1 HTY.out.rbox).1
            have hlb := (Array.getElem?_eq_some_iff.1 HTY.out.box).1
            rw [hnn] at q0
            clear hnn
            go_wp2
            obtain ⟨hfin, hro, hsr, hgr⟩ := HTY.out.end rfl
            rw [HNN.out] at hfin hro hsr hgr
            obtain ⟨f0, f1, _⟩ := cel2F hfin
            exact bodyPost_ret (v := .agg #[.slice ao2 nn cp2, .int .i64 nx]) (by simp [results, Try.results78, go_sem, f0, f1]) rfl ⟨ao2, ((z :: rest) ++ [z]), cp2, nx, by rw [HNN.out], HTY.out.l17, by rw [HNN.out]; exact hro, hsr, hgr⟩
          · obtain ⟨c0, c1, c2, c3, c4, cf⟩ := first_cells HT4.out.row
            go_simp
            refine hK _ _ trivial ?_
            clear hK K
            clear c0 c1 c2 c3 c4 cf
            refine wpAnyH_all (rs := [1, 6]) (by kernel_rfl) (by simp) (all_two (held_step rfl (by rfl) fun K hK => ?_) (held_step rfl (by rfl) fun K hK => ?_))
            · have q0 := (cel2F HT4.out.box).1
              rw [HNN.out] at q0
              go_simp
              refine hK _ _ trivial ?_
              clear hK K
              clear q0
              refine wpAnyH_all (rs := [6]) (by kernel_rfl) (by simp) (all_one (held_step rfl (by rfl) fun K hK => ?_))
              have HTX : Hid (TX B0 a len cap w p (some ⟨g, 0, none⟩) (z :: rest) cp nx (s3.alloc (.cells #[.int .i64 z.asid, .int .i64 z.page, .int .i64 z.frame, .int .i64 z.flags, .bool z.large] 66))) := HT4.out.step (HT4.out.src.far (World.grownBy_alloc _ _ none)) gAl
              have HXC : Hid ((s3.alloc (.cells #[.int .i64 z.asid, .int .i64 z.page, .int .i64 z.frame, .int .i64 z.flags, .bool z.large] 66)).heap[s3.heap.size]? = some (.cells #[.int .i64 z.asid, .int .i64 z.page, .int .i64 z.frame, .int .i64 z.flags, .bool z.large] 66 (0, 0))) := (MapKept.heap_alloc s3 _).1
              go_simp
              refine hK _ _ trivial ?_
              clear hK K
              generalize s3.alloc (.cells #[.int .i64 z.asid, .int .i64 z.page, .int .i64 z.frame, .int .i64 z.flags, .bool z.large] 66) = X at *
              refine wpAnyH_all (rs := [7]) (by kernel_rfl) (by simp) (all_one (held_step rfl (by rfl) fun K hK => ?_))
              have HA : Hid _ := appN (z := z) HNN.out HTX.out.row HXC.out l16 (by have h1 := HTX.out.gr.size; have h2 := HTX.out.lo; have h3 := (Array.getElem?_eq_some_iff.1 HTX.out.box).1; omega)
              refine wp_append_ex _ _ _ 59 rfl (.slice (some ⟨g, 0, none⟩) nn cp) (.slice (some ⟨s3.heap.size, 0, none⟩) 1 1) rfl rfl HA.out ?_
              rintro v9 W5 ⟨ho, hg, hd⟩
              obtain ⟨ao2, cp2, he9⟩ := te_sl ho
              subst he9
              have HTY : Hid (TX B0 a len cap w p ao2 ((z :: rest) ++ [z]) cp2 nx (W5.setCell ⟨p, 0, none⟩ (.slice ao2 (nn + 1) cp2))) := HTX.out.appN HNN.out l16 ho hg hd
              have hbx : Hid (W5.heap[p]? = some (.cells #[.slice (some ⟨g, 0, none⟩) nn cp, .int .i64 nx] 61 (0, 0))) := (show _ = _ by rw [← HNN.out]; exact (hg.block p (Array.getElem?_eq_some_iff.1 HTX.out.box).1 (by simp; omega)).trans HTX.out.box)
              clear ho hg hd
              refine hK _ _ trivial ?_
              clear hK K
              refine wpAnyH_take (i := 8) (v := .pointer (some ⟨p, 0, none⟩)) rfl (by kernel_rfl) (by kernel_rfl) (by kernel_rfl) (fun _ _ _ h => h) (Or.inl ⟨by rfl, fun w9 _ => ?_⟩) trivial ?_
              · go_simp
              refine wpAnyH_all (rs := [9]) (by kernel_rfl) (by simp) (all_one (held_step rfl (by rfl) fun K hK => ?_))
              obtain ⟨b0, b1, bf⟩ := cel2F hbx.out
              have hlb2 := (Array.getElem?_eq_some_iff.1 hbx.out).1
              go_simp
              refine hK _ _ trivial ?_
              clear hK K
              clear b0 b1 bf hlb2 hbx
              refine wpAnyH_done (by kernel_rfl) ?_ _
              go_simp
              clear HNN HA HTX HXC hn1 hgp
              generalize W5.setCell ⟨p, 0, none⟩ (.slice ao2 (nn + 1) cp2) = U4 at *
              obtain ⟨nn, hnn⟩ : ∃ nn, ((z :: rest) ++ [z]).length = nn := ⟨_, rfl⟩
              have HNN : Hid (((z :: rest) ++ [z]).length = nn) := hnn
              obtain ⟨q0, q1, qf⟩ := cel2F HTY.out.box
              obtain ⟨t0, t1, tf⟩ := cel2F HTY.out.rbox
              have hlr := (Array.getElem?_eq_some_iff.1 HTY.out.rbox).1
              have hlb := (Array.getElem?_eq_some_iff.1 HTY.out.box).1
              rw [hnn] at q0
              clear hnn
              go_wp2
              obtain ⟨hfin, hro, hsr, hgr⟩ := HTY.out.end rfl
              rw [HNN.out] at hfin hro hsr hgr
              obtain ⟨f0, f1, _⟩ := cel2F hfin
              exact bodyPost_ret (v := .agg #[.slice ao2 nn cp2, .int .i64 nx]) (by simp [results, Try.results78, go_sem, f0, f1]) rfl ⟨ao2, ((z :: rest) ++ [z]), cp2, nx, by rw [HNN.out], HTY.out.l17, by rw [HNN.out]; exact hro, hsr, hgr⟩
            · have HTX : Hid (TX B0 a len cap w p (some ⟨g, 0, none⟩) (z :: rest) cp nx (s3.alloc (.cells #[.int .i64 z.asid, .int .i64 z.page, .int .i64 z.frame, .int .i64 z.flags, .bool z.large] 66))) := HT4.out.step (HT4.out.src.far (World.grownBy_alloc _ _ none)) gAl
              have HXC : Hid ((s3.alloc (.cells #[.int .i64 z.asid, .int .i64 z.page, .int .i64 z.frame, .int .i64 z.flags, .bool z.large] 66)).heap[s3.heap.size]? = some (.cells #[.int .i64 z.asid, .int .i64 z.page, .int .i64 z.frame, .int .i64 z.flags, .bool z.large] 66 (0, 0))) := (MapKept.heap_alloc s3 _).1
              go_simp
              refine hK _ _ trivial ?_
              clear hK K
              generalize s3.alloc (.cells #[.int .i64 z.asid, .int .i64 z.page, .int .i64 z.frame, .int .i64 z.flags, .bool z.large] 66) = X at *
              refine wpAnyH_all (rs := [1]) (by kernel_rfl) (by simp) (all_one (held_step rfl (by rfl) fun K hK => ?_))
              have q0 := (cel2F HTX.out.box).1
              rw [HNN.out] at q0
              go_simp
              refine hK _ _ trivial ?_
              clear hK K
              clear q0
              refine wpAnyH_all (rs := [7]) (by kernel_rfl) (by simp) (all_one (held_step rfl (by rfl) fun K hK => ?_))
              have HA : Hid _ := appN (z := z) HNN.out HTX.out.row HXC.out l16 (by have h1 := HTX.out.gr.size; have h2 := HTX.out.lo; have h3 := (Array.getElem?_eq_some_iff.1 HTX.out.box).1; omega)
              refine wp_append_ex _ _ _ 59 rfl (.slice (some ⟨g, 0, none⟩) nn cp) (.slice (some ⟨s3.heap.size, 0, none⟩) 1 1) rfl rfl HA.out ?_
              rintro v9 W5 ⟨ho, hg, hd⟩
              obtain ⟨ao2, cp2, he9⟩ := te_sl ho
              subst he9
              have HTY : Hid (TX B0 a len cap w p ao2 ((z :: rest) ++ [z]) cp2 nx (W5.setCell ⟨p, 0, none⟩ (.slice ao2 (nn + 1) cp2))) := HTX.out.appN HNN.out l16 ho hg hd
              have hbx : Hid (W5.heap[p]? = some (.cells #[.slice (some ⟨g, 0, none⟩) nn cp, .int .i64 nx] 61 (0, 0))) := (show _ = _ by rw [← HNN.out]; exact (hg.block p (Array.getElem?_eq_some_iff.1 HTX.out.box).1 (by simp; omega)).trans HTX.out.box)
              clear ho hg hd
              refine hK _ _ trivial ?_
              clear hK K
              refine wpAnyH_take (i := 8) (v := .pointer (some ⟨p, 0, none⟩)) rfl (by kernel_rfl) (by kernel_rfl) (by kernel_rfl) (fun _ _ _ h => h) (Or.inl ⟨by rfl, fun w9 _ => ?_⟩) trivial ?_
              · go_simp
              refine wpAnyH_all (rs := [9]) (by kernel_rfl) (by simp) (all_one (held_step rfl (by rfl) fun K hK => ?_))
              obtain ⟨b0, b1, bf⟩ := cel2F hbx.out
              have hlb2 := (Array.getElem?_eq_some_iff.1 hbx.out).1
              go_simp
              refine hK _ _ trivial ?_
              clear hK K
              clear b0 b1 bf hlb2 hbx
              refine wpAnyH_done (by kernel_rfl) ?_ _
              go_simp
              clear HNN HA HTX HXC hn1 hgp
              generalize W5.setCell ⟨p, 0, none⟩ (.slice ao2 (nn + 1) cp2) = U4 at *
              obtain ⟨nn, hnn⟩ : ∃ nn, ((z :: rest) ++ [z]).length = nn := ⟨_, rfl⟩
              have HNN : Hid (((z :: rest) ++ [z]).length = nn) := hnn
              obtain ⟨q0, q1, qf⟩ := cel2F HTY.out.box
              obtain ⟨t0, t1, tf⟩ := cel2F HTY.out.rbox
              have hlr := (Array.getElem?_eq_some_iff.1 HTY.out.rbox).1
              have hlb := (Array.getElem?_eq_some_iff.1 HTY.out.box).1
              rw [hnn] at q0
              clear hnn
              go_wp2
              obtain ⟨hfin, hro, hsr, hgr⟩ := HTY.out.end rfl
              rw [HNN.out] at hfin hro hsr hgr
              obtain ⟨f0, f1, _⟩ := cel2F hfin
              exact bodyPost_ret (v := .agg #[.slice ao2 nn cp2, .int .i64 nx]) (by simp [results, Try.results78, go_sem, f0, f1]) rfl ⟨ao2, ((z :: rest) ++ [z]), cp2, nx, by rw [HNN.out], HTY.out.l17, by rw [HNN.out]; exact hro, hsr, hgr⟩
      · have HT4 : Hid (TX B0 a len cap w p (some ⟨g, 0, none⟩) ({ z with asid := 256 } :: rest) cp nx (U3.setCell ⟨g, 0, none⟩ (.int .i64 256))) := HT3.out.first 0 (.int .i64 256) ({ z with asid := 256 } :: rest) rfl rfl
        go_upto_region 15 with fail
        generalize U3.setCell ⟨g, 0, none⟩ (.int .i64 256) = U4 at *
        clear c0 c1 c2 c3 c4 cf q0 q1 qf hlb hlg HT3
        obtain ⟨nn, hnn⟩ : ∃ nn, ({ z with asid := 256 } :: rest).length = nn := ⟨_, rfl⟩
        have HNN : Hid (({ z with asid := 256 } :: rest).length = nn) := hnn
        obtain ⟨q0, q1, qf⟩ := cel2F HT4.out.box
        obtain ⟨t0, t1, tf⟩ := cel2F HT4.out.rbox
        have hlr := (Array.getElem?_eq_some_iff.1 HT4.out.rbox).1
        have hlb := (Array.getElem?_eq_some_iff.1 HT4.out.box).1
        rw [hnn] at q0
        clear hnn
        go_wp2
        obtain ⟨hfin, hro, hsr, hgr⟩ := HT4.out.end rfl
        rw [HNN.out] at hfin hro hsr hgr
        obtain ⟨f0, f1, _⟩ := cel2F hfin
        exact bodyPost_ret (v := .agg #[.slice (some ⟨g, 0, none⟩) nn cp, .int .i64 nx]) (by simp [results, Try.results78, go_sem, f0, f1]) rfl ⟨(some ⟨g, 0, none⟩), ({ z with asid := 256 } :: rest), cp, nx, by rw [HNN.out], HT4.out.l17, by rw [HNN.out]; exact hro, hsr, hgr⟩
      · have HSB : Hid (∀ w' : World, w'.heap[p]? = some (.cells #[.slice (some ⟨g, 0, none⟩) (z :: rest).length cp, .int .i64 nx] 61 (0, 0)) → w'.cell? ⟨p, 0, none⟩ = some (.slice (some ⟨g, 0, none⟩) (z :: rest).length cp) ∧ w'.cell? ⟨p, 1, none⟩ = some (.int .i64 nx)) := fun w' hW => by
          obtain ⟨b0, b1, _⟩ := cel2F hW
          exact ⟨b0, b1⟩
        clear c0 c1 c2 c3 c4 cf q0 q1 qf
        go_upto_region 12 with fail
        have HT4 : Hid (TX B0 a len cap w p (some ⟨g, 0, none⟩) (z :: rest) cp nx U3.drew) := HT3.out.step (HT3.out.src.bel (Below.refl _ _).drew) (gbel (World.grownBy.refl _ _) (Below.refl _ _).drew)
        refine wp_region_held (S := fun w' => w'.cell? ⟨p, 0, none⟩ = some (.slice (some ⟨g, 0, none⟩) (z :: rest).length cp) ∧ w'.cell? ⟨p, 1, none⟩ = some (.int .i64 nx)) (by kernel_rfl) ?_
        change wpAnyH _ _ _ _ _ _ _ _ (World.drew _)
        clear HT3 hlb hlg
        generalize World.drew U3 = s3 at *
        refine wpAnyH_take (i := 0) (v := .pointer (some ⟨p, 0, none⟩)) rfl (by kernel_rfl) (by kernel_rfl) (by kernel_rfl) (fun _ _ _ h => h) (Or.inl ⟨by rfl, fun w9 _ => ?_⟩) (HSB.out _ HT4.out.box) ?_
        · go_simp
        refine wpAnyH_take (i := 1) (v := .slice (some ⟨g, 0, none⟩) (z :: rest).length cp) rfl (by kernel_rfl) (by kernel_rfl) (by kernel_rfl) (fun _ _ _ h => h) (Or.inl ⟨by rfl, fun w9 h9 => ?_⟩) (HSB.out _ HT4.out.box) ?_
        · have h91 := h9.1
          go_simp
        refine wpAnyH_take (i := 2) (v := .pointer (some ⟨B0, 0, none⟩)) rfl (by kernel_rfl) (by kernel_rfl) (by kernel_rfl) (fun _ _ _ h => h) (Or.inl ⟨by rfl, fun w9 _ => ?_⟩) (HSB.out _ HT4.out.box) ?_
        · go_simp
        refine wpAnyH_all (rs := [3]) (by kernel_rfl) (by simp) (all_one (held_step rfl (by rfl) fun K hK => ?_))
        have HAH : Hid _ := src_n B0 a len cap 2 s3 HT4.out.src (by omega)
        go_simp
        refine Calls.mono HAH.out ?_
        clear HAH
        rintro e9 W1 ⟨q9, rfl, q90, q91, hs9, hg9⟩
        have HT5 : Hid (TX B0 a len cap w p (some ⟨g, 0, none⟩) (z :: rest) cp nx W1) := HT4.out.step hs9 hg9
        clear hs9 hg9 HT4
        refine hK _ _ (HSB.out _ HT5.out.box) ?_
        clear hK K
        refine wpAnyH_take (i := 4) (v := .int .i64 (1024 - q9)) rfl (by kernel_rfl) (by kernel_rfl) (by kernel_rfl) (fun _ _ _ h => h) (Or.inl ⟨by rfl, fun w9 _ => ?_⟩) (HSB.out _ HT5.out.box) ?_
        · go_simp
          first | omega | (rw [IntKind.wrap_i64]; omega)
        refine wpAnyH_take (i := 5) (v := .pointer (some ⟨g, 0, none⟩)) rfl (by kernel_rfl) (by kernel_rfl) (by kernel_rfl) (fun _ _ _ h => h) (Or.inl ⟨by rfl, fun w9 _ => ?_⟩) (HSB.out _ HT5.out.box) ?_
        · go_simp
        refine wpAnyH_take (i := 6) (v := .pointer (some ⟨g, 1, none⟩)) rfl (by kernel_rfl) (by kernel_rfl) (by kernel_rfl) (fun _ _ _ h => h) (Or.inl ⟨by rfl, fun w9 _ => ?_⟩) (HSB.out _ HT5.out.box) ?_
        · go_simp
        refine wpAnyH_all (rs := [7]) (by kernel_rfl) (by simp) (all_one (held_step rfl (by rfl) fun K hK => ?_))
        obtain ⟨c0, c1, c2, c3, c4, cf⟩ := first_cells HT5.out.row
        have hlg := (HT5.out.row.lt g rfl).2
        have HT6 : Hid (TX B0 a len cap w p (some ⟨g, 0, none⟩) ({ z with page := 1024 - q9 } :: rest) cp nx (W1.setCell ⟨g, 1, none⟩ (.int .i64 (1024 - q9)))) := HT5.out.first 1 (.int .i64 (1024 - q9)) ({ z with page := 1024 - q9 } :: rest) rfl rfl
        go_simp
        refine hK _ _ (HSB.out _ HT6.out.box) ?_
        clear hK K HSB c0 c1 c2 c3 c4 cf hlg HT5
        refine wpAnyH_done (by kernel_rfl) ?_ _
        go_simp
        generalize W1.setCell ⟨g, 1, none⟩ (.int .i64 (1024 - q9)) = U4 at *
        obtain ⟨nn, hnn⟩ : ∃ nn, ({ z with page := 1024 - q9 } :: rest).length = nn := ⟨_, rfl⟩
        have HNN : Hid (({ z with page := 1024 - q9 } :: rest).length = nn) := hnn
        obtain ⟨q0, q1, qf⟩ := cel2F HT6.out.box
        obtain ⟨t0, t1, tf⟩ := cel2F HT6.out.rbox
        have hlr := (Array.getElem?_eq_some_iff.1 HT6.out.rbox).1
        have hlb := (Array.getElem?_eq_some_iff.1 HT6.out.box).1
        rw [hnn] at q0
        clear hnn
        go_wp2
        obtain ⟨hfin, hro, hsr, hgr⟩ := HT6.out.end rfl
        rw [HNN.out] at hfin hro hsr hgr
        obtain ⟨f0, f1, _⟩ := cel2F hfin
        exact bodyPost_ret (v := .agg #[.slice (some ⟨g, 0, none⟩) nn cp, .int .i64 nx]) (by simp [results, Try.results78, go_sem, f0, f1]) rfl ⟨(some ⟨g, 0, none⟩), ({ z with page := 1024 - q9 } :: rest), cp, nx, by rw [HNN.out], HT6.out.l17, by rw [HNN.out]; exact hro, hsr, hgr⟩
      · have HT4 : Hid (TX B0 a len cap w p (some ⟨g, 0, none⟩) ({ z with large := true } :: rest) cp nx (U3.setCell ⟨g, 4, none⟩ (.bool true))) := HT3.out.first 4 (.bool true) ({ z with large := true } :: rest) rfl rfl
        go_upto_region 15 with fail
        generalize U3.setCell ⟨g, 4, none⟩ (.bool true) = U4 at *
        clear c0 c1 c2 c3 c4 cf q0 q1 qf hlb hlg HT3
        obtain ⟨nn, hnn⟩ : ∃ nn, ({ z with large := true } :: rest).length = nn := ⟨_, rfl⟩
        have HNN : Hid (({ z with large := true } :: rest).length = nn) := hnn
        obtain ⟨q0, q1, qf⟩ := cel2F HT4.out.box
        obtain ⟨t0, t1, tf⟩ := cel2F HT4.out.rbox
        have hlr := (Array.getElem?_eq_some_iff.1 HT4.out.rbox).1
        have hlb := (Array.getElem?_eq_some_iff.1 HT4.out.box).1
        rw [hnn] at q0
        clear hnn
        go_wp2
        obtain ⟨hfin, hro, hsr, hgr⟩ := HT4.out.end rfl
        rw [HNN.out] at hfin hro hsr hgr
        obtain ⟨f0, f1, _⟩ := cel2F hfin
        exact bodyPost_ret (v := .agg #[.slice (some ⟨g, 0, none⟩) nn cp, .int .i64 nx]) (by simp [results, Try.results78, go_sem, f0, f1]) rfl ⟨(some ⟨g, 0, none⟩), ({ z with large := true } :: rest), cp, nx, by rw [HNN.out], HT4.out.l17, by rw [HNN.out]; exact hro, hsr, hgr⟩

theorem CodeAt.alloc {w : World} {B : Nat} {a : Option Addr} {len : Nat} (h : CodeAt w w.heap.size a len) (o : Obj) (hB : B = w.heap.size + 1) : CodeAt (w.alloc o) B a len := by
  rcases h with h | ⟨cb, co, ha, hlt, hcc⟩
  · exact .inl h
  · refine .inr ⟨cb, co, ha, by omega, fun i hi => ?_⟩
    obtain ⟨x, h0, h1, hx⟩ := hcc i hi
    exact ⟨x, h0, h1, ((Below.refl w.heap.size w).alloc (Nat.le_refl _) o |>.cell (p := ⟨cb, co + i, none⟩) hlt).trans hx⟩
set_option maxRecDepth 100000 in
set_option maxHeartbeats 4000000 in
theorem drawTlb_any (a : Option Addr) (len cap : Nat) (w : World) (hcode : CodeAt w w.heap.size a len) (hl : len ≤ 1048576) :
    Calls Try.prog 30 #[.slice a len cap] w fun e w' => ∃ (ao : Option Addr) (zs : List TE) (cp : Nat) (nx : Int), e = .returned (.agg #[.slice ao zs.length cp, .int .i64 nx]) ∧ zs.length ≤ 17 ∧ w'.ownsRow (w.heap.size + 1) 66 5 (.slice ao zs.length cp) zs.length (teR zs) ∧ Below w.heap.size w w' := by
  have HC : Hid (CodeAt (w.alloc (.cells #[.slice none 0 0, .int .i64 0] 61)) (w.alloc (.cells #[.slice none 0 0, .int .i64 0] 61)).heap.size a len) := hcode.alloc _ (by simp)
  have HB0 : Hid (Below w.heap.size w (w.alloc (.cells #[.slice none 0 0, .int .i64 0] 61))) := (Below.refl _ _).alloc (Nat.le_refl _) _
  have HR0 : Hid ((w.alloc (.cells #[.slice none 0 0, .int .i64 0] 61)).heap[w.heap.size]? = some (.cells #[.slice none 0 0, .int .i64 0] 61 (0, 0))) := (MapKept.heap_alloc w _).1
  have HSZ : Hid ((w.alloc (.cells #[.slice none 0 0, .int .i64 0] 61)).heap.size = w.heap.size + 1) := (show _ = _ by simp)
  clear hcode
  go_enter Try.func30, Try.ntmps30
  go_wp2_with fail
  generalize w.alloc (.cells #[.slice none 0 0, .int .i64 0] 61) = W at *
  refine (l01Source_any a len cap W HC.out hl).mono ?_
  rintro e W1 ⟨rfl, hs1, hb1⟩
  have HS1 : Hid (SrcOk W1 W.heap.size a len cap) := hs1
  have HB1 : Hid (Below w.heap.size w W1) := HB0.out.trans (hb1.mono HB0.out.size)
  have HR1 : Hid (W1.heap[w.heap.size]? = some (.cells #[.slice none 0 0, .int .i64 0] 61 (0, 0))) := (hb1.block _ (Array.getElem?_eq_some_iff.1 HR0.out).1).trans HR0.out
  clear hs1 hb1 HC HB0 HR0
  go_wp2_with fail
  refine (src_anyTlb W.heap.size a len cap W1 HS1.out).mono ?_
  rintro e W2 ⟨ao, zs, cp, nx, rfl, l17, ho, hs2, hg2⟩
  have hz := HSZ.out
  have hz1 := HS1.out.lt
  have HB2 : Hid (Below w.heap.size w W2) := HB1.out.grown hg2 HB1.out.size (fun k hk => by cases hk; omega)
  have HR2 : Hid (W2.heap[w.heap.size]? = some (.cells #[.slice none 0 0, .int .i64 0] 61 (0, 0))) := (hg2.block _ (Array.getElem?_eq_some_iff.1 HR1.out).1 (by simp; omega)).trans HR1.out
  have HO2 : Hid (W2.ownsRow (w.heap.size + 1) 66 5 (.slice ao zs.length cp) zs.length (teR zs)) := te_weak ho (by omega)
  clear ho hs2 hg2
  obtain ⟨t0, t1, tf⟩ := cel2F HR2.out
  have hlr := (Array.getElem?_eq_some_iff.1 HR2.out).1
  go_wp2
  have z0 := heap_setCell_same W2 w.heap.size 0 _ _ (.slice ao zs.length cp) HR2.out
  have z1 := heap_setCell_same _ w.heap.size 1 _ _ (.int .i64 nx) z0
  have hfin : ((W2.setCell ⟨w.heap.size, 0, none⟩ (.slice ao zs.length cp)).setCell ⟨w.heap.size, 1, none⟩ (.int .i64 nx)).heap[w.heap.size]? = some (.cells #[.slice ao zs.length cp, .int .i64 nx] 61 (0, 0)) := by simpa using z1
  obtain ⟨f0, f1, _⟩ := cel2F hfin
  have hne : (Value.slice ao zs.length cp).ownBlock ≠ some w.heap.size := fun q => by have := (HO2.out.lt _ q).1; omega
  exact bodyPost_ret (v := .agg #[.slice ao zs.length cp, .int .i64 nx]) (by simp [results, Try.results30, go_sem, f0, f1]) rfl ⟨ao, zs, cp, nx, rfl, l17, own_set (own_set HO2.out hne) hne, (HB2.out.setCell (Nat.le_refl _) _).setCell (Nat.le_refl _) _⟩

theorem code_of (w : World) (a : Option Addr) (len cap : Nat) (zs : List Int)
    (h : (a = none ∧ len = 0 ∧ cap = 0 ∧ zs = []) ∨ ∃ x, a = some x ∧ len ≤ cap ∧ cap ≤ maxLen ∧ zs.length = cap ∧ (∀ i, i < zs.length → w.cell? (x.add i) = some (.int .u8 (zs.getD i 0))) ∧ ∀ n ∈ zs, (Lit.int .u8 n).wf = true) : CodeAt w w.heap.size a len := by
  rcases h with ⟨_, h, _⟩ | ⟨x, rfl, h1, _, h3, h4, h5⟩
  · exact .inl h
  · by_cases h0 : len = 0
    · exact .inl h0
    · obtain ⟨b, off, rfl, hc⟩ := ints_at h4 (by omega)
      refine .inr ⟨b, off, rfl, World.block_lt_of_cell? w _ (hc 0 (by omega)), fun i hi => ?_⟩
      have hm : zs.getD i 0 ∈ zs := by
        have : i < zs.length := by omega
        simp [List.getD, List.getElem?_eq_getElem this]
      have hb := bounds_u8 (h5 _ hm)
      exact ⟨zs.getD i 0, by omega, by omega, hc i (by omega)⟩
end Go.Proofs.Ytfagohdmepnkkaa
