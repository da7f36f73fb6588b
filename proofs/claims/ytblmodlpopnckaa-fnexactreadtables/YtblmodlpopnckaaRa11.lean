import Derived.Test.YtblmodlpopnckaaRaW
import Derived.Test.YtblmodlpopnckaaRa6
namespace Go.Proofs.Ytblmodlpopnckaa
open Go.ChangeShapes Go.WideShapes Go.ChangeAt Go.RowKit

theorem memC_sz {m : ByteArray} (h : memC m = 0) : m.size ≤ 65536 ∧ m.size % 256 = 0 := by
  unfold memC memOk at h
  split at h
  · rename_i h2
    have := of_decide_eq_true h2
    omega
  · omega
theorem pl_short {m : ByteArray} {a : Nat} (h : inW m.size (a : Int) 12 = false) : plC m a = 3 := by
  cases hA : plA m a
  · exact (plA_no hA).1
  cases hI : plI m a
  · exact (plI_no hA hI).1
  have h2 := inW_no.1 h
  unfold plI at hI
  have h3 := inW_iff.1 hI
  omega
theorem pl_fmk {m : ByteArray} {a : Nat} (h : fmk m a = false) : plC m a = 3 := (plA_no (by unfold plA; rw [h]; rfl)).1
theorem gwV_in {m : ByteArray} {a : Nat} (h : a + 4 ≤ m.size) (hm : m.size ≤ 65536) : gwV m a = wv m a := if_pos (by unfold hwd; exact decide_eq_true ⟨hm, by omega, by omega⟩)
theorem hwd_in {m : ByteArray} {a : Nat} (h : a + 4 ≤ m.size) (hm : m.size ≤ 65536) : hwd m (a : Int) = true := by unfold hwd; exact decide_eq_true ⟨hm, by omega, by omega⟩
theorem pl_many {m : ByteArray} {a : Nat} (hm : m.size ≤ 65536) (h : a + 8 ≤ m.size) (h2 : 10 < wv m (a + 4)) : plC m a = 3 := by
  refine (plA_no ?_).1
  unfold plA
  rw [gwV_in (a := a + 4) (by omega) hm, decide_eq_false (p := wv m (a + 4) ≤ 10) (by omega)]
  simp
theorem plA_in {m : ByteArray} {a : Nat} (hm : m.size ≤ 65536) (h : a + 8 ≤ m.size) (hf : fmk m a = true) (h2 : ¬ 10 < wv m (a + 4)) : plA m a = true := by
  unfold plA
  rw [gwV_in (a := a + 4) (by omega) hm, hf, hwd_in (a := a + 4) (by omega) hm, decide_eq_true (p := wv m (a + 4) ≤ 10) (by omega)]
  rfl
theorem plN_in {m : ByteArray} {a : Nat} (hm : m.size ≤ 65536) (h : a + 8 ≤ m.size) : ((plN m a : Nat) : Int) = wv m (a + 4) := by
  have hb := wv_b m (a + 4)
  unfold plN
  rw [gwV_in (a := a + 4) (by omega) hm]
  omega
theorem wv_ex (m : ByteArray) (a n j : Nat) (h : a + n ≤ m.size) (hj : j + 4 ≤ n) : wv (m.extract a (a + n)) j = wv m (a + j) := by
  unfold wv
  rw [bt_ex m a n j h (by omega), bt_ex m a n (j + 1) h (by omega), bt_ex m a n (j + 2) h (by omega), bt_ex m a n (j + 3) h (by omega)]
  rfl
theorem ws_ps (m : ByteArray) (a N : Nat) (h : a + 4 * N ≤ m.size) (hm : m.size ≤ 65536) : ∀ j, j ≤ N → wsT (m.extract a (a + 4 * N)) j = psum (plW m a N) j
  | 0, _ => rfl
  | j + 1, hj => by
    show wsT _ j + wv _ (4 * j) = psum _ j + (plW m a N).getD j 0
    rw [ws_ps m a N h hm j (by omega), wv_ex m a (4 * N) (4 * j) h (by omega)]
    have e : (plW m a N).getD j 0 = wv m (a + 4 * j) := by
      rw [List.getD_eq_getElem?_getD, List.getElem?_eq_getElem (by rw [plW_len]; omega), Option.getD_some]
      simp only [plW, List.getElem_map, List.getElem_range]
      rw [gwV_in (by omega) hm, Nat.mul_comm]
    rw [e]
theorem plL_in {m : ByteArray} {a : Nat} (h : plC m a = 0) (hm : m.size ≤ 65536) (hI : plI m a = true) : (plL m a).length = plN m a ∧ ∀ k, k < plN m a → (plL m a).getD k 0 = wv m (a + 8 + 4 * k) := by
  have hI2 := inW_iff.1 (show inW m.size (a : Int) (((plN m a + 3 : Nat) : Int) * 4) = true from hI)
  have e : plL m a = ((plW m a (plN m a + 3)).drop 2).take (plN m a) := if_pos h
  have hl : (plL m a).length = plN m a := by rw [e, List.length_take, List.length_drop, plW_len]; omega
  refine ⟨hl, fun k hk => ?_⟩
  rw [List.getD_eq_getElem?_getD, List.getElem?_eq_getElem (by omega), Option.getD_some]
  have e2 : (plL m a)[k]'(by omega) = (((plW m a (plN m a + 3)).drop 2).take (plN m a))[k]'(by rw [← e]; omega) := by simp only [e]
  rw [e2, List.getElem_take, List.getElem_drop]
  simp only [plW, List.getElem_map, List.getElem_range]
  rw [gwV_in (by omega) hm, show a + (2 + k) * 4 = a + 8 + 4 * k by omega]
/-- The answer under way: what comes back, what is grown. -/
structure SR (w wr : World) (b0 b1 : Nat) (v : Value) (k : Nat) (zs : List FT) : Prop where
  l0 : LG w wr b0 #[.int .i64 0, .slice none 0 0] 24
  l1 : LG w wr b1 #[.int .i64 0, v] 24
  lt : b0 < b1
  ow : wr.ownsRow (b1 + 1) 40 3 v k (ftR zs)
theorem SR.step {w wr u : World} {b0 b1 : Nat} {v : Value} {k : Nat} {zs : List FT} (h : SR w wr b0 b1 v k zs) (hb : Below wr.heap.size wr u) : SR w u b0 b1 v k zs := ⟨h.l0.step hb, h.l1.step hb, h.lt, own_belowN h.ow hb⟩
theorem SR.grow {w wr u : World} {b0 b1 : Nat} {v v' : Value} {k : Nat} {zs ys : List FT} {o : Obj} (h : SR w wr b0 b1 v k zs) (hg : (wr.alloc o).grownBy u v.ownBlock) (ho : u.ownsRow (b1 + 1) 40 3 v' (k + 1) (ftR ys)) : SR w (u.setCell ⟨b1, 1, none⟩ v') b0 b1 v' (k + 1) ys := by
  have h2 := h.step (bx1 wr o)
  have hr : ∀ j, v.ownBlock = some j → b1 + 1 ≤ j := fun j hj => (h.ow.lt j hj).1
  have hlt := h.lt
  have hge := h.l0.ge
  have g0 : LG w u b0 #[.int .i64 0, .slice none 0 0] 24 := ⟨h2.l0.bel.grown hg h2.l0.bel.size (fun j hj => by have := hr j hj; omega), (hg.block b0 h2.l0.lt (fun e => by have := hr b0 e.symm; omega)).trans h2.l0.box, h2.l0.ge⟩
  have g1 : LG w u b1 #[.int .i64 0, v] 24 := ⟨h2.l1.bel.grown hg h2.l1.bel.size (fun j hj => by have := hr j hj; omega), (hg.block b1 h2.l1.lt (fun e => by have := hr b1 e.symm; omega)).trans h2.l1.box, h2.l1.ge⟩
  refine ⟨⟨g0.bel.setCell (by show w.heap.size ≤ b1; omega) _, ?_, g0.ge⟩, ⟨g1.bel.setCell (by show w.heap.size ≤ b1; omega) _, ?_, g1.ge⟩, h.lt, own_keepB ho (mf_gset ⟨rfl, rfl, rfl, Nat.le_refl _, fun _ _ _ => rfl⟩ _ _) (by omega)⟩
  · rw [Below.heap_setCell _ _ _ _ (by show b0 ≠ b1; omega)]
    exact g0.box
  · have h9 := g1.box
    simp [World.setCell, Array.getElem?_modify, h9]
theorem SR.mid {w wr u : World} {b0 b1 : Nat} {v : Value} {k : Nat} {zs : List FT} {o : Obj} (h : SR w wr b0 b1 v k zs) (hg : (wr.alloc o).grownBy u v.ownBlock) : LG w u b1 #[.int .i64 0, v] 24 := by
  have h2 := h.step (bx1 wr o)
  have hr : ∀ j, v.ownBlock = some j → b1 + 1 ≤ j := fun j hj => (h.ow.lt j hj).1
  have hlt := h.lt
  have hge := h.l0.ge
  exact ⟨h2.l1.bel.grown hg h2.l1.bel.size (fun j hj => by have := hr j hj; omega), (hg.block b1 h2.l1.lt (fun e => by have := hr b1 e.symm; omega)).trans h2.l1.box, h2.l1.ge⟩
end Go.Proofs.Ytblmodlpopnckaa
