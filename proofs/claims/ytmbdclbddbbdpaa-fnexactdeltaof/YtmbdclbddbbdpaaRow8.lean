import Derived.Test.YtmbdclbddbbdpaaConv
import Derived.Deep.AppendSrc
import Derived.Laws.AppendOwn
import Derived.OwnWalk
namespace Go.Proofs.Ytmbdclbddbbdpaa
open Go.ChangeShapes Go.WideShapes Go.ChangeAt Go.RowKit

/-- A slice of bytes that lies in a block of its own from B on: its bytes are bs; all its cells are there, none is frozen. -/
def Row8 (B : Nat) (w : World) (v : Value) (bs : List UInt8) : Prop :=
  ∃ g cap, v = .slice (some ⟨g, 0, none⟩) bs.length cap ∧ B ≤ g ∧ bs.length ≤ cap ∧ cap ≤ maxLen ∧ (∀ j u, (cells8 bs)[j]? = some u → w.cell? ⟨g, j, none⟩ = some u) ∧ (∀ j, j < cap → (w.cell? ⟨g, j, none⟩).isSome = true ∧ w.frozen? ⟨g, j, none⟩ = false)

theorem cells8_len (bs : List UInt8) : (cells8 bs).length = bs.length := by simp [cells8]

set_option maxRecDepth 100000 in
theorem row8_conv (u : World) (S : ByteArray) (hS : S.size ≤ 1048576) : Row8 u.heap.size (Lib.bytesWorld u 5 S) (.slice (some ⟨u.heap.size, 0, none⟩) S.size (grownCap u S.size 0 5)) S.data.toList := by
  have hge := grownCap_ge u S.size 0 5
  have hle := grownCap_le_maxLen u S.size 0 5 (by unfold maxLen; omega)
  have hsz : (Lib.bytesCells u 5 S).size = grownCap u S.size 0 5 := by
    simp [Lib.bytesCells]
    omega
  refine ⟨u.heap.size, grownCap u S.size 0 5, by simp, Nat.le_refl _, by simpa using hge, hle, ?_, ?_⟩
  · intro j x hx
    have hj : j < S.size := by
      have := (List.getElem?_eq_some_iff.1 hx).1
      simpa [cells8] using this
    rw [bw_cell u S j hj]
    have hj' : j < S.data.toList.length := by simpa using hj
    simp [cells8, List.getElem?_eq_getElem hj'] at hx
    rw [← bt_list S j hj, ← hx]
    simp [List.getD, List.getElem?_eq_getElem hj']
  · intro j hj
    constructor
    · rw [cell_of_row _ _ _ _ _ _ (Lib.bytesWorld_at_new u 5 S)]
      rw [← hsz] at hj
      simp [hj]
    · simp [World.frozen?, Lib.bytesWorld_at_new]
      omega

theorem Row8.carry {B : Nat} {w w' : World} {v : Value} {bs : List UInt8} (h : Row8 B w v bs) (hb : ∀ g, B ≤ g → g < w.heap.size → w'.heap[g]? = w.heap[g]?) : Row8 B w' v bs := by
  obtain ⟨g, cap, hv, hB, h1, h2, h3, h4⟩ := h
  rcases Nat.eq_zero_or_pos cap with h0 | h0
  · subst h0
    refine ⟨g, 0, hv, hB, h1, h2, fun j u hu => ?_, fun j hj => by omega⟩
    have : bs = [] := by simpa using h1
    subst this
    simp [cells8] at hu
  · have hg : g < w.heap.size := World.block_lt_of_cell? _ _ (Option.isSome_iff_exists.1 (h4 0 h0).1).choose_spec
    have e := hb g hB hg
    refine ⟨g, cap, hv, hB, h1, h2, fun j u hu => (World.cell?_of_block (a := ⟨g, j, none⟩) e).trans (h3 j u hu), fun j hj => ?_⟩
    rw [World.cell?_of_block (a := ⟨g, j, none⟩) e, World.frozen?_of_block (a := ⟨g, j, none⟩) e]
    exact h4 j hj
theorem Row8.alloc {B : Nat} {w : World} {v : Value} {bs : List UInt8} (h : Row8 B w v bs) (o : Obj) : Row8 B (w.alloc o) v bs :=
  h.carry fun g _ hg => Below.heap_alloc w o g hg

set_option maxRecDepth 100000 in
theorem run_append_row8 (B : Nat) (ty : TypeId) (w : World) (v : Value) (bs : List UInt8) (h : Row8 B w v bs) (hB : B ≤ w.heap.size) (hl : bs.length ≤ 1048576) (ad : Addr) (x : UInt8) (hx : w.cell? ad = some (.int .u8 x.toNat)) (hsp : ad.spot = none) :
    ∃ v' w', (Builtin.append_ #[61, 61] ty #[v, .slice (some ad) 1 1]).run Try.prog w = .ok v' w' ∧ Row8 B w' v' (bs ++ [x]) ∧ Below B w w' := by
  obtain ⟨i0, hi, hz0, hz1, hz2⟩ := info_parts Try.info5
  obtain ⟨g, cap, rfl, hBg, h1, h2, h3, h4⟩ := h
  have hs : Src Try.prog i0.size 61 (.slice (some ad) 1 1) 1 [.int .u8 x.toNat] w := by
    rw [hz1]
    refine Src.ofSlice w Try.underlying61 ad 1 1 _ rfl ?_ ?_
    · intro j u hu
      match j, hu with
      | 0, hu =>
        simp at hu
        subst hu
        have : ad.add 0 = ad := by obtain ⟨b, o, s⟩ := ad; subst hsp; simp [Addr.add]
        rw [this]
        exact hx
    · intro u hu; simp at hu; subst hu; rfl
  by_cases hroom : bs.length + 1 ≤ cap
  · have hr := run_append_room_src (P := Try.prog) w 61 61 ty 5 i0 Try.underlying61 hi g 0 bs.length cap _ 1 _ hs hroom
      (fun j hj => by simp at hj; subst hj; simp [hz1]; exact (h4 _ (by omega)).1) (fun j hj => by simp at hj; subst hj; simp [hz1]; exact (h4 _ (by omega)).2)
    have e : w.setCells g (0 + bs.length * i0.size) [.int .u8 x.toNat] = w.setCell ⟨g, bs.length, none⟩ (.int .u8 x.toNat) := by
      rw [hz1]; simp [World.setCells]
    rw [e] at hr
    obtain ⟨old, hold⟩ := Option.isSome_iff_exists.1 (h4 bs.length (by omega)).1
    refine ⟨_, _, hr, ⟨g, cap, by simp, hBg, by simpa using hroom, h2, ?_, ?_⟩, (Below.refl _ _).setCell hBg _⟩
    · intro j u hu
      rw [cells8_app] at hu
      by_cases hj : j = bs.length
      · subst hj
        rw [List.getElem?_append_right (by rw [cells8_len]; omega), cells8_len, Nat.sub_self] at hu
        rw [World.cell?_setCell_same _ _ _ hold]
        exact hu
      · have hlt : j < bs.length := by
          have := (List.getElem?_eq_some_iff.1 hu).1
          simp [cells8] at this
          omega
        rw [List.getElem?_append_left (by rw [cells8_len]; exact hlt)] at hu
        rw [World.cell?_setCell_other _ _ _ _ (fun hh => hj (by injection hh with _ h2 _; exact h2.symm))]
        exact h3 j u hu
    · intro j hj
      rw [World.frozen?_setCell]
      refine ⟨?_, (h4 j hj).2⟩
      by_cases hjj : j = bs.length
      · subst hjj
        rw [World.cell?_setCell_same _ _ _ hold]
        rfl
      · rw [World.cell?_setCell_other _ _ _ _ (fun hh => hjj (by injection hh with _ h2 _; exact h2.symm))]
        exact (h4 j hj).1
  · have hold := run_firstCells_some (P := Try.prog) w.drew i0.size bs.length ⟨g, 0, none⟩ bs.length cap (cells8 bs) (by rw [hz1, cells8_len]; omega) (fun j u hu => by
      have hadd : (⟨g, 0, none⟩ : Addr).add j = ⟨g, j, none⟩ := by unfold Addr.add; split <;> simp_all
      rw [hadd]
      exact h3 j u hu)
    have hr := run_append_grow_src (P := Try.prog) w 61 61 ty 5 i0 (.int .u8 0) Try.underlying61 hi hz0 (some ⟨g, 0, none⟩) bs.length cap (cells8 bs) hold _ 1 _ hs (by omega) (by omega) (by
      have := nextslicecap_le (need := bs.length + 1) (old := cap) (by omega)
      rw [hz2]; omega)
    have hge := grownCap_ge w (bs.length + 1) cap 5
    have hle := grownCap_le_maxLen w (bs.length + 1) cap 5 (by unfold maxLen; omega)
    have hN : ∀ cs : Array Value, (w.drew.alloc (.cells cs 5)).heap[w.heap.size]? = some (.cells cs 5 (0, 0)) := fun cs => heap_alloc_new w.drew _
    refine ⟨_, _, hr, ⟨w.heap.size, grownCap w (bs.length + 1) cap 5, by simp, hB, by simpa using hge, hle, ?_, ?_⟩, ((Below.refl B w).drew).alloc hB _⟩
    · intro j u hu
      rw [cells8_app] at hu
      rw [cell_of_row _ w.heap.size j _ _ _ (hN _)]
      have hlt := (List.getElem?_eq_some_iff.1 hu).1
      rw [Array.getElem?_append_left (by simpa [cells8] using hlt)]
      simpa [cells8] using hu
    · intro j hj
      refine ⟨?_, frozen_of_row _ w.heap.size j _ _ (hN _)⟩
      rw [cell_of_row _ w.heap.size j _ _ _ (hN _)]
      have hsz : ((cells8 bs ++ [Value.int .u8 x.toNat]).toArray ++ Builtin.zeroCells (Value.int .u8 0).cells (grownCap w (bs.length + 1) cap 5 - (bs.length + 1))).size = grownCap w (bs.length + 1) cap 5 := by
        rw [Array.size_append, size_zeroCells]
        simp [cells8_len, Value.cells]
        omega
      rw [Array.getElem?_eq_getElem (by rw [hsz]; exact hj)]
      rfl

theorem wpList_append_row8 {w : World} {ops : Array Oper} {rest : List Oper} {o : Oper} {a : Act} {Q : Exit → Act → World → Prop} (hgd : o.guard = none) (sl x : Operand)
    (ho : o.op = .call { callee := .builtin .append, args := #[sl, x], argTypes := #[61, 61] }) (B : Nat) (v : Value) (bs : List UInt8) (hs : a.eval sl = v) (h : Row8 B w v bs) (hB : B ≤ w.heap.size) (hl : bs.length ≤ 1048576)
    (ad : Addr) (hx : a.eval x = .slice (some ad) 1 1) (y : UInt8) (hy : w.cell? ad = some (.int .u8 y.toNat)) (hsp : ad.spot = none)
    (hK : ∀ v' w', Row8 B w' v' (bs ++ [y]) → Below B w w' → wpList Try.prog ops Q rest (a.put o.dst v') w') : wpList Try.prog ops Q (o :: rest) a w := by
  refine wpList_plain hgd fun K hK' => ?_
  obtain ⟨v', w', hr, h2, h3⟩ := run_append_row8 B o.type w v bs h hB hl ad y hy hsp
  unfold Oper.wp execOp
  simp only [ho, resolve, invoke, builtin, Sem.run_bind, Sem.run_pure, Result.andThen_ok, List.map_toArray, List.map_cons, List.map_nil, hs, hx, hr]
  exact hK' _ _ (hK v' w' h2 h3)

theorem row8_back {B : Nat} {w : World} {v : Value} {bs : List UInt8} (h : Row8 B w v bs) : Sem.run Try.prog (convert 61 9 v) w = .ok (.string ⟨bs.toArray⟩) w := by
  obtain ⟨g, cap, rfl, _, _, _, h3, _⟩ := h
  refine run_convert_bytes_back (P := Try.prog) w 61 9 5 ⟨g, 0, none⟩ cap bs Try.underlying61 Try.underlying5 Try.underlying9 ?_
  intro j hj
  have hadd : (⟨g, 0, none⟩ : Addr).add j = ⟨g, j, none⟩ := by unfold Addr.add; split <;> simp_all
  rw [hadd]
  exact h3 j _ (by simp [cells8, List.getElem?_eq_getElem hj])
theorem Row8.set {B : Nat} {w : World} {g cap : Nat} {bs : List UInt8} (h : Row8 B w (.slice (some ⟨g, 0, none⟩) bs.length cap) bs) (k : Nat) (hk : k < bs.length) (x : UInt8) : Row8 B (w.setCell ⟨g, k, none⟩ (.int .u8 x.toNat)) (.slice (some ⟨g, 0, none⟩) bs.length cap) (bs.set k x) := by
  obtain ⟨g', cap', hv, hB, h1, h2, h3, h4⟩ := h
  simp only [Value.slice.injEq, Option.some.injEq, Addr.mk.injEq, and_true, true_and] at hv
  obtain ⟨rfl, rfl⟩ := hv
  obtain ⟨old, hold⟩ := Option.isSome_iff_exists.1 (h4 k (by omega)).1
  refine ⟨g, cap, by simp, hB, by simpa using h1, h2, ?_, ?_⟩
  · intro j u hu
    have hlt : j < bs.length := by
      have := (List.getElem?_eq_some_iff.1 hu).1
      simpa [cells8] using this
    by_cases hj : j = k
    · subst hj
      rw [World.cell?_setCell_same _ _ _ hold]
      simpa [cells8, hlt] using hu
    · rw [World.cell?_setCell_other _ _ _ _ (fun hh => hj (by injection hh with _ h2 _; exact h2.symm))]
      refine h3 j u ?_
      have hne : k ≠ j := fun hh => hj hh.symm
      simpa [cells8, List.getElem?_set, hne] using hu
  · intro j hj
    rw [World.frozen?_setCell]
    refine ⟨?_, (h4 j hj).2⟩
    by_cases hjj : j = k
    · subst hjj
      rw [World.cell?_setCell_same _ _ _ hold]
      rfl
    · rw [World.cell?_setCell_other _ _ _ _ (fun hh => hjj (by injection hh with _ h2 _; exact h2.symm))]
      exact (h4 j hj).1
end Go.Proofs.Ytmbdclbddbbdpaa
