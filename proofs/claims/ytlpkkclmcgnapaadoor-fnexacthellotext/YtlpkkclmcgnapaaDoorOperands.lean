import Derived.Test.YtlpkkclmcgnapaaDoorFault3
import Derived.Test.YtlpkkclmcgnapaaDoorDec
import Derived.Deep.Onto
namespace Go.Proofs.YtlpkkclmcgnapaaDoor
open Go.ChangeShapes Go.WideShapes Go.ChangeAt Go.RowKit

theorem own_below {w w' : World} {B e size n : Nat} {v : Value} {xs : List Value} (h : w.ownsRow B e size v n xs) (hb : Below w.heap.size w w') : w'.ownsRow B e size v n xs :=
  h.kept (row := none) ⟨hb.os, hb.tape, hb.output, hb.size, fun k hk _ => hb.block k hk⟩ (Classical.em _)

/-- The operand that stands at j, as a text. -/
def opS (f : ByteArray) (a b c imm : Int) (j : Nat) : ByteArray :=
  if bt f j = 97 then ⟨#[114]⟩ ++ decB a else if bt f j = 98 then ⟨#[114]⟩ ++ decB b else if bt f j = 99 then ⟨#[114]⟩ ++ decB c
  else if bt f j = 118 then ⟨#[118]⟩ ++ decB (if j = 0 then a else if j = 1 then b else c) else decB imm
def opsL (f : ByteArray) (a b c imm : Int) (j : Nat) : List ByteArray := (List.range j).map (opS f a b c imm)
theorem opsL_succ (f : ByteArray) (a b c imm : Int) (j : Nat) : opsL f a b c imm (j + 1) = opsL f a b c imm j ++ [opS f a b c imm j] := by simp [opsL, List.range_succ]
theorem opsL_len (f : ByteArray) (a b c imm : Int) (j : Nat) : (opsL f a b c imm j).length = j := by simp [opsL]
theorem decB_size (n : Int) (h0 : -9223372036854775808 ≤ n) (h1 : n ≤ 9223372036854775807) : (decB n).size ≤ 30 := by
  show (decL n).toArray.size ≤ 30
  unfold decL
  split
  · have := decN_len20 (-n).toNat (by omega)
    simp; omega
  · have := decN_len20 n.toNat (by omega)
    simp; omega

/-- What the loop keeps of memory: the instruction's box at N, its three registers' row at M + 1. -/
def OpC (N M : Nat) (a b c imm : Int) (wr : World) : Prop :=
  wr.cell? ⟨N, 1, none⟩ = some (.int .i64 a) ∧ wr.cell? ⟨N, 2, none⟩ = some (.int .i64 b) ∧ wr.cell? ⟨N, 3, none⟩ = some (.int .i64 c) ∧ wr.cell? ⟨N, 4, none⟩ = some (.int .i64 imm) ∧
  wr.cell? ⟨M + 1, 0, none⟩ = some (.int .i64 a) ∧ wr.cell? ⟨M + 1, 1, none⟩ = some (.int .i64 b) ∧ wr.cell? ⟨M + 1, 2, none⟩ = some (.int .i64 c)
theorem OpC.of {N M : Nat} {a b c imm : Int} {u v : World} (h : OpC N M a b c imm u) (h2 : ∀ (x o : Nat), x = N ∨ x = M + 1 → v.cell? ⟨x, o, none⟩ = u.cell? ⟨x, o, none⟩) : OpC N M a b c imm v := by
  obtain ⟨c1, c2, c3, c4, c5, c6, c7⟩ := h
  exact ⟨(h2 _ _ (.inl rfl)).trans c1, (h2 _ _ (.inl rfl)).trans c2, (h2 _ _ (.inl rfl)).trans c3, (h2 _ _ (.inl rfl)).trans c4, (h2 _ _ (.inr rfl)).trans c5, (h2 _ _ (.inr rfl)).trans c6, (h2 _ _ (.inr rfl)).trans c7⟩
theorem opI_step {N M j g : Nat} {w wr u2 w3 : World} {v : Value} {a b c imm : Int} {xs : List Value} {o : Obj}
    (z : N < M) (hbl : Below N w wr) (hC : OpC N M a b c imm wr) (hM : M + 1 < wr.heap.size) (hne : v.ownBlock ≠ some (M + 1)) (hown : wr.ownsRow M 9 1 v j xs)
    (hw2 : Below wr.heap.size wr u2) (hgrow : (u2.alloc o).grownBy w3 v.ownBlock) (hat : v.ownBlock = some g ∨ g = u2.heap.size + 1) :
    Below N w w3 ∧ OpC N M a b c imm w3 ∧ M + 1 < w3.heap.size ∧ (Value.slice (some ⟨g, 0, none⟩) 0 0).ownBlock ≠ some (M + 1) := by
  have s2 := hw2.size
  have sN := hbl.size
  have hb2 : Below N w u2 := hbl.trans (hw2.mono (by omega))
  have hal : Below u2.heap.size u2 (u2.alloc o) := (Below.refl _ _).alloc (Nat.le_refl _) _
  have s3 : (u2.alloc o).heap.size = u2.heap.size + 1 := by simp
  have s4 := hgrow.size
  refine ⟨(hb2.alloc (by omega) o).grown hgrow (by omega) (fun k hk => by have := hown.lt k hk; omega), hC.of ?_, by omega, ?_⟩
  · intro x y hx
    have hxl : x < wr.heap.size := by omega
    have hxo : some x ≠ v.ownBlock := by
      intro h
      rcases hx with rfl | rfl
      · have := hown.lt _ h.symm; omega
      · exact hne h.symm
    exact (hgrow.cell_far ⟨x, y, none⟩ (by show x < _; omega) hxo).trans (((bcell hal).1 x y (by omega)).trans ((bcell hw2).1 x y hxl))
  · intro h
    have hg : g = M + 1 := by simpa [Value.ownBlock] using h
    rcases hat with h2 | h2
    · exact hne (by rw [h2, hg])
    · omega

end Go.Proofs.YtlpkkclmcgnapaaDoor
