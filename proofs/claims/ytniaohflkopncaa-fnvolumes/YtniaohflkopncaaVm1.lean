import Derived.Test.YtniaohflkopncaaCt1
import Derived.Test.YtniaohflkopncaaRowKS3
import Derived.Test.YtniaohflkopncaaLG
import Derived.Test.YtniaohflkopncaaHl
import Derived.Laws.OwnMore
namespace Go.Proofs.Ytniaohflkopncaa
open Go.ChangeShapes Go.WideShapes Go.ChangeAt Go.RowKit

/-- The marks of slot i, from k on. -/
def mkZ (k i : Nat) : KS := ⟨((k + 3 * i : Nat) : Int), mtx ((k + 3 * i + 1 : Nat) : Int), mtx ((k + 3 * i + 2 : Nat) : Int)⟩
def mkK (k n : Nat) : List KS := (List.range n).map (mkZ k)
theorem mkK_len (k n : Nat) : (mkK k n).length = n := by simp [mkK]
/-- The first i are marked. -/
def mkJ (k i : Nat) (zs : List KS) : List KS := mkK k i ++ zs.drop i
theorem mkJ_len (k i : Nat) (zs : List KS) (h : i ≤ zs.length) : (mkJ k i zs).length = zs.length := by
  simp [mkJ, mkK_len]
  omega
theorem mkJ_step (k i : Nat) (zs : List KS) (h : i < zs.length) : (mkJ k i zs).set i (mkZ k i) = mkJ k (i + 1) zs := by
  unfold mkJ
  rw [List.set_append_right _ _ (by rw [mkK_len]; omega), mkK_len, Nat.sub_self, List.drop_eq_getElem_cons h, List.set_cons_zero]
  have : mkK k (i + 1) = mkK k i ++ [mkZ k i] := by simp [mkK, List.range_succ]
  rw [this, List.append_assoc]
  rfl
theorem mkJ_all (k : Nat) (zs : List KS) : mkJ k zs.length zs = mkK k zs.length := by simp [mkJ]
theorem gset15 {u w : World} {b : Nat} (h : u.grownBy w (some b)) (i : Nat) (v : Value) : u.grownBy (w.setCell ⟨b, i, none⟩ v) (some b) := ⟨h.os, h.tape, h.output, by simpa [World.setCell] using h.size, fun k hk hn => (Below.heap_setCell _ _ _ _ (fun e => hn (congrArg some e))).trans (h.block k hk hn)⟩
theorem gbel15 {u w w' : World} {b : Nat} (h : u.grownBy w (some b)) (hb : Below w.heap.size w w') : u.grownBy w' (some b) := ⟨hb.os.trans h.os, hb.tape.trans h.tape, hb.output.trans h.output, Nat.le_trans h.size hb.size, fun k hk hn => (hb.block k (Nat.lt_of_lt_of_le hk h.size)).trans (h.block k hk hn)⟩
theorem st_own {w : World} {B g cap n : Nat} {xs : List Value} (h : w.ownsRow B 70 3 (.slice (some ⟨g, 0, none⟩) n cap) n xs) (j : Nat) (u : Value) : (w.setCell ⟨g, j, none⟩ u).ownsRow B 70 3 (.slice (some ⟨g, 0, none⟩) n cap) n (xs.set j u) := (h.stored j u).1
end Go.Proofs.Ytniaohflkopncaa
