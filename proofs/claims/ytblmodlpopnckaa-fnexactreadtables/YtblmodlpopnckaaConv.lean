import Derived.Test.YtblmodlpopnckaaJoined
import Derived.Lib.ConvBytes
import Derived.Laws.IdiomStrings
namespace Go.Proofs.Ytblmodlpopnckaa
open Go.ChangeShapes Go.WideShapes Go.ChangeAt Go.RowKit

theorem bt_list (S : ByteArray) (j : Nat) (hj : j < S.size) : ((S.data.toList.getD j 0).toNat : Int) = bt S j := by
  rw [← bt_eq S j hj]
  have : j < S.data.toList.length := by simpa using hj
  simp [List.getD, List.getElem?_eq_getElem this]
  rfl

theorem bw_conv (u : World) (S : ByteArray) : Sem.run Try.prog (convert 9 71 (.string S)) u = .ok (.slice (some ⟨u.heap.size, 0, none⟩) S.size (grownCap u S.size 0 5)) (Lib.bytesWorld u 5 S) :=
  Lib.run_convert_string_bytes u 9 71 5 S Try.underlying9 Try.underlying71 Try.underlying5

theorem bw_cell (u : World) (S : ByteArray) (j : Nat) (hj : j < S.size) : (Lib.bytesWorld u 5 S).cell? ⟨u.heap.size, j, none⟩ = some (.int .u8 (bt S j)) := by
  rw [Lib.bytesWorld_cell u 5 S j hj, bt_list S j hj]

theorem bw_size (u : World) (S : ByteArray) : S.size ≤ (Lib.bytesCells u 5 S).size := by
  simp [Lib.bytesCells]

theorem bw_frozen (u : World) (S : ByteArray) (j : Nat) (hj : j < S.size) : (Lib.bytesWorld u 5 S).frozen? ⟨u.heap.size, j, none⟩ = false := by
  have h := bw_size u S
  simp [World.frozen?, Lib.bytesWorld_at_new]
  omega

theorem bw_below (u : World) (S : ByteArray) : Below u.heap.size u (Lib.bytesWorld u 5 S) :=
  ⟨rfl, rfl, rfl, by rw [Lib.bytesWorld_size]; omega, fun k hk => Lib.bytesWorld_at_old u 5 S k hk⟩

theorem bw_back (u : World) (S : ByteArray) (k cap : Nat) (v : UInt8) (hk : k < S.size) :
    Sem.run Try.prog (convert 71 9 (.slice (some ⟨u.heap.size, 0, none⟩) S.size cap)) ((Lib.bytesWorld u 5 S).setCell ⟨u.heap.size, k, none⟩ (.int .u8 v.toNat)) =
      .ok (.string ⟨(S.data.toList.set k v).toArray⟩) ((Lib.bytesWorld u 5 S).setCell ⟨u.heap.size, k, none⟩ (.int .u8 v.toNat)) := by
  have hl : (S.data.toList.set k v).length = S.size := by simp
  have h := run_convert_bytes_back (P := Try.prog) ((Lib.bytesWorld u 5 S).setCell ⟨u.heap.size, k, none⟩ (.int .u8 v.toNat)) 71 9 5 ⟨u.heap.size, 0, none⟩ cap (S.data.toList.set k v) Try.underlying71 Try.underlying5 Try.underlying9 ?_
  · rw [hl] at h; exact h
  · intro j hj
    have hadd : (⟨u.heap.size, 0, none⟩ : Addr).add j = ⟨u.heap.size, j, none⟩ := by unfold Addr.add; split <;> simp_all
    rw [hadd]
    by_cases e : j = k
    · subst e
      have h0 := bw_cell u S j hk
      rw [List.getElem_set_self]
      exact World.cell?_setCell_same _ _ _ h0
    · have hj' : j < S.size := by rw [← hl]; exact hj
      rw [World.cell?_setCell_other _ _ _ _ (fun hh => e (by injection hh with _ h2 _; exact h2.symm)), bw_cell u S j hj', List.getElem_set_ne (by omega), ← bt_list S j hj']
      have : j < S.data.toList.length := by simpa using hj'
      simp [List.getD, List.getElem?_eq_getElem this]
end Go.Proofs.Ytblmodlpopnckaa
