import Derived.Test.YtmmodmanfoipiaaDoorBytesC
import Derived.Laws.BytesArg
import Derived.Lib.AppendStr
import Derived.Laws.OwnMore
namespace Go.Proofs.YtmmodmanfoipiaaDoor
open Go.ChangeShapes Go.WideShapes Go.ChangeAt Go.RowKit

theorem Tryd.info5 : (Tryd.prog.info? 5).map (fun i => (i.zero, i.size, i.bytes)) = some (some (.int .u8 0), 1, 1) := by kernel_rfl

def cells8 (bs : List UInt8) : List Value := bs.map fun b => Value.int .u8 b.toNat
theorem nums8 (bs : List UInt8) : strOfNums (bs.map fun b => (b.toNat : Int)) = ⟨bs.toArray⟩ := by
  unfold strOfNums
  rw [List.map_map]
  have : ((fun n : Int => UInt8.ofNat n.toNat) ∘ fun b : UInt8 => (b.toNat : Int)) = id := by
    funext b; simp
  rw [this, List.map_id]

theorem conv_own (w : World) (base : Nat) (v : Value) (n : Nat) (bs : List UInt8) (h : w.ownsRow base 5 1 v n (cells8 bs)) :
    Sem.run Tryd.prog (convert 22 9 v) w = .ok (.string ⟨bs.toArray⟩) w := by
  obtain ⟨hl, h | ⟨g, cap, cur, rfl, hb, hg, hn, hc, hcs, ht⟩⟩ := h
  · obtain ⟨rfl, rfl⟩ := h
    have : bs = [] := by simpa [cells8] using hl
    subst this
    rw [run_convert_bytes_nil w 22 5 Tryd.underlying22 Tryd.underlying5 0 0 9 Tryd.underlying9]
    rfl
  · have hlen : bs.length = n := by simpa [cells8] using hl
    have hown : w.ownsRow base 5 1 (.slice (some ⟨g, 0, none⟩) n cap) n (cells8 bs) := ⟨hl, .inr ⟨g, cap, cur, rfl, hb, hg, hn, hc, hcs, ht⟩⟩
    rw [run_convert_bytes_arg w 22 5 Tryd.underlying22 Tryd.underlying5 g 0 n cap (bs.map fun b => (b.toNat : Int)) (by simpa using hlen) ?_ 9 Tryd.underlying9, nums8]
    intro i hi
    rw [Nat.zero_add, hown.cellAt i (by omega)]
    simp [cells8, List.getElem?_eq_getElem (show i < bs.length by omega)]

theorem cells8_app (a b : List UInt8) : cells8 (a ++ b) = cells8 a ++ cells8 b := by simp [cells8]
theorem own_cast {w : World} {base : Nat} {e : TypeId} {v : Value} {n m : Nat} {xs ys : List Value} (h : w.ownsRow base e 1 v n xs) (h1 : n = m) (h2 : xs = ys) : w.ownsRow base e 1 v m ys := by
  subst h1; subst h2; exact h
end Go.Proofs.YtmmodmanfoipiaaDoor
