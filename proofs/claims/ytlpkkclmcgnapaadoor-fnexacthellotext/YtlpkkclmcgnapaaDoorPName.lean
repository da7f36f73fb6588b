import Derived.Test.YtlpkkclmcgnapaaDoorName
namespace Go.Proofs.YtlpkkclmcgnapaaDoor
open Go.ChangeShapes Go.WideShapes Go.ChangeAt Go.RowKit

/-- The program's table of names, cell by cell. -/
def Names (w : World) : Prop := ∀ k : Nat, k < 55 → w.cell? ⟨0, k, none⟩ = some (.string (nm k))
theorem Names.below {B : Nat} {w w' : World} (h : Names w) (hb : Below B w w') (hB : 0 < B) : Names w' := fun k hk => by
  rw [hb.cell (p := ⟨0, k, none⟩) hB]
  exact h k hk
theorem Names.alloc {w : World} (h : Names w) (o : Obj) (hB : 0 < w.heap.size) : Names (w.alloc o) :=
  h.below ((Below.refl w.heap.size w).alloc (Nat.le_refl _) o) hB

set_option maxHeartbeats 1000000 in
theorem opName_any (op : Int) (w : World) (hn : Names w) (h0 : -9223372036854775808 ≤ op) (h1 : op ≤ 9223372036854775807) :
    Calls Tryd.prog 13 #[.int .i64 op] w fun e w' => e = .returned (.string (nm op)) ∧ w' = w := by
  by_cases hlo : op < 0
  · rw [nm_out op (.inl (by omega))]
    go_enter Tryd.func13, Tryd.ntmps13
    go_wp2
    go_ret
    exact ⟨rfl, rfl⟩
  by_cases hhi : 55 ≤ op
  · rw [nm_out op (.inr (by omega))]
    go_enter Tryd.func13, Tryd.ntmps13
    go_wp2
    go_ret
    exact ⟨rfl, rfl⟩
  obtain ⟨k, rfl⟩ : ∃ k : Nat, op = k := ⟨op.toNat, by omega⟩
  have hc := hn k (by omega)
  have HN : Hid (Names w) := hn
  clear hn
  generalize nm (k : Int) = s at hc ⊢
  go_enter Tryd.func13, Tryd.ntmps13
  go_wp2
  go_ret
  exact ⟨rfl, rfl⟩
end Go.Proofs.YtlpkkclmcgnapaaDoor
