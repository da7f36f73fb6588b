import Derived.Test.YtfagohdmepnkkaaTFl1
namespace Go.Proofs.Ytfagohdmepnkkaa
open Go.ChangeShapes Go.WideShapes Go.ChangeAt Go.RowKit

theorem sl_toT (v : Option Addr) (n cap k : Nat) (hk : k ≤ cap) (w : World) : Sem.run Try.prog (Instr.slice 59 (.slice v n cap) none (some (.int .i64 (k : Int))) none) w = .ok (.slice v k cap) w := by
  go_simp
theorem sl_fromT (g n cap k : Nat) (hk : k < n) (hc : n ≤ cap) (w : World) : Sem.run Try.prog (Instr.slice 59 (.slice (some ⟨g, 0, none⟩) n cap) (some (.int .i64 (k : Int))) none none) w = .ok (.slice (some ⟨g, k * 5, none⟩) (n - k) (cap - k)) w := by
  have h1 : (k : Int) ≤ (n : Int) := by omega
  have h2 : ¬ cap = k := by omega
  have h3 : ¬ cap - k = 0 := by omega
  go_simp
def zC5 : Array Value := #[.int .i64 0, .int .i64 0, .int .i64 0, .int .i64 0, .bool false]
theorem zC_len (n : Nat) : (Builtin.zeroCells zC5 n).toList.length = n * 5 := by
  simp [Builtin.zeroCells, zC5]
theorem zC_one (n : Nat) : ∀ v ∈ (Builtin.zeroCells zC5 n).toList, v.oneCell' = true := by
  intro v hv
  simp only [Builtin.zeroCells, Array.toList_map, List.mem_map] at hv
  obtain ⟨i, _, rfl⟩ := hv
  have h5 : i % 5 < 5 := Nat.mod_lt _ (by omega)
  show (zC5[i % 5]!).oneCell' = true
  generalize i % 5 = j at h5
  obtain rfl | rfl | rfl | rfl | rfl : j = 0 ∨ j = 1 ∨ j = 2 ∨ j = 3 ∨ j = 4 := by omega
  all_goals rfl
set_option maxRecDepth 100000 in
theorem zeroTE (w : World) : Sem.run Try.prog (zeroValue 66) w = .ok (.agg zC5) w := by kernel_rfl
theorem run_clearT (w : World) (ty : TypeId) (g o n c : Nat) (cur : Array Value) (hb : w.heap[g]? = some (.cells cur 66 (0, 0))) (hn : 0 < n) (ho : o + n * 5 ≤ cur.size) :
    (Builtin.clear_ #[59] ty #[.slice (some ⟨g, o, none⟩) n c]).run Try.prog w = .ok (.tuple #[]) (w.setRow g (cur.toList.take o ++ (Builtin.zeroCells zC5 n).toList ++ cur.toList.drop (o + n * 5)).toArray) := by
  have hst := run_storeCells_at Try.prog g o 66 (Builtin.zeroCells zC5 n).toList 0 cur w hb (by rw [zC_len]; omega) (zC_one n)
  rw [zC_len, Nat.add_zero] at hst
  have hz := zeroTE w
  obtain ⟨m, rfl⟩ : ∃ m, n = m + 1 := ⟨n - 1, by omega⟩
  simp [Builtin.clear_, run_underlying Try.underlying59, hz, Value.cells, hst]
theorem fil_take {p : TE → Bool} {zs : List TE} {b : Nat} (hb : b < zs.length) : (zs.take (b + 1)).filter (fun x => !p x) = (zs.take b).filter (fun x => !p x) ++ (if p zs[b] = true then [] else [zs[b]]) := by
  rw [List.take_succ_eq_append_getElem hb, List.filter_append]
  congr 1
  cases h : p zs[b] <;> simp [h]
theorem drop_get {xs ys : List TE} {b : Nat} (h : xs.drop b = ys.drop b) (h1 : b < xs.length) (h2 : b < ys.length) : xs[b] = ys[b] := by
  have e1 : xs[b]? = ys[b]? := by
    have := congrArg (fun l : List TE => l[0]?) h
    simpa [List.getElem?_drop] using this
  rw [List.getElem?_eq_getElem h1, List.getElem?_eq_getElem h2] at e1
  exact Option.some.inj e1
theorem drop_succ {xs ys : List TE} {b : Nat} (h : xs.drop b = ys.drop b) : xs.drop (b + 1) = ys.drop (b + 1) := by
  rw [← List.drop_drop, ← List.drop_drop, h]
theorem take_set_app {xs : List TE} {a : Nat} {z : TE} (h : a < xs.length) : (xs.set a z).take (a + 1) = xs.take a ++ [z] := by
  rw [List.take_succ_eq_append_getElem (by simpa using h), List.getElem_set_self, List.take_set_of_le (Nat.le_refl _)]
end Go.Proofs.Ytfagohdmepnkkaa
