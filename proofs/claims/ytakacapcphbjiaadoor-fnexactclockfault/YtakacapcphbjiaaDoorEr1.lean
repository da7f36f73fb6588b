import Derived.Test.YtakacapcphbjiaaDoorOwnB
import Derived.LaidEql
import Derived.Stop.Asserts
import Derived.RowKitTokens
namespace Go.Proofs.YtakacapcphbjiaaDoor
open Go.ChangeShapes Go.WideShapes Go.ChangeAt Go.RowKit Go.Extern.Stop Go.Stop Go.Extern

/-- An error of errors.New's make; one of type refusal. -/
def eV (a : Addr) : Value := .iface 132 (.pointer (some a))
def rV (pb : Nat) : Value := .iface 77 (.pointer (some ⟨pb, 0, none⟩))
theorem eTypeOf (v : Value) (w : World) : (Extern.ReflectliteType.typeOf #[.iface 132 v]).run Tryd.prog w = .ok (.iface 117 (.agg #[.pointer (some ⟨5, 132, none⟩)])) w := by kernel_rfl
noncomputable def eCmp : Array Value → Sem Value := (find Tryd.f97).getD Extern.ReflectliteType.typeOf
theorem eComparable (w : World) : (eCmp #[.agg #[.pointer (some ⟨5, 132, none⟩)]]).run Tryd.prog w = .ok (.bool true) w := by kernel_rfl
theorem eMethod (v : Value) (w : World) : (Go.method 270 117 v "Comparable").run Tryd.prog w = .ok (97, v) w := by kernel_rfl
theorem eComp : (Tryd.prog.info? 132).map (·.comparable) = some true := by kernel_rfl
theorem eSize : (Tryd.prog.info? 158).map (·.size) = some 1 := by kernel_rfl
theorem eNoIs (v : Value) (xT : TypeId) (w : World) : (Instr.typeAssert (.iface 132 v) xT 119 true).run Tryd.prog w = .ok (.tuple #[.nilIface, .bool false]) w := run_typeAssert_lacksB Tryd.underlying119 (by kernel_rfl) (by kernel_rfl) v xT w
theorem eNoUn (v : Value) (xT : TypeId) (w : World) : (Instr.typeAssert (.iface 132 v) xT 122 true).run Tryd.prog w = .ok (.tuple #[.nilIface, .bool false]) w := run_typeAssert_lacksB Tryd.underlying122 (by kernel_rfl) (by kernel_rfl) v xT w
theorem eNoUns (v : Value) (xT : TypeId) (w : World) : (Instr.typeAssert (.iface 132 v) xT 123 true).run Tryd.prog w = .ok (.tuple #[.nilIface, .bool false]) w := run_typeAssert_lacksB Tryd.underlying123 (by kernel_rfl) (by kernel_rfl) v xT w
theorem rNoIs (v : Value) (xT : TypeId) (w : World) : (Instr.typeAssert (.iface 77 v) xT 119 true).run Tryd.prog w = .ok (.tuple #[.nilIface, .bool false]) w := run_typeAssert_lacksB Tryd.underlying119 (by kernel_rfl) (by kernel_rfl) v xT w
theorem rUn (v : Value) (xT : TypeId) (w : World) : (Instr.typeAssert (.iface 77 v) xT 122 true).run Tryd.prog w = .ok (.tuple #[.iface 77 v, .bool true]) w := run_typeAssert_hasB Tryd.underlying122 (by kernel_rfl) v xT w
theorem rMethod (v : Value) (w : World) : (Go.method 270 77 v "Unwrap").run Tryd.prog w = .ok (92, v) w := by kernel_rfl
theorem isNil_any (b : Addr) (w : World) : Calls Tryd.prog 43 #[.nilIface, eV b] w fun e w' => e = .returned (.bool false) ∧ w' = w := by
  have hn := run_eql_iface_nil_left (P := Tryd.prog) w 132 (.pointer (some b)) Tryd.underlying61
  unfold eV
  go_enter Tryd.func43, Tryd.ntmps43
  go_wp2
  go_ret
  exact ⟨rfl, rfl⟩
theorem isSame_any (a : Addr) (w : World) : Calls Tryd.prog 43 #[eV a, eV a] w fun e w' => e = .returned (.bool true) ∧ w' = w := by
  obtain ⟨i, hi, hcmp⟩ := Option.map_eq_some_iff.1 eComp
  obtain ⟨j, hj, hjs⟩ := Option.map_eq_some_iff.1 eSize
  have h8 := @run_callFunc_extern Tryd.prog 58 _ Extern.ReflectliteType.typeOf Tryd.func58 (by kernel_rfl) (by kernel_rfl) (by kernel_rfl) (by kernel_rfl)
  have h32 := @run_callFunc_extern Tryd.prog 97 _ eCmp Tryd.func97 (by kernel_rfl) (by kernel_rfl) (by kernel_rfl) (by kernel_rfl)
  have tT := eTypeOf
  have cT := eComparable
  have mR := eMethod
  have heq := run_eql_iface_ptr_same (P := Tryd.prog) w a Tryd.underlying61 Tryd.underlying132 hi hcmp hj
  unfold eV
  go_enter Tryd.func43, Tryd.ntmps43
  go_wp2
  refine wp_loop_rounds 1 ?_
  rw [rounds_succ]
  go_wp2
  go_ret
  exact ⟨rfl, rfl⟩
theorem isWrap_same (pb : Nat) (b : Addr) (w : World) (h1 : w.cell? ⟨pb, 1, none⟩ = some (.iface 132 (.pointer (some b)))) : Calls Tryd.prog 43 #[rV pb, eV b] w fun e w' => e = .returned (.bool true) ∧ w' = w := by
  obtain ⟨i, hi, hcmp⟩ := Option.map_eq_some_iff.1 eComp
  obtain ⟨j, hj, hjs⟩ := Option.map_eq_some_iff.1 eSize
  have h8 := @run_callFunc_extern Tryd.prog 58 _ Extern.ReflectliteType.typeOf Tryd.func58 (by kernel_rfl) (by kernel_rfl) (by kernel_rfl) (by kernel_rfl)
  have h32 := @run_callFunc_extern Tryd.prog 97 _ eCmp Tryd.func97 (by kernel_rfl) (by kernel_rfl) (by kernel_rfl) (by kernel_rfl)
  have tT := eTypeOf
  have cT := eComparable
  have mR := eMethod
  have nE := eNoIs
  have uE := eNoUn
  have vE := eNoUns
  have nW := rNoIs
  have uW := rUn
  have mU := rMethod
  have heq := run_eql_iface_ptr_same (P := Tryd.prog) w b Tryd.underlying61 Tryd.underlying132 hi hcmp hj
  have hty := run_eql_iface_types (P := Tryd.prog) 77 132 (.pointer (some ⟨pb, 0, none⟩)) (.pointer (some b)) Tryd.underlying61 (by decide) w
  unfold eV rV
  go_enter Tryd.func43, Tryd.ntmps43
  go_wp2
  refine wp_loop_rounds 2 ?_
  rw [rounds_succ]
  go_wp2
  rw [rounds_succ]
  go_wp2
  go_ret
  exact ⟨rfl, rfl⟩
end Go.Proofs.YtakacapcphbjiaaDoor
