import Derived.Test.YtegcbghhcidcaaaDoorOwnB
import Derived.LaidEql
import Derived.Stop.Asserts
import Derived.RowKitTokens
namespace Go.Proofs.YtegcbghhcidcaaaDoor
open Go.ChangeShapes Go.WideShapes Go.ChangeAt Go.RowKit Go.Extern.Stop Go.Stop Go.Extern

/-- An error of errors.New's make; one of type refusal. -/
def eV (a : Addr) : Value := .iface 100 (.pointer (some a))
def rV (pb : Nat) : Value := .iface 52 (.pointer (some ⟨pb, 0, none⟩))
theorem eTypeOf (v : Value) (w : World) : (Extern.ReflectliteType.typeOf #[.iface 100 v]).run Tryd.prog w = .ok (.iface 85 (.agg #[.pointer (some ⟨5, 100, none⟩)])) w := by kernel_rfl
noncomputable def eCmp : Array Value → Sem Value := (find Tryd.f66).getD Extern.ReflectliteType.typeOf
theorem eComparable (w : World) : (eCmp #[.agg #[.pointer (some ⟨5, 100, none⟩)]]).run Tryd.prog w = .ok (.bool true) w := by kernel_rfl
theorem eMethod (v : Value) (w : World) : (Go.method 238 85 v "Comparable").run Tryd.prog w = .ok (66, v) w := by kernel_rfl
theorem eComp : (Tryd.prog.info? 100).map (·.comparable) = some true := by kernel_rfl
theorem eSize : (Tryd.prog.info? 126).map (·.size) = some 1 := by kernel_rfl
theorem eNoIs (v : Value) (xT : TypeId) (w : World) : (Instr.typeAssert (.iface 100 v) xT 87 true).run Tryd.prog w = .ok (.tuple #[.nilIface, .bool false]) w := run_typeAssert_lacksB Tryd.underlying87 (by kernel_rfl) (by kernel_rfl) v xT w
theorem eNoUn (v : Value) (xT : TypeId) (w : World) : (Instr.typeAssert (.iface 100 v) xT 90 true).run Tryd.prog w = .ok (.tuple #[.nilIface, .bool false]) w := run_typeAssert_lacksB Tryd.underlying90 (by kernel_rfl) (by kernel_rfl) v xT w
theorem eNoUns (v : Value) (xT : TypeId) (w : World) : (Instr.typeAssert (.iface 100 v) xT 91 true).run Tryd.prog w = .ok (.tuple #[.nilIface, .bool false]) w := run_typeAssert_lacksB Tryd.underlying91 (by kernel_rfl) (by kernel_rfl) v xT w
theorem rNoIs (v : Value) (xT : TypeId) (w : World) : (Instr.typeAssert (.iface 52 v) xT 87 true).run Tryd.prog w = .ok (.tuple #[.nilIface, .bool false]) w := run_typeAssert_lacksB Tryd.underlying87 (by kernel_rfl) (by kernel_rfl) v xT w
theorem rUn (v : Value) (xT : TypeId) (w : World) : (Instr.typeAssert (.iface 52 v) xT 90 true).run Tryd.prog w = .ok (.tuple #[.iface 52 v, .bool true]) w := run_typeAssert_hasB Tryd.underlying90 (by kernel_rfl) v xT w
theorem rMethod (v : Value) (w : World) : (Go.method 238 52 v "Unwrap").run Tryd.prog w = .ok (62, v) w := by kernel_rfl
theorem isNil_any (b : Addr) (w : World) : Calls Tryd.prog 25 #[.nilIface, eV b] w fun e w' => e = .returned (.bool false) ∧ w' = w := by
  have hn := run_eql_iface_nil_left (P := Tryd.prog) w 100 (.pointer (some b)) Tryd.underlying45
  unfold eV
  go_enter Tryd.func25, Tryd.ntmps25
  go_wp2
  go_ret
  exact ⟨rfl, rfl⟩
end Go.Proofs.YtegcbghhcidcaaaDoor
