import Derived.Test.YtjaekfnlihhoeaaDoorOwnB
import Derived.LaidEql
import Derived.Stop.Asserts
import Derived.RowKitTokens
import Derived.Laws.Externs
namespace Go.Proofs.YtjaekfnlihhoeaaDoor
open Go.ChangeShapes Go.WideShapes Go.ChangeAt Go.RowKit Go.Extern.Stop Go.Stop Go.Extern

/-- A type's handle. -/
def hnd (t : Nat) : Value := .pointer (some ⟨1, t, none⟩)
def rty (t : Nat) : Value := .iface 86 (.agg #[hnd t])
/-- A stop as an error; where one is put. -/
def sV (e : Addr) : Value := .iface 41 (.pointer (some e))
def tV (b : Nat) : Value := .iface 43 (.pointer (some ⟨b, 0, none⟩))
noncomputable def xVo : Array Value → Sem Value := (find Tryd.f22).getD Extern.ReflectliteType.typeOf
noncomputable def xTy : Array Value → Sem Value := (find Tryd.f23).getD Extern.ReflectliteType.typeOf
noncomputable def xNil : Array Value → Sem Value := (find Tryd.f24).getD Extern.ReflectliteType.typeOf
noncomputable def xEl : Array Value → Sem Value := (find Tryd.f36).getD Extern.ReflectliteType.typeOf
noncomputable def xSet : Array Value → Sem Value := (find Tryd.f37).getD Extern.ReflectliteType.typeOf
noncomputable def rKind : Array Value → Sem Value := (find Tryd.f59).getD Extern.ReflectliteType.typeOf
noncomputable def rEl : Array Value → Sem Value := (find Tryd.f72).getD Extern.ReflectliteType.typeOf
noncomputable def rImp : Array Value → Sem Value := (find Tryd.f73).getD Extern.ReflectliteType.typeOf
noncomputable def rAss : Array Value → Sem Value := (find Tryd.f70).getD Extern.ReflectliteType.typeOf
theorem vo_run (b : Addr) (w : World) : (xVo #[.iface 43 (.pointer (some b))]).run Tryd.prog w = .ok (.agg #[hnd 43, .pointer (some ⟨w.heap.size, 0, none⟩), .int .u64 150]) (w.alloc (.cells #[.pointer (some b)] 43)) := by kernel_rfl
theorem vo_run2 (b : Addr) (w : World) : (xVo #[.iface 41 (.pointer (some b))]).run Tryd.prog w = .ok (.agg #[hnd 41, .pointer (some ⟨w.heap.size, 0, none⟩), .int .u64 150]) (w.alloc (.cells #[.pointer (some b)] 41)) := by kernel_rfl
theorem ty_run (q : Addr) (w : World) : (xTy #[.agg #[hnd 43, .pointer (some q), .int .u64 150]]).run Tryd.prog w = .ok (rty 43) w := by kernel_rfl
theorem kind_run (w : World) : (rKind #[hnd 43]).run Tryd.prog w = .ok (.int .u8 22) w := by kernel_rfl
theorem kind_run2 (w : World) : (rKind #[hnd 41]).run Tryd.prog w = .ok (.int .u8 22) w := by kernel_rfl
theorem el_run (w : World) : (rEl #[.agg #[hnd 43]]).run Tryd.prog w = .ok (rty 41) w := by kernel_rfl
theorem imp_run (w : World) : (rImp #[.agg #[hnd 41], rty 38]).run Tryd.prog w = .ok (.bool true) w := by kernel_rfl
theorem ass_run (w : World) : (rAss #[.agg #[hnd 41], rty 41]).run Tryd.prog w = .ok (.bool true) w := by kernel_rfl
theorem to_run (v : Value) (w : World) : (Extern.ReflectliteType.typeOf #[.iface 41 v]).run Tryd.prog w = .ok (rty 41) w := by kernel_rfl
theorem mKind (t : Nat) (w : World) : (Go.method 239 86 (.agg #[hnd t]) "Kind").run Tryd.prog w = .ok (59, hnd t) w := by kernel_rfl
theorem mElem (v : Value) (w : World) : (Go.method 239 86 v "Elem").run Tryd.prog w = .ok (72, v) w := by kernel_rfl
theorem mImp (v : Value) (w : World) : (Go.method 239 86 v "Implements").run Tryd.prog w = .ok (73, v) w := by kernel_rfl
theorem mAss (v : Value) (w : World) : (Go.method 239 86 v "AssignableTo").run Tryd.prog w = .ok (70, v) w := by kernel_rfl
end Go.Proofs.YtjaekfnlihhoeaaDoor
