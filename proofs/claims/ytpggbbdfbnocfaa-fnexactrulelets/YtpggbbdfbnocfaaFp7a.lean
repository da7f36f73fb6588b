import Derived.Test.YtpggbbdfbnocfaaFp2
import Derived.Test.YtpggbbdfbnocfaaHl
import Derived.BigRegion
namespace Go.Proofs.Ytpggbbdfbnocfaa
open Go.ChangeShapes Go.WideShapes Go.ChangeAt Go.RowKit

/-- One way of a connection. -/
structure FL where
  pr : Int
  a : Int
  ap : Int
  b : Int
  bp : Int
def foC (f : FL) : Array Value := #[.int .i64 f.pr, .int .i64 f.a, .int .i64 f.ap, .int .i64 f.b, .int .i64 f.bp]
def foA (f : FL) : Value := .agg (foC f)
def cfl (c : CN) (f : Bool) : FL := if f = true then ⟨c.proto, c.a, c.ap, c.b, c.bp⟩ else ⟨c.proto, c.b, c.bp, c.a, c.ap⟩
set_option maxRecDepth 100000 in
set_option maxHeartbeats 4000000 in
theorem flow_any (c : CN) (f : Bool) (w : World) : Calls Try.prog 90 #[cnA c, .bool f] w fun e w' => e = .returned (foA (cfl c f)) ∧ Below w.heap.size w w' := by
  unfold cnA
  cases f
  · go_enter Try.func90, Try.ntmps90
    go_upto_region 1 with fail
    go_region
    all_goals go_wp2
    all_goals refine bodyPost_ret (v := foA (cfl c false)) (by simp [results, Try.results90, go_sem, foA, foC, cfl]) rfl ⟨rfl, ?_⟩
    all_goals exact bdn (((((Below.refl _ _).alloc (Nat.le_refl _) _).alloc (by simp) _).alloc (by simp; omega) _).alloc (by simp; omega) _) 1
  · go_enter Try.func90, Try.ntmps90
    go_upto_region 1 with fail
    go_region
    all_goals go_wp2
    all_goals refine bodyPost_ret (v := foA (cfl c true)) (by simp [results, Try.results90, go_sem, foA, foC, cfl]) rfl ⟨rfl, ?_⟩
    all_goals exact bdn (((((Below.refl _ _).alloc (Nat.le_refl _) _).alloc (by simp) _).alloc (by simp; omega) _).alloc (by simp; omega) _) 1
end Go.Proofs.Ytpggbbdfbnocfaa
