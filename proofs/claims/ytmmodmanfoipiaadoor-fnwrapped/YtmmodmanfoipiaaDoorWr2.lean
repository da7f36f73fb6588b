import Derived.Test.YtmmodmanfoipiaaDoorWr1
import Derived.Test.YtmmodmanfoipiaaDoorLG
import Derived.Test.YtmmodmanfoipiaaDoorHl
import Derived.BigRegion
namespace Go.Proofs.YtmmodmanfoipiaaDoor
open Go.ChangeShapes Go.WideShapes Go.ChangeAt Go.RowKit

/-- What stands ahead of a wrapped frame's text, as it lies in its box. -/
structure WH where
  key : Int
  hfrom : Int
  hto : Int
  src : Int
  dst : Int
  net : Int
  text : ByteArray
  len : Int
def whC (h : WH) : Array Value := #[.int .i64 0, .int .i64 h.key, .int .i64 h.hfrom, .int .i64 h.hto, .int .i64 h.src, .int .i64 h.dst, .int .i64 h.net, .string h.text, .int .i64 h.len]
def nmC (b : Nat) : Array Value := #[.pointer (some ⟨b, 1, none⟩), .int .i64 3, .pointer (some ⟨b, 2, none⟩), .int .i64 4, .pointer (some ⟨b, 3, none⟩), .int .i64 4, .pointer (some ⟨b, 4, none⟩), .int .i64 6, .pointer (some ⟨b, 5, none⟩), .int .i64 6, .pointer (some ⟨b, 6, none⟩), .int .i64 2, .pointer (some ⟨b, 8, none⟩), .int .i64 2]
set_option maxRecDepth 100000 in
set_option maxHeartbeats 4000000 in
theorem numbers_any (b : Nat) (w : World) : Calls Tryd.prog 35 #[.pointer (some ⟨b, 0, none⟩)] w fun e w' => ∃ g, e = .returned (.slice (some ⟨g, 0, none⟩) 7 7) ∧ LG w w' g (nmC b) 72 := by
  go_enter Tryd.func35, Tryd.ntmps35
  go_upto_region 1 with fail
  go_region
  all_goals go_wp2
  all_goals go_ret
  all_goals exact ⟨_, rfl, bdn (bx1 _ _) 1, heap_new _ _, Nat.le_refl _⟩
end Go.Proofs.YtmmodmanfoipiaaDoor
