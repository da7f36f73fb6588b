import Derived.Test.YtfagohdmepnkkaaFlg
import Derived.Test.YtfagohdmepnkkaaSwS
import Derived.Test.YtfagohdmepnkkaaMemF
namespace Go.Proofs.Ytfagohdmepnkkaa
open Go.ChangeShapes Go.WideShapes Go.ChangeAt Go.RowKit

theorem wv_b (s : ByteArray) (k : Nat) : 0 ≤ wv s k ∧ wv s k ≤ 4294967295 := by
  have h0 := bt_b s k
  have h1 := bt_b s (k + 1)
  have h2 := bt_b s (k + 2)
  have h3 := bt_b s (k + 3)
  unfold wv
  omega
/-- Whether an entry's flags let an access. -/
def mayV (e acc : Int) (user : Bool) : Bool :=
  decide ((if acc = 2 then e / 4 % 2 else if acc = 3 then e / 8 % 2 else e / 2 % 2) = 1) && (if user then decide (e / 16 % 2 = 1) else (decide (acc ≠ 3) || decide (e / 16 % 2 = 0)))
/-- What a walk answers. -/
structure WV where
  fault : Int
  pa : Int
  entry : Int
  large : Bool
  reads : List Int
  mem : ByteArray
/-- The entry with the flags that an access puts. -/
def putA (e acc : Int) : Int := if acc = 2 then bits .or .i64 (bits .or .i64 e 32) 64 else bits .or .i64 e 32
/-- The page that an entry leads to. -/
def pgV (e va : Int) (large : Bool) : Int := if large then e / 256 + va / 256 % 32 else e / 256
/-- The entry that counts leads to a page for this access. -/
def goodV (e acc : Int) (user large : Bool) : Bool := decide (e % 2 = 1) && (!large || decide (e / 256 % 32 = 0)) && mayV e acc user
def finV (s : ByteArray) (reads : List Int) (k : Nat) (large : Bool) (va acc : Int) (user : Bool) : WV :=
  if goodV (wv s k) acc user large then
    if (pgV (wv s k) va large + 1) * 256 ≤ (s.size : Int) then ⟨0, pgV (wv s k) va large * 256 + va % 256, putA (wv s k) acc, large, reads, setv s k (putA (wv s k) acc)⟩
    else ⟨2, 0, 0, false, reads, s⟩
  else ⟨1, 0, 0, false, reads, s⟩
def at1 (root va : Int) : Nat := (root * 256 + 4 * (va / 8192)).toNat
def at2 (e va : Int) : Nat := (e / 256 * 256 + 4 * (va / 256 % 32)).toNat
def walkV (s : ByteArray) (root va acc : Int) (user : Bool) : WV :=
  if (root + 1) * 256 ≤ (s.size : Int) then
    if wv s (at1 root va) % 16 = 1 then
      if (wv s (at1 root va) / 256 + 1) * 256 ≤ (s.size : Int) then finV s [root, wv s (at1 root va) / 256] (at2 (wv s (at1 root va)) va) false va acc user
      else ⟨2, 0, 0, false, [root], s⟩
    else finV s [root] (at1 root va) true va acc user
  else ⟨2, 0, 0, false, [], s⟩
/-- What it may be asked. -/
def askOk (s : ByteArray) (root va acc : Int) : Bool := memOk s && decide (0 ≤ root ∧ root ≤ 255 ∧ 0 ≤ va ∧ va < 262144 ∧ 1 ≤ acc ∧ acc ≤ 3)
end Go.Proofs.Ytfagohdmepnkkaa
