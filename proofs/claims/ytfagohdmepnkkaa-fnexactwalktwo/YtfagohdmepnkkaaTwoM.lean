import Derived.Test.YtfagohdmepnkkaaSTwo2
import Derived.Test.YtfagohdmepnkkaaGTwo11
namespace Go.Proofs.Ytfagohdmepnkkaa
open Go.ChangeShapes Go.WideShapes Go.ChangeAt Go.RowKit

/-- A walk with a fault leaves memory as it was. -/
theorem walkV_same (s : ByteArray) (root va : Nat) (acc : Int) (user : Bool) (h : ¬ (walkV s root va acc user).fault = 0) : (walkV s root va acc user).mem = s := by
  revert h
  rw [walk_fe]
  split
  · unfold finV
    split
    · split
      · intro h
        exact absurd rfl h
      · intro _
        rfl
    · intro _
      rfl
  · intro _
    rfl
/-- The access that the host is asked for at last. -/
def lacc (acc : Int) : Int := if acc = 3 then 1 else acc
/-- The last lookup. -/
def lastT (s : ByteArray) (host ga : Nat) (acc steps : Int) : TV :=
  if (walkV s host ga (lacc acc) false).fault = 0 then ⟨0, ga, (walkV s host ga (lacc acc) false).pa, steps + (walkV s host ga (lacc acc) false).reads.length, (walkV s host ga (lacc acc) false).mem⟩
  else ⟨3, ga, 0, steps + (walkV s host ga (lacc acc) false).reads.length, s⟩
/-- Behind the guest's entry that counts, as the specification goes on. -/
def tailT (s : ByteArray) (host k : Nat) (e : Int) (lg : Bool) (va : Nat) (acc : Int) (user : Bool) (steps : Int) : TV :=
  if goodV e acc user lg = true then
    if pgV e va lg < 1024 then
      if putA e acc = e then lastT s host (pgV e va lg * 256 + (va : Int) % 256).toNat acc steps
      else if (walkV s host k 2 false).fault = 0 then lastT (setv (walkV s host k 2 false).mem (walkV s host k 2 false).pa.toNat (putA e acc)) host (pgV e va lg * 256 + (va : Int) % 256).toNat acc (steps + (walkV s host k 2 false).reads.length)
      else ⟨3, k, 0, steps + (walkV s host k 2 false).reads.length, s⟩
    else ⟨2, 0, 0, steps, s⟩
  else ⟨1, 0, 0, steps, s⟩
/-- Behind the guest's walk, as the program goes on. -/
def twoF (d : FD) (host : Nat) (acc : Int) : TV :=
  if d.code = 0 then lastT d.mem host d.pa.toNat acc (d.steps + d.zs.length)
  else ⟨d.code, if d.code = 3 then d.place else 0, 0, d.steps + d.zs.length, d.mem⟩
def twoV (s : ByteArray) (host root va : Nat) (acc : Int) (user : Bool) : TV := twoF (finG (feG s host root va 0) host va acc user) host acc
theorem twoF_0 (pa : Int) (zs : List Int) (mem : ByteArray) (st pl : Int) (host : Nat) (acc : Int) : twoF ⟨0, pa, zs, mem, st, pl⟩ host acc = lastT mem host pa.toNat acc (st + zs.length) := if_pos rfl
theorem twoF_1 (pa : Int) (zs : List Int) (mem : ByteArray) (st pl : Int) (host : Nat) (acc : Int) : twoF ⟨1, pa, zs, mem, st, pl⟩ host acc = ⟨1, 0, 0, st + zs.length, mem⟩ := if_neg (show ¬ (1 : Int) = 0 by decide)
theorem twoF_2 (pa : Int) (zs : List Int) (mem : ByteArray) (st pl : Int) (host : Nat) (acc : Int) : twoF ⟨2, pa, zs, mem, st, pl⟩ host acc = ⟨2, 0, 0, st + zs.length, mem⟩ := if_neg (show ¬ (2 : Int) = 0 by decide)
theorem twoF_3 (pa : Int) (zs : List Int) (mem : ByteArray) (st pl : Int) (host : Nat) (acc : Int) : twoF ⟨3, pa, zs, mem, st, pl⟩ host acc = ⟨3, pl, 0, st + zs.length, mem⟩ := if_neg (show ¬ (3 : Int) = 0 by decide)
theorem twoF_tail (f : FG) (host va : Nat) (acc : Int) (user : Bool) (h : f.code = 0) : twoF (finG f host va acc user) host acc = tailT f.mem host f.k f.e f.lg va acc user (f.steps + f.zs.length) := by
  have e1 : ∀ r : WV, f.steps + (r.reads.length : Int) + (f.zs.length : Int) = f.steps + (f.zs.length : Int) + (r.reads.length : Int) := fun r => by omega
  unfold finG tailT
  rw [if_pos h]
  by_cases hg : goodV f.e acc user f.lg = true
  · rw [if_pos hg, if_pos hg]
    by_cases hp : pgV f.e va f.lg < 1024
    · rw [if_pos hp, if_pos hp]
      by_cases hs : putA f.e acc = f.e
      · rw [if_pos hs, if_pos hs, twoF_0]
      · rw [if_neg hs, if_neg hs]
        by_cases hf : (walkV f.mem host f.k 2 false).fault = 0
        · rw [if_pos hf, if_pos hf, twoF_0, e1]
        · rw [if_neg hf, if_neg hf, twoF_3, e1, walkV_same _ _ _ _ _ hf]
    · rw [if_neg hp, if_neg hp, twoF_2]
  · rw [if_neg hg, if_neg hg, twoF_1]
end Go.Proofs.Ytfagohdmepnkkaa
