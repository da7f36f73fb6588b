import Derived.Test.YtaobbddecmhpnaaDk1
namespace Go.Proofs.Ytaobbddecmhpnaa
open Go.ChangeShapes Go.WideShapes Go.ChangeAt Go.RowKit

set_option maxRecDepth 100000
/-- The first clusters of a disk. -/
def dsL (ms : List IM) (c k : Nat) : List ByteArray := (List.range k).map (fun n => clP ms n (pth ms c))
theorem dsL_len (ms : List IM) (c k : Nat) : (dsL ms c k).length = k := by simp [dsL]
theorem dsL_succ (ms : List IM) (c k : Nat) : dsL ms c (k + 1) = dsL ms c k ++ [clP ms k (pth ms c)] := by simp [dsL, List.range_succ]
theorem catB_snoc (ps : List ByteArray) (p : ByteArray) : catB (ps ++ [p]) = catB ps ++ p.data.toList := by simp [catB]
theorem pth_lt {ms : List IM} : ∀ (f c : Nat), c < ms.length → ∀ x ∈ ptL ms f c, x < ms.length := by
  intro f
  induction f with
  | zero => intro c _ x hx; cases hx
  | succ f ih =>
    intro c hc x hx
    unfold ptL at hx
    rcases List.mem_cons.1 hx with rfl | hx
    · exact hc
    · split at hx
      · cases hx
      · split at hx
        · cases hx
        · rename_i k hk; exact ih k (fdN_lt hk) x hx
theorem dsL_size {ms : List IM} (h : RL ms) (c k : Nat) (hc : c < ms.length) : (catB (dsL ms c k)).length = 16 * k := by
  induction k with
  | zero => rfl
  | succ k ih =>
    rw [dsL_succ, catB_snoc, List.length_append, ih]
    have := clP_size h k (pth ms c) (pth_lt 14 c hc)
    have e : (clP ms k (pth ms c)).data.toList.length = 16 := by rw [← this]; rfl
    rw [e]
    omega
theorem tx_add (l : List UInt8) (p : ByteArray) : (⟨l.toArray⟩ : ByteArray) ++ p = ⟨(l ++ p.data.toList).toArray⟩ := by
  apply ByteArray.ext
  simp
/-- A disk. -/
def dkB (ms : List IM) (c : Nat) : ByteArray := ⟨(catB (dsL ms c (gI ms c).t.length)).toArray⟩
/-- The disk of that name, or none. -/
def dkO (ms : List IM) (n : ByteArray) : ByteArray := if chB ms then (match fdN ms n with | some k => dkB ms k | none => ⟨#[]⟩) else ⟨#[]⟩
end Go.Proofs.Ytaobbddecmhpnaa
