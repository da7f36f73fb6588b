import Derived.Test.YtmogemcbbcmeoabOwnB
import Derived.Test.YtmogemcbbcmeoabJoined
import Derived.Deep.RegionHeld3
namespace Go.Proofs.Ytmogemcbbcmeoab
open Go.ChangeShapes Go.WideShapes Go.ChangeAt Go.RowKit

def zl (n : Nat) : List Int := List.replicate n 0
/-- A new machine, or none. -/
def macA (md : Int) (mem : ByteArray) (vr vc vv : Value) : Value := .agg #[.int .i64 0, vr, .int .i64 md, vc, vv, .string mem, .int .i64 0, .int .i64 0, .int .i64 0, .slice none 0 0, .slice none 0 0, .int .i64 0]
/-- Its three rows, each in a block of its own. -/
structure R3 (u : World) (lo : Nat) (vr vc vv : Value) (rs cs vs : List Int) : Prop where
  o1 : u.ownsRow lo 2 1 vr rs.length (rs.map (Value.int .i64))
  o2 : u.ownsRow lo 2 1 vc cs.length (cs.map (Value.int .i64))
  o3 : u.ownsRow lo 2 1 vv vs.length (vs.map (Value.int .i64))
  d12 : ∀ k, vr.ownBlock = some k → vc.ownBlock ≠ some k
  d13 : ∀ k, vr.ownBlock = some k → vv.ownBlock ≠ some k
  d23 : ∀ k, vc.ownBlock = some k → vv.ownBlock ≠ some k
theorem R3.nil (u : World) (lo : Nat) : R3 u lo (.slice none 0 0) (.slice none 0 0) (.slice none 0 0) [] [] [] :=
  ⟨World.ownsRow_nil _ _ _ _, World.ownsRow_nil _ _ _ _, World.ownsRow_nil _ _ _ _, fun _ h => by simp [Value.ownBlock] at h, fun _ h => by simp [Value.ownBlock] at h, fun _ h => by simp [Value.ownBlock] at h⟩
/-- A block of n zeros. -/
def zc (n : Nat) : Obj := .cells (Array.replicate n (.int .i64 0)) 2 (0, 0)
theorem own_z {u : World} {b lo n : Nat} (h : u.heap[b]? = some (zc n)) (hb : lo ≤ b) (hn : n ≤ 100) : u.ownsRow lo 2 1 (.slice (some ⟨b, 0, none⟩) n n) (zl n).length ((zl n).map (Value.int .i64)) := by
  have hl : (zl n).length = n := by simp [zl]
  rw [hl]
  refine ⟨by simp [zl], .inr ⟨b, n, Array.replicate n (.int .i64 0), rfl, hb, h, Nat.le_refl _, by unfold maxLen; omega, by simp, by simp [zl]⟩⟩
theorem R3.zero {u : World} {lo b1 b2 b3 : Nat} (h1 : u.heap[b1]? = some (zc 16)) (h2 : u.heap[b2]? = some (zc 12)) (h3 : u.heap[b3]? = some (zc 16)) (l1 : lo ≤ b1) (l2 : lo ≤ b2) (l3 : lo ≤ b3) (n12 : b1 ≠ b2) (n13 : b1 ≠ b3) (n23 : b2 ≠ b3) :
    R3 u lo (.slice (some ⟨b1, 0, none⟩) 16 16) (.slice (some ⟨b2, 0, none⟩) 12 12) (.slice (some ⟨b3, 0, none⟩) 16 16) (zl 16) (zl 12) (zl 16) :=
  ⟨own_z h1 l1 (by decide), own_z h2 l2 (by decide), own_z h3 l3 (by decide), fun k h e => by simp [Value.ownBlock] at h e; omega, fun k h e => by simp [Value.ownBlock] at h e; omega, fun k h e => by simp [Value.ownBlock] at h e; omega⟩
set_option maxRecDepth 100000 in
theorem mk16 (w : World) : (Instr.makeSlice 45 (.int .i64 16) (.int .i64 16)).run Try.prog w = .ok (.slice (some ⟨w.heap.size, 0, none⟩) 16 16) (w.alloc (zc 16)) := by kernel_rfl
set_option maxRecDepth 100000 in
theorem mk12 (w : World) : (Instr.makeSlice 45 (.int .i64 12) (.int .i64 12)).run Try.prog w = .ok (.slice (some ⟨w.heap.size, 0, none⟩) 12 12) (w.alloc (zc 12)) := by kernel_rfl
/-- What NewMachine answers. -/
def AnsN (f : Nat) (s : ByteArray) (md : Int) (mem : ByteArray) (rs cs vs : List Int) : Prop := ∀ w : World, Calls Try.prog f #[.string s] w fun e w' => ∃ vr vc vv, e = .returned (macA md mem vr vc vv) ∧ R3 w' w.heap.size vr vc vv rs cs vs ∧ Below w.heap.size w w'
set_option maxRecDepth 100000 in
set_option maxHeartbeats 4000000 in
theorem specNew_no (s : ByteArray) (hs : s.size ≤ 1099511627776) (h : memOk s = false) : AnsN 22 s 0 ⟨#[]⟩ [] [] [] := by
  intro w
  have hc : Hid _ := memC_no h
  have HS : Hid _ := hs
  clear h hs
  go_enter Try.func22, Try.ntmps22
  go_wp2_with (go_at_call 55; refine (specMemFault_any _ _ HS.out).mono ?_; rintro e u1 ⟨rfl, hu1⟩; rw [hu1, hc.out]; clear hu1)
  exact bodyPost_ret (v := macA 0 ⟨#[]⟩ (.slice none 0 0) (.slice none 0 0) (.slice none 0 0)) (by simp [results, Try.results22, go_sem, macA]) rfl ⟨_, _, _, rfl, R3.nil _ _, (Below.refl _ _).alloc (Nat.le_refl _) _⟩
set_option maxRecDepth 100000 in
set_option maxHeartbeats 4000000 in
theorem implNew_no (s : ByteArray) (hs : s.size ≤ 1099511627776) (h : memOk s = false) : AnsN 23 s 0 ⟨#[]⟩ [] [] [] := by
  intro w
  have hc : Hid _ := memC_no h
  have HS : Hid _ := hs
  clear h hs
  go_enter Try.func23, Try.ntmps23
  go_wp2_with (go_at_call 56; refine (implMemFault_any _ _ HS.out).mono ?_; rintro e u1 ⟨rfl, hu1⟩; rw [hu1, hc.out]; clear hu1)
  exact bodyPost_ret (v := macA 0 ⟨#[]⟩ (.slice none 0 0) (.slice none 0 0) (.slice none 0 0)) (by simp [results, Try.results23, go_sem, macA]) rfl ⟨_, _, _, rfl, R3.nil _ _, (Below.refl _ _).alloc (Nat.le_refl _) _⟩
end Go.Proofs.Ytmogemcbbcmeoab
