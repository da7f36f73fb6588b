import Derived.Test.YtniaohflkopncaaSk1
import Derived.Test.YtniaohflkopncaaIdxS
namespace Go.Proofs.Ytniaohflkopncaa
open Go.ChangeShapes Go.WideShapes Go.ChangeAt Go.RowKit

def ovB (s : ByteArray) : Bool := decide (4096 < (s.size : Int))
theorem over1_any (s : ByteArray) (w : World) : Calls Try.prog 61 #[.string s] w fun e w' => e = .returned (.bool (ovB s)) ∧ Below w.heap.size w w' := by
  go_enter Try.func61, Try.ntmps61
  go_wp2
  go_ret
  exact ⟨rfl, Below.refl _ _⟩
theorem overSeal_any {w : World} {v : Value} {ps : List ByteArray} (h : Srow w v ps) (hl : ps.length ≤ 1048576) : Calls Try.prog 24 #[v] w fun e w' => e = .returned (.bool (ps.any ovB)) ∧ Below w.heap.size w w' := by
  have H : Hid _ := containsByteArray_any h hl 61 #[] ovB (fun xs w' => by kernel_rfl) (fun x w' _ => over1_any x w')
  obtain ⟨ao, cap, rfl⟩ := h.sl
  go_enter Try.func24, Try.ntmps24
  go_wp2_with (go_at_call 60; refine Calls.mono H.out ?_; rintro r u5 ⟨rfl, hu5⟩)
  go_ret
  exact ⟨rfl, hu5⟩
theorem srow1 (u : World) (a : ByteArray) : Srow (u.alloc (.cells #[.string a] 9)) (.slice (some ⟨u.heap.size, 0, none⟩) 1 1) [a] := by
  refine .inr ⟨u.heap.size, 0, 1, rfl, Nat.le_refl _, by simp, fun k hk => ?_⟩
  match k, hk with
  | 0, _ => simp
theorem srow2 (u : World) (a b : ByteArray) : Srow (u.alloc (.cells #[.string a, .string b] 9)) (.slice (some ⟨u.heap.size, 0, none⟩) 2 2) [a, b] := by
  refine .inr ⟨u.heap.size, 0, 2, rfl, Nat.le_refl _, by simp, fun k hk => ?_⟩
  match k, hk with
  | 0, _ => simp
  | 1, _ => simp
theorem over_one (a : ByteArray) (u : World) : Calls Try.prog 24 #[.slice (some ⟨u.heap.size, 0, none⟩) 1 1] (u.alloc (.cells #[.string a] 9)) fun e w' => e = .returned (.bool (ovB a)) ∧ Below u.heap.size u w' := by
  refine (overSeal_any (srow1 u a) (by simp)).mono ?_
  rintro e w' ⟨rfl, hb⟩
  exact ⟨ret_bool (by simp), ((Below.refl u.heap.size u).alloc (Nat.le_refl _) _).trans (hb.mono (by simp))⟩
theorem over_two (a b : ByteArray) (u : World) : Calls Try.prog 24 #[.slice (some ⟨u.heap.size, 0, none⟩) 2 2] (u.alloc (.cells #[.string a, .string b] 9)) fun e w' => e = .returned (.bool (ovB a || ovB b)) ∧ Below u.heap.size u w' := by
  refine (overSeal_any (srow2 u a b) (by simp)).mono ?_
  rintro e w' ⟨rfl, hb⟩
  exact ⟨ret_bool (by simp), ((Below.refl u.heap.size u).alloc (Nat.le_refl _) _).trans (hb.mono (by simp))⟩
theorem with_one {u : World} {v : Value} {s : ByteArray} (h : KY u v s) (p : ByteArray) (hsz : s.size + p.size ≤ 1048576) :
    Calls Try.prog 133 #[v, .slice (some ⟨u.heap.size, 0, none⟩) 1 1] (u.alloc (.cells #[.string p] 9)) fun e w' => ∃ r, e = .returned r ∧ KY w' r (s ++ p) ∧ Below u.heap.size u w' := by
  refine (with_any u.heap.size 1 1 [p] _ v s (h.below ((Below.refl u.heap.size u).alloc (Nat.le_refl _) _)) rfl (by simp) ?_ (by omega) ?_).mono ?_
  · intro i hi
    match i, hi with
    | 0, _ => simp
  · rw [apB_size]
    simp
    omega
  · rintro e w' ⟨r, rfl, hk, hb⟩
    exact ⟨r, rfl, hk, ((Below.refl u.heap.size u).alloc (Nat.le_refl _) _).trans (hb.mono (by simp))⟩
theorem with_two {u : World} {v : Value} {s : ByteArray} (h : KY u v s) (p q : ByteArray) (hsz : s.size + p.size + q.size ≤ 1048576) :
    Calls Try.prog 133 #[v, .slice (some ⟨u.heap.size, 0, none⟩) 2 2] (u.alloc (.cells #[.string p, .string q] 9)) fun e w' => ∃ r, e = .returned r ∧ KY w' r (s ++ p ++ q) ∧ Below u.heap.size u w' := by
  refine (with_any u.heap.size 2 2 [p, q] _ v s (h.below ((Below.refl u.heap.size u).alloc (Nat.le_refl _) _)) rfl (by simp) ?_ (by omega) ?_).mono ?_
  · intro i hi
    match i, hi with
    | 0, _ => simp
    | 1, _ => simp
  · rw [apB_size]
    simp
    omega
  · rintro e w' ⟨r, rfl, hk, hb⟩
    exact ⟨r, rfl, hk, ((Below.refl u.heap.size u).alloc (Nat.le_refl _) _).trans (hb.mono (by simp))⟩
theorem pw_size (n : Int) : (pw n).size = 4 := by
  unfold pw
  rw [strOfNums_size]
  rfl
end Go.Proofs.Ytniaohflkopncaa
