import Derived.Test.YtkicaihfknfgkaaDoorBytesC
import Derived.OwnWalk
import Derived.Laws.OwnMore
import Derived.Deep.AppendLies
namespace Go.Proofs.YtkicaihfknfgkaaDoor
open Go.ChangeShapes Go.WideShapes Go.ChangeAt Go.RowKit

theorem Tryd.info9 : (Tryd.prog.info? 9).map (fun i => (i.zero, i.size, i.bytes)) = some (some (.string ⟨#[]⟩), 1, 16) := by kernel_rfl

def spl (s : ByteArray) (c : Int) : Nat → Nat × List ByteArray
  | 0 => (0, [])
  | k + 1 => if bt s k = c then (k + 1, (spl s c k).2 ++ [s.extract (spl s c k).1 k]) else spl s c k
theorem spl_le (s : ByteArray) (c : Int) : ∀ k, (spl s c k).1 ≤ k ∧ (spl s c k).2.length ≤ k
  | 0 => by simp [spl]
  | k + 1 => by
    have := spl_le s c k
    simp only [spl]
    split
    · simp; omega
    · omega
def splitB (s : ByteArray) (c : Int) : List ByteArray := (spl s c s.size).2 ++ [s.extract (spl s c s.size).1 s.size]
def strs (l : List ByteArray) : List Value := l.map Value.string
theorem strs_app (a b : List ByteArray) : strs (a ++ b) = strs a ++ strs b := by simp [strs]
theorem own_cast' {w : World} {base : Nat} {e : TypeId} {v : Value} {n m : Nat} {xs ys : List Value} (h : w.ownsRow base e 1 v n xs) (h1 : n = m) (h2 : xs = ys) : w.ownsRow base e 1 v m ys := by
  subst h1; subst h2; exact h

theorem sl_mid (s : ByteArray) (f k : Nat) (h1 : f ≤ k) (h2 : k ≤ s.size) (w : World) : Sem.run Tryd.prog (Instr.slice 9 (.string s) (some (.int .i64 (f : Int))) (some (.int .i64 (k : Int))) none) w = .ok (.string (s.extract f k)) w := by
  rw [run_slice_string _ _ _ _ _ _ _ Tryd.underlying9 (by omega) (by omega) (by omega)]
  rfl
theorem sl_end (s : ByteArray) (f : Nat) (h1 : f ≤ s.size) (w : World) : Sem.run Tryd.prog (Instr.slice 9 (.string s) (some (.int .i64 (f : Int))) none none) w = .ok (.string (s.extract f s.size)) w := by
  rw [run_slice_string_from_if _ _ _ _ _ Tryd.underlying9, if_pos (by omega)]
  rfl

set_option maxHeartbeats 1000000 in
theorem l01Split_any (s : ByteArray) (c : Int) (w : World) (hs : s.size ≤ 1048576) :
    Calls Tryd.prog 11 #[.string s, .int .u8 c] w fun e w' => ∃ v, e = .returned v ∧ w'.ownsRow w.heap.size 9 1 v (splitB s c).length (strs (splitB s c)) ∧ Below w.heap.size w w' := by
  obtain ⟨i0, hi, hz0, hz1, hz2⟩ := info_parts Tryd.info9
  go_enter Tryd.func11, Tryd.ntmps11
  go_wp2
  go_loopw [5, 6, 7] (fun v f i wr => ∃ k : Nat, k ≤ s.size ∧ i = .int .i64 k ∧ f = .int .i64 ((spl s c k).1 : Int) ∧ wr.ownsRow w.heap.size 9 1 v (spl s c k).2.length (strs (spl s c k).2) ∧ Below w.heap.size w wr) (fun _ _ i _ => s.size - (intOf i).toNat)
  case atStart => exact ⟨0, Nat.zero_le _, rfl, rfl, World.ownsRow_lit w #[] 0 (Nat.le_refl _) (by decide) rfl, (Below.refl _ _).alloc (Nat.le_refl _) _⟩
  case round =>
    obtain ⟨k, hk, rfl, rfl, hown, hbl⟩ := hrel
    obtain ⟨b0, b1⟩ := spl_le s c k
    by_cases hlt : k < s.size
    · have ix := fun w => idx_str s k hlt w k rfl
      have hsl := sl_mid s (spl s c k).1 k b0 (by omega)
      have HS : Hid (spl s c (k + 1) = if bt s k = c then (k + 1, (spl s c k).2 ++ [s.extract (spl s c k).1 k]) else spl s c k) := (show spl s c (k + 1) = if bt s k = c then (k + 1, (spl s c k).2 ++ [s.extract (spl s c k).1 k]) else spl s c k from rfl)
      generalize spl s c k = p at *
      cases hbv : (bt s k == c)
      · have hne : ¬ bt s k = c := by simpa using hbv
        have HN : Hid (spl s c (k + 1) = p) := HS.out.trans (if_neg hne)
        clear HS hsl hne
        go_wp2
        go_roundw
        case rel => exact ⟨k + 1, by omega, by go_num, by rw [HN.out], by rw [HN.out]; exact hown, hbl⟩
        case measure => simp [intOf]; omega
      · have HN : Hid (spl s c (k + 1) = (k + 1, p.2 ++ [s.extract p.1 k])) := HS.out.trans (if_pos (by simpa using hbv))
        clear HS
        go_wp2_with (at_builtin; refine wpList_append_own _ rfl _ _ 31 rfl w.heap.size 9 i0 (.string ⟨#[]⟩) 1 16 Tryd.underlying31 hi hz0 hz1 hz2 rfl (by decide) _ _ _ rfl (hown.alloc _) ⟨wr.heap.size, 0, none⟩ 1 1 [.string (s.extract p.1 k)] rfl rfl ?c1 ?c2 ?c3 ?c4 ?c5 ?_)
        case c1 => exact World.news_of_block (cs := #[.string (s.extract p.1 k)]) (heap_alloc_new wr _)
        case c2 => intro u hu; simp at hu; subst hu; rfl
        case c3 => unfold maxLen; omega
        case c4 => omega
        case c5 => have := hbl.size; simp; omega
        intro v' w2 hown2 hgrow _
        go_wp2
        go_roundw
        case rel => exact ⟨k + 1, by omega, by go_num, by rw [HN.out]; go_num, by rw [HN.out]; exact own_cast' hown2 (by simp) (by rw [strs_app]; rfl), Below.grown (hbl.alloc hbl.size _) hgrow (by have := hbl.size; simp; omega) (fun j hj => (hown.lt j hj).1)⟩
        case measure => simp [intOf]; omega
    · obtain rfl : k = s.size := by omega
      have hsl := sl_end s (spl s c s.size).1 b0
      have HP : Hid (splitB s c = (spl s c s.size).2 ++ [s.extract (spl s c s.size).1 s.size]) := (show splitB s c = _ from rfl)
      generalize spl s c s.size = p at *
      go_wp2_with (at_builtin; refine wpList_append_own _ rfl _ _ 31 rfl w.heap.size 9 i0 (.string ⟨#[]⟩) 1 16 Tryd.underlying31 hi hz0 hz1 hz2 rfl (by decide) _ _ _ rfl (hown.alloc _) ⟨wr.heap.size, 0, none⟩ 1 1 [.string (s.extract p.1 s.size)] rfl rfl ?c1 ?c2 ?c3 ?c4 ?c5 ?_)
      case c1 => exact World.news_of_block (cs := #[.string (s.extract p.1 s.size)]) (heap_alloc_new wr _)
      case c2 => intro u hu; simp at hu; subst hu; rfl
      case c3 => unfold maxLen; omega
      case c4 => omega
      case c5 => have := hbl.size; simp; omega
      intro v' w2 hown2 hgrow _
      go_wp2
      go_ret
      exact ⟨_, rfl, by rw [HP.out]; exact own_cast' hown2 (by simp) (by rw [strs_app]; rfl), Below.grown (hbl.alloc hbl.size _) hgrow (by have := hbl.size; simp; omega) (fun j hj => (hown.lt j hj).1)⟩
end Go.Proofs.YtkicaihfknfgkaaDoor
