import Derived.Test.YtblmodlpopnckaaRa4
import Derived.Test.YtblmodlpopnckaaBo1
import Derived.Test.YtblmodlpopnckaaPt3
namespace Go.Proofs.Ytblmodlpopnckaa
open Go.ChangeShapes Go.WideShapes Go.ChangeAt Go.RowKit

/-- The mark stands at the place. -/
def fmk (m : ByteArray) (a : Nat) : Bool := (m.extract a (a + 4)).toList == [70, 73, 82, 77]
theorem gw2_any (t : ByteArray) (k : Nat) (w : World) : Calls Try.prog 42 #[.string t, .int .i64 k] w fun e w' => e = .returned (.agg #[.bool (hwd t k), .int .i64 (gwV t k)]) ∧ Below w.heap.size w w' := by
  cases h : hwd t k
  · refine (implGetWord_no t k w h).mono ?_
    rintro e w' ⟨rfl, hb⟩
    refine ⟨?_, hb⟩
    rw [gwV, h]
    rfl
  · have h2 := h
    unfold hwd at h2
    have h3 := of_decide_eq_true h2
    refine (implGetWord_yes t k w h (by omega) h3.1).mono ?_
    rintro e w' ⟨rfl, hb⟩
    refine ⟨?_, hb⟩
    rw [gwV, h]
    rfl
set_option maxRecDepth 100000 in
set_option maxHeartbeats 2000000 in
theorem litePre (s : ByteArray) (h : 4 ≤ s.size) (w : World) : Calls Try.prog 54 #[.string s, .string ⟨#[70, 73, 82, 77]⟩] w fun e w' => e = .returned (.bool ((s.extract 0 4).toList == [70, 73, 82, 77])) ∧ w' = w := by
  have hsl : ∀ w, Sem.run Try.prog (Instr.slice 9 (.string s) none (some (.int .i64 4)) none) w = .ok (.string (s.extract 0 4)) w := fun w => by
    rw [run_slice_string_to_if _ _ _ _ _ Try.underlying9, if_pos (by omega)]
    rfl
  have hz : (4 : Int) ≤ (s.size : Int) := by omega
  have hd : decide ((4 : Int) ≤ (s.size : Int)) = true := decide_eq_true hz
  have hc : (({ data := #[70, 73, 82, 77] } : ByteArray).size : Int) = 4 := rfl
  go_enter Try.func54, Try.ntmps54
  go_wp2
  go_ret
  exact ⟨rfl, rfl⟩
set_option maxRecDepth 100000 in
set_option maxHeartbeats 2000000 in
theorem hasPre (s : ByteArray) (h : 4 ≤ s.size) (w : World) : Calls Try.prog 43 #[.string s, .string ⟨#[70, 73, 82, 77]⟩] w fun e w' => e = .returned (.bool ((s.extract 0 4).toList == [70, 73, 82, 77])) ∧ w' = w := by
  have hp := litePre s h
  go_enter Try.func43, Try.ntmps43
  go_wp2_with (go_at_call 54; refine Calls.mono (hp _) ?_; rintro e u1 ⟨rfl, rfl⟩)
  go_ret
  exact ⟨rfl, rfl⟩
theorem ex_ex (m : ByteArray) (a k : Nat) (h : a + k ≤ m.size) : (m.extract a m.size).extract 0 k = m.extract a (a + k) := by
  apply ByteArray.ext
  simp [ByteArray.data_extract, Array.extract_extract]
  congr 1
  have : m.data.size = m.size := rfl
  omega
theorem infoW : (Try.prog.info? 2).map (fun i => (i.zero, i.size, i.bytes)) = some (some (.int .i64 0), 1, 8) := by kernel_rfl
/-- One word more. -/
theorem app1W {w : World} {B n : Nat} {v : Value} {xs : List Value} (H0 : w.ownsRow B 2 1 v n xs) (x : Int) (hn : n ≤ 1048576) (hB : B ≤ w.heap.size) :
    ∃ v' u', (Builtin.append_ #[44, 44] 44 #[v, .slice (some ⟨w.heap.size, 0, none⟩) 1 1]).run Try.prog (w.alloc (.cells #[.int .i64 x] 2)) = .ok v' u' ∧ (u'.ownsRow B 2 1 v' (n + 1) (xs ++ [.int .i64 x]) ∧ (w.alloc (.cells #[.int .i64 x] 2)).grownBy u' v.ownBlock) := by
  obtain ⟨i0, hi0, hz0, hz1, hz2⟩ := info_parts infoW
  obtain ⟨v', w', hr, h2, h3, _, _⟩ := run_append_own_at (P := Try.prog) (w.alloc (.cells #[.int .i64 x] 2)) B 44 44 2 i0 (.int .i64 0) 1 8 Try.underlying44 hi0 hz0 hz1 hz2 rfl (by decide) v n xs (World.ownsRow.alloc H0 _) ⟨w.heap.size, 0, none⟩ 1 1 [.int .i64 x] rfl (by
    intro j u hj
    match j, hj with
    | 0, hj =>
      simp at hj
      subst hj
      simp [Addr.add_lit]) (by intro u hu; simp at hu; subst hu; rfl) (by unfold maxLen; omega) (by omega) (by simp; omega)
  exact ⟨v', w', hr, h2, h3⟩
theorem w_slI {w : World} {B n : Nat} {v : Value} {xs : List Value} (h : w.ownsRow B 2 1 v n xs) : ∃ ao cap, v = .slice ao n cap := by
  rcases h.2 with ⟨rfl, e⟩ | ⟨g, cap, cur, rfl, _⟩
  · exact ⟨none, 0, by rw [e]⟩
  · exact ⟨_, cap, rfl⟩
theorem Irow.ofW {w : World} {B : Nat} {v : Value} {zs : List Int} (h : w.ownsRow B 2 1 v zs.length (iR zs)) : Irow w v zs := by
  rcases h.2 with ⟨rfl, e⟩ | ⟨g, cap, cur, rfl, hB, hg, hc, rest⟩
  · exact .inl ⟨List.length_eq_zero_iff.1 e, _, _, by rfl⟩
  · have h2 : w.ownsRow B 2 1 (.slice (some ⟨g, 0, none⟩) zs.length cap) zs.length (iR zs) := h
    refine .inr ⟨g, 0, cap, rfl, hc, (Array.getElem?_eq_some_iff.1 hg).1, fun k hk => ?_⟩
    have a0 := h2.cellAt k (by omega)
    simp only [Nat.zero_add]
    rw [a0]
    simp [iR, List.getElem?_eq_getElem hk]
theorem iR_sn (xs : List Int) (x : Int) : iR (xs ++ [x]) = iR xs ++ [.int .i64 x] := by simp [iR]
/-- The words behind the first two of a row, without the last one. -/
theorem cutMid {w : World} {ao : Option Addr} {cap n : Nat} {zs : List Int} (h : Irow w (.slice ao (n + 3) cap) zs) (hl : zs.length = n + 3) : ∃ a1 c1, (∀ u, Sem.run Try.prog (Instr.slice 44 (.slice ao (n + 3) cap) (some (.int .i64 2)) (some (.int .i64 ((n : Int) + 2))) none) u = .ok (.slice a1 n c1) u) ∧ Irow w (.slice a1 n c1) ((zs.drop 2).take n) := by
  rcases h with ⟨rfl, _⟩ | ⟨g, o, c, hv, hc, hg, ha⟩
  · simp at hl
  · injection hv with e1 e2 e3
    subst e1 e3
    have hne : ¬ cap = 2 := by omega
    refine ⟨some ⟨g, o + 2, none⟩, cap - 2, fun u => ?_, ?_⟩
    · rw [run_slice_lh (P := Try.prog) u 44 _ (n + 3) cap Try.underlying44 .i64 .i64 2 ((n : Int) + 2) (by omega) (by omega) (by omega)]
      have hz : (sizeOf (Try.prog.elem 44)).run Try.prog u = .ok 1 u := by kernel_rfl
      rw [hz]
      have e5 : ((n : Int) + 2).toNat = n + 2 := by omega
      have e6 : ((2 : Int)).toNat = 2 := rfl
      simp only [Result.andThen, sliced, e5, e6, if_neg hne]
      simp [Addr.add_lit]
    · refine .inr ⟨g, o + 2, cap - 2, ?_, ?_, hg, fun k hk => ?_⟩
      · congr 1
        simp
        omega
      · simp
        omega
      · simp at hk
        have := ha (2 + k) (by omega)
        rw [show o + 2 + k = o + (2 + k) by omega, this]
        simp
end Go.Proofs.Ytblmodlpopnckaa
