import Derived.Test.YtfagohdmepnkkaaSMap6
namespace Go.Proofs.Ytfagohdmepnkkaa
open Go.ChangeShapes Go.WideShapes Go.ChangeAt Go.RowKit

set_option maxRecDepth 100000 in
set_option maxHeartbeats 4000000 in
theorem l03In_no (s : ByteArray) (x : Int) (w : World) (hs : s.size ≤ 65536) (h1 : ¬ (0 ≤ x ∧ x * 256 + 256 ≤ (s.size : Int))) :
    Calls Try.prog 52 #[.string s, .int .i64 x] w fun e w' => e = .returned (.bool false) ∧ w' = w := by
  by_cases h0 : 0 ≤ x
  · have h2 : ¬ x < (s.size : Int) / 256 := by omega
    clear h1
    go_enter Try.func52, Try.ntmps52
    go_wp2
    go_ret
    exact ⟨rfl, rfl⟩
  · clear h1
    go_enter Try.func52, Try.ntmps52
    go_wp2
    go_ret
    exact ⟨rfl, rfl⟩
/-- An answer that is a code alone. -/
def CodeA (F : Nat) (mem : ByteArray) (root : Int) (mv0 fv : Value) (c : Int) (w : World) : Prop := Calls Try.prog F #[.string mem, .int .i64 root, mv0, fv] w fun e w' => e = .returned (resA c 0 ⟨#[]⟩ (.slice none 0 0)) ∧ Below w.heap.size w w'
set_option maxRecDepth 100000 in
set_option maxHeartbeats 4000000 in
theorem specMaps_size {w : World} {ao ao2 : Option Addr} {n n2 cap cap2 : Nat} (mem : ByteArray) (root : Int) (h : 65536 < mem.size ∨ 1000 < n ∨ 1000 < n2) : CodeA 12 mem root (.slice ao n cap) (.slice ao2 n2 cap2) 2 w := by
  unfold CodeA
  have HX0 : Hid (RB w (w.alloc (.cells #[.int .i64 0, .int .i64 0, .string ⟨#[]⟩, .slice none 0 0] 31))) := heap_new _ _
  have HB0 : Hid (Below w.heap.size w (w.alloc (.cells #[.int .i64 0, .int .i64 0, .string ⟨#[]⟩, .slice none 0 0] 31))) := (Below.refl _ _).alloc (Nat.le_refl _) _
  by_cases h1 : 65536 < (mem.size : Int)
  · clear h
    go_enter Try.func12, Try.ntmps12
    go_upto_region 2 with fail
    generalize w.alloc (.cells #[.int .i64 0, .int .i64 0, .string ⟨#[]⟩, .slice none 0 0] 31) = W at *
    obtain ⟨b0, b1, b2, b3⟩ := cel4P HX0.out
    have bf : ∀ x, W.frozen? ⟨w.heap.size, x, none⟩ = false := (fun x => by simp [World.frozen?, (show W.heap[w.heap.size]? = _ from HX0.out)])
    go_wp2
    obtain ⟨r0, r1, r2, r3⟩ := cel4P (HX0.out.put 2 0 ⟨#[]⟩ (.slice none 0 0) rfl)
    exact bodyPost_ret (v := .agg #[.int .i64 2, .int .i64 0, .string ⟨#[]⟩, .slice none 0 0]) (by simp [results, Try.results12, go_sem, r0, r1, r2, r3]) rfl ⟨rfl, (((HB0.out.setCell (Nat.le_refl _) _).setCell (Nat.le_refl _) _).setCell (Nat.le_refl _) _).setCell (Nat.le_refl _) _⟩
  by_cases h2 : 1000 < (n : Int)
  · clear h
    go_enter Try.func12, Try.ntmps12
    go_upto_region 2 with fail
    generalize w.alloc (.cells #[.int .i64 0, .int .i64 0, .string ⟨#[]⟩, .slice none 0 0] 31) = W at *
    obtain ⟨b0, b1, b2, b3⟩ := cel4P HX0.out
    have bf : ∀ x, W.frozen? ⟨w.heap.size, x, none⟩ = false := (fun x => by simp [World.frozen?, (show W.heap[w.heap.size]? = _ from HX0.out)])
    go_wp2
    obtain ⟨r0, r1, r2, r3⟩ := cel4P (HX0.out.put 2 0 ⟨#[]⟩ (.slice none 0 0) rfl)
    exact bodyPost_ret (v := .agg #[.int .i64 2, .int .i64 0, .string ⟨#[]⟩, .slice none 0 0]) (by simp [results, Try.results12, go_sem, r0, r1, r2, r3]) rfl ⟨rfl, (((HB0.out.setCell (Nat.le_refl _) _).setCell (Nat.le_refl _) _).setCell (Nat.le_refl _) _).setCell (Nat.le_refl _) _⟩
  · have h3 : 1000 < (n2 : Int) := by omega
    clear h
    go_enter Try.func12, Try.ntmps12
    go_upto_region 2 with fail
    generalize w.alloc (.cells #[.int .i64 0, .int .i64 0, .string ⟨#[]⟩, .slice none 0 0] 31) = W at *
    obtain ⟨b0, b1, b2, b3⟩ := cel4P HX0.out
    have bf : ∀ x, W.frozen? ⟨w.heap.size, x, none⟩ = false := (fun x => by simp [World.frozen?, (show W.heap[w.heap.size]? = _ from HX0.out)])
    go_wp2
    obtain ⟨r0, r1, r2, r3⟩ := cel4P (HX0.out.put 2 0 ⟨#[]⟩ (.slice none 0 0) rfl)
    exact bodyPost_ret (v := .agg #[.int .i64 2, .int .i64 0, .string ⟨#[]⟩, .slice none 0 0]) (by simp [results, Try.results12, go_sem, r0, r1, r2, r3]) rfl ⟨rfl, (((HB0.out.setCell (Nat.le_refl _) _).setCell (Nat.le_refl _) _).setCell (Nat.le_refl _) _).setCell (Nat.le_refl _) _⟩
set_option maxRecDepth 100000 in
set_option maxHeartbeats 4000000 in
theorem specMaps_form {w : World} {ao ao2 : Option Addr} {n n2 cap cap2 : Nat} (mem : ByteArray) (root : Int) (hs : mem.size ≤ 65536) (l1 : n ≤ 1000) (l2 : n2 ≤ 1000) (h : ¬ (memOk mem = true ∧ 0 ≤ root ∧ root * 256 + 256 ≤ (mem.size : Int))) : CodeA 12 mem root (.slice ao n cap) (.slice ao2 n2 cap2) 1 w := by
  unfold CodeA
  have HX0 : Hid (RB w (w.alloc (.cells #[.int .i64 0, .int .i64 0, .string ⟨#[]⟩, .slice none 0 0] 31))) := heap_new _ _
  have HB0 : Hid (Below w.heap.size w (w.alloc (.cells #[.int .i64 0, .int .i64 0, .string ⟨#[]⟩, .slice none 0 0] 31))) := (Below.refl _ _).alloc (Nat.le_refl _) _
  have hs1 : ¬ 65536 < (mem.size : Int) := by omega
  have hs2 : ¬ 1000 < (n : Int) := by omega
  have hs3 : ¬ 1000 < (n2 : Int) := by omega
  have HMF : Hid _ := fun u => specMemFault_any mem u (by omega)
  cases hm : memOk mem
  · rw [show memC mem = 1 by simp [memC, hm]] at HMF
    clear h hm
    go_enter Try.func12, Try.ntmps12
    go_upto_region 4 with (go_at_call 36; refine Calls.mono (HMF.out _) ?_; rintro r u1 ⟨rfl, hu1⟩; subst u1)
    generalize w.alloc (.cells #[.int .i64 0, .int .i64 0, .string ⟨#[]⟩, .slice none 0 0] 31) = W at *
    obtain ⟨b0, b1, b2, b3⟩ := cel4P HX0.out
    have bf : ∀ x, W.frozen? ⟨w.heap.size, x, none⟩ = false := (fun x => by simp [World.frozen?, (show W.heap[w.heap.size]? = _ from HX0.out)])
    go_wp2
    obtain ⟨r0, r1, r2, r3⟩ := cel4P (HX0.out.put 1 0 ⟨#[]⟩ (.slice none 0 0) rfl)
    exact bodyPost_ret (v := .agg #[.int .i64 1, .int .i64 0, .string ⟨#[]⟩, .slice none 0 0]) (by simp [results, Try.results12, go_sem, r0, r1, r2, r3]) rfl ⟨rfl, (((HB0.out.setCell (Nat.le_refl _) _).setCell (Nat.le_refl _) _).setCell (Nat.le_refl _) _).setCell (Nat.le_refl _) _⟩
  · rw [memC_ok hm] at HMF
    have HIR : Hid _ := fun u => l03In_no mem root u hs (fun q => h ⟨hm, q⟩)
    clear h hm
    go_enter Try.func12, Try.ntmps12
    go_upto_region 4 with (first | (go_at_call 36; refine Calls.mono (HMF.out _) ?_; rintro r u1 ⟨rfl, hu1⟩; subst u1) | (go_at_call 52; refine Calls.mono (HIR.out _) ?_; rintro r u1 ⟨rfl, hu1⟩; subst u1))
    generalize w.alloc (.cells #[.int .i64 0, .int .i64 0, .string ⟨#[]⟩, .slice none 0 0] 31) = W at *
    obtain ⟨b0, b1, b2, b3⟩ := cel4P HX0.out
    have bf : ∀ x, W.frozen? ⟨w.heap.size, x, none⟩ = false := (fun x => by simp [World.frozen?, (show W.heap[w.heap.size]? = _ from HX0.out)])
    go_wp2
    obtain ⟨r0, r1, r2, r3⟩ := cel4P (HX0.out.put 1 0 ⟨#[]⟩ (.slice none 0 0) rfl)
    exact bodyPost_ret (v := .agg #[.int .i64 1, .int .i64 0, .string ⟨#[]⟩, .slice none 0 0]) (by simp [results, Try.results12, go_sem, r0, r1, r2, r3]) rfl ⟨rfl, (((HB0.out.setCell (Nat.le_refl _) _).setCell (Nat.le_refl _) _).setCell (Nat.le_refl _) _).setCell (Nat.le_refl _) _⟩
set_option maxRecDepth 100000 in
set_option maxHeartbeats 4000000 in
theorem specMaps_free {w : World} {ao : Option Addr} {n cap : Nat} {fv : Value} {free : List Int} (mem : ByteArray) (root : Int) (hm : memOk mem = true) (r0 : 0 ≤ root) (r1 : root * 256 + 256 ≤ (mem.size : Int)) (l1 : n ≤ 1000) (hF : Irow w fv free) (l2 : free.length ≤ 1000) (h : ¬ inF mem free) : CodeA 12 mem root (.slice ao n cap) fv 1 w := by
  unfold CodeA
  obtain ⟨ao2, cap2, rfl⟩ := hF.sl
  have HX0 : Hid (RB w (w.alloc (.cells #[.int .i64 0, .int .i64 0, .string ⟨#[]⟩, .slice none 0 0] 31))) := heap_new _ _
  have HB0 : Hid (Below w.heap.size w (w.alloc (.cells #[.int .i64 0, .int .i64 0, .string ⟨#[]⟩, .slice none 0 0] 31))) := (Below.refl _ _).alloc (Nat.le_refl _) _
  have hb := memOk_b hm
  have hs1 : ¬ 65536 < (mem.size : Int) := by omega
  have hs2 : ¬ 1000 < (n : Int) := by omega
  have hs3 : ¬ 1000 < (free.length : Int) := by omega
  have HS : Hid (mem.size ≤ 65536) := hb.2.1
  have HMF : Hid _ := fun u => specMemFault_any mem u (by omega)
  rw [memC_ok hm] at HMF
  have HIR : Hid _ := fun u => l03In_yes mem root u hb.2.1 r0 r1
  have HF : Hid (Irow w (.slice ao2 free.length cap2) free) := hF
  have HNO : Hid (¬ inF mem free) := h
  clear h hF hb hm
  go_enter Try.func12, Try.ntmps12
  go_upto_region 6 with (first | (go_at_call 36; refine Calls.mono (HMF.out _) ?_; rintro r u1 ⟨rfl, hu1⟩; subst u1) | (go_at_call 52; refine Calls.mono (HIR.out _) ?_; rintro r u1 ⟨rfl, hu1⟩; subst u1))
  generalize w.alloc (.cells #[.int .i64 0, .int .i64 0, .string ⟨#[]⟩, .slice none 0 0] 31) = W at *
  go_loopw [9] (fun i wr => ∃ k : Nat, k ≤ free.length ∧ i = .int .i64 k ∧ wr = W ∧ Hid (∀ (j : Nat) (hj : j < free.length), j < k → 0 ≤ free[j] ∧ free[j] * 256 + 256 ≤ (mem.size : Int))) (fun i _ => free.length - (intOf i).toNat)
  case atStart => exact ⟨0, Nat.zero_le _, rfl, rfl, show ∀ (j : Nat) (hj : j < free.length), j < 0 → 0 ≤ free[j] ∧ free[j] * 256 + 256 ≤ (mem.size : Int) from fun j hj q => absurd q (Nat.not_lt_zero _)⟩
  case round =>
    obtain ⟨k, hk, rfl, hW, hall⟩ := hrel
    subst wr
    by_cases hlt : k < free.length
    · obtain ⟨g, o, c3, hv, _, hg, hc⟩ := HF.out.resolve_left (fun h => by rw [h.1] at hlt; simp at hlt)
      injection hv with hv1 hv2 hv3
      subst hv1 hv3
      have d1 := hc.below HB0.out hg k hlt
      obtain ⟨z, hz⟩ : ∃ z, free[k] = z := ⟨_, rfl⟩
      rw [hz] at d1
      have HZE : Hid (free[k] = z) := hz
      have hk0 : (0 : Int) ≤ (k : Int) := by omega
      have hk1 : (k : Int) < (free.length : Int) := by omega
      clear hc hz
      by_cases hin : 0 ≤ z ∧ z * 256 + 256 ≤ (mem.size : Int)
      · have HIZ : Hid _ := fun u => l03In_yes mem z u HS.out hin.1 hin.2
        have HIN : Hid _ := hin
        clear hin
        go_wp2_with (go_at_call 52; refine Calls.mono (HIZ.out _) ?_; rintro r u1 ⟨rfl, hu1⟩; subst u1)
        refine ⟨⟨k + 1, hlt, by go_num, by first | rfl | trivial, show ∀ (j : Nat) (hj : j < free.length), j < k + 1 → 0 ≤ free[j] ∧ free[j] * 256 + 256 ≤ (mem.size : Int) from fun j hj q => ?_⟩, by simp [intOf]; omega⟩
        by_cases ejk : j = k
        · subst ejk
          rw [HZE.out]
          exact HIN.out
        · exact hall.out j hj (by omega)
      · have HIZ : Hid _ := fun u => l03In_no mem z u HS.out hin
        clear hin
        obtain ⟨b0, b1, b2, b3⟩ := cel4P HX0.out
        have bf : ∀ x, W.frozen? ⟨w.heap.size, x, none⟩ = false := (fun x => by simp [World.frozen?, (show W.heap[w.heap.size]? = _ from HX0.out)])
        go_wp2_with (go_at_call 52; refine Calls.mono (HIZ.out _) ?_; rintro r u1 ⟨rfl, hu1⟩; subst u1)
        obtain ⟨r0, r1, r2, r3⟩ := cel4P (HX0.out.put 1 0 ⟨#[]⟩ (.slice none 0 0) rfl)
        exact bodyPost_ret (v := .agg #[.int .i64 1, .int .i64 0, .string ⟨#[]⟩, .slice none 0 0]) (by simp [results, Try.results12, go_sem, r0, r1, r2, r3]) rfl ⟨rfl, (((HB0.out.setCell (Nat.le_refl _) _).setCell (Nat.le_refl _) _).setCell (Nat.le_refl _) _).setCell (Nat.le_refl _) _⟩
    · exact absurd (fun x hx => by
        obtain ⟨j, hj, rfl⟩ := List.getElem_of_mem hx
        exact hall.out j hj (by omega)) HNO.out
end Go.Proofs.Ytfagohdmepnkkaa
