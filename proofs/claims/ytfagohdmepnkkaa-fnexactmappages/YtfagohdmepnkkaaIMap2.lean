import Derived.Test.YtfagohdmepnkkaaIMap1
import Derived.Test.YtfagohdmepnkkaaPWk2
namespace Go.Proofs.Ytfagohdmepnkkaa
open Go.ChangeShapes Go.WideShapes Go.ChangeAt Go.RowKit

/-- The mapper's box. -/
def MpB (w : World) (M b n : Nat) (root : Int) (fv : Value) : Prop := w.heap[M]? = some (.cells #[mv b n, .int .i64 root, fv] 106 (0, 0))
theorem MpB.cel {w : World} {M b n : Nat} {root : Int} {fv : Value} (h : MpB w M b n root fv) : w.cell? ⟨M, 0, none⟩ = some (mv b n) ∧ w.cell? ⟨M, 1, none⟩ = some (.int .i64 root) ∧ w.cell? ⟨M, 2, none⟩ = some fv := by
  unfold MpB at h
  simp [World.cell?, h]
theorem MpB.lt {w : World} {M b n : Nat} {root : Int} {fv : Value} (h : MpB w M b n root fv) : M < w.heap.size := (Array.getElem?_eq_some_iff.1 h).1
theorem MpB.below {w u : World} {M b n : Nat} {root : Int} {fv : Value} (h : MpB w M b n root fv) (hb : Below w.heap.size w u) : MpB u M b n root fv := (hb.block _ h.lt).trans h
set_option maxRecDepth 100000 in
set_option maxHeartbeats 4000000 in
theorem putPage_any {w : World} {M b n k : Nat} {root : Int} {fv : Value} {s : ByteArray} (m : PM) (hM : MemAt w b s) (hB : MpB w M b n root fv) (hn : s.size = n * 256) (hs : s.size ≤ 65536) (hk : k + 4 ≤ s.size) (h4 : k % 4 = 0) (f0 : 0 ≤ m.frame) (f1 : m.frame ≤ 1023) :
    Calls Try.prog 99 #[.pointer (some ⟨M, 0, none⟩), .int .i64 k, pmA m] w fun e w' => e = .returned (.int .i64 (if wv s k % 2 = 1 then 9 else 0)) ∧ MemAt w' b (if wv s k % 2 = 1 then s else setv s k (enM m)) ∧ w.grownBy w' (some b) := by
  obtain ⟨va, fr, fl, lg⟩ := m
  unfold pmA
  simp only at f0 f1 ⊢
  have hba : Below w.heap.size w (w.alloc (.cells #[.int .i64 va, .int .i64 fr, .int .i64 fl, .bool lg] 101)) := (Below.refl _ _).alloc (Nat.le_refl _) _
  have HM1 : Hid (MemAt (w.alloc (.cells #[.int .i64 va, .int .i64 fr, .int .i64 fl, .bool lg] 101)) b s) := hM.below hba hM.lt
  have HB1 : Hid (MpB (w.alloc (.cells #[.int .i64 va, .int .i64 fr, .int .i64 fl, .bool lg] 101)) M b n root fv) := hB.below hba
  have HX1 : Hid ((w.alloc (.cells #[.int .i64 va, .int .i64 fr, .int .i64 fl, .bool lg] 101)).heap[w.heap.size]? = some (.cells #[.int .i64 va, .int .i64 fr, .int .i64 fl, .bool lg] 101 (0, 0))) := heap_new _ _
  have HG1 : Hid (w.grownBy (w.alloc (.cells #[.int .i64 va, .int .i64 fr, .int .i64 fl, .bool lg] 101)) (some b)) := gb_below (gb_refl _ _) hba
  have HWD : Hid (∀ u : World, MemAt u b s → Calls Try.prog 101 #[mv b n, .int .i64 k] u fun e w' => e = .returned (.int .i64 (wv s k)) ∧ ∃ q, w' = u.drewN q) := fun u hu => memWord_any b n s k u hu hn hs hk h4
  have HPT : Hid (∀ (x : Int) (u : World), MemAt u b s → Calls Try.prog 119 #[mv b n, .int .i64 k, .int .i64 x] u fun e w' => e = .returned (.tuple #[]) ∧ MemAt w' b (setv s k x) ∧ u.grownBy w' (some b)) := fun x u hu => memPut_any b n s k x u hu hn hs hk h4
  have HEO : Hid (∀ (x : Int) (u : World), Calls Try.prog 120 #[.int .i64 fr, .int .i64 x] u fun e w' => e = .returned (.int .i64 (bits .or .i64 (fr * 256) x)) ∧ w' = u) := fun x u => entryOf_any fr x u f0 f1
  have hxb := wv_b s k
  obtain ⟨x, hx⟩ : ∃ x, wv s k = x := ⟨_, rfl⟩
  rw [hx] at hxb HWD ⊢
  unfold mv at HWD HPT
  clear hM hB hba hn hs hk h4
  by_cases hp : x % 2 = 1
  · have k1 : bits .and .i64 x 1 = 1 := by rw [and1 x hxb.1 (by omega)]; exact hp
    rw [if_pos hp, if_pos hp]
    clear hp
    go_enter Try.func99, Try.ntmps99
    go_upto_region 1 with fail
    generalize w.alloc (.cells #[.int .i64 va, .int .i64 fr, .int .i64 fl, .bool lg] 101) = W at *
    obtain ⟨c0, c1, c2⟩ := HB1.out.cel
    unfold mv at c0
    go_wp2_with (go_at_call 101; refine Calls.mono (HWD.out _ HM1.out) ?_; rintro r u1 ⟨rfl, q, hu1⟩; subst u1)
    go_ret
    exact ⟨rfl, HM1.out, gb_below HG1.out (bdn (Below.refl _ _) q)⟩
  · have k1 : bits .and .i64 x 1 = 0 := by rw [and1 x hxb.1 (by omega)]; omega
    rw [if_neg hp, if_neg hp]
    have EN : Hid (enM ⟨va, fr, fl, lg⟩ = bits .or .i64 (fr * 256) (bits .or .i64 fl 1)) := (show enM ⟨va, fr, fl, lg⟩ = _ by unfold enM; exact or_as _ _ _)
    rw [EN.out]
    clear hp
    go_enter Try.func99, Try.ntmps99
    go_upto_region 1 with fail
    generalize w.alloc (.cells #[.int .i64 va, .int .i64 fr, .int .i64 fl, .bool lg] 101) = W at *
    obtain ⟨c0, c1, c2⟩ := HB1.out.cel
    unfold mv at c0
    obtain ⟨d0, d1, d2, d3⟩ := cel4P HX1.out
    go_upto_region 3 with (go_at_call 101; refine Calls.mono (HWD.out _ HM1.out) ?_; rintro r u1 ⟨rfl, q, hu1⟩; subst u1)
    go_region_with (first | (go_at_call 120; refine Calls.mono (HEO.out _ _) ?_; rintro r u2 ⟨rfl, hu2⟩; subst u2) | (go_at_call 119; refine Calls.mono (HPT.out _ _ (show MemAt _ b s from HM1.out)) ?_; rintro r u3 ⟨rfl, hm3, hg3⟩; have HM3 : Hid _ := hm3; have HG3 : Hid _ := hg3; clear hm3 hg3))
    all_goals go_wp2
    all_goals go_ret
    all_goals exact ⟨rfl, HM3.out, gb_grow HG1.out (show W.grownBy _ (some b) from ⟨HG3.out.os, HG3.out.tape, HG3.out.output, HG3.out.size, HG3.out.block⟩) (fun j hj => .inr hj)⟩
end Go.Proofs.Ytfagohdmepnkkaa
