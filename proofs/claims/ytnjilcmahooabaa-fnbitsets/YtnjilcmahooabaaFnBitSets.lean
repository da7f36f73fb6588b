import Derived.Test.YtnjilcmahooabaaRows
import Derived.Test.YtnjilcmahooabaaBitSetsL
import Derived.WalkKit
import Derived.ProofKit
import Derived.OpenShut
import Derived.ShutString
import Derived.ChangeOld
import Derived.Below
namespace Go.Proofs.Ytnjilcmahooabaa.fnBitSets
open Go.ChangeShapes Go.WideShapes Go.ChangeAt Go.RowKit
open Go.ChangeMaps (open_string shut_string)
set_option linter.unusedVariables false

theorem own : ownKnob Try.prog.godebug = none := by kernel_rfl
theorem laidOut : laidOutB Try.prog = true := by kernel_rfl

def IsRow (k : IntKind) (w : World) (a : Option Addr) (len cap : Nat) (zs : List Int) : Prop :=
  (a = none ∧ len = 0 ∧ cap = 0 ∧ zs = []) ∨
  ∃ x, a = some x ∧ len ≤ cap ∧ cap ≤ maxLen ∧ zs.length = cap ∧ (∀ i, i < zs.length → w.cell? (x.add i) = some (.int k (zs.getD i 0))) ∧ ∀ n ∈ zs, (Lit.int k n).wf = true

set_option maxHeartbeats 1000000 in
theorem core (s : ByteArray) (m : Nat) (on : Bool) (T : ByteArray) (hT : T = ⟨(pb s m on).toArray⟩) (hs : s.size ≤ 100) (hm : m ≤ 800) :
    T.size ≤ 101 ∧ hb T m = on ∧ (∀ i : Nat, i ≠ m → hb T i = hb s i) ∧ cnt T (8 * T.size) = cnt T 1000 ∧ nxt T m on = m := by
  have hz := T_size s m on
  have hh := T_hb s m on hs hm
  rw [← hT] at hz
  rw [← hT] at hh
  have h1 : hb T m = on := by rw [hh m, if_pos rfl]
  have hc := cnt_stop T (1000 - 8 * T.size)
  rw [show 8 * T.size + (1000 - 8 * T.size) = 1000 from by omega] at hc
  exact ⟨by omega, h1, fun i hi => by rw [hh i, if_neg hi], hc.symm, nxt_here T m on (by omega) (by omega) h1⟩

set_option maxRecDepth 100000 in
set_option maxHeartbeats 2000000 in
theorem walk (a0 : Option Addr) (len0 cap0 : Nat) (z0 : List Int) (w : World) (w0 : IsRow .u8 w a0 len0 cap0 z0) :
    Calls Try.prog 4 #[.slice a0 len0 cap0] w fun e w' => e = .returned (.bool true) ∧ Below w.heap.size w w' := by
  by_cases hl : len0 ≤ 1048576
  · have hcode := code_of w a0 len0 cap0 z0 w0
    have HC : Hid (CodeAt w w.heap.size a0 len0) := hcode
    clear hcode w0
    have e0 : decide (1048576 < (len0 : Int)) = false := by simp; omega
    go_enter Try.func4, Try.ntmps4
    go_wp2_with fail
    refine (drawPutBit_any a0 len0 cap0 w HC.out hl).mono ?_
    rintro e w1 ⟨s, n, on, rfl, hs, n0, n1, hb1⟩
    clear HC
    by_cases h1 : 100 < s.size
    · go_wp2_with fail
      go_ret
      exact ⟨rfl, hb1⟩
    by_cases h2 : n < 0
    · go_wp2_with fail
      go_ret
      exact ⟨rfl, hb1⟩
    by_cases h3 : 800 < n
    · go_wp2_with fail
      go_ret
      exact ⟨rfl, hb1⟩
    obtain ⟨m, rfl⟩ := Int.eq_ofNat_of_zero_le (show 0 ≤ n by omega)
    have hm : m ≤ 800 := by omega
    have e1 : decide (100 < (s.size : Int)) = false := by simp; omega
    have e2 : decide ((m : Int) < 0) = false := by simp
    have e3 : decide (800 < (m : Int)) = false := by simp; omega
    clear n0 n1 h2 h3
    go_wp2_with fail
    refine (implPutBit_in s m on w1 (by omega) (by omega)).mono ?_
    rintro e w2 ⟨rfl, hb2⟩
    have hsp := fun u => specPutBit_in s m on u (by omega) (by omega)
    have HS : Hid (∀ u, Calls Try.prog 14 #[.string s, .int .i64 m, .bool on] u fun e w' => e = .returned (.string ⟨(pb s m on).toArray⟩) ∧ Below u.heap.size u w') := hsp
    have hcore := core s m on _ rfl (by omega) hm
    clear hsp
    generalize (⟨(pb s m on).toArray⟩ : ByteArray) = T at *
    obtain ⟨hTz, hTm, hTi, hTc, hTn⟩ := hcore
    have HI : Hid (∀ i : Nat, i ≠ m → hb T i = hb s i) := hTi
    have HCN : Hid (cnt T (8 * T.size) = cnt T 1000) := hTc
    have HN : Hid (nxt T m on = m) := hTn
    clear hTi hTc hTn
    have hb12 := hb1.trans (hb2.mono hb1.size)
    clear hb1 hb2
    go_wp2_with fail
    refine (HS.out _).mono ?_
    rintro e w3 ⟨rfl, hb3⟩
    have hb13 := hb12.trans (hb3.mono hb12.size)
    clear hb12 hb3 HS
    go_wp2_with (go_at_call 15; refine (implHasBit_any _ _ _ (by omega)).mono ?_; rintro e u1 ⟨rfl, hw1⟩; subst hw1)
    go_loop [7, 8] (fun c i => ∃ k : Nat, k ≤ 1000 ∧ i = .int .i64 k ∧ c = .int .i64 (cnt T k)) (fun _ i => 1000 - (intOf i).toNat)
    case atStart => exact ⟨0, by omega, rfl, rfl⟩
    case round =>
      obtain ⟨k, hk, rfl, rfl⟩ := hrel
      obtain ⟨c0, c1⟩ := cnt_b T k
      have HK : Hid (cnt T (k + 1) = cnt T k + if hb T k then 1 else 0) := (show cnt T (k + 1) = cnt T k + if hb T k then 1 else 0 from rfl)
      by_cases hlt : k < 1000
      · by_cases hkm : k = m
        · subst hkm
          have HM : Hid (hb T k = on) := hTm
          have hne : ((k : Int) != (k : Int)) = false := by simp
          cases on
          · go_wp2_with (first | (go_at_call 15; refine (implHasBit_any _ _ _ (by omega)).mono ?_; rintro e u2 ⟨rfl, hw2⟩; subst hw2) | (go_at_call 16; refine (specHasBit_any _ _ _ (by omega) (by omega)).mono ?_; rintro e u3 ⟨rfl, hw3⟩; subst hw3))
            go_round
            case rel =>
              refine ⟨k + 1, by omega, by go_num, ?_⟩
              rw [HK.out, HM.out]
              simp
            case measure => simp [intOf]; omega
          · go_wp2_with (first | (go_at_call 15; refine (implHasBit_any _ _ _ (by omega)).mono ?_; rintro e u2 ⟨rfl, hw2⟩; subst hw2) | (go_at_call 16; refine (specHasBit_any _ _ _ (by omega) (by omega)).mono ?_; rintro e u3 ⟨rfl, hw3⟩; subst hw3))
            go_round
            case rel =>
              refine ⟨k + 1, by omega, by go_num, ?_⟩
              rw [HK.out, HM.out]
              simp
            case measure => simp [intOf]; omega
        · have hne : ((k : Int) != (m : Int)) = true := by rw [bne_iff_ne]; omega
          have hq := HI.out k hkm
          have HQ : Hid (hb T k = hb s k) := hq
          clear hTm
          cases hbv : hb s k
          all_goals
            have HV : Hid (hb s k = _) := hbv
            go_wp2_with (first | (go_at_call 15; refine (implHasBit_any _ _ _ (by omega)).mono ?_; rintro e u2 ⟨rfl, hw2⟩; subst hw2) | (go_at_call 16; refine (specHasBit_any _ _ _ (by omega) (by omega)).mono ?_; rintro e u3 ⟨rfl, hw3⟩; subst hw3))
            go_round
            case rel =>
              refine ⟨k + 1, by omega, by go_num, ?_⟩
              rw [HK.out, HQ.out, HV.out]
              simp
            case measure => simp [intOf]; omega
      · obtain rfl : k = 1000 := by omega
        go_wp2_with (first | (go_at_call 17; refine (implNextBit_any _ _ _ _ (by omega)).mono ?_; rintro e u4 ⟨rfl, hw4⟩; subst hw4; rw [HN.out]) | (go_at_call 18; refine (implCountBits_any _ _ (by omega)).mono ?_; rintro e u5 ⟨rfl, hw5⟩; subst hw5; rw [HCN.out]))
        go_ret
        exact ⟨rfl, hb13⟩
  · go_enter Try.func4, Try.ntmps4
    go_wp2_with fail
    go_ret
    exact ⟨rfl, Below.refl _ _⟩

set_option maxRecDepth 100000 in
theorem lifted (os : Os) (started : os.Started) (H : Type) (enc : TypeId × Value → H) :
    ReturnsInHanded {} Try.checked os 4 .any (Rows.fnBitSetsSpec.pre6 enc Try.prog Try.f4 Rows.fnBitSetsRow.domain false) (Rows.fnBitSetsSpec.post enc Try.prog Try.f4 false true false false) := by
  refine returnsInHanded_of_change (C := Try.checked) own started (by kernel_rfl) Try.func4
    (ChangeSpec.witness6 (enc := enc) (C := Try.checked) false ⟨#[], #[.slice none 0 0], []⟩ 8 (by kernel_rfl) (by kernel_rfl) (by kernel_rfl) (by kernel_rfl)) ?_
  intro W base args ds gs before hval0 hW hcnd _
  have hval : ∀ (j : Nat) t v, Try.f4.params[j]? = some t → args[j]? = some v → Value.okWide Try.prog W .any base t v := hval0
  have hW' := hW
  obtain ⟨p, q, hA0, hV, rfl, hfz, hnd⟩ := hW
  have hA : DataW.TrodAll enc Try.prog W 0 (fun _ => true) true Try.f4.params.toList args.toList ds p := hA0
  rw [Try.params4] at hA hval
  obtain ⟨v0, vs0, d0, ds0, p0, q0, hargs, rfl, rfl, h0, r0⟩ := trodAll_cons hA
  obtain ⟨rfl, rfl, rfl⟩ := trodAll_nil r0
  obtain rfl : args = #[v0] := by cases args; simp_all
  obtain ⟨rfl, rfl⟩ := trodVars_none hV
  obtain ⟨a0, len0, cap0, rfl⟩ := okWide_slice Try.underlying22 (hval 0 22 v0 rfl rfl)
  have k0 := h0
  have lt0 : ∀ x ∈ p0, x.block < W.heap.size := by obtain ⟨m, hm⟩ := k0; exact DataW.trod_lt m _ _ _ hm
  obtain ⟨z0, w0⟩ : ∃ zs, IsRow .u8 W a0 len0 cap0 zs := by
    obtain ⟨fuel, hf⟩ := h0
    rcases open_ints Try.underlying22 Try.underlying5 (by kernel_rfl) hf with ⟨hcs, _⟩ | ⟨x, l, c, zs, hcs, _, hl, hm, hz, _, hcell, hwz⟩
    · simp [Value.cells] at hcs
      obtain ⟨rfl, rfl, rfl⟩ := hcs
      exact ⟨[], .inl ⟨rfl, rfl, rfl, rfl⟩⟩
    · simp [Value.cells] at hcs
      obtain ⟨rfl, rfl, rfl⟩ := hcs
      exact ⟨zs, .inr ⟨_, rfl, hl, hm, by simpa using hz, hcell, hwz⟩⟩
  clear hA0 hval0
  refine (walk a0 len0 cap0 z0 W w0).mono fun e W' ⟨he, bel⟩ => ?_
  subst he
  exact ⟨_, rfl, _, _, _, [], _, [], hW', trodAll_mk1 (shut_bool Try.underlying4 _), (trodAll_cons_mk (Below.trod laidOut (by kernel_rfl) (of_decide_eq_true (by kernel_rfl)) k0 bel lt0) trodAll_mk0), rfl, bel.frame _, fun h => by cases h⟩

theorem over : Rows.fnBitSetsRow.holds Try.pinned (OpenSpec.ofChange Rows.fnBitSetsSpec) :=
  OpenClaim.holds_of_wide 4 Try.f4 rfl rfl rfl rfl rfl rfl rfl ⟨rfl, rfl, rfl, rfl, rfl⟩ rfl rfl rfl rfl rfl (by kernel_rfl) Try.func4 (by kernel_rfl)
    (of_decide_eq_true (by kernel_rfl)) (by unfold Func.isWrapper; first | (rw [if_pos (by decide +kernel)]; kernel_rfl) | (rw [if_neg (by decide +kernel)]; exact ⟨rfl, rfl⟩))
    (fun os started H enc _ => lifted os started H enc)

end Go.Proofs.Ytnjilcmahooabaa.fnBitSets
namespace Go.Proofs.Ytnjilcmahooabaa
theorem fnBitSets_holds : Rows.FnBitSetsSaid :=
  fnBitSets.over
#print axioms fnBitSets_holds
end Go.Proofs.Ytnjilcmahooabaa
