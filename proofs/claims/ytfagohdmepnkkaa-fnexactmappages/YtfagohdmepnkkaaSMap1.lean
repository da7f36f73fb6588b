import Derived.Test.YtfagohdmepnkkaaSWalkP
import Derived.Test.YtfagohdmepnkkaaPMem4
import Derived.Test.YtfagohdmepnkkaaRowPM1
import Derived.Test.YtfagohdmepnkkaaRowI
namespace Go.Proofs.Ytfagohdmepnkkaa
open Go.ChangeShapes Go.WideShapes Go.ChangeAt Go.RowKit

/-- A map that may be put. -/
def pmOk (m : PM) : Bool := decide (0 ≤ m.va ∧ m.va < 262144 ∧ m.va % (if m.large = true then 8192 else 256) = 0 ∧ 0 ≤ m.frame ∧ m.frame ≤ 1023 ∧ (m.large = true → m.frame % 32 = 0) ∧ ¬ bits .and .i64 m.flags 14 = 0 ∧ bits .and .i64 m.flags 158 = m.flags)
/-- What is asked of l03Map's answer where it has a code. -/
def MapNo (F : Nat) (mem : ByteArray) (root : Int) (m : PM) (fv : Value) (c : Int) (w : World) : Prop := Calls Try.prog F #[.string mem, .int .i64 root, pmA m, fv] w fun e w' => (∃ s2 v2, e = .returned (.tuple #[.string s2, v2, .int .i64 c])) ∧ Below w.heap.size w w'
set_option maxRecDepth 100000 in
set_option maxHeartbeats 4000000 in
theorem l03Map_form (mem : ByteArray) (root : Int) (m : PM) (ao : Option Addr) (n cap : Nat) (w : World) (h : pmOk m = false) : MapNo 54 mem root m (.slice ao n cap) 1 w := by
  obtain ⟨va, fr, fl, lg⟩ := m
  unfold MapNo pmA
  simp only
  unfold pmOk at h
  simp only at h
  have H : Hid _ := of_decide_eq_false h
  have HB : Hid (Below w.heap.size w (w.alloc (.cells #[.int .i64 va, .int .i64 fr, .int .i64 fl, .bool lg] 101))) := (Below.refl _ _).alloc (Nat.le_refl _) _
  clear h
  by_cases h1 : va < 0
  · cases lg
    · go_enter Try.func54, Try.ntmps54
      go_wp2
      exact bodyPost_ret (v := .tuple #[.string mem, .slice ao n cap, .int .i64 1]) (by simp [results, Try.results54, go_sem]) rfl ⟨⟨_, _, rfl⟩, HB.out⟩
    · go_enter Try.func54, Try.ntmps54
      go_wp2
      exact bodyPost_ret (v := .tuple #[.string mem, .slice ao n cap, .int .i64 1]) (by simp [results, Try.results54, go_sem]) rfl ⟨⟨_, _, rfl⟩, HB.out⟩
  by_cases h2 : 262144 ≤ va
  · cases lg
    · go_enter Try.func54, Try.ntmps54
      go_wp2
      exact bodyPost_ret (v := .tuple #[.string mem, .slice ao n cap, .int .i64 1]) (by simp [results, Try.results54, go_sem]) rfl ⟨⟨_, _, rfl⟩, HB.out⟩
    · go_enter Try.func54, Try.ntmps54
      go_wp2
      exact bodyPost_ret (v := .tuple #[.string mem, .slice ao n cap, .int .i64 1]) (by simp [results, Try.results54, go_sem]) rfl ⟨⟨_, _, rfl⟩, HB.out⟩
  cases lg
  · have ht : va.tmod 256 = va % 256 := Int.tmod_eq_emod_of_nonneg (by omega)
    by_cases h3 : va % 256 = 0
    · by_cases h4 : fr < 0
      · go_enter Try.func54, Try.ntmps54
        go_wp2
        exact bodyPost_ret (v := .tuple #[.string mem, .slice ao n cap, .int .i64 1]) (by simp [results, Try.results54, go_sem]) rfl ⟨⟨_, _, rfl⟩, HB.out⟩
      by_cases h5 : 1023 < fr
      · go_enter Try.func54, Try.ntmps54
        go_wp2
        exact bodyPost_ret (v := .tuple #[.string mem, .slice ao n cap, .int .i64 1]) (by simp [results, Try.results54, go_sem]) rfl ⟨⟨_, _, rfl⟩, HB.out⟩
      by_cases h7 : bits .and .i64 fl 14 = 0
      · go_enter Try.func54, Try.ntmps54
        go_wp2
        exact bodyPost_ret (v := .tuple #[.string mem, .slice ao n cap, .int .i64 1]) (by simp [results, Try.results54, go_sem]) rfl ⟨⟨_, _, rfl⟩, HB.out⟩
      by_cases h8 : bits .and .i64 fl 158 = fl
      · exact absurd ⟨by omega, by omega, by simpa using h3, by omega, by omega, (fun q => by cases q), h7, h8⟩ H.out
      · have h9 : (fl != bits .and .i64 fl 158) = true := by simpa using fun q => h8 q.symm
        clear h8
        go_enter Try.func54, Try.ntmps54
        go_wp2
        exact bodyPost_ret (v := .tuple #[.string mem, .slice ao n cap, .int .i64 1]) (by simp [results, Try.results54, go_sem]) rfl ⟨⟨_, _, rfl⟩, HB.out⟩
    · go_enter Try.func54, Try.ntmps54
      go_wp2
      exact bodyPost_ret (v := .tuple #[.string mem, .slice ao n cap, .int .i64 1]) (by simp [results, Try.results54, go_sem]) rfl ⟨⟨_, _, rfl⟩, HB.out⟩
  · have ht : va.tmod 8192 = va % 8192 := Int.tmod_eq_emod_of_nonneg (by omega)
    by_cases h3 : va % 8192 = 0
    · by_cases h4 : fr < 0
      · go_enter Try.func54, Try.ntmps54
        go_wp2
        exact bodyPost_ret (v := .tuple #[.string mem, .slice ao n cap, .int .i64 1]) (by simp [results, Try.results54, go_sem]) rfl ⟨⟨_, _, rfl⟩, HB.out⟩
      by_cases h5 : 1023 < fr
      · go_enter Try.func54, Try.ntmps54
        go_wp2
        exact bodyPost_ret (v := .tuple #[.string mem, .slice ao n cap, .int .i64 1]) (by simp [results, Try.results54, go_sem]) rfl ⟨⟨_, _, rfl⟩, HB.out⟩
      have hf : fr.tmod 32 = fr % 32 := Int.tmod_eq_emod_of_nonneg (by omega)
      by_cases h6 : fr % 32 = 0
      · by_cases h7 : bits .and .i64 fl 14 = 0
        · go_enter Try.func54, Try.ntmps54
          go_wp2
          exact bodyPost_ret (v := .tuple #[.string mem, .slice ao n cap, .int .i64 1]) (by simp [results, Try.results54, go_sem]) rfl ⟨⟨_, _, rfl⟩, HB.out⟩
        by_cases h8 : bits .and .i64 fl 158 = fl
        · exact absurd ⟨by omega, by omega, by simpa using h3, by omega, by omega, fun _ => h6, h7, h8⟩ H.out
        · have h9 : (fl != bits .and .i64 fl 158) = true := by simpa using fun q => h8 q.symm
          clear h8
          go_enter Try.func54, Try.ntmps54
          go_wp2
          exact bodyPost_ret (v := .tuple #[.string mem, .slice ao n cap, .int .i64 1]) (by simp [results, Try.results54, go_sem]) rfl ⟨⟨_, _, rfl⟩, HB.out⟩
      · go_enter Try.func54, Try.ntmps54
        go_wp2
        exact bodyPost_ret (v := .tuple #[.string mem, .slice ao n cap, .int .i64 1]) (by simp [results, Try.results54, go_sem]) rfl ⟨⟨_, _, rfl⟩, HB.out⟩
    · go_enter Try.func54, Try.ntmps54
      go_wp2
      exact bodyPost_ret (v := .tuple #[.string mem, .slice ao n cap, .int .i64 1]) (by simp [results, Try.results54, go_sem]) rfl ⟨⟨_, _, rfl⟩, HB.out⟩
end Go.Proofs.Ytfagohdmepnkkaa
