import Derived.Test.YthhbfghbpapklabRc6
import Derived.Test.YthhbfghbpapklabQu4
namespace Go.Proofs.Ythhbfghbpapklab
open Go.ChangeShapes Go.WideShapes Go.ChangeAt Go.RowKit

theorem specRC_any (s : ByteArray) (q : QV) (hd : Int) : AnsC 86 s q hd (rcT s q hd) := by
  unfold rcT
  by_cases h : 65536 < s.size
  · rw [if_pos h]
    exact specRC_long s q hd h
  rw [if_neg h]
  cases hp : qOk s q
  · exact specRC_form s q hd h (by rw [hp]; rfl)
  · rw [if_pos rfl]
    unfold rcH
    cases hh : hsB q.size hd
    · exact specRC_form s q hd h (by rw [hp, hh]; rfl)
    · obtain ⟨sz, ds, a, u, t, g⟩ := q
      obtain ⟨hm, hz, _, _, ⟨b1, b2, b3⟩, _⟩ := qOk_b hp
      simp only at hz b1 b2 b3
      obtain ⟨S, rfl⟩ := Int.eq_ofNat_of_zero_le (show 0 ≤ sz by unfold szB at hz; simp at hz; omega)
      obtain ⟨D, rfl⟩ := Int.eq_ofNat_of_zero_le b2
      unfold hsB at hh
      simp at hh
      obtain ⟨k, rfl⟩ := Int.eq_ofNat_of_zero_le hh.1
      rw [if_pos rfl]
      simp only [Int.toNat_natCast]
      exact specRC_good s S D k a u t g hp (by omega)
theorem rdT_len (s : ByteArray) (K : DV → List BU → Int × List BU) (T S M : Nat) (hK : ∀ d zs, (K d zs).2.length ≤ zs.length + M) : ∀ f a zs, (rdT s K T S f a zs).2.length ≤ zs.length + f + M
  | 0, a, zs => by unfold rdT; split <;> simp
  | f + 1, a, zs => by
    unfold rdT
    split
    · simp
    · split
      · have := hK (dAt s (T + a * 16)) zs
        omega
      · split
        · split
          · have := rdT_len s K T S M hK f (dAt s (T + a * 16)).number.toNat (zs ++ [bf (dAt s (T + a * 16))])
            simp at this
            omega
          · simp
            omega
        · simp
theorem itC_len {n : Nat} {inn nx : Bool} {P L : Nat} (h : itC n inn nx P L = 0) : L / 16 ≤ 16 := (itC_ok h).2.2.2.2.1
theorem rcR_len (s : ByteArray) (T S a : Nat) : (rcR s T S a).2.length ≤ S + 16 := by
  have h := rdT_len s (KK s false) T S 16 (fun d zs => ?_) S a []
  · unfold rcR
    simp at h
    omega
  · unfold KK
    split
    · rename_i hc
      have h2 := itC_len hc
      have h3 := rdT_len s (fun _ _ => (3, [])) d.pos.toNat (d.len.toNat / 16) 0 (fun _ zs => by simp) (d.len.toNat / 16) 0 zs
      omega
    · simp
theorem rcH_len (s : ByteArray) (q : QV) (hd : Int) : (rcH s q hd).2.length ≤ q.size.toNat + 16 := by
  unfold rcH
  split
  · split
    · exact rcR_len s _ _ _
    · simp
  · simp
theorem rcT_len (s : ByteArray) (q : QV) (hd : Int) : (rcT s q hd).2.length ≤ 32 := by
  unfold rcT
  split
  · simp
  · split
    · rename_i hp
      obtain ⟨_, hz, _⟩ := qOk_b hp
      have h1 := rcH_len s q hd
      have h2 : q.size.toNat ≤ 16 := by unfold szB at hz; simp at hz; omega
      omega
    · simp
end Go.Proofs.Ythhbfghbpapklab
