import Derived.Test.YtlpkkclmcgnapaaDoorSText
import Derived.Test.YtlpkkclmcgnapaaDoorInsAt
import Derived.Test.YtlpkkclmcgnapaaDoorJoined
import Derived.Lib.ItoaNum
import Derived.Lib.Join
namespace Go.Proofs.YtlpkkclmcgnapaaDoor
open Go.ChangeShapes Go.WideShapes Go.ChangeAt Go.RowKit

theorem decDigits_decN (n : Nat) : Lib.decDigits n = decN n := by
  induction n using Nat.strongRecOn with
  | ind n ih =>
    by_cases h : n < 10
    · rw [decN_lt n h, Lib.decDigits, dif_pos h]
      rfl
    · rw [decN_ge n (by omega), Lib.decDigits, dif_neg h, ih (n / 10) (by omega)]
      rfl
theorem itoa_decL (n : Int) : Lib.itoa n = decL n := by
  unfold Lib.itoa decL
  split
  · rw [decDigits_decN, show (-n).toNat = n.natAbs by omega]
  · rw [decDigits_decN]
/-- An operand's text. -/
def opdT (o : Opd) (f : Int × Int × Int × Int) : ByteArray :=
  match o with
  | .reg _ l _ => l ++ decB (fld o.plc f)
  | .imm _ _ => decB (fld o.plc f)
def pts (l : List Opd) (f : Int × Int × Int × Int) : List ByteArray := l.map fun o => opdT o f
def joinB (ps : List ByteArray) : ByteArray := ⟨(Lib.join (ps.map (·.data.toList)) [44, 32]).toArray⟩
theorem ext_list {a b : ByteArray} (h : a.data.toList = b.data.toList) : a = b := ByteArray.ext (Array.toList_inj.1 h)
theorem app_list (a b : ByteArray) : (a ++ b).data.toList = a.data.toList ++ b.data.toList := by simp
theorem isT_no (f : ByteArray) (j : Nat) : isT f ⟨#[]⟩ j = false := by simp [isT, ByteArray.toList_eq]
theorem oS1_0 (a b c imm : Int) : opS ⟨#[97, 98, 99]⟩ a b c imm 0 = ⟨#[114]⟩ ++ decB a := by simp [opS, show bt ⟨#[97, 98, 99]⟩ 0 = 97 from by decide +kernel]
theorem oS1_1 (a b c imm : Int) : opS ⟨#[97, 98, 99]⟩ a b c imm 1 = ⟨#[114]⟩ ++ decB b := by simp [opS, show bt ⟨#[97, 98, 99]⟩ 1 = 98 from by decide +kernel]
theorem oS1_2 (a b c imm : Int) : opS ⟨#[97, 98, 99]⟩ a b c imm 2 = ⟨#[114]⟩ ++ decB c := by simp [opS, show bt ⟨#[97, 98, 99]⟩ 2 = 99 from by decide +kernel]
theorem oS2_0 (a b c imm : Int) : opS ⟨#[118, 118, 118]⟩ a b c imm 0 = ⟨#[118]⟩ ++ decB a := by simp [opS, show bt ⟨#[118, 118, 118]⟩ 0 = 118 from by decide +kernel]
theorem oS2_1 (a b c imm : Int) : opS ⟨#[118, 118, 118]⟩ a b c imm 1 = ⟨#[118]⟩ ++ decB b := by simp [opS, show bt ⟨#[118, 118, 118]⟩ 1 = 118 from by decide +kernel]
theorem oS2_2 (a b c imm : Int) : opS ⟨#[118, 118, 118]⟩ a b c imm 2 = ⟨#[118]⟩ ++ decB c := by simp [opS, show bt ⟨#[118, 118, 118]⟩ 2 = 118 from by decide +kernel]
theorem oS3_0 (a b c imm : Int) : opS ⟨#[118, 98]⟩ a b c imm 0 = ⟨#[118]⟩ ++ decB a := by simp [opS, show bt ⟨#[118, 98]⟩ 0 = 118 from by decide +kernel]
theorem oS3_1 (a b c imm : Int) : opS ⟨#[118, 98]⟩ a b c imm 1 = ⟨#[114]⟩ ++ decB b := by simp [opS, show bt ⟨#[118, 98]⟩ 1 = 98 from by decide +kernel]
theorem oS4_0 (a b c imm : Int) : opS ⟨#[97, 108]⟩ a b c imm 0 = ⟨#[114]⟩ ++ decB a := by simp [opS, show bt ⟨#[97, 108]⟩ 0 = 97 from by decide +kernel]
theorem oS4_1 (a b c imm : Int) : opS ⟨#[97, 108]⟩ a b c imm 1 = decB imm := by simp [opS, show bt ⟨#[97, 108]⟩ 1 = 108 from by decide +kernel]
theorem oS5_0 (a b c imm : Int) : opS ⟨#[97, 105]⟩ a b c imm 0 = ⟨#[114]⟩ ++ decB a := by simp [opS, show bt ⟨#[97, 105]⟩ 0 = 97 from by decide +kernel]
theorem oS5_1 (a b c imm : Int) : opS ⟨#[97, 105]⟩ a b c imm 1 = decB imm := by simp [opS, show bt ⟨#[97, 105]⟩ 1 = 105 from by decide +kernel]
theorem oS6_0 (a b c imm : Int) : opS ⟨#[105]⟩ a b c imm 0 = decB imm := by simp [opS, show bt ⟨#[105]⟩ 0 = 105 from by decide +kernel]
theorem oS8_0 (a b c imm : Int) : opS ⟨#[97, 98, 105]⟩ a b c imm 0 = ⟨#[114]⟩ ++ decB a := by simp [opS, show bt ⟨#[97, 98, 105]⟩ 0 = 97 from by decide +kernel]
theorem oS8_1 (a b c imm : Int) : opS ⟨#[97, 98, 105]⟩ a b c imm 1 = ⟨#[114]⟩ ++ decB b := by simp [opS, show bt ⟨#[97, 98, 105]⟩ 1 = 98 from by decide +kernel]
theorem oS8_2 (a b c imm : Int) : opS ⟨#[97, 98, 105]⟩ a b c imm 2 = decB imm := by simp [opS, show bt ⟨#[97, 98, 105]⟩ 2 = 105 from by decide +kernel]
theorem txtL0 (f : ByteArray) (o : Nat → ByteArray) (x : ByteArray) : txtL f o x ⟨#[]⟩ 0 = x := rfl
theorem txtL1 (f : ByteArray) (o : Nat → ByteArray) (x : ByteArray) : txtL f o x ⟨#[]⟩ 1 = ((x ++ sep 0) ++ o 0) := by simp [txtL, isT_no]
theorem txtL2 (f : ByteArray) (o : Nat → ByteArray) (x : ByteArray) : txtL f o x ⟨#[]⟩ 2 = ((((x ++ sep 0) ++ o 0) ++ sep 1) ++ o 1) := by simp [txtL, isT_no]
theorem txtL3 (f : ByteArray) (o : Nat → ByteArray) (x : ByteArray) : txtL f o x ⟨#[]⟩ 3 = ((((((x ++ sep 0) ++ o 0) ++ sep 1) ++ o 1) ++ sep 2) ++ o 2) := by simp [txtL, isT_no]
theorem txt_join (op a b c imm : Int) (h : isOk op a b c imm = true) :
    txt op a b c imm ⟨#[]⟩ = if (opsOf op).length = 0 then nm op else ⟨(catB [nm op, ⟨#[32]⟩, joinB (pts (opsOf op) (a, b, c, imm))]).toArray⟩ := by
  obtain ⟨hk0, _⟩ := kOk_b h
  have hk := kd_lt op
  have hkd : kd op = kd2 op := by
    unfold kd at hk0 ⊢
    split at hk0
    · exact absurd rfl hk0
    · rw [if_neg (by assumption)]
  have h4 : kd op = 4 → op = 20 ∨ op = 36 := fun h5 => kd2_4 op (hkd.symm.trans h5)
  unfold txt opsOf
  clear hkd h
  generalize nm op = x
  generalize kd op = k at *
  obtain rfl | rfl | rfl | rfl | rfl | rfl | rfl | rfl : k = 1 ∨ k = 2 ∨ k = 3 ∨ k = 4 ∨ k = 5 ∨ k = 6 ∨ k = 7 ∨ k = 8 := by omega
  · refine (txtL3 ⟨#[97, 98, 99]⟩ (opS ⟨#[97, 98, 99]⟩ a b c imm) x).trans (ext_list ?_)
    simp [oS1_0, oS1_1, oS1_2, sep, catB, joinB, pts, opdT, rP, fld, Opd.plc, Lib.join]
  · refine (txtL3 ⟨#[118, 118, 118]⟩ (opS ⟨#[118, 118, 118]⟩ a b c imm) x).trans (ext_list ?_)
    simp [oS2_0, oS2_1, oS2_2, sep, catB, joinB, pts, opdT, vP, fld, Opd.plc, Lib.join]
  · refine (txtL2 ⟨#[118, 98]⟩ (opS ⟨#[118, 98]⟩ a b c imm) x).trans (ext_list ?_)
    simp [oS3_0, oS3_1, sep, catB, joinB, pts, opdT, rP, vP, fld, Opd.plc, Lib.join]
  · rcases h4 rfl with rfl | rfl
    all_goals
      refine (txtL2 ⟨#[97, 108]⟩ (opS ⟨#[97, 108]⟩ a b c imm) x).trans (ext_list ?_)
      simp [oS4_0, oS4_1, sep, catB, joinB, pts, opdT, rP, fld, Opd.plc, Lib.join]
  · refine (txtL2 ⟨#[97, 105]⟩ (opS ⟨#[97, 105]⟩ a b c imm) x).trans (ext_list ?_)
    simp [oS5_0, oS5_1, sep, catB, joinB, pts, opdT, rP, fld, Opd.plc, Lib.join]
  · refine (txtL1 ⟨#[105]⟩ (opS ⟨#[105]⟩ a b c imm) x).trans (ext_list ?_)
    simp [oS6_0, sep, catB, joinB, pts, opdT, fld, Opd.plc, Lib.join]
  · exact (txtL0 _ _ _)
  · refine (txtL3 ⟨#[97, 98, 105]⟩ (opS ⟨#[97, 98, 105]⟩ a b c imm) x).trans (ext_list ?_)
    simp [oS8_0, oS8_1, oS8_2, sep, catB, joinB, pts, opdT, rP, fld, Opd.plc, Lib.join]
end Go.Proofs.YtlpkkclmcgnapaaDoor
