import Derived.Test.YtblmodlpopnckaaBytesC
namespace Go.Proofs.Ytblmodlpopnckaa
open Go.ChangeShapes Go.WideShapes Go.ChangeAt Go.RowKit

/-- Right memory: whole frames, one at least, 256 at most. -/
def memOk (s : ByteArray) : Bool := decide (s.size ≠ 0 ∧ s.size ≤ 65536 ∧ s.size % 256 = 0)
/-- What MemFault tells. -/
def memC (s : ByteArray) : Int := if memOk s then 0 else 1
theorem implMemFault_any (s : ByteArray) (w : World) (hs : s.size ≤ 1099511627776) :
    Calls Try.prog 22 #[.string s] w fun e w' => e = .returned (.int .i64 (memC s)) ∧ w' = w := by
  by_cases h1 : s.size = 0
  · have E : Hid (memC s = 1) := by
      show memC s = _
      unfold memC memOk
      have hh := s.size
      split <;> simp_all <;> omega
    go_enter Try.func22, Try.ntmps22
    go_wp2
    all_goals first | (go_ret; exact ⟨ret_int E.out.symm, rfl⟩) | (exfalso; simp_all; done) | (exfalso; simp_all; omega)
  by_cases h2 : 65536 < s.size
  · have E : Hid (memC s = 1) := by
      show memC s = _
      unfold memC memOk
      have hh := s.size
      split <;> simp_all <;> omega
    go_enter Try.func22, Try.ntmps22
    go_wp2
    all_goals first | (go_ret; exact ⟨ret_int E.out.symm, rfl⟩) | (exfalso; simp_all; done) | (exfalso; simp_all; omega)
  by_cases h3 : s.size % 256 = 0
  · have E : Hid (memC s = 0) := by
      show memC s = _
      unfold memC memOk
      have hh := s.size
      split <;> simp_all <;> omega
    go_enter Try.func22, Try.ntmps22
    go_wp2
    all_goals first | (go_ret; exact ⟨ret_int E.out.symm, rfl⟩) | (exfalso; simp_all; done) | (exfalso; simp_all; omega)
  · have E : Hid (memC s = 1) := by
      show memC s = _
      unfold memC memOk
      have hh := s.size
      split <;> simp_all <;> omega
    go_enter Try.func22, Try.ntmps22
    go_wp2
    all_goals first | (go_ret; exact ⟨ret_int E.out.symm, rfl⟩) | (exfalso; simp_all; done) | (exfalso; simp_all; omega)
theorem specMemFault_any (s : ByteArray) (w : World) (hs : s.size ≤ 1099511627776) :
    Calls Try.prog 15 #[.string s] w fun e w' => e = .returned (.int .i64 (memC s)) ∧ w' = w := by
  by_cases h1 : s.size = 0
  · have E : Hid (memC s = 1) := by
      show memC s = _
      unfold memC memOk
      have hh := s.size
      split <;> simp_all <;> omega
    go_enter Try.func15, Try.ntmps15
    go_wp2
    all_goals first | (go_ret; exact ⟨ret_int E.out.symm, rfl⟩) | (exfalso; simp_all; done) | (exfalso; simp_all; omega)
  by_cases h3 : s.size % 256 = 0
  · by_cases h2 : 65536 < s.size
    · have E : Hid (memC s = 1) := by
        show memC s = _
        unfold memC memOk
        have hh := s.size
        split <;> simp_all <;> omega
      go_enter Try.func15, Try.ntmps15
      go_wp2
      all_goals first | (go_ret; exact ⟨ret_int E.out.symm, rfl⟩) | (exfalso; simp_all; done) | (exfalso; simp_all; omega)
    · have E : Hid (memC s = 0) := by
        show memC s = _
        unfold memC memOk
        have hh := s.size
        split <;> simp_all <;> omega
      go_enter Try.func15, Try.ntmps15
      go_wp2
      all_goals first | (go_ret; exact ⟨ret_int E.out.symm, rfl⟩) | (exfalso; simp_all; done) | (exfalso; simp_all; omega)
  · have E : Hid (memC s = 1) := by
      show memC s = _
      unfold memC memOk
      have hh := s.size
      split <;> simp_all <;> omega
    go_enter Try.func15, Try.ntmps15
    go_wp2
    all_goals first | (go_ret; exact ⟨ret_int E.out.symm, rfl⟩) | (exfalso; simp_all; done) | (exfalso; simp_all; omega)
end Go.Proofs.Ytblmodlpopnckaa
