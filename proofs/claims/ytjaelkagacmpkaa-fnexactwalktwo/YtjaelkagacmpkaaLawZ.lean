import Derived.Test.YtjaelkagacmpkaaSTwo2
import Derived.Test.YtjaelkagacmpkaaPWk1
namespace Go.Proofs.Ytjaelkagacmpkaa
open Go.ChangeShapes Go.WideShapes Go.ChangeAt Go.RowKit

def t00 : TV := ⟨0, 0, 0, 0, ⟨#[]⟩⟩
set_option maxRecDepth 100000 in
set_option maxHeartbeats 4000000 in
theorem specTwo_no (s : ByteArray) (host root va acc : Int) (user : Bool) (w : World) (hs : s.size ≤ 1099511627776) (h : ¬ (memOk s = true ∧ 0 ≤ host ∧ host ≤ 255 ∧ 0 ≤ root ∧ root ≤ 255 ∧ 0 ≤ va ∧ va ≤ 262143 ∧ 1 ≤ acc ∧ acc ≤ 3)) :
    Calls Try.prog 14 #[.string s, .int .i64 host, .int .i64 root, .int .i64 va, .int .i64 acc, .bool user] w fun e w' => e = .returned (twA t00) ∧ Below w.heap.size w w' := by
  have HS : Hid _ := hs
  by_cases h1 : memOk s = false
  · have hc : Hid _ := memC_no h1
    clear h h1 hs
    go_enter Try.func14, Try.ntmps14
    go_wp2_with (first | (go_at_call 46; refine (specMemFault_any _ _ HS.out).mono ?_; rintro e u1 ⟨rfl, hu1⟩; rw [hu1, hc.out]; clear hu1))
    exact bodyPost_ret (v := twA t00) (by simp [results, Try.results14, go_sem, twA, t00]) rfl ⟨rfl, (Below.refl _ _).alloc (Nat.le_refl _) _⟩
  have h1b : memOk s = true := by simpa using h1
  have hc : Hid _ := memC_ok h1b
  have H2 : Hid (¬ (0 ≤ host ∧ host ≤ 255 ∧ 0 ≤ root ∧ root ≤ 255 ∧ 0 ≤ va ∧ va ≤ 262143 ∧ 1 ≤ acc ∧ acc ≤ 3)) := fun h3 => h ⟨h1b, h3⟩
  clear h h1 h1b hs
  by_cases g0 : host < 0
  · go_enter Try.func14, Try.ntmps14
    go_wp2_with (first | (go_at_call 46; refine (specMemFault_any _ _ HS.out).mono ?_; rintro e u1 ⟨rfl, hu1⟩; rw [hu1, hc.out]; clear hu1))
    exact bodyPost_ret (v := twA t00) (by simp [results, Try.results14, go_sem, twA, t00]) rfl ⟨rfl, (Below.refl _ _).alloc (Nat.le_refl _) _⟩
  by_cases g1 : 255 < host
  · go_enter Try.func14, Try.ntmps14
    go_wp2_with (first | (go_at_call 46; refine (specMemFault_any _ _ HS.out).mono ?_; rintro e u1 ⟨rfl, hu1⟩; rw [hu1, hc.out]; clear hu1))
    exact bodyPost_ret (v := twA t00) (by simp [results, Try.results14, go_sem, twA, t00]) rfl ⟨rfl, (Below.refl _ _).alloc (Nat.le_refl _) _⟩
  by_cases g2 : root < 0
  · go_enter Try.func14, Try.ntmps14
    go_wp2_with (first | (go_at_call 46; refine (specMemFault_any _ _ HS.out).mono ?_; rintro e u1 ⟨rfl, hu1⟩; rw [hu1, hc.out]; clear hu1))
    exact bodyPost_ret (v := twA t00) (by simp [results, Try.results14, go_sem, twA, t00]) rfl ⟨rfl, (Below.refl _ _).alloc (Nat.le_refl _) _⟩
  by_cases g3 : 255 < root
  · go_enter Try.func14, Try.ntmps14
    go_wp2_with (first | (go_at_call 46; refine (specMemFault_any _ _ HS.out).mono ?_; rintro e u1 ⟨rfl, hu1⟩; rw [hu1, hc.out]; clear hu1))
    exact bodyPost_ret (v := twA t00) (by simp [results, Try.results14, go_sem, twA, t00]) rfl ⟨rfl, (Below.refl _ _).alloc (Nat.le_refl _) _⟩
  by_cases g4 : va < 0
  · go_enter Try.func14, Try.ntmps14
    go_wp2_with (first | (go_at_call 46; refine (specMemFault_any _ _ HS.out).mono ?_; rintro e u1 ⟨rfl, hu1⟩; rw [hu1, hc.out]; clear hu1))
    exact bodyPost_ret (v := twA t00) (by simp [results, Try.results14, go_sem, twA, t00]) rfl ⟨rfl, (Below.refl _ _).alloc (Nat.le_refl _) _⟩
  by_cases h5 : 262144 ≤ va
  · have hd : decide (262144 ≤ va) = true := decide_eq_true h5
    clear h5
    go_enter Try.func14, Try.ntmps14
    go_wp2_with (first | (go_at_call 46; refine (specMemFault_any _ _ HS.out).mono ?_; rintro e u1 ⟨rfl, hu1⟩; rw [hu1, hc.out]; clear hu1))
    exact bodyPost_ret (v := twA t00) (by simp [results, Try.results14, go_sem, twA, t00]) rfl ⟨rfl, (Below.refl _ _).alloc (Nat.le_refl _) _⟩
  · have hd : decide (262144 ≤ va) = false := decide_eq_false h5
    have H5 : Hid _ := h5
    have HA : Hid _ := l03Acc_no acc (w.alloc (.cells #[.int .i64 0, .int .i64 0, .int .i64 0, .int .i64 0, .string ⟨#[]⟩] 30)) (fun h6 => H2.out ⟨by omega, by omega, by omega, by omega, by omega, by omega, h6.1, h6.2⟩)
    clear h5
    go_enter Try.func14, Try.ntmps14
    go_wp2_with (first | (go_at_call 46; refine (specMemFault_any _ _ HS.out).mono ?_; rintro e u1 ⟨rfl, hu1⟩; rw [hu1, hc.out]; clear hu1) | (go_at_call 47; refine Calls.mono HA.out ?_; rintro e u2 ⟨rfl, hu2⟩; rw [hu2]; clear hu2))
    exact bodyPost_ret (v := twA t00) (by simp [results, Try.results14, go_sem, twA, t00]) rfl ⟨rfl, (Below.refl _ _).alloc (Nat.le_refl _) _⟩

set_option maxRecDepth 100000 in
set_option maxHeartbeats 4000000 in
theorem implTwo_no (s : ByteArray) (host root va acc : Int) (user : Bool) (w : World) (hs : s.size ≤ 1099511627776) (h : ¬ (memOk s = true ∧ 0 ≤ host ∧ host ≤ 255 ∧ 0 ≤ root ∧ root ≤ 255 ∧ 0 ≤ va ∧ va ≤ 262143 ∧ 1 ≤ acc ∧ acc ≤ 3)) :
    Calls Try.prog 15 #[.string s, .int .i64 host, .int .i64 root, .int .i64 va, .int .i64 acc, .bool user] w fun e w' => e = .returned (twA t00) ∧ Below w.heap.size w w' := by
  have HS : Hid _ := hs
  have hRh := fun w => isRoot_any host w
  have hRt := fun w => isRoot_any root w
  have hVt := fun w => isVirtual_any va w
  by_cases h1 : memOk s = false
  · have hc : Hid _ := memC_no h1
    clear h h1 hs
    go_enter Try.func15, Try.ntmps15
    go_wp2_with (first | (go_at_call 51; refine (implMemFault_any _ _ HS.out).mono ?_; rintro e u1 ⟨rfl, hu1⟩; rw [hu1, hc.out]; clear hu1))
    exact bodyPost_ret (v := twA t00) (by simp [results, Try.results15, go_sem, twA, t00]) rfl ⟨rfl, (Below.refl _ _).alloc (Nat.le_refl _) _⟩
  have h1b : memOk s = true := by simpa using h1
  have hc : Hid _ := memC_ok h1b
  have H2 : Hid (¬ (0 ≤ host ∧ host ≤ 255 ∧ 0 ≤ root ∧ root ≤ 255 ∧ 0 ≤ va ∧ va ≤ 262143 ∧ 1 ≤ acc ∧ acc ≤ 3)) := fun h3 => h ⟨h1b, h3⟩
  clear h h1 h1b hs
  by_cases h2 : 0 ≤ host ∧ host ≤ 255
  case neg =>
    have e2 : (decide (0 ≤ host) && decide (host ≤ 255)) = false := by simp; omega
    rw [e2] at hRh
    clear e2 h2
    go_enter Try.func15, Try.ntmps15
    go_wp2_with (first | (go_at_call 51; refine (implMemFault_any _ _ HS.out).mono ?_; rintro e u1 ⟨rfl, hu1⟩; rw [hu1, hc.out]; clear hu1) | (go_at_call 52; refine Calls.mono (hRh _) ?_; rintro e u2 ⟨rfl, hu2⟩; rw [hu2]; clear hu2 hRh))
    exact bodyPost_ret (v := twA t00) (by simp [results, Try.results15, go_sem, twA, t00]) rfl ⟨rfl, (Below.refl _ _).alloc (Nat.le_refl _) _⟩
  have e2 : (decide (0 ≤ host) && decide (host ≤ 255)) = true := by simp; omega
  rw [e2] at hRh
  by_cases h3 : 0 ≤ root ∧ root ≤ 255
  case neg =>
    have e3 : (decide (0 ≤ root) && decide (root ≤ 255)) = false := by simp; omega
    rw [e3] at hRt
    clear e2 h2 e3 h3
    go_enter Try.func15, Try.ntmps15
    go_wp2_with (first | (go_at_call 51; refine (implMemFault_any _ _ HS.out).mono ?_; rintro e u1 ⟨rfl, hu1⟩; rw [hu1, hc.out]; clear hu1) | (go_at_call 52; refine Calls.mono (hRh _) ?_; rintro e u2 ⟨rfl, hu2⟩; rw [hu2]; clear hu2 hRh) | (go_at_call 52; refine Calls.mono (hRt _) ?_; rintro e u2 ⟨rfl, hu2⟩; rw [hu2]; clear hu2))
    exact bodyPost_ret (v := twA t00) (by simp [results, Try.results15, go_sem, twA, t00]) rfl ⟨rfl, (Below.refl _ _).alloc (Nat.le_refl _) _⟩
  have e3 : (decide (0 ≤ root) && decide (root ≤ 255)) = true := by simp; omega
  rw [e3] at hRt
  by_cases h4 : 0 ≤ va ∧ va ≤ 262143
  case neg =>
    have e4 : (decide (0 ≤ va) && decide (va < 262144)) = false := by simp; omega
    rw [e4] at hVt
    clear e2 h2 e3 h3 h4 e4
    go_enter Try.func15, Try.ntmps15
    go_wp2_with (first | (go_at_call 51; refine (implMemFault_any _ _ HS.out).mono ?_; rintro e u1 ⟨rfl, hu1⟩; rw [hu1, hc.out]; clear hu1) | (go_at_call 52; refine Calls.mono (hRh _) ?_; rintro e u2 ⟨rfl, hu2⟩; rw [hu2]; clear hu2 hRh) | (go_at_call 52; refine Calls.mono (hRt _) ?_; rintro e u2 ⟨rfl, hu2⟩; rw [hu2]; clear hu2) | (go_at_call 53; refine Calls.mono (hVt _) ?_; rintro e u2 ⟨rfl, hu2⟩; rw [hu2]; clear hu2))
    exact bodyPost_ret (v := twA t00) (by simp [results, Try.results15, go_sem, twA, t00]) rfl ⟨rfl, (Below.refl _ _).alloc (Nat.le_refl _) _⟩
  have e4 : (decide (0 ≤ va) && decide (va < 262144)) = true := by simp; omega
  rw [e4] at hVt
  have HA : Hid _ := isAccess_no acc (w.alloc (.cells #[.int .i64 0, .int .i64 0, .int .i64 0, .int .i64 0, .string ⟨#[]⟩] 30)) (fun h6 => H2.out ⟨by omega, by omega, by omega, by omega, by omega, by omega, h6.1, h6.2⟩)
  clear e2 h2 e3 h3 h4 e4
  go_enter Try.func15, Try.ntmps15
  go_wp2_with (first | (go_at_call 51; refine (implMemFault_any _ _ HS.out).mono ?_; rintro e u1 ⟨rfl, hu1⟩; rw [hu1, hc.out]; clear hu1) | (go_at_call 52; refine Calls.mono (hRh _) ?_; rintro e u2 ⟨rfl, hu2⟩; rw [hu2]; clear hu2 hRh) | (go_at_call 52; refine Calls.mono (hRt _) ?_; rintro e u2 ⟨rfl, hu2⟩; rw [hu2]; clear hu2) | (go_at_call 53; refine Calls.mono (hVt _) ?_; rintro e u2 ⟨rfl, hu2⟩; rw [hu2]; clear hu2) | (go_at_call 54; refine Calls.mono HA.out ?_; rintro e u2 ⟨rfl, hu2⟩; rw [hu2]; clear hu2))
  exact bodyPost_ret (v := twA t00) (by simp [results, Try.results15, go_sem, twA, t00]) rfl ⟨rfl, (Below.refl _ _).alloc (Nat.le_refl _) _⟩

/-- What both sides answer. -/
def AnsT (f : Nat) (args : Array Value) (r : TV) : Prop := ∀ w : World, Calls Try.prog f args w fun e w' => e = .returned (twA r) ∧ Below w.heap.size w w'
set_option maxRecDepth 100000 in
set_option maxHeartbeats 4000000 in
theorem eqTwo_ok (r : TV) (w : World) : Calls Try.prog 16 #[twA r, twA r] w fun e w' => e = .returned (.bool true) ∧ Below w.heap.size w w' := by
  unfold twA
  go_enter Try.func16, Try.ntmps16
  go_wp2
  go_ret
  exact ⟨rfl, ((Below.refl _ _).alloc (Nat.le_refl _) _).alloc (by simp) _⟩
set_option maxRecDepth 100000 in
set_option maxHeartbeats 4000000 in
theorem lawT (s : ByteArray) (host root va acc : Int) (user : Bool) (r : TV) (w : World) (hs : s.size ≤ 1048576)
    (hS : AnsT 14 #[.string s, .int .i64 host, .int .i64 root, .int .i64 va, .int .i64 acc, .bool user] r) (hI : AnsT 15 #[.string s, .int .i64 host, .int .i64 root, .int .i64 va, .int .i64 acc, .bool user] r) :
    Calls Try.prog 4 #[.string s, .int .i64 host, .int .i64 root, .int .i64 va, .int .i64 acc, .bool user] w fun e w' => e = .returned (.bool true) ∧ Below w.heap.size w w' := by
  have HS : Hid (AnsT 14 #[.string s, .int .i64 host, .int .i64 root, .int .i64 va, .int .i64 acc, .bool user] r) := hS
  have HI : Hid (AnsT 15 #[.string s, .int .i64 host, .int .i64 root, .int .i64 va, .int .i64 acc, .bool user] r) := hI
  have hd : decide (1048576 < (s.size : Int)) = false := by
    apply decide_eq_false
    omega
  have HE : Hid _ := fun w' => eqTwo_ok r w'
  unfold twA at HE
  clear hS hI hs
  go_enter Try.func4, Try.ntmps4
  go_wp2_with (first
    | (go_at_call 14; refine Calls.mono (HS.out _) ?_; rintro e u1 ⟨rfl, hb1⟩; have HB1 : Hid (Below w.heap.size w u1) := hb1; clear hb1; simp only [twA])
    | (go_at_call 15; refine Calls.mono (HI.out _) ?_; rintro e u2 ⟨rfl, hb2⟩; have hx1 := (hb2.block u1.heap.size (by simp)).trans (heap_new _ _); obtain ⟨d0, d1, d2, d3, d4, df⟩ := cel5 hx1; have hl12 : u1.heap.size < u2.heap.size := (Array.getElem?_eq_some_iff.1 hx1).1; have HB2 : Hid (Below w.heap.size w u2) := (HB1.out.alloc HB1.out.size _).trans (hb2.mono (by simp; have := HB1.out.size; omega)); clear hb2 hx1; simp only [twA])
    | (go_at_call 16; refine Calls.mono (HE.out _) ?_; rintro e u3 ⟨rfl, hu3⟩; have HB3 : Hid (Below w.heap.size w u3) := (HB2.out.alloc HB2.out.size _).trans (hu3.mono (by simp; have := HB2.out.size; omega)); clear hu3))
  go_ret
  exact ⟨rfl, HB3.out⟩
end Go.Proofs.Ytjaelkagacmpkaa
