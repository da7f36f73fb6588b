import Derived.Test.YtggciigjhlbhhaaQu2
import Derived.Test.YtggciigjhlbhhaaDe2
import Derived.Test.YtggciigjhlbhhaaFlg
namespace Go.Proofs.Ytggciigjhlbhhaa
open Go.ChangeShapes Go.WideShapes Go.ChangeAt Go.RowKit

theorem qF_no {s : ByteArray} {q : QV} (h : qOk s q = false) : qF s q = 1 := by unfold qF; rw [h]; rfl
theorem qF_ok {s : ByteArray} {q : QV} (h : qOk s q = true) : qF s q = 0 := by unfold qF; rw [h]; rfl
theorem qOk_b {s : ByteArray} {q : QV} (h : qOk s q = true) : memOk s = true ∧ szB q.size = true ∧ (0 ≤ q.taken ∧ q.taken ≤ 65535) ∧ (0 ≤ q.given ∧ q.given ≤ 65535) ∧ (q.desc % 4 = 0 ∧ 0 ≤ q.desc ∧ q.desc + q.size * 16 ≤ (s.size : Int)) ∧ (q.avail % 4 = 0 ∧ 0 ≤ q.avail ∧ q.avail + (8 + q.size * 4) ≤ (s.size : Int)) ∧ (q.used % 4 = 0 ∧ 0 ≤ q.used ∧ q.used + (8 + q.size * 8) ≤ (s.size : Int)) := by
  simp [qOk, tbB, inW, cnB] at h
  obtain ⟨⟨⟨⟨⟨⟨h1, h2⟩, h3⟩, h4⟩, h5, h5'⟩, h6, h6'⟩, h7, h7'⟩ := h
  exact ⟨h1, h2, h3, h4, ⟨h5, h5'.1, by omega⟩, ⟨h6, h6'.1, by omega⟩, ⟨h7, h7'.1, by omega⟩⟩
/-- The code that a call which takes a queue tells. -/
def qkC (s : ByteArray) (q : QV) : Int := if 65536 < s.size then 2 else qF s q
theorem queueCode_any (s : ByteArray) (q : QV) (w : World) (hs : s.size ≤ 1048576) : Calls Try.prog 23 #[.string s, qA q] w fun e w' => e = .returned (.int .i64 (qkC s q)) ∧ Below w.heap.size w w' := by
  have HT : Hid _ := fun u => tooLong_any s u
  have HF : Hid _ := fun u => implQueueFault_any s q u hs
  obtain ⟨sz, d, a, us, tk, gv⟩ := q
  unfold qA at HF ⊢
  by_cases h : 65536 < s.size
  · have hd : decide (65536 < (s.size : Int)) = true := decide_eq_true (by omega)
    rw [hd] at HT
    have E : Hid (qkC s ⟨sz, d, a, us, tk, gv⟩ = 2) := by
      show qkC _ _ = _
      unfold qkC
      rw [if_pos h]
    clear h hs hd
    go_enter Try.func23, Try.ntmps23
    go_wp2_with (go_at_call 47; refine Calls.mono (HT.out _) ?_; rintro e u1 ⟨rfl, hu1⟩; rw [hu1]; clear hu1)
    go_ret
    exact ⟨ret_int E.out.symm, bx1 _ _⟩
  · have hd : decide (65536 < (s.size : Int)) = false := decide_eq_false (by omega)
    rw [hd] at HT
    have E : Hid (qkC s ⟨sz, d, a, us, tk, gv⟩ = qF s ⟨sz, d, a, us, tk, gv⟩) := by
      show qkC _ _ = _
      unfold qkC
      rw [if_neg h]
    clear h hs hd
    have HB : Hid (Below w.heap.size w (w.alloc (.cells #[.int .i64 sz, .int .i64 d, .int .i64 a, .int .i64 us, .int .i64 tk, .int .i64 gv] 24))) := bx1 _ _
    go_enter Try.func23, Try.ntmps23
    go_wp2_with (first | (go_at_call 47; refine Calls.mono (HT.out _) ?_; rintro e u1 ⟨rfl, hu1⟩; rw [hu1]; clear hu1) | (go_at_call 48; refine Calls.mono (HF.out _) ?_; rintro e u2 ⟨rfl, hb⟩; have HB2 : Hid (Below w.heap.size w u2) := HB.out.trans (hb.mono HB.out.size); clear hb))
    go_ret
    exact ⟨ret_int E.out.symm, HB2.out⟩
/-- A number of a descriptor. -/
def hsB (n x : Int) : Bool := decide (0 ≤ x) && decide (x < n)
theorem has_any (q : QV) (x : Int) (w : World) : Calls Try.prog 24 #[qA q, .int .i64 x] w fun e w' => e = .returned (.bool (hsB q.size x)) ∧ Below w.heap.size w w' := by
  obtain ⟨sz, d, a, us, tk, gv⟩ := q
  unfold qA hsB
  by_cases h : 0 ≤ x
  · have E : Hid (decide (x < sz) = (decide (0 ≤ x) && decide (x < sz))) := by
      show _ = (decide (0 ≤ x) && decide (x < sz))
      rw [decide_eq_true h, Bool.true_and]
    go_enter Try.func24, Try.ntmps24
    go_wp2_with fail
    go_ret
    exact ⟨ret_bool E.out, bx1 _ _⟩
  · have E : Hid (false = (decide (0 ≤ x) && decide (x < sz))) := by
      show _ = (decide (0 ≤ x) && decide (x < sz))
      rw [decide_eq_false h, Bool.false_and]
    go_enter Try.func24, Try.ntmps24
    go_wp2_with fail
    go_ret
    exact ⟨ret_bool E.out, bx1 _ _⟩
theorem wd_eq2 (a : Int) : (a % 4294967296 == a) = wdB a := by
  rw [← wd_eq]
  exact Bool.eq_iff_iff.2 (by simp; exact eq_comm)
theorem isWordI_any (x : Int) (w : World) : Calls Try.prog 25 #[.int .i64 x] w fun e w' => e = .returned (.bool (wdB x)) ∧ w' = w := by
  have E : Hid _ := wd_eq2 x
  go_enter Try.func25, Try.ntmps25
  go_wp2_with (go_at_call 49; refine Calls.mono (implWord_any _ _) ?_; rintro e u1 ⟨rfl, hu1⟩; rw [hu1]; clear hu1)
  go_ret
  exact ⟨ret_bool E.out, rfl⟩
theorem nextCount_any (x : Nat) (w : World) (hx : x ≤ 4294967296) : Calls Try.prog 52 #[.int .i64 x] w fun e w' => e = .returned (.int .i64 (((x + 1) % 65536 : Nat) : Int)) ∧ w' = w := by
  have E : Hid (((x : Int) + 1) % 65536 = (((x + 1) % 65536 : Nat) : Int)) := (show ((x : Int) + 1) % 65536 = (((x + 1) % 65536 : Nat) : Int) by omega)
  go_enter Try.func52, Try.ntmps52
  go_wp2_with fail
  go_ret
  exact ⟨ret_int E.out, rfl⟩
set_option maxRecDepth 100000 in
set_option maxHeartbeats 4000000 in
theorem usedPlace_any (S U C : Nat) (d a t g : Int) (w : World) (hU : U ≤ 65536) (hS : 1 ≤ S) (hS2 : S ≤ 16) (hC : C ≤ 4294967296) :
    Calls Try.prog 50 #[.agg #[.int .i64 S, .int .i64 d, .int .i64 a, .int .i64 U, .int .i64 t, .int .i64 g], .int .i64 C] w fun e w' => e = .returned (.int .i64 ((U + 8 + C % S * 8 : Nat) : Int)) ∧ Below w.heap.size w w' := by
  have HL : Hid _ := (LBx.new w #[.int .i64 S, .int .i64 d, .int .i64 a, .int .i64 U, .int .i64 t, .int .i64 g] 24)
  have e1 : (C : Int).tmod (S : Int) = ((C % S : Nat) : Int) := by
    rw [Int.tmod_eq_emod_of_nonneg (by omega)]
    simp
  have h0 : ¬ (S : Int) = 0 := by omega
  have hm : C % S < S := Nat.mod_lt _ hS
  have E : Hid ((U : Int) + 8 + ((C % S : Nat) : Int) * 8 = ((U + 8 + C % S * 8 : Nat) : Int)) := by
    show (U : Int) + 8 + ((C % S : Nat) : Int) * 8 = _
    omega
  generalize C % S = M at *
  go_enter Try.func50, Try.ntmps50
  go_wp2_with fail
  generalize ((w.alloc (.cells #[.int .i64 S, .int .i64 d, .int .i64 a, .int .i64 U, .int .i64 t, .int .i64 g] 24))) = V at *
  have c0 := HL.out.cel 0 _ rfl
  have c3 := HL.out.cel 3 _ rfl
  go_quiet (fail)
  go_wp2_with fail
  go_ret
  exact ⟨ret_int E.out, bdn HL.out.bel _⟩
/-- Only two blocks are others. -/
structure Fr2 (w w' : World) (b m : Nat) : Prop where
  os : w'.os = w.os
  tape : w'.tape = w.tape
  output : w'.output = w.output
  size : w.heap.size ≤ w'.heap.size
  block : ∀ k, k < w.heap.size → k ≠ b → k ≠ m → w'.heap[k]? = w.heap[k]?
theorem Fr2.refl (w : World) (b m : Nat) : Fr2 w w b m := ⟨rfl, rfl, rfl, Nat.le_refl _, fun _ _ _ _ => rfl⟩
theorem Fr2.below {w u v : World} {b m : Nat} (h : Fr2 w u b m) (hb : Below u.heap.size u v) : Fr2 w v b m :=
  ⟨hb.os.trans h.os, hb.tape.trans h.tape, hb.output.trans h.output, Nat.le_trans h.size hb.size, fun k hk h1 h2 => (hb.block k (Nat.lt_of_lt_of_le hk h.size)).trans (h.block k hk h1 h2)⟩
theorem Fr2.growM {w u v : World} {b m : Nat} (h : Fr2 w u b m) (hb : u.grownBy v (some m)) : Fr2 w v b m :=
  ⟨hb.os.trans h.os, hb.tape.trans h.tape, hb.output.trans h.output, Nat.le_trans h.size hb.size, fun k hk h1 h2 => (hb.block k (Nat.lt_of_lt_of_le hk h.size) (by simp; omega)).trans (h.block k hk h1 h2)⟩
theorem Fr2.growB {w u v : World} {b m : Nat} (h : Fr2 w u b m) (hb : u.grownBy v (some b)) : Fr2 w v b m :=
  ⟨hb.os.trans h.os, hb.tape.trans h.tape, hb.output.trans h.output, Nat.le_trans h.size hb.size, fun k hk h1 h2 => (hb.block k (Nat.lt_of_lt_of_le hk h.size) (by simp; omega)).trans (h.block k hk h1 h2)⟩
end Go.Proofs.Ytggciigjhlbhhaa
