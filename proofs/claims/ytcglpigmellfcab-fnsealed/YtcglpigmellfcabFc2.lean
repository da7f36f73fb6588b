import Derived.Test.YtcglpigmellfcabFc1
import Derived.Test.YtcglpigmellfcabSrc3
import Derived.Test.YtcglpigmellfcabCode
import Derived.Test.YtcglpigmellfcabHl
import Derived.Test.YtcglpigmellfcabTB
namespace Go.Proofs.Ytcglpigmellfcab
open Go.ChangeShapes Go.WideShapes Go.ChangeAt Go.RowKit

theorem CodeAt.below {w w' : World} {a : Option Addr} {len : Nat} (h : CodeAt w w.heap.size a len) (hb : Below w.heap.size w w') : CodeAt w' w'.heap.size a len := by
  rcases h with h | ⟨cb, co, h1, h2, h3⟩
  · exact .inl h
  · exact .inr ⟨cb, co, h1, Nat.lt_of_lt_of_le h2 hb.size, fun i hi => by
      obtain ⟨x, x0, x1, hx⟩ := h3 i hi
      exact ⟨x, x0, x1, by rw [(bcell hb).1 cb _ h2]; exact hx⟩⟩
set_option maxHeartbeats 1000000 in
theorem src_key (b : Nat) (a : Option Addr) (len cap : Nat) (w : World) (h : SrcOk w b a len cap) :
    Calls Try.prog 72 #[.pointer (some ⟨b, 0, none⟩)] w fun e w' => ∃ s : ByteArray, e = .returned (.string s) ∧ s.size ≤ 4097 ∧ SrcOk w' b a len cap ∧ w.grownBy w' (some b) := by
  go_enter Try.func72, Try.ntmps72
  go_wp2_with fail
  refine (src_n b a len cap 8 w h (by omega)).mono ?_
  rintro e w1 ⟨r1, rfl, p1, q1, hs1, hg1⟩
  obtain ⟨R1, rfl⟩ := Int.eq_ofNat_of_zero_le p1
  have hR1 : R1 < 8 := by omega
  clear p1 q1
  go_wp2_with fail
  refine (src_bytes b a len cap R1 w1 hs1 (by omega)).mono ?_
  rintro e w2 ⟨t, rfl, ht, hs2, hg2⟩
  have HT : t.size ≤ 4097 := by omega
  have G2 : Hid (w.grownBy w2 (some b)) := Lib.grownBy_trans hg1 hg2
  clear ht hg1 hg2 hs1 h hR1
  go_wp2_with fail
  refine (src_one b a len cap 30 w2 hs2 (by omega)).mono ?_
  rintro e w3 ⟨o3, rfl, hs3, hg3⟩
  have G3 : Hid (w.grownBy w3 (some b)) := Lib.grownBy_trans G2.out hg3
  clear hg3 hs2 G2
  cases o3
  · go_wp2_with fail
    refine (src_one b a len cap 30 _ hs3 (by omega)).mono ?_
    rintro e w4 ⟨o4, rfl, hs4, hg4⟩
    have G4 : Hid (w.grownBy w4 (some b)) := Lib.grownBy_trans G3.out hg4
    clear hg4 hs3 G3
    cases o4
    · go_wp2
      go_ret
      exact ⟨_, rfl, by omega, hs4, G4.out⟩
    · go_wp2_with fail
      refine (src_n b a len cap 2 w4 hs4 (by omega)).mono ?_
      rintro e w5 ⟨r5, rfl, p5, q5, hs5, hg5⟩
      obtain ⟨R5, rfl⟩ := Int.eq_ofNat_of_zero_le p5
      have hR5 : R5 < 2 := by omega
      clear p5 q5
      go_wp2_with fail
      rw [show (4096 + (R5 : Int)) = ((4096 + R5 : Nat) : Int) from by omega]
      refine (src_zeros _ (4096 + R5) w5 (by omega)).mono ?_
      rintro e w6 ⟨rfl, hg6⟩
      have hz6 := zsz (4096 + R5)
      generalize (⟨(zer (4096 + R5)).toArray⟩ : ByteArray) = z6 at *
      have HZ6 : z6.size ≤ 4097 := by omega
      clear hz6
      go_wp2
      go_ret
      exact ⟨_, rfl, HZ6, hs5.far hg6, gnone (Lib.grownBy_trans G4.out hg5) hg6⟩
  · go_wp2_with fail
    refine (src_n b a len cap 3 w3 hs3 (by omega)).mono ?_
    rintro e w6 ⟨r6, rfl, p6, q6, hs6, hg6⟩
    obtain ⟨R6, rfl⟩ := Int.eq_ofNat_of_zero_le p6
    have hR6 : R6 < 3 := by omega
    clear p6 q6
    go_wp2_with fail
    rw [show (4031 + (R6 : Int)) = ((4031 + R6 : Nat) : Int) from by omega]
    refine (src_zeros _ (4031 + R6) w6 (by omega)).mono ?_
    rintro e w7 ⟨rfl, hg7⟩
    have hs7 := hs6.far hg7
    have G7 : Hid (w.grownBy w7 (some b)) := gnone (Lib.grownBy_trans G3.out hg6) hg7
    have hz7 := zsz (4031 + R6)
    generalize (⟨(zer (4031 + R6)).toArray⟩ : ByteArray) = z7 at *
    have HZ7 : z7.size ≤ 4097 := by omega
    clear hz7 hg6 hg7 hs6 hs3 G3
    go_wp2_with fail
    refine (src_one b a len cap 30 _ hs7 (by omega)).mono ?_
    rintro e w4 ⟨o4, rfl, hs4, hg4⟩
    have G4 : Hid (w.grownBy w4 (some b)) := Lib.grownBy_trans G7.out hg4
    clear hg4 hs7 G7
    cases o4
    · go_wp2
      go_ret
      exact ⟨_, rfl, by omega, hs4, G4.out⟩
    · go_wp2_with fail
      refine (src_n b a len cap 2 w4 hs4 (by omega)).mono ?_
      rintro e w5 ⟨r5, rfl, p5, q5, hs5, hg5⟩
      obtain ⟨R5, rfl⟩ := Int.eq_ofNat_of_zero_le p5
      have hR5 : R5 < 2 := by omega
      clear p5 q5
      go_wp2_with fail
      rw [show (4096 + (R5 : Int)) = ((4096 + R5 : Nat) : Int) from by omega]
      refine (src_zeros _ (4096 + R5) w5 (by omega)).mono ?_
      rintro e w6 ⟨rfl, hg6⟩
      have hz6 := zsz (4096 + R5)
      generalize (⟨(zer (4096 + R5)).toArray⟩ : ByteArray) = z6 at *
      have HZ6 : z6.size ≤ 4097 := by omega
      clear hz6
      go_wp2
      go_ret
      exact ⟨_, rfl, HZ6, hs5.far hg6, gnone (Lib.grownBy_trans G4.out hg5) hg6⟩
end Go.Proofs.Ytcglpigmellfcab
