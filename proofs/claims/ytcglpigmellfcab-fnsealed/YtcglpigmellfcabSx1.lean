import Derived.Test.YtcglpigmellfcabFq3
import Derived.Test.YtcglpigmellfcabLG
import Derived.Laws.DeepStrings4
import Derived.BigQuiet
namespace Go.Proofs.Ytcglpigmellfcab
open Go.ChangeShapes Go.WideShapes Go.ChangeAt Go.RowKit

theorem conv1s (b : UInt8) (x : Int) (hx : x = b.toNat) (w : World) (B : Nat) (h : w.cell? ⟨B, 0, none⟩ = some (.int .u8 x)) : Sem.run Try.prog (convert 22 9 (.slice (some ⟨B, 0, none⟩) 1 1)) w = .ok (.string ⟨#[b]⟩) w := by
  subst hx
  rw [run_convert_bytes_arg w 22 5 Try.underlying22 Try.underlying5 B 0 1 1 [(b.toNat : Int)] rfl ?_ 9 Try.underlying9]
  · exact congrArg (fun x => Result.ok (Value.string x) w) (nums8 [b])
  · intro i hi
    obtain rfl : i = 0 := by omega
    simpa using h

theorem sz1y (y : UInt8) : (⟨#[y]⟩ : ByteArray).size = 1 := rfl
theorem gdrew (w : World) (n : Nat) : w.grownBy (w.drewN n) none := ⟨rfl, rfl, rfl, Nat.le_refl _, fun _ _ _ => rfl⟩
theorem bt_u8 (s : ByteArray) (k : Nat) (h : k < s.size) : bt s k = (s[k].toNat : Int) := (bt_eq s k h).symm
set_option maxRecDepth 100000 in
set_option maxHeartbeats 4000000 in
theorem src_spoil (b : Nat) (a : Option Addr) (len cap : Nat) (t : ByteArray) (w : World) (h : SrcOk w b a len cap) (ht : t.size ≤ 65536) :
    Calls Try.prog 82 #[.pointer (some ⟨b, 0, none⟩), .string t] w fun e w' => ∃ s : ByteArray, e = .returned (.string s) ∧ s.size ≤ t.size + 1 ∧ SrcOk w' b a len cap ∧ w.grownBy w' (some b) := by
  go_enter Try.func82, Try.ntmps82
  go_wp2_with fail
  refine (src_n b a len cap _ w h (by omega)).mono ?_
  rintro e w1 ⟨r1, rfl, p1, q1, hs1, hg1⟩
  obtain ⟨K, rfl⟩ := Int.eq_ofNat_of_zero_le p1
  have hK : K ≤ t.size := by omega
  clear p1 q1 h
  go_wp2_with fail
  refine (src_n b a len cap 14 w1 hs1 (by omega)).mono ?_
  rintro e w2 ⟨r2, rfl, p2, q2, hs2, hg2⟩
  obtain ⟨R, rfl⟩ := Int.eq_ofNat_of_zero_le p2
  have hR : R < 14 := by omega
  have hix := idx_str ⟨#[32, 10, 48, 97, 45, 114, 44, 0, 255, 58, 46, 64, 34, 49]⟩ R hR
  have hbu := bt_u8 ⟨#[32, 10, 48, 97, 45, 114, 44, 0, 255, 58, 46, 64, 34, 49]⟩ R hR
  generalize bt ⟨#[32, 10, 48, 97, 45, 114, 44, 0, 255, 58, 46, 64, 34, 49]⟩ R = x at *
  generalize (⟨#[32, 10, 48, 97, 45, 114, 44, 0, 255, 58, 46, 64, 34, 49]⟩ : ByteArray)[R] = y at *
  have hcv := fun (w : World) (B : Nat) h => conv1s y x hbu w B h
  have G2 : Hid (w.grownBy w2 (some b)) := Lib.grownBy_trans hg1 hg2
  have HS2 : Hid (SrcOk w2 b a len cap) := hs2
  clear p2 q2 hs1 hg1 hg2 hs2
  have hi0 : (0 : Int) ≤ (R : Int) := by omega
  have hi1 : (R : Int) < 14 := by omega
  have e13 : ∀ w : World, Sem.run Try.prog (Instr.index 9 (.string ⟨#[32, 10, 48, 97, 45, 114, 44, 0, 255, 58, 46, 64, 34, 49]⟩) (.int .i64 (R : Int))) w = .ok (.int .u8 x) w := fun w => hix w R rfl
  have hcv2 : ∀ w : World, Sem.run Try.prog (convert 22 9 (.slice (some ⟨w.heap.size, 0, none⟩) 1 1)) (w.alloc (.cells #[.int .u8 x] 5)) = .ok (.string ⟨#[y]⟩) (w.alloc (.cells #[.int .u8 x] 5)) := fun w => hcv _ _ ((LG.new w #[.int .u8 x] 5).cel 0 _ rfl)
  have hc2 := hcv2 w2
  have HS3 : Hid (SrcOk (w2.alloc (.cells #[.int .u8 x] 5)) b a len cap) := HS2.out.far (World.grownBy_alloc w2 _ none)
  have G3 : Hid (w.grownBy (w2.alloc (.cells #[.int .u8 x] 5)) (some b)) := gnone G2.out (World.grownBy_alloc w2 _ none)
  clear hix hcv hcv2 hbu G2 HS2
  have k0 : (0 : Int) ≤ (K : Int) := by omega
  have k1 : (K : Int) ≤ (t.size : Int) := by omega
  cases hkt : ((K : Int) == (t.size : Int))
  · have hlt : K + 1 ≤ t.size := by
      have : (K : Int) ≠ (t.size : Int) := by simpa using hkt
      omega
    have k2 : (K : Int) + 1 ≤ (t.size : Int) := by omega
    go_wp2_with fail
    refine (src_one b a len cap 3 _ HS3.out (by omega)).mono ?_
    rintro e w3 ⟨o3, rfl, hs3, hg3⟩
    have HS4 : Hid (SrcOk w3 b a len cap) := hs3
    have G4 : Hid (w.grownBy w3 (some b)) := Lib.grownBy_trans G3.out hg3
    clear hs3 hg3 HS3 G3
    cases o3
    · go_wp2_with fail
      refine (src_one b a len cap 2 _ HS4.out (by omega)).mono ?_
      rintro e w4 ⟨o4, rfl, hs4, hg4⟩
      have HS5 : Hid (SrcOk w4 b a len cap) := hs4
      have G5 : Hid (w.grownBy w4 (some b)) := Lib.grownBy_trans G4.out hg4
      clear hs4 hg4 HS4 G4
      cases o4
      · skip
        go_wp2
        go_quiet (fail)
        go_wp2
        go_ret
        exact ⟨_, rfl, by rw [ByteArray.size_append]; first | (rw [ByteArray.size_append, sz1y, ByteArray.size_extract, ByteArray.size_extract]; omega) | (rw [ByteArray.size_extract, ByteArray.size_extract]; omega), HS5.out.far (gdrew _ _), gnone G5.out (gdrew _ _)⟩
      · skip
        go_wp2
        go_quiet (fail)
        go_wp2
        go_ret
        exact ⟨_, rfl, by rw [ByteArray.size_append]; first | (rw [ByteArray.size_append, sz1y, ByteArray.size_extract, ByteArray.size_extract]; omega) | (rw [ByteArray.size_extract, ByteArray.size_extract]; omega), HS5.out.far (gdrew _ _), gnone G5.out (gdrew _ _)⟩
    · skip
      go_wp2
      go_quiet (fail)
      go_wp2
      go_ret
      exact ⟨_, rfl, by rw [ByteArray.size_append]; first | (rw [ByteArray.size_append, sz1y, ByteArray.size_extract, ByteArray.size_extract]; omega) | (rw [ByteArray.size_extract, ByteArray.size_extract]; omega), HS4.out.far (gdrew _ _), gnone G4.out (gdrew _ _)⟩
  · skip
    go_wp2
    go_quiet (fail)
    go_wp2
    go_ret
    exact ⟨_, rfl, by rw [ByteArray.size_append]; first | (rw [ByteArray.size_append, sz1y, ByteArray.size_extract, ByteArray.size_extract]; omega) | (rw [ByteArray.size_extract, ByteArray.size_extract]; omega), HS3.out.far (gdrew _ _), gnone G3.out (gdrew _ _)⟩
theorem Orow.grow {w w' : World} {B b : Nat} {v : Value} {zs : List Int} (h : Orow w B v zs) (hg : w.grownBy w' (some b)) (hb : b < B) : Orow w' B v zs := by
  rcases h with h | ⟨g, o, cap, cur, hv, hB, hc, hg2, ha⟩
  · exact .inl h
  · exact .inr ⟨g, o, cap, cur, hv, hB, hc, (hg.block _ (Array.getElem?_eq_some_iff.1 hg2).1 (by simp; omega)).trans hg2, ha⟩
theorem pow9 : ∀ n : Nat, n ≤ 9 → 1 ≤ (2 : Int) ^ n ∧ (2 : Int) ^ n ≤ 512 := by decide
set_option maxRecDepth 100000 in
set_option maxHeartbeats 4000000 in
theorem drawSeal_any (a : Option Addr) (len cap : Nat) (w : World) (hcode : CodeAt w w.heap.size a len) (hl : len ≤ 1048576) :
    Calls Try.prog 31 #[.slice a len cap] w fun e w' => ∃ (r : ByteArray) (v : Value) (zs : List Int) (m : Int) (d : ByteArray), e = .returned (.tuple #[.string r, v, .int .i64 m, .string d]) ∧ r.size ≤ 4097 ∧ d.size ≤ 4097 ∧ Orow w' (w.heap.size + 1) v zs ∧ zs.length ≤ 9 ∧ Below w.heap.size w w' := by
  go_enter Try.func31, Try.ntmps31
  go_wp2_with fail
  refine (l01Source_any a len cap w hcode hl).mono ?_
  rintro e w1 ⟨rfl, hs1, hb1⟩
  have HB1 : Hid (Below w.heap.size w w1) := hb1
  clear hcode hb1
  go_wp2_with fail
  refine (src_regs w.heap.size a len cap w1 hs1).mono ?_
  rintro e w2 ⟨v, zs, rfl, hv, hz, hs2, hg2⟩
  have HV : Hid (Orow w2 (w.heap.size + 1) v zs) := hv
  obtain ⟨av, cv, rfl⟩ := hv.irow.sl
  obtain ⟨q1, q2⟩ := pow9 zs.length hz
  obtain ⟨PW, hPW⟩ : ∃ PW : Int, 2 ^ zs.length = PW := ⟨_, rfl⟩
  rw [hPW] at q1 q2
  have HG2 : Hid (w1.grownBy w2 (some w.heap.size)) := hg2
  have HS2 : Hid (SrcOk w2 w.heap.size a len cap) := hs2
  clear hv hs1 hs2 hg2
  go_wp2_with fail
  refine (src_n w.heap.size a len cap PW w2 HS2.out (by omega)).mono ?_
  rintro e w3 ⟨m, rfl, p3, q3, hs3, hg3⟩
  have HS3 : Hid (SrcOk w3 w.heap.size a len cap) := hs3
  have HG3 : Hid (w1.grownBy w3 (some w.heap.size)) := Lib.grownBy_trans HG2.out hg3
  have HV3 : Hid (Orow w3 (w.heap.size + 1) (.slice av zs.length cv) zs) := HV.out.grow hg3 (by omega)
  clear hs3 hg3 HS2 HG2 HV p3 q3
  go_wp2_with fail
  refine (src_one w.heap.size a len cap 12 w3 HS3.out (by omega)).mono ?_
  rintro e w4 ⟨o4, rfl, hs4, hg4⟩
  have HS4 : Hid (SrcOk w4 w.heap.size a len cap) := hs4
  have HG4 : Hid (w1.grownBy w4 (some w.heap.size)) := Lib.grownBy_trans HG3.out hg4
  have HV4 : Hid (Orow w4 (w.heap.size + 1) (.slice av zs.length cv) zs) := HV3.out.grow hg4 (by omega)
  clear hs4 hg4 HS3 HG3 HV3
  cases o4
  · skip
    go_wp2_with fail
    refine (src_key w.heap.size a len cap _ HS4.out).mono ?_
    rintro e w6 ⟨r, rfl, hr, hs6, hg6⟩
    have HS6 : Hid (SrcOk w6 w.heap.size a len cap) := hs6
    have HG6 : Hid (w1.grownBy w6 (some w.heap.size)) := Lib.grownBy_trans HG4.out hg6
    have HV6 : Hid (Orow w6 (w.heap.size + 1) (.slice av zs.length cv) zs) := HV4.out.grow hg6 (by omega)
    clear hs6 hg6
    go_wp2_with fail
    refine (src_key w.heap.size a len cap _ HS6.out).mono ?_
    rintro e w7 ⟨d, rfl, hd, hs7, hg7⟩
    have HB7 : Hid (Below w.heap.size w w7) := HB1.out.grown (Lib.grownBy_trans HG6.out hg7) HB1.out.size (fun k hk => by cases hk; exact Nat.le_refl _)
    have HV7 : Hid (Orow w7 (w.heap.size + 1) (.slice av zs.length cv) zs) := HV6.out.grow hg7 (by omega)
    clear hs7 hg7 HS6 HG6 HV6
    go_wp2
    refine bodyPost_ret (v := .tuple #[.string r, .slice av zs.length cv, .int .i64 m, .string d]) (by simp [results, Try.results31, go_sem]) rfl ?_
    exact ⟨r, _, zs, _, d, rfl, hr, hd, HV7.out, hz, HB7.out⟩
  · have hbw : w.heap.size < w4.heap.size := HS4.out.lt
    have HIN : Hid (inB9 (-1) 512 [-1, PW]) := by
      intro x hx
      simp at hx
      omega
    have HS5 : Hid (SrcOk (w4.alloc (.cells ([-1, PW].map (Value.int .i64)).toArray 2)) w.heap.size a len cap) := src_own (r := none) HS4.out (World.grownBy_alloc w4 _ _) (fun k hk => by cases hk)
    have HG5 : Hid (w1.grownBy (w4.alloc (.cells ([-1, PW].map (Value.int .i64)).toArray 2)) (some w.heap.size)) := Lib.grownBy_trans HG4.out (World.grownBy_alloc w4 _ _)
    have HV5 : Hid (Orow (w4.alloc (.cells ([-1, PW].map (Value.int .i64)).toArray 2)) (w.heap.size + 1) (.slice av zs.length cv) zs) := HV4.out.below (bx1 _ _)
    have HBW : Hid _ := hbw
    clear HS4 HG4 HV4 hbw
    go_wp2_with fail
    refine (src_n w.heap.size a len cap 2 _ HS5.out (by omega)).mono ?_
    rintro e w5 ⟨r5, rfl, p5, q5, hs5, hg5⟩
    obtain ⟨R5, rfl⟩ := Int.eq_ofNat_of_zero_le p5
    have hR5 : R5 < 2 := by omega
    obtain ⟨y, y1, y2, y3⟩ := lit_draw9 HBW.out hg5 R5 (by simpa using hR5) HIN.out
    have HS8 : Hid (SrcOk w5 w.heap.size a len cap) := hs5
    have HG8 : Hid (w1.grownBy w5 (some w.heap.size)) := Lib.grownBy_trans HG5.out hg5
    have HV8 : Hid (Orow w5 (w.heap.size + 1) (.slice av zs.length cv) zs) := HV5.out.grow hg5 (by omega)
    clear hs5 hg5 HS5 HG5 HV5 HIN p5 q5
    go_wp2_with fail
    refine (src_key w.heap.size a len cap _ HS8.out).mono ?_
    rintro e w6 ⟨r, rfl, hr, hs6, hg6⟩
    have HS6 : Hid (SrcOk w6 w.heap.size a len cap) := hs6
    have HG6 : Hid (w1.grownBy w6 (some w.heap.size)) := Lib.grownBy_trans HG8.out hg6
    have HV6 : Hid (Orow w6 (w.heap.size + 1) (.slice av zs.length cv) zs) := HV8.out.grow hg6 (by omega)
    clear hs6 hg6
    go_wp2_with fail
    refine (src_key w.heap.size a len cap _ HS6.out).mono ?_
    rintro e w7 ⟨d, rfl, hd, hs7, hg7⟩
    have HB7 : Hid (Below w.heap.size w w7) := HB1.out.grown (Lib.grownBy_trans HG6.out hg7) HB1.out.size (fun k hk => by cases hk; exact Nat.le_refl _)
    have HV7 : Hid (Orow w7 (w.heap.size + 1) (.slice av zs.length cv) zs) := HV6.out.grow hg7 (by omega)
    clear hs7 hg7 HS6 HG6 HV6
    go_wp2
    refine bodyPost_ret (v := .tuple #[.string r, .slice av zs.length cv, .int .i64 y, .string d]) (by simp [results, Try.results31, go_sem]) rfl ?_
    exact ⟨r, _, zs, _, d, rfl, hr, hd, HV7.out, hz, HB7.out⟩
end Go.Proofs.Ytcglpigmellfcab
