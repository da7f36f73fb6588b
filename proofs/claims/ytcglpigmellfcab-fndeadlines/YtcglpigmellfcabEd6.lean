import Derived.Test.YtcglpigmellfcabEd5
import Derived.Test.YtcglpigmellfcabEa8
import Derived.Test.YtcglpigmellfcabEc3
import Derived.Test.YtcglpigmellfcabCode
import Derived.BigQuiet
namespace Go.Proofs.Ytcglpigmellfcab
open Go.ChangeShapes Go.WideShapes Go.ChangeAt Go.RowKit

set_option maxRecDepth 100000 in
set_option maxHeartbeats 8000000 in
theorem drawRD_any (a : Option Addr) (len cap : Nat) (w : World) (hcode : CodeAt w w.heap.size a len) (hl : len ≤ 1048576) :
    Calls Try.prog 20 #[.slice a len cap] w fun e w' => ∃ (v : Value) (zs : List RK) (q : Int), e = .returned (.tuple #[v, .int .i64 q]) ∧ RKrow w' v zs ∧ zs.length ≤ 9 ∧ Below w.heap.size w w' := by
  go_enter Try.func20, Try.ntmps20
  go_wp2_with fail
  refine (l01Source_any a len cap w hcode hl).mono ?_
  rintro e w1 ⟨rfl, hs1, hb1⟩
  have HB1 : Hid (Below w.heap.size w w1) := hb1
  clear hcode hb1
  go_wp2_with fail
  refine (src_n w.heap.size a len cap 80 w1 hs1 (by omega)).mono ?_
  rintro e w2 ⟨q, rfl, _, _, hs2, hg2⟩
  have HS2 : Hid (SrcOk w2 w.heap.size a len cap) := hs2
  have HG2 : Hid (w1.grownBy w2 (some w.heap.size)) := hg2
  clear hs1 hs2 hg2
  go_wp2_with fail
  refine (src_one w.heap.size a len cap 15 w2 HS2.out (by omega)).mono ?_
  rintro e w3 ⟨o3, rfl, hs3, hg3⟩
  have HS3 : Hid (SrcOk w3 w.heap.size a len cap) := hs3
  have HG3 : Hid (w1.grownBy w3 (some w.heap.size)) := gbRK HG2.out hg3
  clear hs3 hg3 HS2 HG2
  cases o3
  · skip
    go_wp2_with fail
    refine (src_tasks w.heap.size a len cap _ HS3.out).mono ?_
    rintro e w6 ⟨v, zs, rfl, hv, hz, _, hg6⟩
    have HV6 : Hid (RKrow w6 v zs) := hv
    obtain ⟨av, cv, rfl⟩ := hv.sl
    have HB6 : Hid (Below w.heap.size w w6) := HB1.out.grown (gbRK HG3.out hg6) HB1.out.size (fun k hk => by cases hk; exact Nat.le_refl _)
    clear hv hg6
    go_wp2
    go_ret2
    exact ⟨_, zs, _, rfl, HV6.out, hz, HB6.out⟩
  · have HBW : Hid (w.heap.size < w3.heap.size) := HS3.out.lt
    have HIN : Hid (inBT (-1) 1001 [-1, 1000, 1001]) := by
      intro x hx
      simp at hx
      omega
    have HS5 : Hid (SrcOk (w3.alloc (.cells ([-1, 1000, 1001].map (Value.int .i64)).toArray 2)) w.heap.size a len cap) := HS3.out.far (World.grownBy_alloc w3 _ none)
    have HG5 : Hid (w1.grownBy (w3.alloc (.cells ([-1, 1000, 1001].map (Value.int .i64)).toArray 2)) (some w.heap.size)) := gbRK HG3.out (World.grownBy_alloc w3 _ _)
    clear HS3 HG3
    go_wp2_with fail
    refine (src_n w.heap.size a len cap 3 _ HS5.out (by omega)).mono ?_
    rintro e w5 ⟨r5, rfl, p5, q5, hs5, hg5⟩
    obtain ⟨R5, rfl⟩ := Int.eq_ofNat_of_zero_le p5
    have hR5 : R5 < 3 := by omega
    obtain ⟨y, y1, y2, y3⟩ := lit_drawT HBW.out hg5 R5 (by simpa using hR5) HIN.out
    have HS8 : Hid (SrcOk w5 w.heap.size a len cap) := hs5
    have HG8 : Hid (w1.grownBy w5 (some w.heap.size)) := gbRK HG5.out hg5
    clear hs5 hg5 HS5 HG5 HIN p5 q5
    go_wp2_with fail
    refine (src_tasks w.heap.size a len cap _ HS8.out).mono ?_
    rintro e w6 ⟨v, zs, rfl, hv, hz, _, hg6⟩
    have HV6 : Hid (RKrow w6 v zs) := hv
    obtain ⟨av, cv, rfl⟩ := hv.sl
    have HB6 : Hid (Below w.heap.size w w6) := HB1.out.grown (gbRK HG8.out hg6) HB1.out.size (fun k hk => by cases hk; exact Nat.le_refl _)
    clear hv hg6
    go_wp2
    go_ret2
    exact ⟨_, zs, _, rfl, HV6.out, hz, HB6.out⟩
set_option maxRecDepth 100000 in
set_option maxHeartbeats 8000000 in
theorem lwInts_ok {w : World} {a1 a2 : Option Addr} {c1 c2 : Nat} {zs : List Int} (h : Irow w (.slice a1 zs.length c1) zs) (h' : Irow w (.slice a2 zs.length c2) zs) (hl : zs.length ≤ 1048576) :
    Calls Try.prog 13 #[.slice a1 zs.length c1, .slice a2 zs.length c2] w fun e w' => e = .returned (.bool true) ∧ Below w.heap.size w w' := by
  have HR : Hid (Irow w (.slice a1 zs.length c1) zs) := h
  have HR2 : Hid (Irow w (.slice a2 zs.length c2) zs) := h'
  have hnn : ((zs.length : Int) != (zs.length : Int)) = false := by simp
  clear h h'
  go_enter Try.func13, Try.ntmps13
  go_wp2
  go_loopw [5] (fun i wr => ∃ k : Nat, k ≤ zs.length ∧ i = .int .i64 k ∧ Below w.heap.size w wr) (fun i _ => zs.length - (intOf i).toNat)
  case atStart => exact ⟨0, Nat.zero_le _, rfl, Below.refl _ _⟩
  case round =>
    obtain ⟨k, hk, rfl, hb⟩ := hrel
    have HB : Hid (Below w.heap.size w wr) := hb
    by_cases hlt : k < zs.length
    · obtain ⟨g, o, cap2, hv, _, hg, hc⟩ := HR.out.resolve_left (fun h => by rw [h.1] at hlt; simp at hlt)
      injection hv with hv1 hv2 hv3
      subst hv1 hv3
      obtain ⟨g', o', cap3, hv', _, hg', hc'⟩ := HR2.out.resolve_left (fun h => by rw [h.1] at hlt; simp at hlt)
      injection hv' with hv1' hv2' hv3'
      subst hv1' hv3'
      have d0 := (hb.cell (p := ⟨g, o + k, none⟩) hg).trans (hc k hlt)
      have d1 := (hb.cell (p := ⟨g', o' + k, none⟩) hg').trans (hc' k hlt)
      have hk0 : (0 : Int) ≤ (k : Int) := by omega
      have hk1 : (k : Int) < (zs.length : Int) := by omega
      have hgw : g < wr.heap.size := Nat.lt_of_lt_of_le hg hb.size
      have hgw' : g' < wr.heap.size := Nat.lt_of_lt_of_le hg' hb.size
      generalize zs[k] = z at *
      have hzz : (z != z) = false := by simp
      clear hc hc' hb hv2 hv2'
      go_wp2
      go_quiet (fail)
      go_wp2
      exact ⟨⟨k + 1, hlt, by go_num, bdn HB.out _⟩, by simp [intOf]; omega⟩
    · obtain rfl : k = zs.length := by omega
      go_wp2
      go_ret
      exact ⟨rfl, hb⟩
end Go.Proofs.Ytcglpigmellfcab
