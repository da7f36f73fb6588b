import Derived.Test.YtdlodflinibaoaaBf1
import Derived.Test.YtdlodflinibaoaaBf2
import Derived.Test.YtdlodflinibaoaaSp2
import Derived.Test.YtdlodflinibaoaaSrcB
import Derived.Test.YtdlodflinibaoaaCode
import Derived.Test.YtdlodflinibaoaaHl
namespace Go.Proofs.Ytdlodflinibaoaa
open Go.ChangeShapes Go.WideShapes Go.ChangeAt Go.RowKit

structure AftS (w u : World) : Prop where
  out : Below w.heap.size w u
theorem AftS.drew9 {w u : World} (h : AftS w u) : AftS w u.drew := ⟨h.out.trans ((Below.refl u.heap.size u).drew.mono h.out.size)⟩
theorem bel_belS {w u u' : World} (h : Below w.heap.size w u) (h2 : Below u.heap.size u u') : Below w.heap.size w u' :=
  ⟨h2.os.trans h.os, h2.tape.trans h.tape, h2.output.trans h.output, Nat.le_trans h.size h2.size, fun k hk => (h2.block k (Nat.lt_of_lt_of_le hk h.size)).trans (h.block k hk)⟩
set_option maxRecDepth 100000 in
set_option maxHeartbeats 4000000 in
theorem drawSpread_any (a : Option Addr) (len cap : Nat) (w : World) (hcode : CodeAt w w.heap.size a len) (hl : len ≤ 1048576) :
    Calls Try.prog 24 #[.slice a len cap] w fun e w' => ∃ (s : ByteArray) (g cp : Nat) (zs : List BU) (d : ByteArray), e = .returned (.tuple #[.string s, .slice (some ⟨g, 0, none⟩) zs.length cp, .string d]) ∧ s.size = 1280 ∧ zs.length ≤ 5 ∧ (∀ z ∈ zs, 0 ≤ z.pos ∧ z.pos ≤ 4294967295 ∧ 0 ≤ z.len ∧ z.len ≤ 65) ∧ d.size ≤ 100 ∧ BUrow w' (.slice (some ⟨g, 0, none⟩) zs.length cp) zs ∧ Below w.heap.size w w' := by
  go_enter Try.func24, Try.ntmps24
  go_upto_region 2 with (go_at_call 55; refine (l01Source_any a len cap w hcode hl).mono ?_; rintro e w1 ⟨rfl, hs1, hb1⟩; have HS1 : Hid (SrcOk w1 w.heap.size a len cap) := hs1; have HB1 : Hid (Below w.heap.size w w1) := hb1; clear hs1 hb1 hcode)
  go_wp2_with fail
  refine (src_frames w.heap.size a len cap 5 w1 HS1.out (by omega) (by omega)).mono ?_
  rintro e w2 ⟨s, rfl, hs, hs2, hg2⟩
  have HS2 : Hid (SrcOk w2 w.heap.size a len cap) := hs2
  have HG2 : Hid (w1.grownBy w2 (some w.heap.size)) := hg2
  clear hs2 hg2 HS1
  go_wp2_with fail
  refine (src_n w.heap.size a len cap 5 w2 HS2.out (by omega)).mono ?_
  rintro e w3 ⟨r3, rfl, p3, q3, hs3, hg3⟩
  obtain ⟨R3, rfl⟩ := Int.eq_ofNat_of_zero_le p3
  have hR3 : R3 < 5 := by omega
  have HS3 : Hid (SrcOk w3 w.heap.size a len cap) := hs3
  have HG3 : Hid (w1.grownBy w3 (some w.heap.size)) := Lib.grownBy_trans HG2.out hg3
  clear hs3 hg3 HS2 HG2 p3 q3
  go_wp2_with fail
  refine (src_bufs w.heap.size a len cap R3 w3 (by omega) HS3.out).mono ?_
  rintro e w4 ⟨ao, cp, zs, rfl, ⟨g, rfl⟩, hzl, hzb, ho4, hs4, hg4⟩
  have HS4 : Hid (SrcOk w4 w.heap.size a len cap) := hs4
  have HG4 : Hid (w1.grownBy w4 (some w.heap.size)) := Lib.grownBy_trans HG3.out hg4
  have HLW : Hid (w.heap.size < w3.heap.size) := HS3.out.lt
  have HO4 : Hid (w4.ownsRow w3.heap.size 53 3 (.slice (some ⟨g, 0, none⟩) zs.length cp) zs.length (buR zs)) := ho4
  have HZB : Hid (∀ z ∈ zs, 0 ≤ z.pos ∧ z.pos ≤ 4294967295 ∧ 0 ≤ z.len ∧ z.len ≤ 65) := hzb
  have HZL : Hid (zs.length ≤ 5) := (show zs.length ≤ 5 by omega)
  clear hs4 hg4 HS3 HG3 ho4 hzb hzl
  go_wp2_with fail
  refine (src_n w.heap.size a len cap 100 w4 HS4.out (by omega)).mono ?_
  rintro e w5 ⟨r5, rfl, p5, q5, hs5, hg5⟩
  obtain ⟨R5, rfl⟩ := Int.eq_ofNat_of_zero_le p5
  have hR5 : R5 ≤ 100 := by omega
  have HS5 : Hid (SrcOk w5 w.heap.size a len cap) := hs5
  have HG5 : Hid (w1.grownBy w5 (some w.heap.size)) := Lib.grownBy_trans HG4.out hg5
  have HO5 : Hid (w5.ownsRow w3.heap.size 53 3 (.slice (some ⟨g, 0, none⟩) zs.length cp) zs.length (buR zs)) := own_gB HO4.out HLW.out hg5
  clear hs5 hg5 HS4 HG4 HO4 p5 q5
  go_wp2_with fail
  refine (src_bytes w.heap.size a len cap R5 w5 HS5.out (by omega)).mono ?_
  rintro e w6 ⟨d, rfl, hd, hs6, hg6⟩
  have HB6 : Hid (Below w.heap.size w w6) := HB1.out.grown (Lib.grownBy_trans HG5.out hg6) HB1.out.size (fun k hk => by cases hk; exact Nat.le_refl _)
  have HO6 : Hid (w6.ownsRow w3.heap.size 53 3 (.slice (some ⟨g, 0, none⟩) zs.length cp) zs.length (buR zs)) := own_gB HO5.out HLW.out hg6
  clear hs6 hg6 HS5 HG5 HO5
  go_wp2
  refine bodyPost_ret (v := .tuple #[.string s, .slice (some ⟨g, 0, none⟩) zs.length cp, .string d]) (by simp [results, Try.results24, go_sem]) rfl ?_
  exact ⟨s, g, cp, zs, d, rfl, by omega, HZL.out, HZB.out, by omega, BUrow.of HO6.out, HB6.out⟩
theorem any_take {zs : List BU} {i k : Nat} (hk : k < zs.length) : (zs.take (k + 1)).any (inZ i) = ((zs.take k).any (inZ i) || inZ i zs[k]) := by
  rw [List.take_succ_eq_append_getElem hk, List.any_append]
  simp
set_option maxRecDepth 100000 in
set_option maxHeartbeats 8000000 in
theorem walkFS (a : Option Addr) (len cap : Nat) (w : World) (hcode : CodeAt w w.heap.size a len) (hl : len ≤ 1048576) :
    Calls Try.prog 6 #[.slice a len cap] w fun e w' => e = .returned (.bool true) ∧ Below w.heap.size w w' := by
  have HC : Hid (CodeAt w w.heap.size a len) := hcode
  clear hcode
  have e0 : decide (1048576 < (len : Int)) = false := decide_eq_false (by omega)
  go_enter Try.func6, Try.ntmps6
  go_wp2_with fail
  refine (drawSpread_any a len cap w HC.out hl).mono ?_
  rintro e w1 ⟨s, g, cp, zs, d, rfl, hs, hzl, hzb, hd, hrow, hb1⟩
  have HB1 : Hid (Below w.heap.size w w1) := hb1
  have HR1 : Hid (BUrow w1 (.slice (some ⟨g, 0, none⟩) zs.length cp) zs) := hrow
  obtain ⟨M, hM⟩ : ∃ M, spV s zs d = M := ⟨_, rfl⟩
  have HI : Hid (∀ u, AftS w1 u → Calls Try.prog 25 #[.string s, .slice (some ⟨g, 0, none⟩) zs.length cp, .string d] u fun e w' => e = .returned (.string M) ∧ Below u.heap.size u w') := fun u hu => by
    have h9 := implSpread_any s d (HR1.out.below hu.out) (by omega) (by omega) (by omega) (fun z hz => by have := hzb z hz; unfold i64B; omega)
    rw [hM] at h9
    exact h9
  have HSP : Hid (∀ u, AftS w1 u → Calls Try.prog 26 #[.string s, .slice (some ⟨g, 0, none⟩) zs.length cp, .string d] u fun e w' => e = .returned (.string M) ∧ Below u.heap.size u w') := fun u hu => by
    have h9 := specSpread_any s d (HR1.out.below hu.out) (by omega) (by omega) (by omega)
    rw [hM] at h9
    exact h9
  have HLAW : Hid (M.size ≠ 0 → M.size = s.size ∧ ∀ i, zs.any (inZ i) = false → bt M i = bt s i) := fun h9 => by
    rw [← hM] at h9 ⊢
    exact spV_law h9
  have HZB : Hid (∀ z ∈ zs, 0 ≤ z.pos ∧ z.pos ≤ 4294967295 ∧ 0 ≤ z.len ∧ z.len ≤ 65) := hzb
  have hne : (M.toList != M.toList) = false := by simp
  have HSZ : Hid (s.size = 1280) := hs
  have hsb : s.size ≤ 1280 := by omega
  clear hrow hb1 hM hzb HC hs
  go_upto_region 5 with (go_at_call 25; refine Calls.mono (HI.out _ ⟨Below.refl _ _⟩) ?_; rintro e w2 ⟨rfl, hb2⟩; have HA2 : Hid (AftS w1 w2) := ⟨hb2⟩; clear hb2)
  go_upto_region 7 with (go_at_call 26; refine Calls.mono (HSP.out _ HA2.out) ?_; rintro e w3 ⟨rfl, hb3⟩; have HA3 : Hid (AftS w1 w3) := ⟨bel_belS HA2.out.out hb3⟩; clear hb3)
  clear hne HI HSP HA2
  cases hm0 : M.toList.isEmpty
  rotate_left
  · go_wp2
    go_ret
    exact ⟨rfl, HB1.out.trans (HA3.out.out.mono HB1.out.size)⟩
  · have hMs : M.size ≠ 0 := fun h9 => by
      have : M = ⟨#[]⟩ := by
        cases M with
        | mk x =>
          have : x.size = 0 := h9
          rw [Array.size_eq_zero_iff.1 this]
      rw [this] at hm0
      simp at hm0
    obtain ⟨hsz, hbt⟩ := HLAW.out hMs
    have HBT : Hid (∀ i, zs.any (inZ i) = false → bt M i = bt s i) := hbt
    have HCEL : Hid (∀ (u : World), AftS w1 u → ∀ k (hk : k < zs.length), u.cell? ⟨g, k * 3, none⟩ = some (.int .i64 zs[k].pos) ∧ u.cell? ⟨g, k * 3 + 1, none⟩ = some (.int .i64 zs[k].len) ∧ u.cell? ⟨g, k * 3 + 2, none⟩ = some (.bool zs[k].write) ∧ g < u.heap.size) := fun u hu k hk => by
      rcases HR1.out.below hu.out with ⟨h9, _⟩ | ⟨g9, o9, c, hv, _, hg, hat⟩
      · rw [h9] at hk
        cases hk
      · injection hv with q1
        injection q1 with q1
        injection q1 with q1 q2
        subst q1
        subst q2
        obtain ⟨h1, h2, h3⟩ := hat k hk
        rw [Nat.zero_add] at h1 h2 h3
        exact ⟨h1, h2, h3, hg⟩
    clear hbt HLAW
    go_wp2
    clear hm0
    go_loopw [7] (fun vi wr => ∃ i : Nat, i ≤ s.size ∧ vi = .int .i64 i ∧ AftS w1 wr) (fun vi _ => s.size - (intOf vi).toNat)
    case atStart => exact ⟨0, Nat.zero_le _, rfl, HA3.out⟩
    case round =>
      obtain ⟨i, hi, rfl, ha⟩ := hrel
      have HA : Hid (AftS w1 wr) := ha
      clear ha HA3
      by_cases hlt : i < s.size
      rotate_left
      · have e1 : decide ((i : Int) < (s.size : Int)) = false := decide_eq_false (by omega)
        have e2 : ((M.size : Int) == (s.size : Int)) = true := by simp; omega
        go_wp2
        go_ret
        exact ⟨rfl, HB1.out.trans (HA.out.out.mono HB1.out.size)⟩
      · have e1 : decide ((i : Int) < (s.size : Int)) = true := decide_eq_true (by omega)
        go_wp2
        go_loopw [8, 9] (fun vin vk wq => ∃ k : Nat, k ≤ zs.length ∧ vin = .bool ((zs.take k).any (inZ i)) ∧ vk = .int .i64 k ∧ AftS w1 wq) (fun _ vk _ => zs.length - (intOf vk).toNat)
        case atStart => exact ⟨0, Nat.zero_le _, by simp, rfl, HA.out⟩
        case round =>
          obtain ⟨k, hk, hvin, rfl, ha⟩ := hrel
          obtain ⟨Q, hQ⟩ : ∃ Q, (zs.take k).any (inZ i) = Q := ⟨_, rfl⟩
          rw [hQ] at hvin
          subst hvin
          have HQ : Hid ((zs.take k).any (inZ i) = Q) := hQ
          have HA2 : Hid (AftS w1 wr) := ha
          clear ha hQ HA
          by_cases hkl : k < zs.length
          rotate_left
          · have e2 : decide ((k : Int) < (zs.length : Int)) = false := decide_eq_false (by omega)
            have HQ2 : Hid (zs.any (inZ i) = Q) := (show zs.any (inZ i) = Q by have h9 := HQ.out; rwa [List.take_of_length_le (by omega)] at h9)
            go_upto_region 17 with fail
            have HAD : Hid (AftS w1 wr.drew) := HA2.out.drew9
            cases Q
            · have i0 := idx_str s i hlt
              have i1 := idx_str M i (by omega)
              rw [HBT.out i HQ2.out] at i1
              obtain ⟨Y, hY⟩ : ∃ Y, bt s i = Y := ⟨_, rfl⟩
              rw [hY] at i0 i1
              have j0 : ∀ u : World, Sem.run Try.prog (Instr.index 9 (.string s) (.int .i64 (i : Int))) u = .ok (.int .u8 Y) u := fun u => i0 u _ rfl
              have j1 : ∀ u : World, Sem.run Try.prog (Instr.index 9 (.string M) (.int .i64 (i : Int))) u = .ok (.int .u8 Y) u := fun u => i1 u _ rfl
              clear i0 i1 hY
              refine wp_region_held (S := AftS w1) (by kernel_rfl) ?_
              change wpAnyH _ _ _ _ _ _ _ _ (World.drew _)
              refine wpAnyH_take (i := 0) (v := .bool false) rfl (by kernel_rfl) (by kernel_rfl) (by kernel_rfl) (fun _ _ _ h => h) (Or.inl ⟨by kernel_rfl, fun w9 h9 => ?_⟩) HAD.out ?_
              · go_simp
              refine wpAnyH_take (i := 1) (v := .bool true) rfl (by kernel_rfl) (by kernel_rfl) (by kernel_rfl) (fun _ _ _ h => h) (Or.inl ⟨by kernel_rfl, fun w9 h9 => ?_⟩) HAD.out ?_
              · go_simp
              refine wpAnyH_take (i := 2) (v := .bool true) rfl (by kernel_rfl) (by kernel_rfl) (by kernel_rfl) (fun _ _ _ h => h) (Or.inl ⟨by kernel_rfl, fun w9 h9 => ?_⟩) HAD.out ?_
              · go_simp
              refine wpAnyH_take (i := 3) (v := .string s) rfl (by kernel_rfl) (by kernel_rfl) (by kernel_rfl) (fun _ _ _ h => h) (Or.inl ⟨by kernel_rfl, fun w9 h9 => ?_⟩) HAD.out ?_
              · go_simp
              refine wpAnyH_take (i := 4) (v := .int .i64 (i : Int)) rfl (by kernel_rfl) (by kernel_rfl) (by kernel_rfl) (fun _ _ _ h => h) (Or.inl ⟨by kernel_rfl, fun w9 h9 => ?_⟩) HAD.out ?_
              · go_simp
              refine wpAnyH_take (i := 5) (v := .int .u8 Y) rfl (by kernel_rfl) (by kernel_rfl) (by kernel_rfl) (fun _ _ _ h => h) (Or.inl ⟨by kernel_rfl, fun w9 h9 => ?_⟩) HAD.out ?_
              · go_simp
              refine wpAnyH_take (i := 6) (v := .string M) rfl (by kernel_rfl) (by kernel_rfl) (by kernel_rfl) (fun _ _ _ h => h) (Or.inl ⟨by kernel_rfl, fun w9 h9 => ?_⟩) HAD.out ?_
              · go_simp
              refine wpAnyH_take (i := 7) (v := .int .i64 (i : Int)) rfl (by kernel_rfl) (by kernel_rfl) (by kernel_rfl) (fun _ _ _ h => h) (Or.inl ⟨by kernel_rfl, fun w9 h9 => ?_⟩) HAD.out ?_
              · go_simp
              refine wpAnyH_take (i := 8) (v := .int .u8 Y) rfl (by kernel_rfl) (by kernel_rfl) (by kernel_rfl) (fun _ _ _ h => h) (Or.inl ⟨by kernel_rfl, fun w9 h9 => ?_⟩) HAD.out ?_
              · go_simp
              refine wpAnyH_take (i := 9) (v := .bool false) rfl (by kernel_rfl) (by kernel_rfl) (by kernel_rfl) (fun _ _ _ h => h) (Or.inl ⟨by kernel_rfl, fun w9 h9 => ?_⟩) HAD.out ?_
              · go_simp
              refine wpAnyH_take (i := 10) (v := .bool false) rfl (by kernel_rfl) (by kernel_rfl) (by kernel_rfl) (fun _ _ _ h => h) (Or.inl ⟨by kernel_rfl, fun w9 h9 => ?_⟩) HAD.out ?_
              · go_simp
              refine wpAnyH_done (by kernel_rfl) ?_ _
              go_simp
              go_wp2
              refine ⟨⟨i + 1, by omega, by go_num, HAD.out⟩, by simp [intOf]; omega⟩
            · skip
              refine wp_region_held (S := AftS w1) (by kernel_rfl) ?_
              change wpAnyH _ _ _ _ _ _ _ _ (World.drew _)
              refine wpAnyH_take (i := 0) (v := .bool true) rfl (by kernel_rfl) (by kernel_rfl) (by kernel_rfl) (fun _ _ _ h => h) (Or.inl ⟨by kernel_rfl, fun w9 h9 => ?_⟩) HAD.out ?_
              · go_simp
              refine wpAnyH_take (i := 1) (v := .bool false) rfl (by kernel_rfl) (by kernel_rfl) (by kernel_rfl) (fun _ _ _ h => h) (Or.inl ⟨by kernel_rfl, fun w9 h9 => ?_⟩) HAD.out ?_
              · go_simp
              refine wpAnyH_take (i := 2) (v := .bool false) rfl (by kernel_rfl) (by kernel_rfl) (by kernel_rfl) (fun _ _ _ h => h) (Or.inl ⟨by kernel_rfl, fun w9 h9 => ?_⟩) HAD.out ?_
              · go_simp
              refine wpAnyH_take (i := 3) (v := undef) rfl (by kernel_rfl) (by kernel_rfl) (by kernel_rfl) (fun _ _ _ h => h) (Or.inr ⟨by kernel_rfl, rfl⟩) HAD.out ?_
              refine wpAnyH_take (i := 4) (v := undef) rfl (by kernel_rfl) (by kernel_rfl) (by kernel_rfl) (fun _ _ _ h => h) (Or.inr ⟨by kernel_rfl, rfl⟩) HAD.out ?_
              refine wpAnyH_take (i := 5) (v := undef) rfl (by kernel_rfl) (by kernel_rfl) (by kernel_rfl) (fun _ _ _ h => h) (Or.inr ⟨by kernel_rfl, rfl⟩) HAD.out ?_
              refine wpAnyH_take (i := 6) (v := undef) rfl (by kernel_rfl) (by kernel_rfl) (by kernel_rfl) (fun _ _ _ h => h) (Or.inr ⟨by kernel_rfl, rfl⟩) HAD.out ?_
              refine wpAnyH_take (i := 7) (v := undef) rfl (by kernel_rfl) (by kernel_rfl) (by kernel_rfl) (fun _ _ _ h => h) (Or.inr ⟨by kernel_rfl, rfl⟩) HAD.out ?_
              refine wpAnyH_take (i := 8) (v := undef) rfl (by kernel_rfl) (by kernel_rfl) (by kernel_rfl) (fun _ _ _ h => h) (Or.inr ⟨by kernel_rfl, rfl⟩) HAD.out ?_
              refine wpAnyH_take (i := 9) (v := undef) rfl (by kernel_rfl) (by kernel_rfl) (by kernel_rfl) (fun _ _ _ h => h) (Or.inr ⟨by kernel_rfl, rfl⟩) HAD.out ?_
              refine wpAnyH_take (i := 10) (v := .bool false) rfl (by kernel_rfl) (by kernel_rfl) (by kernel_rfl) (fun _ _ _ h => h) (Or.inl ⟨by kernel_rfl, fun w9 h9 => ?_⟩) HAD.out ?_
              · go_simp
              refine wpAnyH_done (by kernel_rfl) ?_ _
              go_simp
              go_wp2
              refine ⟨⟨i + 1, by omega, by go_num, HAD.out⟩, by simp [intOf]; omega⟩
          · have e2 : decide ((k : Int) < (zs.length : Int)) = true := decide_eq_true (by omega)
            have e3 : (0 : Int) ≤ (k : Int) := by omega
            have e4 : (k : Int) < (zs.length : Int) := by omega
            obtain ⟨z, hz⟩ : ∃ z, zs[k] = z := ⟨_, rfl⟩
            have HAN : Hid ((zs.take (k + 1)).any (inZ i) = (Q || inZ i z)) := (show _ = _ by rw [any_take hkl, HQ.out, hz])
            have HZ : Hid (0 ≤ z.pos ∧ z.pos ≤ 4294967295 ∧ 0 ≤ z.len ∧ z.len ≤ 65) := (by rw [← hz]; exact HZB.out _ (List.getElem_mem _))
            have HC2 : Hid (∀ u, AftS w1 u → u.cell? ⟨g, k * 3, none⟩ = some (.int .i64 z.pos) ∧ u.cell? ⟨g, k * 3 + 1, none⟩ = some (.int .i64 z.len) ∧ u.cell? ⟨g, k * 3 + 2, none⟩ = some (.bool z.write) ∧ g < u.heap.size) := fun u hu => (by
              have h9 := HCEL.out u hu k hkl
              rw [hz] at h9
              exact h9)
            obtain ⟨P, hP⟩ : ∃ P, z.pos = P := ⟨_, rfl⟩
            obtain ⟨L, hL⟩ : ∃ L, z.len = L := ⟨_, rfl⟩
            obtain ⟨Wt, hWt⟩ : ∃ Wt, z.write = Wt := ⟨_, rfl⟩
            have HIZ : Hid (inZ i z = (Wt && (decide (P ≤ (i : Int)) && decide ((i : Int) < P + L)))) := (show _ = _ by unfold inZ; rw [hP, hL, hWt])
            rw [hP, hL, hWt] at HC2
            rw [hP, hL] at HZ
            obtain ⟨z0, z1, z2, z3⟩ := HZ.out
            have hi9 : (i : Int) ≤ 1280 := by have := HSZ.out; omega
            have hPL : IntKind.i64.wrap (P + L) = P + L := by rw [IntKind.wrap_i64]; omega
            clear hP hL hWt hz
            go_upto_region 16 with fail
            have HAD : Hid (AftS w1 wr.drew) := HA2.out.drew9
            cases Q
            rotate_left
            · skip
              refine wp_region_held (S := AftS w1) (by kernel_rfl) ?_
              change wpAnyH _ _ _ _ _ _ _ _ (World.drew _)
              refine wpAnyH_take (i := 0) (v := .bool true) rfl (by kernel_rfl) (by kernel_rfl) (by kernel_rfl) (fun _ _ _ h => h) (Or.inl ⟨by kernel_rfl, fun w9 h9 => ?_⟩) HAD.out ?_
              · go_simp
              refine wpAnyH_take (i := 1) (v := .bool true) rfl (by kernel_rfl) (by kernel_rfl) (by kernel_rfl) (fun _ _ _ h => h) (Or.inl ⟨by kernel_rfl, fun w9 h9 => ?_⟩) HAD.out ?_
              · go_simp
              refine wpAnyH_take (i := 2) (v := undef) rfl (by kernel_rfl) (by kernel_rfl) (by kernel_rfl) (fun _ _ _ h => h) (Or.inr ⟨by kernel_rfl, rfl⟩) HAD.out ?_
              refine wpAnyH_take (i := 3) (v := undef) rfl (by kernel_rfl) (by kernel_rfl) (by kernel_rfl) (fun _ _ _ h => h) (Or.inr ⟨by kernel_rfl, rfl⟩) HAD.out ?_
              refine wpAnyH_take (i := 4) (v := undef) rfl (by kernel_rfl) (by kernel_rfl) (by kernel_rfl) (fun _ _ _ h => h) (Or.inr ⟨by kernel_rfl, rfl⟩) HAD.out ?_
              refine wpAnyH_take (i := 5) (v := undef) rfl (by kernel_rfl) (by kernel_rfl) (by kernel_rfl) (fun _ _ _ h => h) (Or.inr ⟨by kernel_rfl, rfl⟩) HAD.out ?_
              refine wpAnyH_take (i := 6) (v := undef) rfl (by kernel_rfl) (by kernel_rfl) (by kernel_rfl) (fun _ _ _ h => h) (Or.inr ⟨by kernel_rfl, rfl⟩) HAD.out ?_
              refine wpAnyH_take (i := 7) (v := undef) rfl (by kernel_rfl) (by kernel_rfl) (by kernel_rfl) (fun _ _ _ h => h) (Or.inr ⟨by kernel_rfl, rfl⟩) HAD.out ?_
              refine wpAnyH_take (i := 8) (v := undef) rfl (by kernel_rfl) (by kernel_rfl) (by kernel_rfl) (fun _ _ _ h => h) (Or.inr ⟨by kernel_rfl, rfl⟩) HAD.out ?_
              refine wpAnyH_take (i := 9) (v := undef) rfl (by kernel_rfl) (by kernel_rfl) (by kernel_rfl) (fun _ _ _ h => h) (Or.inr ⟨by kernel_rfl, rfl⟩) HAD.out ?_
              refine wpAnyH_take (i := 10) (v := undef) rfl (by kernel_rfl) (by kernel_rfl) (by kernel_rfl) (fun _ _ _ h => h) (Or.inr ⟨by kernel_rfl, rfl⟩) HAD.out ?_
              refine wpAnyH_take (i := 11) (v := undef) rfl (by kernel_rfl) (by kernel_rfl) (by kernel_rfl) (fun _ _ _ h => h) (Or.inr ⟨by kernel_rfl, rfl⟩) HAD.out ?_
              refine wpAnyH_take (i := 12) (v := undef) rfl (by kernel_rfl) (by kernel_rfl) (by kernel_rfl) (fun _ _ _ h => h) (Or.inr ⟨by kernel_rfl, rfl⟩) HAD.out ?_
              refine wpAnyH_take (i := 13) (v := undef) rfl (by kernel_rfl) (by kernel_rfl) (by kernel_rfl) (fun _ _ _ h => h) (Or.inr ⟨by kernel_rfl, rfl⟩) HAD.out ?_
              refine wpAnyH_take (i := 14) (v := undef) rfl (by kernel_rfl) (by kernel_rfl) (by kernel_rfl) (fun _ _ _ h => h) (Or.inr ⟨by kernel_rfl, rfl⟩) HAD.out ?_
              refine wpAnyH_take (i := 15) (v := undef) rfl (by kernel_rfl) (by kernel_rfl) (by kernel_rfl) (fun _ _ _ h => h) (Or.inr ⟨by kernel_rfl, rfl⟩) HAD.out ?_
              refine wpAnyH_take (i := 16) (v := undef) rfl (by kernel_rfl) (by kernel_rfl) (by kernel_rfl) (fun _ _ _ h => h) (Or.inr ⟨by kernel_rfl, rfl⟩) HAD.out ?_
              refine wpAnyH_take (i := 17) (v := undef) rfl (by kernel_rfl) (by kernel_rfl) (by kernel_rfl) (fun _ _ _ h => h) (Or.inr ⟨by kernel_rfl, rfl⟩) HAD.out ?_
              refine wpAnyH_take (i := 18) (v := undef) rfl (by kernel_rfl) (by kernel_rfl) (by kernel_rfl) (fun _ _ _ h => h) (Or.inr ⟨by kernel_rfl, rfl⟩) HAD.out ?_
              refine wpAnyH_take (i := 19) (v := undef) rfl (by kernel_rfl) (by kernel_rfl) (by kernel_rfl) (fun _ _ _ h => h) (Or.inr ⟨by kernel_rfl, rfl⟩) HAD.out ?_
              refine wpAnyH_take (i := 20) (v := undef) rfl (by kernel_rfl) (by kernel_rfl) (by kernel_rfl) (fun _ _ _ h => h) (Or.inr ⟨by kernel_rfl, rfl⟩) HAD.out ?_
              refine wpAnyH_take (i := 21) (v := undef) rfl (by kernel_rfl) (by kernel_rfl) (by kernel_rfl) (fun _ _ _ h => h) (Or.inr ⟨by kernel_rfl, rfl⟩) HAD.out ?_
              refine wpAnyH_take (i := 22) (v := undef) rfl (by kernel_rfl) (by kernel_rfl) (by kernel_rfl) (fun _ _ _ h => h) (Or.inr ⟨by kernel_rfl, rfl⟩) HAD.out ?_
              refine wpAnyH_take (i := 23) (v := undef) rfl (by kernel_rfl) (by kernel_rfl) (by kernel_rfl) (fun _ _ _ h => h) (Or.inr ⟨by kernel_rfl, rfl⟩) HAD.out ?_
              refine wpAnyH_take (i := 24) (v := undef) rfl (by kernel_rfl) (by kernel_rfl) (by kernel_rfl) (fun _ _ _ h => h) (Or.inr ⟨by kernel_rfl, rfl⟩) HAD.out ?_
              refine wpAnyH_take (i := 25) (v := undef) rfl (by kernel_rfl) (by kernel_rfl) (by kernel_rfl) (fun _ _ _ h => h) (Or.inr ⟨by kernel_rfl, rfl⟩) HAD.out ?_
              refine wpAnyH_take (i := 26) (v := undef) rfl (by kernel_rfl) (by kernel_rfl) (by kernel_rfl) (fun _ _ _ h => h) (Or.inr ⟨by kernel_rfl, rfl⟩) HAD.out ?_
              refine wpAnyH_take (i := 27) (v := undef) rfl (by kernel_rfl) (by kernel_rfl) (by kernel_rfl) (fun _ _ _ h => h) (Or.inr ⟨by kernel_rfl, rfl⟩) HAD.out ?_
              refine wpAnyH_take (i := 28) (v := undef) rfl (by kernel_rfl) (by kernel_rfl) (by kernel_rfl) (fun _ _ _ h => h) (Or.inr ⟨by kernel_rfl, rfl⟩) HAD.out ?_
              refine wpAnyH_take (i := 29) (v := undef) rfl (by kernel_rfl) (by kernel_rfl) (by kernel_rfl) (fun _ _ _ h => h) (Or.inr ⟨by kernel_rfl, rfl⟩) HAD.out ?_
              refine wpAnyH_take (i := 30) (v := undef) rfl (by kernel_rfl) (by kernel_rfl) (by kernel_rfl) (fun _ _ _ h => h) (Or.inr ⟨by kernel_rfl, rfl⟩) HAD.out ?_
              refine wpAnyH_take (i := 31) (v := .bool true) rfl (by kernel_rfl) (by kernel_rfl) (by kernel_rfl) (fun _ _ _ h => h) (Or.inl ⟨by kernel_rfl, fun w9 h9 => ?_⟩) HAD.out ?_
              · go_simp
              refine wpAnyH_take (i := 32) (v := .bool true) rfl (by kernel_rfl) (by kernel_rfl) (by kernel_rfl) (fun _ _ _ h => h) (Or.inl ⟨by kernel_rfl, fun w9 h9 => ?_⟩) HAD.out ?_
              · go_simp
              refine wpAnyH_done (by kernel_rfl) ?_ _
              go_simp
              go_wp2
              refine ⟨⟨k + 1, by omega, by rw [HAN.out]; rfl, by go_num, HAD.out⟩, by simp [intOf]; omega⟩
            cases Wt
            · skip
              refine wp_region_held (S := AftS w1) (by kernel_rfl) ?_
              change wpAnyH _ _ _ _ _ _ _ _ (World.drew _)
              refine wpAnyH_take (i := 0) (v := .bool false) rfl (by kernel_rfl) (by kernel_rfl) (by kernel_rfl) (fun _ _ _ h => h) (Or.inl ⟨by kernel_rfl, fun w9 h9 => ?_⟩) HAD.out ?_
              · go_simp
              refine wpAnyH_take (i := 1) (v := .bool false) rfl (by kernel_rfl) (by kernel_rfl) (by kernel_rfl) (fun _ _ _ h => h) (Or.inl ⟨by kernel_rfl, fun w9 h9 => ?_⟩) HAD.out ?_
              · go_simp
              refine wpAnyH_take (i := 2) (v := .slice (some ⟨g, 0, none⟩) zs.length cp) rfl (by kernel_rfl) (by kernel_rfl) (by kernel_rfl) (fun _ _ _ h => h) (Or.inl ⟨by kernel_rfl, fun w9 h9 => ?_⟩) HAD.out ?_
              · go_simp
              refine wpAnyH_take (i := 3) (v := .int .i64 (k : Int)) rfl (by kernel_rfl) (by kernel_rfl) (by kernel_rfl) (fun _ _ _ h => h) (Or.inl ⟨by kernel_rfl, fun w9 h9 => ?_⟩) HAD.out ?_
              · go_simp
              refine wpAnyH_take (i := 4) (v := .pointer (some ⟨g, k * 3, none⟩)) rfl (by kernel_rfl) (by kernel_rfl) (by kernel_rfl) (fun _ _ _ h => h) (Or.inl ⟨by kernel_rfl, fun w9 h9 => ?_⟩) HAD.out ?_
              · go_simp
              refine wpAnyH_take (i := 5) (v := .pointer (some ⟨g, k * 3 + 2, none⟩)) rfl (by kernel_rfl) (by kernel_rfl) (by kernel_rfl) (fun _ _ _ h => h) (Or.inl ⟨by kernel_rfl, fun w9 h9 => ?_⟩) HAD.out ?_
              · go_simp
              refine wpAnyH_take (i := 6) (v := .bool false) rfl (by kernel_rfl) (by kernel_rfl) (by kernel_rfl) (fun _ _ _ h => h) (Or.inl ⟨by kernel_rfl, fun w9 h9 => ?_⟩) HAD.out ?_
              · obtain ⟨x0, x1, x2, x3⟩ := HC2.out _ h9; go_simp
              refine wpAnyH_take (i := 7) (v := .bool false) rfl (by kernel_rfl) (by kernel_rfl) (by kernel_rfl) (fun _ _ _ h => h) (Or.inl ⟨by kernel_rfl, fun w9 h9 => ?_⟩) HAD.out ?_
              · go_simp
              refine wpAnyH_take (i := 8) (v := undef) rfl (by kernel_rfl) (by kernel_rfl) (by kernel_rfl) (fun _ _ _ h => h) (Or.inr ⟨by kernel_rfl, rfl⟩) HAD.out ?_
              refine wpAnyH_take (i := 9) (v := undef) rfl (by kernel_rfl) (by kernel_rfl) (by kernel_rfl) (fun _ _ _ h => h) (Or.inr ⟨by kernel_rfl, rfl⟩) HAD.out ?_
              refine wpAnyH_take (i := 10) (v := undef) rfl (by kernel_rfl) (by kernel_rfl) (by kernel_rfl) (fun _ _ _ h => h) (Or.inr ⟨by kernel_rfl, rfl⟩) HAD.out ?_
              refine wpAnyH_take (i := 11) (v := undef) rfl (by kernel_rfl) (by kernel_rfl) (by kernel_rfl) (fun _ _ _ h => h) (Or.inr ⟨by kernel_rfl, rfl⟩) HAD.out ?_
              refine wpAnyH_take (i := 12) (v := undef) rfl (by kernel_rfl) (by kernel_rfl) (by kernel_rfl) (fun _ _ _ h => h) (Or.inr ⟨by kernel_rfl, rfl⟩) HAD.out ?_
              refine wpAnyH_take (i := 13) (v := undef) rfl (by kernel_rfl) (by kernel_rfl) (by kernel_rfl) (fun _ _ _ h => h) (Or.inr ⟨by kernel_rfl, rfl⟩) HAD.out ?_
              refine wpAnyH_take (i := 14) (v := undef) rfl (by kernel_rfl) (by kernel_rfl) (by kernel_rfl) (fun _ _ _ h => h) (Or.inr ⟨by kernel_rfl, rfl⟩) HAD.out ?_
              refine wpAnyH_take (i := 15) (v := .bool false) rfl (by kernel_rfl) (by kernel_rfl) (by kernel_rfl) (fun _ _ _ h => h) (Or.inl ⟨by kernel_rfl, fun w9 h9 => ?_⟩) HAD.out ?_
              · go_simp
              refine wpAnyH_take (i := 16) (v := .bool false) rfl (by kernel_rfl) (by kernel_rfl) (by kernel_rfl) (fun _ _ _ h => h) (Or.inl ⟨by kernel_rfl, fun w9 h9 => ?_⟩) HAD.out ?_
              · go_simp
              refine wpAnyH_take (i := 17) (v := undef) rfl (by kernel_rfl) (by kernel_rfl) (by kernel_rfl) (fun _ _ _ h => h) (Or.inr ⟨by kernel_rfl, rfl⟩) HAD.out ?_
              refine wpAnyH_take (i := 18) (v := undef) rfl (by kernel_rfl) (by kernel_rfl) (by kernel_rfl) (fun _ _ _ h => h) (Or.inr ⟨by kernel_rfl, rfl⟩) HAD.out ?_
              refine wpAnyH_take (i := 19) (v := undef) rfl (by kernel_rfl) (by kernel_rfl) (by kernel_rfl) (fun _ _ _ h => h) (Or.inr ⟨by kernel_rfl, rfl⟩) HAD.out ?_
              refine wpAnyH_take (i := 20) (v := undef) rfl (by kernel_rfl) (by kernel_rfl) (by kernel_rfl) (fun _ _ _ h => h) (Or.inr ⟨by kernel_rfl, rfl⟩) HAD.out ?_
              refine wpAnyH_take (i := 21) (v := undef) rfl (by kernel_rfl) (by kernel_rfl) (by kernel_rfl) (fun _ _ _ h => h) (Or.inr ⟨by kernel_rfl, rfl⟩) HAD.out ?_
              refine wpAnyH_take (i := 22) (v := undef) rfl (by kernel_rfl) (by kernel_rfl) (by kernel_rfl) (fun _ _ _ h => h) (Or.inr ⟨by kernel_rfl, rfl⟩) HAD.out ?_
              refine wpAnyH_take (i := 23) (v := undef) rfl (by kernel_rfl) (by kernel_rfl) (by kernel_rfl) (fun _ _ _ h => h) (Or.inr ⟨by kernel_rfl, rfl⟩) HAD.out ?_
              refine wpAnyH_take (i := 24) (v := undef) rfl (by kernel_rfl) (by kernel_rfl) (by kernel_rfl) (fun _ _ _ h => h) (Or.inr ⟨by kernel_rfl, rfl⟩) HAD.out ?_
              refine wpAnyH_take (i := 25) (v := undef) rfl (by kernel_rfl) (by kernel_rfl) (by kernel_rfl) (fun _ _ _ h => h) (Or.inr ⟨by kernel_rfl, rfl⟩) HAD.out ?_
              refine wpAnyH_take (i := 26) (v := undef) rfl (by kernel_rfl) (by kernel_rfl) (by kernel_rfl) (fun _ _ _ h => h) (Or.inr ⟨by kernel_rfl, rfl⟩) HAD.out ?_
              refine wpAnyH_take (i := 27) (v := undef) rfl (by kernel_rfl) (by kernel_rfl) (by kernel_rfl) (fun _ _ _ h => h) (Or.inr ⟨by kernel_rfl, rfl⟩) HAD.out ?_
              refine wpAnyH_take (i := 28) (v := undef) rfl (by kernel_rfl) (by kernel_rfl) (by kernel_rfl) (fun _ _ _ h => h) (Or.inr ⟨by kernel_rfl, rfl⟩) HAD.out ?_
              refine wpAnyH_take (i := 29) (v := undef) rfl (by kernel_rfl) (by kernel_rfl) (by kernel_rfl) (fun _ _ _ h => h) (Or.inr ⟨by kernel_rfl, rfl⟩) HAD.out ?_
              refine wpAnyH_take (i := 30) (v := .bool false) rfl (by kernel_rfl) (by kernel_rfl) (by kernel_rfl) (fun _ _ _ h => h) (Or.inl ⟨by kernel_rfl, fun w9 h9 => ?_⟩) HAD.out ?_
              · go_simp
              refine wpAnyH_take (i := 31) (v := .bool false) rfl (by kernel_rfl) (by kernel_rfl) (by kernel_rfl) (fun _ _ _ h => h) (Or.inl ⟨by kernel_rfl, fun w9 h9 => ?_⟩) HAD.out ?_
              · go_simp
              refine wpAnyH_take (i := 32) (v := .bool false) rfl (by kernel_rfl) (by kernel_rfl) (by kernel_rfl) (fun _ _ _ h => h) (Or.inl ⟨by kernel_rfl, fun w9 h9 => ?_⟩) HAD.out ?_
              · go_simp
              refine wpAnyH_done (by kernel_rfl) ?_ _
              go_simp
              go_wp2
              refine ⟨⟨k + 1, by omega, by rw [HAN.out, HIZ.out]; rfl, by go_num, HAD.out⟩, by simp [intOf]; omega⟩
            cases hge : decide (P ≤ (i : Int))
            · skip
              refine wp_region_held (S := AftS w1) (by kernel_rfl) ?_
              change wpAnyH _ _ _ _ _ _ _ _ (World.drew _)
              refine wpAnyH_take (i := 0) (v := .bool false) rfl (by kernel_rfl) (by kernel_rfl) (by kernel_rfl) (fun _ _ _ h => h) (Or.inl ⟨by kernel_rfl, fun w9 h9 => ?_⟩) HAD.out ?_
              · go_simp
              refine wpAnyH_take (i := 1) (v := .bool false) rfl (by kernel_rfl) (by kernel_rfl) (by kernel_rfl) (fun _ _ _ h => h) (Or.inl ⟨by kernel_rfl, fun w9 h9 => ?_⟩) HAD.out ?_
              · go_simp
              refine wpAnyH_take (i := 2) (v := .slice (some ⟨g, 0, none⟩) zs.length cp) rfl (by kernel_rfl) (by kernel_rfl) (by kernel_rfl) (fun _ _ _ h => h) (Or.inl ⟨by kernel_rfl, fun w9 h9 => ?_⟩) HAD.out ?_
              · go_simp
              refine wpAnyH_take (i := 3) (v := .int .i64 (k : Int)) rfl (by kernel_rfl) (by kernel_rfl) (by kernel_rfl) (fun _ _ _ h => h) (Or.inl ⟨by kernel_rfl, fun w9 h9 => ?_⟩) HAD.out ?_
              · go_simp
              refine wpAnyH_take (i := 4) (v := .pointer (some ⟨g, k * 3, none⟩)) rfl (by kernel_rfl) (by kernel_rfl) (by kernel_rfl) (fun _ _ _ h => h) (Or.inl ⟨by kernel_rfl, fun w9 h9 => ?_⟩) HAD.out ?_
              · go_simp
              refine wpAnyH_take (i := 5) (v := .pointer (some ⟨g, k * 3 + 2, none⟩)) rfl (by kernel_rfl) (by kernel_rfl) (by kernel_rfl) (fun _ _ _ h => h) (Or.inl ⟨by kernel_rfl, fun w9 h9 => ?_⟩) HAD.out ?_
              · go_simp
              refine wpAnyH_take (i := 6) (v := .bool true) rfl (by kernel_rfl) (by kernel_rfl) (by kernel_rfl) (fun _ _ _ h => h) (Or.inl ⟨by kernel_rfl, fun w9 h9 => ?_⟩) HAD.out ?_
              · obtain ⟨x0, x1, x2, x3⟩ := HC2.out _ h9; go_simp
              refine wpAnyH_take (i := 7) (v := .bool true) rfl (by kernel_rfl) (by kernel_rfl) (by kernel_rfl) (fun _ _ _ h => h) (Or.inl ⟨by kernel_rfl, fun w9 h9 => ?_⟩) HAD.out ?_
              · go_simp
              refine wpAnyH_take (i := 8) (v := .int .i64 (i : Int)) rfl (by kernel_rfl) (by kernel_rfl) (by kernel_rfl) (fun _ _ _ h => h) (Or.inl ⟨by kernel_rfl, fun w9 h9 => ?_⟩) HAD.out ?_
              · go_simp
              refine wpAnyH_take (i := 9) (v := .slice (some ⟨g, 0, none⟩) zs.length cp) rfl (by kernel_rfl) (by kernel_rfl) (by kernel_rfl) (fun _ _ _ h => h) (Or.inl ⟨by kernel_rfl, fun w9 h9 => ?_⟩) HAD.out ?_
              · go_simp
              refine wpAnyH_take (i := 10) (v := .int .i64 (k : Int)) rfl (by kernel_rfl) (by kernel_rfl) (by kernel_rfl) (fun _ _ _ h => h) (Or.inl ⟨by kernel_rfl, fun w9 h9 => ?_⟩) HAD.out ?_
              · go_simp
              refine wpAnyH_take (i := 11) (v := .pointer (some ⟨g, k * 3, none⟩)) rfl (by kernel_rfl) (by kernel_rfl) (by kernel_rfl) (fun _ _ _ h => h) (Or.inl ⟨by kernel_rfl, fun w9 h9 => ?_⟩) HAD.out ?_
              · go_simp
              refine wpAnyH_take (i := 12) (v := .pointer (some ⟨g, k * 3, none⟩)) rfl (by kernel_rfl) (by kernel_rfl) (by kernel_rfl) (fun _ _ _ h => h) (Or.inl ⟨by kernel_rfl, fun w9 h9 => ?_⟩) HAD.out ?_
              · go_simp
              refine wpAnyH_take (i := 13) (v := .int .i64 P) rfl (by kernel_rfl) (by kernel_rfl) (by kernel_rfl) (fun _ _ _ h => h) (Or.inl ⟨by kernel_rfl, fun w9 h9 => ?_⟩) HAD.out ?_
              · obtain ⟨x0, x1, x2, x3⟩ := HC2.out _ h9; go_simp
              refine wpAnyH_take (i := 14) (v := .bool false) rfl (by kernel_rfl) (by kernel_rfl) (by kernel_rfl) (fun _ _ _ h => h) (Or.inl ⟨by kernel_rfl, fun w9 h9 => ?_⟩) HAD.out ?_
              · go_simp; all_goals omega
              refine wpAnyH_take (i := 15) (v := .bool false) rfl (by kernel_rfl) (by kernel_rfl) (by kernel_rfl) (fun _ _ _ h => h) (Or.inl ⟨by kernel_rfl, fun w9 h9 => ?_⟩) HAD.out ?_
              · go_simp
              refine wpAnyH_take (i := 16) (v := .bool false) rfl (by kernel_rfl) (by kernel_rfl) (by kernel_rfl) (fun _ _ _ h => h) (Or.inl ⟨by kernel_rfl, fun w9 h9 => ?_⟩) HAD.out ?_
              · go_simp
              refine wpAnyH_take (i := 17) (v := undef) rfl (by kernel_rfl) (by kernel_rfl) (by kernel_rfl) (fun _ _ _ h => h) (Or.inr ⟨by kernel_rfl, rfl⟩) HAD.out ?_
              refine wpAnyH_take (i := 18) (v := undef) rfl (by kernel_rfl) (by kernel_rfl) (by kernel_rfl) (fun _ _ _ h => h) (Or.inr ⟨by kernel_rfl, rfl⟩) HAD.out ?_
              refine wpAnyH_take (i := 19) (v := undef) rfl (by kernel_rfl) (by kernel_rfl) (by kernel_rfl) (fun _ _ _ h => h) (Or.inr ⟨by kernel_rfl, rfl⟩) HAD.out ?_
              refine wpAnyH_take (i := 20) (v := undef) rfl (by kernel_rfl) (by kernel_rfl) (by kernel_rfl) (fun _ _ _ h => h) (Or.inr ⟨by kernel_rfl, rfl⟩) HAD.out ?_
              refine wpAnyH_take (i := 21) (v := undef) rfl (by kernel_rfl) (by kernel_rfl) (by kernel_rfl) (fun _ _ _ h => h) (Or.inr ⟨by kernel_rfl, rfl⟩) HAD.out ?_
              refine wpAnyH_take (i := 22) (v := undef) rfl (by kernel_rfl) (by kernel_rfl) (by kernel_rfl) (fun _ _ _ h => h) (Or.inr ⟨by kernel_rfl, rfl⟩) HAD.out ?_
              refine wpAnyH_take (i := 23) (v := undef) rfl (by kernel_rfl) (by kernel_rfl) (by kernel_rfl) (fun _ _ _ h => h) (Or.inr ⟨by kernel_rfl, rfl⟩) HAD.out ?_
              refine wpAnyH_take (i := 24) (v := undef) rfl (by kernel_rfl) (by kernel_rfl) (by kernel_rfl) (fun _ _ _ h => h) (Or.inr ⟨by kernel_rfl, rfl⟩) HAD.out ?_
              refine wpAnyH_take (i := 25) (v := undef) rfl (by kernel_rfl) (by kernel_rfl) (by kernel_rfl) (fun _ _ _ h => h) (Or.inr ⟨by kernel_rfl, rfl⟩) HAD.out ?_
              refine wpAnyH_take (i := 26) (v := undef) rfl (by kernel_rfl) (by kernel_rfl) (by kernel_rfl) (fun _ _ _ h => h) (Or.inr ⟨by kernel_rfl, rfl⟩) HAD.out ?_
              refine wpAnyH_take (i := 27) (v := undef) rfl (by kernel_rfl) (by kernel_rfl) (by kernel_rfl) (fun _ _ _ h => h) (Or.inr ⟨by kernel_rfl, rfl⟩) HAD.out ?_
              refine wpAnyH_take (i := 28) (v := undef) rfl (by kernel_rfl) (by kernel_rfl) (by kernel_rfl) (fun _ _ _ h => h) (Or.inr ⟨by kernel_rfl, rfl⟩) HAD.out ?_
              refine wpAnyH_take (i := 29) (v := undef) rfl (by kernel_rfl) (by kernel_rfl) (by kernel_rfl) (fun _ _ _ h => h) (Or.inr ⟨by kernel_rfl, rfl⟩) HAD.out ?_
              refine wpAnyH_take (i := 30) (v := .bool false) rfl (by kernel_rfl) (by kernel_rfl) (by kernel_rfl) (fun _ _ _ h => h) (Or.inl ⟨by kernel_rfl, fun w9 h9 => ?_⟩) HAD.out ?_
              · go_simp
              refine wpAnyH_take (i := 31) (v := .bool false) rfl (by kernel_rfl) (by kernel_rfl) (by kernel_rfl) (fun _ _ _ h => h) (Or.inl ⟨by kernel_rfl, fun w9 h9 => ?_⟩) HAD.out ?_
              · go_simp
              refine wpAnyH_take (i := 32) (v := .bool false) rfl (by kernel_rfl) (by kernel_rfl) (by kernel_rfl) (fun _ _ _ h => h) (Or.inl ⟨by kernel_rfl, fun w9 h9 => ?_⟩) HAD.out ?_
              · go_simp
              refine wpAnyH_done (by kernel_rfl) ?_ _
              go_simp
              go_wp2
              refine ⟨⟨k + 1, by omega, by rw [HAN.out, HIZ.out, hge]; rfl, by go_num, HAD.out⟩, by simp [intOf]; omega⟩
            · obtain ⟨Lb, hLb⟩ : ∃ Lb, decide ((i : Int) < P + L) = Lb := ⟨_, rfl⟩
              refine wp_region_held (S := AftS w1) (by kernel_rfl) ?_
              change wpAnyH _ _ _ _ _ _ _ _ (World.drew _)
              refine wpAnyH_take (i := 0) (v := .bool false) rfl (by kernel_rfl) (by kernel_rfl) (by kernel_rfl) (fun _ _ _ h => h) (Or.inl ⟨by kernel_rfl, fun w9 h9 => ?_⟩) HAD.out ?_
              · go_simp
              refine wpAnyH_take (i := 1) (v := .bool false) rfl (by kernel_rfl) (by kernel_rfl) (by kernel_rfl) (fun _ _ _ h => h) (Or.inl ⟨by kernel_rfl, fun w9 h9 => ?_⟩) HAD.out ?_
              · go_simp
              refine wpAnyH_take (i := 2) (v := .slice (some ⟨g, 0, none⟩) zs.length cp) rfl (by kernel_rfl) (by kernel_rfl) (by kernel_rfl) (fun _ _ _ h => h) (Or.inl ⟨by kernel_rfl, fun w9 h9 => ?_⟩) HAD.out ?_
              · go_simp
              refine wpAnyH_take (i := 3) (v := .int .i64 (k : Int)) rfl (by kernel_rfl) (by kernel_rfl) (by kernel_rfl) (fun _ _ _ h => h) (Or.inl ⟨by kernel_rfl, fun w9 h9 => ?_⟩) HAD.out ?_
              · go_simp
              refine wpAnyH_take (i := 4) (v := .pointer (some ⟨g, k * 3, none⟩)) rfl (by kernel_rfl) (by kernel_rfl) (by kernel_rfl) (fun _ _ _ h => h) (Or.inl ⟨by kernel_rfl, fun w9 h9 => ?_⟩) HAD.out ?_
              · go_simp
              refine wpAnyH_take (i := 5) (v := .pointer (some ⟨g, k * 3 + 2, none⟩)) rfl (by kernel_rfl) (by kernel_rfl) (by kernel_rfl) (fun _ _ _ h => h) (Or.inl ⟨by kernel_rfl, fun w9 h9 => ?_⟩) HAD.out ?_
              · go_simp
              refine wpAnyH_take (i := 6) (v := .bool true) rfl (by kernel_rfl) (by kernel_rfl) (by kernel_rfl) (fun _ _ _ h => h) (Or.inl ⟨by kernel_rfl, fun w9 h9 => ?_⟩) HAD.out ?_
              · obtain ⟨x0, x1, x2, x3⟩ := HC2.out _ h9; go_simp
              refine wpAnyH_take (i := 7) (v := .bool true) rfl (by kernel_rfl) (by kernel_rfl) (by kernel_rfl) (fun _ _ _ h => h) (Or.inl ⟨by kernel_rfl, fun w9 h9 => ?_⟩) HAD.out ?_
              · go_simp
              refine wpAnyH_take (i := 8) (v := .int .i64 (i : Int)) rfl (by kernel_rfl) (by kernel_rfl) (by kernel_rfl) (fun _ _ _ h => h) (Or.inl ⟨by kernel_rfl, fun w9 h9 => ?_⟩) HAD.out ?_
              · go_simp
              refine wpAnyH_take (i := 9) (v := .slice (some ⟨g, 0, none⟩) zs.length cp) rfl (by kernel_rfl) (by kernel_rfl) (by kernel_rfl) (fun _ _ _ h => h) (Or.inl ⟨by kernel_rfl, fun w9 h9 => ?_⟩) HAD.out ?_
              · go_simp
              refine wpAnyH_take (i := 10) (v := .int .i64 (k : Int)) rfl (by kernel_rfl) (by kernel_rfl) (by kernel_rfl) (fun _ _ _ h => h) (Or.inl ⟨by kernel_rfl, fun w9 h9 => ?_⟩) HAD.out ?_
              · go_simp
              refine wpAnyH_take (i := 11) (v := .pointer (some ⟨g, k * 3, none⟩)) rfl (by kernel_rfl) (by kernel_rfl) (by kernel_rfl) (fun _ _ _ h => h) (Or.inl ⟨by kernel_rfl, fun w9 h9 => ?_⟩) HAD.out ?_
              · go_simp
              refine wpAnyH_take (i := 12) (v := .pointer (some ⟨g, k * 3, none⟩)) rfl (by kernel_rfl) (by kernel_rfl) (by kernel_rfl) (fun _ _ _ h => h) (Or.inl ⟨by kernel_rfl, fun w9 h9 => ?_⟩) HAD.out ?_
              · go_simp
              refine wpAnyH_take (i := 13) (v := .int .i64 P) rfl (by kernel_rfl) (by kernel_rfl) (by kernel_rfl) (fun _ _ _ h => h) (Or.inl ⟨by kernel_rfl, fun w9 h9 => ?_⟩) HAD.out ?_
              · obtain ⟨x0, x1, x2, x3⟩ := HC2.out _ h9; go_simp
              refine wpAnyH_take (i := 14) (v := .bool true) rfl (by kernel_rfl) (by kernel_rfl) (by kernel_rfl) (fun _ _ _ h => h) (Or.inl ⟨by kernel_rfl, fun w9 h9 => ?_⟩) HAD.out ?_
              · go_simp; all_goals omega
              refine wpAnyH_take (i := 15) (v := .bool true) rfl (by kernel_rfl) (by kernel_rfl) (by kernel_rfl) (fun _ _ _ h => h) (Or.inl ⟨by kernel_rfl, fun w9 h9 => ?_⟩) HAD.out ?_
              · go_simp
              refine wpAnyH_take (i := 16) (v := .bool true) rfl (by kernel_rfl) (by kernel_rfl) (by kernel_rfl) (fun _ _ _ h => h) (Or.inl ⟨by kernel_rfl, fun w9 h9 => ?_⟩) HAD.out ?_
              · go_simp
              refine wpAnyH_take (i := 17) (v := .int .i64 (i : Int)) rfl (by kernel_rfl) (by kernel_rfl) (by kernel_rfl) (fun _ _ _ h => h) (Or.inl ⟨by kernel_rfl, fun w9 h9 => ?_⟩) HAD.out ?_
              · go_simp
              refine wpAnyH_take (i := 18) (v := .slice (some ⟨g, 0, none⟩) zs.length cp) rfl (by kernel_rfl) (by kernel_rfl) (by kernel_rfl) (fun _ _ _ h => h) (Or.inl ⟨by kernel_rfl, fun w9 h9 => ?_⟩) HAD.out ?_
              · go_simp
              refine wpAnyH_take (i := 19) (v := .int .i64 (k : Int)) rfl (by kernel_rfl) (by kernel_rfl) (by kernel_rfl) (fun _ _ _ h => h) (Or.inl ⟨by kernel_rfl, fun w9 h9 => ?_⟩) HAD.out ?_
              · go_simp
              refine wpAnyH_take (i := 20) (v := .pointer (some ⟨g, k * 3, none⟩)) rfl (by kernel_rfl) (by kernel_rfl) (by kernel_rfl) (fun _ _ _ h => h) (Or.inl ⟨by kernel_rfl, fun w9 h9 => ?_⟩) HAD.out ?_
              · go_simp
              refine wpAnyH_take (i := 21) (v := .pointer (some ⟨g, k * 3, none⟩)) rfl (by kernel_rfl) (by kernel_rfl) (by kernel_rfl) (fun _ _ _ h => h) (Or.inl ⟨by kernel_rfl, fun w9 h9 => ?_⟩) HAD.out ?_
              · go_simp
              refine wpAnyH_take (i := 22) (v := .int .i64 P) rfl (by kernel_rfl) (by kernel_rfl) (by kernel_rfl) (fun _ _ _ h => h) (Or.inl ⟨by kernel_rfl, fun w9 h9 => ?_⟩) HAD.out ?_
              · obtain ⟨x0, x1, x2, x3⟩ := HC2.out _ h9; go_simp
              refine wpAnyH_take (i := 23) (v := .slice (some ⟨g, 0, none⟩) zs.length cp) rfl (by kernel_rfl) (by kernel_rfl) (by kernel_rfl) (fun _ _ _ h => h) (Or.inl ⟨by kernel_rfl, fun w9 h9 => ?_⟩) HAD.out ?_
              · go_simp
              refine wpAnyH_take (i := 24) (v := .int .i64 (k : Int)) rfl (by kernel_rfl) (by kernel_rfl) (by kernel_rfl) (fun _ _ _ h => h) (Or.inl ⟨by kernel_rfl, fun w9 h9 => ?_⟩) HAD.out ?_
              · go_simp
              refine wpAnyH_take (i := 25) (v := .pointer (some ⟨g, k * 3, none⟩)) rfl (by kernel_rfl) (by kernel_rfl) (by kernel_rfl) (fun _ _ _ h => h) (Or.inl ⟨by kernel_rfl, fun w9 h9 => ?_⟩) HAD.out ?_
              · go_simp
              refine wpAnyH_take (i := 26) (v := .pointer (some ⟨g, k * 3 + 1, none⟩)) rfl (by kernel_rfl) (by kernel_rfl) (by kernel_rfl) (fun _ _ _ h => h) (Or.inl ⟨by kernel_rfl, fun w9 h9 => ?_⟩) HAD.out ?_
              · go_simp
              refine wpAnyH_take (i := 27) (v := .int .i64 L) rfl (by kernel_rfl) (by kernel_rfl) (by kernel_rfl) (fun _ _ _ h => h) (Or.inl ⟨by kernel_rfl, fun w9 h9 => ?_⟩) HAD.out ?_
              · obtain ⟨x0, x1, x2, x3⟩ := HC2.out _ h9; go_simp
              refine wpAnyH_take (i := 28) (v := .int .i64 (P + L)) rfl (by kernel_rfl) (by kernel_rfl) (by kernel_rfl) (fun _ _ _ h => h) (Or.inl ⟨by kernel_rfl, fun w9 h9 => ?_⟩) HAD.out ?_
              · go_simp
              refine wpAnyH_take (i := 29) (v := .bool Lb) rfl (by kernel_rfl) (by kernel_rfl) (by kernel_rfl) (fun _ _ _ h => h) (Or.inl ⟨by kernel_rfl, fun w9 h9 => ?_⟩) HAD.out ?_
              · go_simp; all_goals omega
              refine wpAnyH_take (i := 30) (v := .bool Lb) rfl (by kernel_rfl) (by kernel_rfl) (by kernel_rfl) (fun _ _ _ h => h) (Or.inl ⟨by kernel_rfl, fun w9 h9 => ?_⟩) HAD.out ?_
              · go_simp
              refine wpAnyH_take (i := 31) (v := .bool Lb) rfl (by kernel_rfl) (by kernel_rfl) (by kernel_rfl) (fun _ _ _ h => h) (Or.inl ⟨by kernel_rfl, fun w9 h9 => ?_⟩) HAD.out ?_
              · go_simp
              refine wpAnyH_take (i := 32) (v := .bool Lb) rfl (by kernel_rfl) (by kernel_rfl) (by kernel_rfl) (fun _ _ _ h => h) (Or.inl ⟨by kernel_rfl, fun w9 h9 => ?_⟩) HAD.out ?_
              · go_simp
              refine wpAnyH_done (by kernel_rfl) ?_ _
              go_simp
              go_wp2
              refine ⟨⟨k + 1, by omega, by rw [HAN.out, HIZ.out, hge, hLb]; rfl, by go_num, HAD.out⟩, by simp [intOf]; omega⟩
end Go.Proofs.Ytdlodflinibaoaa
