import Derived.Test.YtjaelkagacmpkabPlD
namespace Go.Proofs.Ytjaelkagacmpkab
open Go.ChangeShapes Go.WideShapes Go.ChangeAt Go.RowKit

theorem irow_of {w : World} {a : Option Addr} {len cap : Nat} {zs : List Int} (h : (a = none ∧ len = 0 ∧ cap = 0 ∧ zs = []) ∨ ∃ x, a = some x ∧ len ≤ cap ∧ cap ≤ maxLen ∧ zs.length = cap ∧ (∀ i, i < zs.length → w.cell? (x.add i) = some (.int .i64 (zs.getD i 0))) ∧ ∀ n ∈ zs, (Lit.int .i64 n).wf = true) :
    ∃ ys : List Int, Irow w (.slice a len cap) ys ∧ ys.length = len ∧ len ≤ maxLen := by
  rcases h with ⟨rfl, rfl, rfl, rfl⟩ | ⟨x, rfl, hl, hm, hz, hcell, _⟩
  · exact ⟨[], .inl ⟨rfl, none, 0, rfl⟩, rfl, Nat.zero_le _⟩
  · cases len with
    | zero => exact ⟨[], .inl ⟨rfl, _, _, rfl⟩, rfl, Nat.zero_le _⟩
    | succ len =>
      have h0 := hcell 0 (by omega)
      have hsp : x.spot = none := by
        cases hs : x.spot with
        | none => rfl
        | some q =>
          simp [Addr.add, World.cell?, hs] at h0
          cases hq : w.heap[x.block]? with
          | none => simp [hq] at h0
          | some ob => cases ob <;> simp [hq] at h0
      have hlt : x.block < w.heap.size := by
        simp [Addr.add, World.cell?] at h0
        cases hq : w.heap[x.block]? with
        | none => simp [hq] at h0
        | some ob => exact (Array.getElem?_eq_some_iff.1 hq).1
      obtain ⟨b, o, sp⟩ := x
      simp only at hsp hlt
      subst hsp
      have hadd : ∀ q, Addr.add ⟨b, o, none⟩ q = ⟨b, o + q, none⟩ := fun q => by
        unfold Addr.add
        split
        · subst_vars; rfl
        · rfl
      have htl : (zs.take (len + 1)).length = len + 1 := by rw [List.length_take]; omega
      refine ⟨zs.take (len + 1), .inr ⟨b, o, cap, by rw [htl], by omega, hlt, fun k hk => ?_⟩, htl, by omega⟩
      have h1 := hcell k (by omega)
      rw [hadd] at h1
      rw [h1, List.getElem_take]
      simp [List.getD, List.getElem?_eq_getElem (show k < zs.length by omega)]
set_option maxRecDepth 100000 in
set_option maxHeartbeats 4000000 in
theorem walkPl {w : World} {v : Value} {zs : List Int} (m s : ByteArray) (h : Irow w v zs) (hl : zs.length ≤ maxLen) (hm : m.size ≤ maxLen) (hs : s.size ≤ maxLen) :
    Calls Try.prog 3 #[.string m, v, .string s] w fun e w' => e = .returned (.bool true) ∧ Below w.heap.size w w' := by
  obtain ⟨a1, c1, rfl⟩ := h.sl
  have HR : Hid (Irow w (.slice a1 zs.length c1) zs) := h
  clear h
  unfold maxLen at hl hm hs
  by_cases h1 : 1048576 < m.size
  · go_enter Try.func3, Try.ntmps3
    go_wp2
    go_ret
    exact ⟨rfl, Below.refl _ _⟩
  by_cases h2 : 1048576 < zs.length
  · go_enter Try.func3, Try.ntmps3
    go_wp2
    go_ret
    exact ⟨rfl, Below.refl _ _⟩
  by_cases h3 : 1048576 < s.size
  · go_enter Try.func3, Try.ntmps3
    go_wp2
    go_ret
    exact ⟨rfl, Below.refl _ _⟩
  have HSP : Hid (∀ {u : World} {v : Value}, Irow u v zs → Calls Try.prog 6 #[.string m, v, .string s] u fun e w' => e = .returned (.int .i64 (plC m zs s)) ∧ Below u.heap.size u w') := fun hr => specPlace_any m s hr (by omega) (by omega) (by omega)
  have HIM : Hid (∀ {u : World} {v : Value}, Irow u v zs → Calls Try.prog 8 #[.string m, v, .string s] u fun e w' => e = .returned (.int .i64 (plC m zs s)) ∧ Below u.heap.size u w') := fun hr => implPlace_any m s hr (by omega) (by omega) (by omega)
  have HTO : Hid (∀ {u : World}, Below w.heap.size w u → Calls Try.prog 7 #[.slice a1 zs.length c1] u fun e w' => ∃ x, e = .returned x ∧ Irow w' x zs ∧ Below u.heap.size u w') := fun hu => (toIS_any (HR.out.below hu) (by omega)).mono (fun e w' ⟨x, hx, ho, hb⟩ => ⟨x, hx, Irow.of ho, hb⟩)
  have HEQ : Hid (∀ {u : World} {x y : Value}, Irow u x zs → Irow u y zs → Calls Try.prog 9 #[x, y] u fun e w' => e = .returned (.bool true) ∧ Below u.heap.size u w') := fun hx hy => eqIS_ok hx hy (by omega)
  clear HR
  go_enter Try.func3, Try.ntmps3
  go_wp2_with (first
    | (go_at_call 7; have hA := HTO.out (Below.refl _ _); refine Calls.mono hA ?_; clear hA; rintro e u1 ⟨x1, rfl, hx1, hb1⟩; have HX1 : Hid (Irow u1 x1 zs) := hx1; have HB1 : Hid (Below w.heap.size w u1) := hb1; clear hx1 hb1)
    | (go_at_call 6; have hA := HSP.out HX1.out; refine Calls.mono hA ?_; clear hA; rintro e u2 ⟨rfl, hb⟩; have HB2 : Hid (Below w.heap.size w u2) := HB1.out.trans (hb.mono HB1.out.size); clear hb HX1 HB1)
    | (go_at_call 7; have hA := HTO.out HB2.out; refine Calls.mono hA ?_; clear hA; rintro e u3 ⟨x3, rfl, hx3, hb⟩; have HX3 : Hid (Irow u3 x3 zs) := hx3; have HB3 : Hid (Below w.heap.size w u3) := HB2.out.trans (hb.mono HB2.out.size); clear hx3 hb HB2)
    | (go_at_call 8; have hA := HIM.out HX3.out; refine Calls.mono hA ?_; clear hA; rintro e u4 ⟨rfl, hb⟩; have HX4 : Hid (Irow u4 x3 zs) := HX3.out.below hb; have HB4 : Hid (Below w.heap.size w u4) := HB3.out.trans (hb.mono HB3.out.size); clear hb HX3 HB3)
    | (go_at_call 7; have hA := HTO.out HB4.out; refine Calls.mono hA ?_; clear hA; rintro e u5 ⟨x5, rfl, hx5, hb⟩; have HX5 : Hid (Irow u5 x5 zs) := hx5; have HX6 : Hid (Irow u5 x3 zs) := HX4.out.below hb; have HB5 : Hid (Below w.heap.size w u5) := HB4.out.trans (hb.mono HB4.out.size); clear hx5 hb HB4 HX4)
    | (go_at_call 9; have hA := HEQ.out HX6.out HX5.out; refine Calls.mono hA ?_; clear hA; rintro e u6 ⟨rfl, hb⟩; have HB6 : Hid (Below w.heap.size w u6) := HB5.out.trans (hb.mono HB5.out.size); clear hb HB5))
  go_ret
  exact ⟨rfl, HB6.out⟩
end Go.Proofs.Ytjaelkagacmpkab
