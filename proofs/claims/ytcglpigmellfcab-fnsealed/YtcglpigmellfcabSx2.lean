import Derived.Test.YtcglpigmellfcabSx1
import Derived.Test.YtcglpigmellfcabSx0
import Derived.Test.YtcglpigmellfcabLG
import Derived.BigRegion
namespace Go.Proofs.Ytcglpigmellfcab
open Go.ChangeShapes Go.WideShapes Go.ChangeAt Go.RowKit

theorem appRow9 {w : World} {a : Addr} {cap : Nat} {zs : List Int} (h : Irow w (.slice (some a) zs.length cap) zs) (hl : zs.length ≤ 1048576) :
    ∃ v' u', (Builtin.append_ #[27, 27] 27 #[.slice (some ⟨w.heap.size, 0, none⟩) 0 0, .slice (some a) zs.length cap]).run Try.prog (w.alloc (.cells #[] 2)) = .ok v' u' ∧ (u'.ownsRow w.heap.size 2 1 v' zs.length (iR zs) ∧ (w.alloc (.cells #[] 2)).grownBy u' (some w.heap.size)) := by
  have hA : Irow (w.alloc (.cells #[] 2)) (.slice (some a) zs.length cap) zs := h.below ((Below.refl _ _).alloc (Nat.le_refl _) _)
  have H0 : (w.alloc (.cells #[] 2)).ownsRow w.heap.size 2 1 (.slice (some ⟨w.heap.size, 0, none⟩) 0 0) 0 [] := World.ownsRow_lit _ #[] 0 (by simp) (by decide) rfl
  obtain ⟨i0, hi0, hz0, hz1, hz2⟩ := info_parts Try.info2
  obtain ⟨v', w', hr, h2, h3, _, _⟩ := run_append_own_at (P := Try.prog) (w.alloc (.cells #[] 2)) w.heap.size 27 27 2 i0 (.int .i64 0) 1 8 Try.underlying27 hi0 hz0 hz1 hz2 rfl (by decide) (.slice (some ⟨w.heap.size, 0, none⟩) 0 0) 0 [] H0 a zs.length cap (iR zs) (by rw [iR_len]) (iR_cells hA) (iR_one zs) (by unfold maxLen; omega) (by omega) (by simp)
  rw [Nat.zero_add, List.nil_append] at h2
  exact ⟨v', w', hr, h2, h3⟩
theorem row_some9 {w : World} {av : Option Addr} {cv : Nat} {zs : List Int} (h : Irow w (.slice av zs.length cv) zs) (hz : 1 ≤ zs.length) : ∃ a, av = some a := by
  rcases h with ⟨rfl, _⟩ | ⟨g, o, c, hv, _⟩
  · simp at hz
  · injection hv with q1
    exact ⟨_, q1⟩
theorem LG.grow9 {w u u' : World} {b t : Nat} {cs : Array Value} {r : Option Nat} (h : LG w u b cs t) (hg : u.grownBy u' r) (hne : r ≠ some b) (hr : ∀ k, r = some k → w.heap.size ≤ k) : LG w u' b cs t :=
  ⟨h.bel.grown hg h.bel.size hr, (hg.block b h.lt (fun e => hne e.symm)).trans h.box, h.ge⟩
theorem Aft.step9 {w u u' : World} (h : Aft w u) (hb : Below u.heap.size u u') : Aft w u' := ⟨h.out.trans (hb.mono h.out.size)⟩
theorem blk_s8 {u : World} {b : Nat} {cs : Array Value} {t : TypeId} {z : Nat × Nat} (h : u.heap[b]? = some (.cells cs t z)) (o : Nat) (v : Value) : (u.setCell ⟨b, o, none⟩ v).heap[b]? = some (.cells (cs.setIfInBounds o v) t z) := by
  simp [World.setCell, Array.getElem?_modify, h]
theorem LG.put8 {w u : World} {b t : Nat} {cs : Array Value} (h : LG w u b cs t) (o : Nat) (v : Value) : LG w (u.setCell ⟨b, o, none⟩ v) b (cs.setIfInBounds o v) t :=
  ⟨h.bel.setCell (p := ⟨b, o, none⟩) h.ge _, blk_s8 h.box o v, h.ge⟩
theorem fin4 {w u : World} {b t : Nat} {c0 c1 c2 c3 : Value} (h : LG w u b #[c0, c1, c2, c3] t) (d0 d1 d2 d3 : Value) : LG w ((((u.setCell ⟨b, 0, none⟩ d0).setCell ⟨b, 1, none⟩ d1).setCell ⟨b, 2, none⟩ d2).setCell ⟨b, 3, none⟩ d3) b #[d0, d1, d2, d3] t := by
  have h4 := (((h.put8 0 d0).put8 1 d1).put8 2 d2).put8 3 d3
  simpa using h4
theorem far4 {u : World} {b : Nat} {zs : List Int} {v : Value} (h : Irow u v zs) (hn : ∀ g o c, v = .slice (some ⟨g, o, none⟩) zs.length c → g ≠ b) (d0 d1 d2 d3 : Value) : Irow ((((u.setCell ⟨b, 0, none⟩ d0).setCell ⟨b, 1, none⟩ d1).setCell ⟨b, 2, none⟩ d2).setCell ⟨b, 3, none⟩ d3) v zs := by
  rcases h with h | ⟨g, o, c, hv, hc, hg, ha⟩
  · exact .inl h
  · have hne := hn g o c hv
    refine .inr ⟨g, o, c, hv, hc, by simpa [World.setCell] using hg, fun k hk => ?_⟩
    rw [World.cell?_setCell_far _ _ _ _ (fun e => hne e.symm), World.cell?_setCell_far _ _ _ _ (fun e => hne e.symm), World.cell?_setCell_far _ _ _ _ (fun e => hne e.symm), World.cell?_setCell_far _ _ _ _ (fun e => hne e.symm)]
    exact ha k hk
theorem far4o {u : World} {b B : Nat} {zs : List Int} {v : Value} (h : Orow u B v zs) (hb : b < B) (d0 d1 d2 d3 : Value) : Irow ((((u.setCell ⟨b, 0, none⟩ d0).setCell ⟨b, 1, none⟩ d1).setCell ⟨b, 2, none⟩ d2).setCell ⟨b, 3, none⟩ d3) v zs := by
  rcases h with h | ⟨g, o, c, cur, hv, hB, hc, hg, ha⟩
  · exact .inl h
  · refine far4 (.inr ⟨g, o, c, hv, hc, (Array.getElem?_eq_some_iff.1 hg).1, fun k hk => by simp [World.cell?, hg, ha k hk]⟩) (fun g2 o2 c2 e => ?_) d0 d1 d2 d3
    rw [hv] at e
    injection e with e1
    injection e1 with e2
    injection e2 with e3
    omega
/-- Between which blocks a row lies. -/
def VB (v : Value) (zs : List Int) (lo hi : Nat) : Prop := (zs = [] ∧ ∃ ao cap, v = .slice ao 0 cap) ∨ ∃ g o cap, v = .slice (some ⟨g, o, none⟩) zs.length cap ∧ lo ≤ g ∧ g < hi ∧ zs ≠ []
theorem VB.of {w : World} {B : Nat} {v : Value} {zs : List Int} (h : Orow w B v zs) : VB v zs B w.heap.size := by
  by_cases hz : zs = []
  · obtain ⟨ao, cap, e⟩ := h.irow.sl
    subst hz
    exact .inl ⟨rfl, ao, cap, e⟩
  · rcases h with h | ⟨g, o, c, cur, hv, hB, hc, hg, ha⟩
    · exact absurd h.1 hz
    · exact .inr ⟨g, o, c, hv, hB, (Array.getElem?_eq_some_iff.1 hg).1, hz⟩
theorem farI {u : World} {v : Value} {zs : List Int} {lo hi b : Nat} (h : Irow u v zs) (hv : VB v zs lo hi) (hb : b < lo ∨ hi ≤ b) (o : Nat) (x : Value) : Irow (u.setCell ⟨b, o, none⟩ x) v zs := by
  rcases hv with hv | ⟨g, o2, c, hv, h1, h2, hz⟩
  · exact .inl hv
  · rcases h with h | ⟨g', o', c', hv', hc, hg, ha⟩
    · exact absurd h.1 hz
    · rw [hv] at hv'
      injection hv' with e1 e2 e3
      injection e1 with e4
      injection e4 with e5 e6
      subst e5 e6 e3
      exact .inr ⟨g, o2, c, hv, hc, by simpa [World.setCell] using hg, fun k hk => (World.cell?_setCell_far _ _ _ _ (by simp only; omega)).trans (ha k hk)⟩
theorem farI4 {u : World} {v : Value} {zs : List Int} {lo hi b : Nat} (h : Irow u v zs) (hv : VB v zs lo hi) (hb : b < lo ∨ hi ≤ b) (d0 d1 d2 d3 : Value) : Irow ((((u.setCell ⟨b, 0, none⟩ d0).setCell ⟨b, 1, none⟩ d1).setCell ⟨b, 2, none⟩ d2).setCell ⟨b, 3, none⟩ d3) v zs :=
  farI (farI (farI (farI h hv hb 0 d0) hv hb 1 d1) hv hb 2 d2) hv hb 3 d3
theorem gset8 (w : World) (b o : Nat) (v : Value) : w.grownBy (w.setCell ⟨b, o, none⟩ v) (some b) := ⟨rfl, rfl, rfl, by simp [World.setCell], fun k _ hn => Below.heap_setCell _ _ _ _ (fun e => hn (congrArg some e))⟩
/-- The first of a row that one owns, put anew. -/
theorem own_head8 {w : World} {B : Nat} {v : Value} {zs : List Int} (h : w.ownsRow B 2 1 v zs.length (iR zs)) (h1 : 1 ≤ zs.length) :
    ∃ y g c, v = .slice (some ⟨g, 0, none⟩) zs.length c ∧ B ≤ g ∧ g < w.heap.size ∧ w.cell? ⟨g, 0, none⟩ = some (.int .i64 y) ∧ w.frozen? ⟨g, 0, none⟩ = false ∧ ∀ x : Int, Irow (w.setCell ⟨g, 0, none⟩ (.int .i64 x)) (.slice (some ⟨g, 0, none⟩) zs.length c) (zs.set 0 x) ∧ w.grownBy (w.setCell ⟨g, 0, none⟩ (.int .i64 x)) (some g) := by
  have h0 := h
  obtain ⟨hl, ⟨_, he⟩ | ⟨g, c, cur, rfl, hg, h1, _⟩⟩ := h
  · omega
  · have hc := h0.cellAt 0 (by omega)
    refine ⟨zs[0], g, c, rfl, hg, (Array.getElem?_eq_some_iff.1 h1).1, ?_, h0.frozenAt 0, fun x => ?_⟩
    · rw [hc]
      simp [iR]
    · obtain ⟨q1, q2⟩ := h0.stored 0 (.int .i64 x)
      refine ⟨?_, q2⟩
      have e : (iR zs).set 0 (.int .i64 x) = iR (zs.set 0 x) := by simp [iR, List.map_set]
      rw [e] at q1
      have := Irow.of (v := .slice (some ⟨g, 0, none⟩) (zs.set 0 x).length c) (zs := zs.set 0 x) (B := B) (by rw [List.length_set]; exact q1)
      rwa [List.length_set] at this
set_option maxRecDepth 100000 in
set_option maxHeartbeats 4000000 in
theorem ints_any {w : World} {a : Addr} {cap : Nat} {zs : List Int} (h : Irow w (.slice (some a) zs.length cap) zs) (hl : zs.length ≤ 1048576) :
    Calls Try.prog 81 #[.slice (some a) zs.length cap] w fun e w' => ∃ v', e = .returned v' ∧ w'.ownsRow w.heap.size 2 1 v' zs.length (iR zs) ∧ Below w.heap.size w w' := by
  have HAP : Hid _ := appRow9 h hl
  clear h
  go_enter Try.func81, Try.ntmps81
  go_wp2_with (at_builtin; (refine wl_append_ex rfl _ _ 27 rfl _ _ rfl rfl HAP.out ?_; rintro v' u5 ⟨ho, hg⟩; have HO5 : Hid (u5.ownsRow w.heap.size 2 1 v' zs.length (iR zs)) := ho; have HB5 : Hid (Below w.heap.size w u5) := (bx1 w (.cells #[] 2)).grown hg (bx1 w (.cells #[] 2)).size (fun k hk => by cases hk; exact Nat.le_refl _); clear ho hg HAP))
  go_ret
  exact ⟨_, rfl, HO5.out, HB5.out⟩
theorem seV_sizes (r : ByteArray) (zs : List Int) (m : Int) (d : ByteArray) (hd : d.size ≤ 4097) : (seV r zs m d).data.size ≤ 4097 ∧ (seV r zs m d).tag.size ≤ 8 := by
  unfold seV
  split
  · simp only [crV_size, tagV, ByteArray.size_append, pw_size]
    omega
  · exact ⟨Nat.zero_le _, Nat.zero_le _⟩
set_option maxRecDepth 100000 in
set_option maxHeartbeats 8000000 in
theorem drawUnseal_any (a : Option Addr) (len cap : Nat) (w : World) (hcode : CodeAt w w.heap.size a len) (hl : len ≤ 1048576) :
    Calls Try.prog 35 #[.slice a len cap] w fun e w' => ∃ (r : ByteArray) (v : Value) (zs : List Int) (x : SE), e = .returned (.tuple #[.string r, v, .agg #[.int .i64 x.code, .int .i64 x.mask, .string x.data, .string x.tag]]) ∧ Irow w' v zs ∧ zs.length ≤ 9 ∧ Below w.heap.size w w' := by
  have HL4 : Hid (LG w (w.alloc (.cells #[.int .i64 0, .int .i64 0, .string ⟨#[]⟩, .string ⟨#[]⟩] 74)) w.heap.size #[.int .i64 0, .int .i64 0, .string ⟨#[]⟩, .string ⟨#[]⟩] 74) := LG.new w _ _
  have HC4 : Hid (CodeAt (w.alloc (.cells #[.int .i64 0, .int .i64 0, .string ⟨#[]⟩, .string ⟨#[]⟩] 74)) (w.alloc (.cells #[.int .i64 0, .int .i64 0, .string ⟨#[]⟩, .string ⟨#[]⟩] 74)).heap.size a len) := hcode.below (bx1 _ _)
  clear hcode
  go_enter Try.func35, Try.ntmps35
  go_wp2_with fail
  generalize (w.alloc (.cells #[.int .i64 0, .int .i64 0, .string ⟨#[]⟩, .string ⟨#[]⟩] 74)) = u0 at *
  refine (l01Source_any a len cap u0 HC4.out hl).mono ?_
  rintro e w1 ⟨rfl, hs1, hb1⟩
  have HS1 : Hid (SrcOk w1 u0.heap.size a len cap) := hs1
  have HC1 : Hid (CodeAt w1 w1.heap.size a len) := HC4.out.below hb1
  have HL5 : Hid (LG w w1 w.heap.size #[.int .i64 0, .int .i64 0, .string ⟨#[]⟩, .string ⟨#[]⟩] 74) := HL4.out.step hb1
  have HU0 : Hid (w.heap.size < u0.heap.size) := HL4.out.lt
  clear hs1 hb1 HC4 HL4
  generalize u0.heap.size = bs at *
  go_wp2_with fail
  refine (drawSeal_any a len cap w1 HC1.out hl).mono ?_
  rintro e w2 ⟨r, v, zs, m, d, rfl, hr, hd, hv, hz, hb2⟩
  have HS2 : Hid (SrcOk w2 bs a len cap) := src_bel9 HS1.out hb2
  have HL6 : Hid (LG w w2 w.heap.size #[.int .i64 0, .int .i64 0, .string ⟨#[]⟩, .string ⟨#[]⟩] 74) := HL5.out.step hb2
  have HV2 : Hid (Orow w2 (w1.heap.size + 1) v zs) := hv
  have HW1 : Hid (bs < w1.heap.size) := HS1.out.lt
  obtain ⟨av, cv, rfl⟩ := hv.irow.sl
  have hsp := fun u (hu : Below w2.heap.size w2 u) => specSeal_any (hv.irow.below hu) (by omega) r m d
  obtain ⟨x, hx⟩ : ∃ x, seV r zs m d = x := ⟨_, rfl⟩
  obtain ⟨hx1, hx2⟩ := seV_sizes r zs m d hd
  rw [hx] at hx1 hx2
  rw [hx] at hsp
  unfold seA at hsp
  have HSP : Hid _ := hsp w2 (Below.refl _ _)
  clear hsp hv hb2 hx HS1 HL5 HC1 hd
  go_wp2_with fail
  refine Calls.mono HSP.out ?_
  rintro e w3 ⟨rfl, hb3⟩
  have HS3 : Hid (SrcOk (w3.alloc (.cells #[.int .i64 x.code, .int .i64 x.mask, .string x.data, .string x.tag] 74)) bs a len cap) := (src_bel9 HS2.out hb3).far (World.grownBy_alloc _ _ _)
  have HL7 : Hid (LG w (w3.alloc (.cells #[.int .i64 x.code, .int .i64 x.mask, .string x.data, .string x.tag] 74)) w.heap.size #[.int .i64 0, .int .i64 0, .string ⟨#[]⟩, .string ⟨#[]⟩] 74) := (HL6.out.step hb3).step (bx1 _ _)
  have HX7 : Hid (LG w (w3.alloc (.cells #[.int .i64 x.code, .int .i64 x.mask, .string x.data, .string x.tag] 74)) w3.heap.size #[.int .i64 x.code, .int .i64 x.mask, .string x.data, .string x.tag] 74) := ⟨HL7.out.bel, heap_new _ _, (HL6.out.step hb3).bel.size⟩
  have HV3 : Hid (Orow (w3.alloc (.cells #[.int .i64 x.code, .int .i64 x.mask, .string x.data, .string x.tag] 74)) (w1.heap.size + 1) (.slice av zs.length cv) zs) := (HV2.out.below hb3).below (bx1 _ _)
  have HVB : Hid (VB (.slice av zs.length cv) zs (w1.heap.size + 1) w3.heap.size) := VB.of (HV2.out.below hb3)
  have HNE : Hid (w.heap.size < w3.heap.size ∧ bs < w3.heap.size) := (show w.heap.size < w3.heap.size ∧ bs < w3.heap.size from ⟨(HL6.out.step hb3).lt, (src_bel9 HS2.out hb3).lt⟩)
  clear hb3 HSP HS2 HL6 HV2
  go_wp2_with fail
  refine (src_n bs a len cap 8 _ HS3.out (by omega)).mono ?_
  generalize (w3.alloc (.cells #[.int .i64 x.code, .int .i64 x.mask, .string x.data, .string x.tag] 74)) = u3 at *
  generalize w3.heap.size = b10 at *
  rintro e w4 ⟨k, rfl, p4, q4, hs4, hg4⟩
  have HS4 : Hid (SrcOk w4 bs a len cap) := hs4
  have HL8 : Hid (LG w w4 w.heap.size #[.int .i64 0, .int .i64 0, .string ⟨#[]⟩, .string ⟨#[]⟩] 74) := HL7.out.grow9 hg4 (by simp; have := HU0.out; omega) (fun k hk => by cases hk; exact Nat.le_of_lt HU0.out)
  have HX8 : Hid (LG w w4 b10 #[.int .i64 x.code, .int .i64 x.mask, .string x.data, .string x.tag] 74) := HX7.out.grow9 hg4 (by simp; have := HNE.out; omega) (fun k hk => by cases hk; exact Nat.le_of_lt HU0.out)
  have HV4 : Hid (Orow w4 (w1.heap.size + 1) (.slice av zs.length cv) zs) := HV3.out.grow hg4 (by have := HW1.out; omega)
  have HWB : Hid (w.heap.size < w1.heap.size + 1) := (show w.heap.size < w1.heap.size + 1 by have h1 := HW1.out; have h2 := HU0.out; omega)
  clear hs4 hg4 HS3 HL7 HX7 HV3
  cases k0 : (k == 0)
  rotate_left
  · skip
    have z0 := HL8.out.frz 0
    have c0 := HL8.out.cel 0 _ rfl
    have y0 := HX8.out.cel 0 _ rfl
    have z1 := HL8.out.frz 1
    have c1 := HL8.out.cel 1 _ rfl
    have y1 := HX8.out.cel 1 _ rfl
    have z2 := HL8.out.frz 2
    have c2 := HL8.out.cel 2 _ rfl
    have y2 := HX8.out.cel 2 _ rfl
    have z3 := HL8.out.frz 3
    have c3 := HL8.out.cel 3 _ rfl
    have y3 := HX8.out.cel 3 _ rfl
    have cl := HL8.out.lt
    have yl := HX8.out.lt
    go_wp2
    go_region
    all_goals go_wp2
    have HF : Hid _ := fin4 HL8.out (.int .i64 x.code) (.int .i64 x.mask) (.string x.data) (.string x.tag)
    have HR : Hid _ := far4o HV4.out HWB.out (.int .i64 x.code) (.int .i64 x.mask) (.string x.data) (.string x.tag)
    generalize ((((w4.setCell ⟨w.heap.size, 0, none⟩ (.int .i64 x.code)).setCell ⟨w.heap.size, 1, none⟩ (.int .i64 x.mask)).setCell ⟨w.heap.size, 2, none⟩ (.string x.data)).setCell ⟨w.heap.size, 3, none⟩ (.string x.tag)) = W9 at *
    have q0 := HF.out.cel 0 _ rfl
    have q1 := HF.out.cel 1 _ rfl
    have q2 := HF.out.cel 2 _ rfl
    have q3 := HF.out.cel 3 _ rfl
    refine bodyPost_ret (v := .tuple #[.string (r ++ ⟨#[120]⟩), .slice av zs.length cv, .agg #[.int .i64 x.code, .int .i64 x.mask, .string x.data, .string x.tag]]) (by simp [results, Try.results35, go_sem, q0, q1, q2, q3]) rfl ?_
    exact ⟨_, _, zs, ⟨x.code, x.mask, x.data, x.tag⟩, rfl, HR.out, hz, HF.out.bel.drew⟩
  cases k1 : (k == 1)
  rotate_left
  · by_cases hz0 : zs.length = 0
    · have hz1 : ¬ (0 : Int) < (zs.length : Int) := by omega
      clear hz0
      have z0 := HL8.out.frz 0
      have c0 := HL8.out.cel 0 _ rfl
      have y0 := HX8.out.cel 0 _ rfl
      have z1 := HL8.out.frz 1
      have c1 := HL8.out.cel 1 _ rfl
      have y1 := HX8.out.cel 1 _ rfl
      have z2 := HL8.out.frz 2
      have c2 := HL8.out.cel 2 _ rfl
      have y2 := HX8.out.cel 2 _ rfl
      have z3 := HL8.out.frz 3
      have c3 := HL8.out.cel 3 _ rfl
      have y3 := HX8.out.cel 3 _ rfl
      have cl := HL8.out.lt
      have yl := HX8.out.lt
      go_wp2
      go_region
      all_goals go_wp2
      have HF : Hid _ := fin4 HL8.out (.int .i64 x.code) (.int .i64 x.mask) (.string x.data) (.string x.tag)
      have HR : Hid _ := far4o HV4.out HWB.out (.int .i64 x.code) (.int .i64 x.mask) (.string x.data) (.string x.tag)
      generalize ((((w4.setCell ⟨w.heap.size, 0, none⟩ (.int .i64 x.code)).setCell ⟨w.heap.size, 1, none⟩ (.int .i64 x.mask)).setCell ⟨w.heap.size, 2, none⟩ (.string x.data)).setCell ⟨w.heap.size, 3, none⟩ (.string x.tag)) = W9 at *
      have q0 := HF.out.cel 0 _ rfl
      have q1 := HF.out.cel 1 _ rfl
      have q2 := HF.out.cel 2 _ rfl
      have q3 := HF.out.cel 3 _ rfl
      refine bodyPost_ret (v := .tuple #[.string r, .slice av zs.length cv, .agg #[.int .i64 x.code, .int .i64 x.mask, .string x.data, .string x.tag]]) (by simp [results, Try.results35, go_sem, q0, q1, q2, q3]) rfl ?_
      exact ⟨_, _, zs, ⟨x.code, x.mask, x.data, x.tag⟩, rfl, HR.out, hz, HF.out.bel.drew⟩
    · have hz1 : (0 : Int) < (zs.length : Int) := by omega
      obtain ⟨a9, rfl⟩ := row_some9 HV4.out.irow (by omega)
      have HIN : Hid _ := ints_any HV4.out.irow (by omega)
      go_wp2_with fail
      refine Calls.mono HIN.out ?_
      rintro e w5 ⟨v5, rfl, ho5, hb5⟩
      have HL9 : Hid (LG w w5 w.heap.size #[.int .i64 0, .int .i64 0, .string ⟨#[]⟩, .string ⟨#[]⟩] 74) := HL8.out.step hb5
      have HX9 : Hid (LG w w5 b10 #[.int .i64 x.code, .int .i64 x.mask, .string x.data, .string x.tag] 74) := HX8.out.step hb5
      obtain ⟨y, g, c9, rfl, g0, g1, cy, fy, hset⟩ := own_head8 ho5 (by omega)
      have HG0 : Hid (w.heap.size < g) := (show w.heap.size < g by have := HL8.out.lt; omega)
      have HG1 : Hid (b10 < g) := (show b10 < g by have := HX8.out.lt; omega)
      have HGW : Hid (w.heap.size ≤ g) := (show w.heap.size ≤ g by have := HL8.out.lt; omega)
      have HST : Hid _ := hset
      obtain ⟨Y, hY⟩ : ∃ Y, (wrap64 (y + 1)).tmod 7 = Y := ⟨_, rfl⟩
      have HLA : Hid (LG w (w5.setCell ⟨g, 0, none⟩ (.int .i64 Y)) w.heap.size #[.int .i64 0, .int .i64 0, .string ⟨#[]⟩, .string ⟨#[]⟩] 74) := HL9.out.grow9 (HST.out Y).2 (by simp; have := HG0.out; omega) (fun k hk => by cases hk; exact HGW.out)
      have HXA : Hid (LG w (w5.setCell ⟨g, 0, none⟩ (.int .i64 Y)) b10 #[.int .i64 x.code, .int .i64 x.mask, .string x.data, .string x.tag] 74) := HX9.out.grow9 (HST.out Y).2 (by simp; have := HG1.out; omega) (fun k hk => by cases hk; exact HGW.out)
      have HRY : Hid (Irow (w5.setCell ⟨g, 0, none⟩ (.int .i64 Y)) (.slice (some ⟨g, 0, none⟩) zs.length c9) (zs.set 0 Y)) := (HST.out Y).1
      have HNV : Hid (∀ g2 o2 c2, Value.slice (some ⟨g, 0, none⟩) zs.length c9 = .slice (some ⟨g2, o2, none⟩) (zs.set 0 Y).length c2 → g2 ≠ w.heap.size) := fun g2 o2 c2 e => (by
        injection e with e1
        injection e1 with e2
        injection e2 with e3
        have := HG0.out
        omega)
      have HLZ : Hid ((zs.set 0 Y).length ≤ 9) := (show (zs.set 0 Y).length ≤ 9 by simpa using hz)
      clear hset ho5 hb5 HIN HST
      go_upto_region 17 with fail
      generalize (w5.setCell ⟨g, 0, none⟩ (.int .i64 Y)) = w6 at *
      clear cy fy hY
      have z0 := HLA.out.frz 0
      have c0 := HLA.out.cel 0 _ rfl
      have y0 := HXA.out.cel 0 _ rfl
      have z1 := HLA.out.frz 1
      have c1 := HLA.out.cel 1 _ rfl
      have y1 := HXA.out.cel 1 _ rfl
      have z2 := HLA.out.frz 2
      have c2 := HLA.out.cel 2 _ rfl
      have y2 := HXA.out.cel 2 _ rfl
      have z3 := HLA.out.frz 3
      have c3 := HLA.out.cel 3 _ rfl
      have y3 := HXA.out.cel 3 _ rfl
      have cl := HLA.out.lt
      have yl := HXA.out.lt
      go_region
      all_goals go_wp2
      have HF : Hid _ := fin4 HLA.out (.int .i64 x.code) (.int .i64 x.mask) (.string x.data) (.string x.tag)
      have HR : Hid _ := far4 HRY.out HNV.out (.int .i64 x.code) (.int .i64 x.mask) (.string x.data) (.string x.tag)
      generalize ((((w6.setCell ⟨w.heap.size, 0, none⟩ (.int .i64 x.code)).setCell ⟨w.heap.size, 1, none⟩ (.int .i64 x.mask)).setCell ⟨w.heap.size, 2, none⟩ (.string x.data)).setCell ⟨w.heap.size, 3, none⟩ (.string x.tag)) = W9 at *
      have q0 := HF.out.cel 0 _ rfl
      have q1 := HF.out.cel 1 _ rfl
      have q2 := HF.out.cel 2 _ rfl
      have q3 := HF.out.cel 3 _ rfl
      refine bodyPost_ret (v := .tuple #[.string r, .slice (some ⟨g, 0, none⟩) zs.length c9, .agg #[.int .i64 x.code, .int .i64 x.mask, .string x.data, .string x.tag]]) (by simp [results, Try.results35, go_sem, q0, q1, q2, q3]) rfl ?_
      exact ⟨_, _, zs.set 0 Y, ⟨x.code, x.mask, x.data, x.tag⟩, rfl, HR.out, HLZ.out, HF.out.bel.drew⟩
  cases k2 : (k == 2)
  rotate_left
  · have y2 := HX8.out.cel 2 _ rfl
    have yf := HX8.out.frz 2
    have yl := HX8.out.lt
    go_wp2_with fail
    refine (src_spoil bs a len cap x.data w4 HS4.out (by omega)).mono ?_
    rintro e w5 ⟨t, rfl, _, _, hg5⟩
    have HL9 : Hid (LG w w5 w.heap.size #[.int .i64 0, .int .i64 0, .string ⟨#[]⟩, .string ⟨#[]⟩] 74) := HL8.out.grow9 hg5 (by simp; have := HU0.out; omega) (fun k hk => by cases hk; exact Nat.le_of_lt HU0.out)
    have HX9 : Hid (LG w w5 b10 #[.int .i64 x.code, .int .i64 x.mask, .string x.data, .string x.tag] 74) := HX8.out.grow9 hg5 (by simp; have := HNE.out; omega) (fun k hk => by cases hk; exact Nat.le_of_lt HU0.out)
    have HV5 : Hid (Orow w5 (w1.heap.size + 1) (.slice av zs.length cv) zs) := HV4.out.grow hg5 (by have := HW1.out; omega)
    have HXA : Hid (LG w (w5.setCell ⟨b10, 2, none⟩ (.string t)) b10 #[.int .i64 x.code, .int .i64 x.mask, .string t, .string x.tag] 74) := HX9.out.put8 2 (.string t)
    have HGR : Hid (w5.grownBy (w5.setCell ⟨b10, 2, none⟩ (.string t)) (some b10)) := gset8 _ _ _ _
    have HLA : Hid (LG w (w5.setCell ⟨b10, 2, none⟩ (.string t)) w.heap.size #[.int .i64 0, .int .i64 0, .string ⟨#[]⟩, .string ⟨#[]⟩] 74) := HL9.out.grow9 HGR.out (by simp; have := HNE.out; omega) (fun k hk => by cases hk; exact Nat.le_of_lt HNE.out.1)
    have HVA : Hid (Irow (w5.setCell ⟨b10, 2, none⟩ (.string t)) (.slice av zs.length cv) zs) := farI HV5.out.irow HVB.out (.inr (Nat.le_refl _)) _ _
    have yf5 := HX9.out.frz 2
    have y5 := HX9.out.cel 2 _ rfl
    have yl5 := HX9.out.lt
    clear hg5 y2 yf yl
    go_upto_region 17 with fail
    generalize (w5.setCell ⟨b10, 2, none⟩ (.string t)) = w6 at *
    clear yf5 y5 yl5
    have z0 := HLA.out.frz 0
    have c0 := HLA.out.cel 0 _ rfl
    have y0 := HXA.out.cel 0 _ rfl
    have z1 := HLA.out.frz 1
    have c1 := HLA.out.cel 1 _ rfl
    have y1 := HXA.out.cel 1 _ rfl
    have z2 := HLA.out.frz 2
    have c2 := HLA.out.cel 2 _ rfl
    have y2 := HXA.out.cel 2 _ rfl
    have z3 := HLA.out.frz 3
    have c3 := HLA.out.cel 3 _ rfl
    have y3 := HXA.out.cel 3 _ rfl
    have cl := HLA.out.lt
    have yl := HXA.out.lt
    go_region
    all_goals go_wp2
    have HF : Hid _ := fin4 HLA.out (.int .i64 x.code) (.int .i64 x.mask) (.string t) (.string x.tag)
    have HR : Hid _ := farI4 HVA.out HVB.out (.inl HWB.out) (.int .i64 x.code) (.int .i64 x.mask) (.string t) (.string x.tag)
    generalize ((((w6.setCell ⟨w.heap.size, 0, none⟩ (.int .i64 x.code)).setCell ⟨w.heap.size, 1, none⟩ (.int .i64 x.mask)).setCell ⟨w.heap.size, 2, none⟩ (.string t)).setCell ⟨w.heap.size, 3, none⟩ (.string x.tag)) = W9 at *
    have q0 := HF.out.cel 0 _ rfl
    have q1 := HF.out.cel 1 _ rfl
    have q2 := HF.out.cel 2 _ rfl
    have q3 := HF.out.cel 3 _ rfl
    refine bodyPost_ret (v := .tuple #[.string r, .slice av zs.length cv, .agg #[.int .i64 x.code, .int .i64 x.mask, .string t, .string x.tag]]) (by simp [results, Try.results35, go_sem, q0, q1, q2, q3]) rfl ?_
    exact ⟨_, _, zs, ⟨x.code, x.mask, t, x.tag⟩, rfl, HR.out, hz, HF.out.bel.drew⟩
  cases k3 : (k == 3)
  rotate_left
  · have y3 := HX8.out.cel 3 _ rfl
    have yf := HX8.out.frz 3
    have yl := HX8.out.lt
    go_wp2_with fail
    refine (src_spoil bs a len cap x.tag w4 HS4.out (by omega)).mono ?_
    rintro e w5 ⟨t, rfl, _, _, hg5⟩
    have HL9 : Hid (LG w w5 w.heap.size #[.int .i64 0, .int .i64 0, .string ⟨#[]⟩, .string ⟨#[]⟩] 74) := HL8.out.grow9 hg5 (by simp; have := HU0.out; omega) (fun k hk => by cases hk; exact Nat.le_of_lt HU0.out)
    have HX9 : Hid (LG w w5 b10 #[.int .i64 x.code, .int .i64 x.mask, .string x.data, .string x.tag] 74) := HX8.out.grow9 hg5 (by simp; have := HNE.out; omega) (fun k hk => by cases hk; exact Nat.le_of_lt HU0.out)
    have HV5 : Hid (Orow w5 (w1.heap.size + 1) (.slice av zs.length cv) zs) := HV4.out.grow hg5 (by have := HW1.out; omega)
    have HXA : Hid (LG w (w5.setCell ⟨b10, 3, none⟩ (.string t)) b10 #[.int .i64 x.code, .int .i64 x.mask, .string x.data, .string t] 74) := HX9.out.put8 3 (.string t)
    have HGR : Hid (w5.grownBy (w5.setCell ⟨b10, 3, none⟩ (.string t)) (some b10)) := gset8 _ _ _ _
    have HLA : Hid (LG w (w5.setCell ⟨b10, 3, none⟩ (.string t)) w.heap.size #[.int .i64 0, .int .i64 0, .string ⟨#[]⟩, .string ⟨#[]⟩] 74) := HL9.out.grow9 HGR.out (by simp; have := HNE.out; omega) (fun k hk => by cases hk; exact Nat.le_of_lt HNE.out.1)
    have HVA : Hid (Irow (w5.setCell ⟨b10, 3, none⟩ (.string t)) (.slice av zs.length cv) zs) := farI HV5.out.irow HVB.out (.inr (Nat.le_refl _)) _ _
    have yf5 := HX9.out.frz 3
    have y5 := HX9.out.cel 3 _ rfl
    have yl5 := HX9.out.lt
    clear hg5 y3 yf yl
    go_upto_region 17 with fail
    generalize (w5.setCell ⟨b10, 3, none⟩ (.string t)) = w6 at *
    clear yf5 y5 yl5
    have z0 := HLA.out.frz 0
    have c0 := HLA.out.cel 0 _ rfl
    have y0 := HXA.out.cel 0 _ rfl
    have z1 := HLA.out.frz 1
    have c1 := HLA.out.cel 1 _ rfl
    have y1 := HXA.out.cel 1 _ rfl
    have z2 := HLA.out.frz 2
    have c2 := HLA.out.cel 2 _ rfl
    have y2 := HXA.out.cel 2 _ rfl
    have z3 := HLA.out.frz 3
    have c3 := HLA.out.cel 3 _ rfl
    have y3 := HXA.out.cel 3 _ rfl
    have cl := HLA.out.lt
    have yl := HXA.out.lt
    go_region
    all_goals go_wp2
    have HF : Hid _ := fin4 HLA.out (.int .i64 x.code) (.int .i64 x.mask) (.string x.data) (.string t)
    have HR : Hid _ := farI4 HVA.out HVB.out (.inl HWB.out) (.int .i64 x.code) (.int .i64 x.mask) (.string x.data) (.string t)
    generalize ((((w6.setCell ⟨w.heap.size, 0, none⟩ (.int .i64 x.code)).setCell ⟨w.heap.size, 1, none⟩ (.int .i64 x.mask)).setCell ⟨w.heap.size, 2, none⟩ (.string x.data)).setCell ⟨w.heap.size, 3, none⟩ (.string t)) = W9 at *
    have q0 := HF.out.cel 0 _ rfl
    have q1 := HF.out.cel 1 _ rfl
    have q2 := HF.out.cel 2 _ rfl
    have q3 := HF.out.cel 3 _ rfl
    refine bodyPost_ret (v := .tuple #[.string r, .slice av zs.length cv, .agg #[.int .i64 x.code, .int .i64 x.mask, .string x.data, .string t]]) (by simp [results, Try.results35, go_sem, q0, q1, q2, q3]) rfl ?_
    exact ⟨_, _, zs, ⟨x.code, x.mask, x.data, t⟩, rfl, HR.out, hz, HF.out.bel.drew⟩
  cases k4 : (k == 4)
  rotate_left
  · obtain ⟨M, hM⟩ : ∃ M, bits .xor .i64 x.mask 1 = M := ⟨_, rfl⟩
    have HXA : Hid (LG w (w4.setCell ⟨b10, 1, none⟩ (.int .i64 M)) b10 #[.int .i64 x.code, .int .i64 M, .string x.data, .string x.tag] 74) := HX8.out.put8 1 (.int .i64 M)
    have HGR : Hid (w4.grownBy (w4.setCell ⟨b10, 1, none⟩ (.int .i64 M)) (some b10)) := gset8 _ _ _ _
    have HLA : Hid (LG w (w4.setCell ⟨b10, 1, none⟩ (.int .i64 M)) w.heap.size #[.int .i64 0, .int .i64 0, .string ⟨#[]⟩, .string ⟨#[]⟩] 74) := HL8.out.grow9 HGR.out (by simp; have := HNE.out; omega) (fun k hk => by cases hk; exact Nat.le_of_lt HNE.out.1)
    have HVA : Hid (Irow (w4.setCell ⟨b10, 1, none⟩ (.int .i64 M)) (.slice av zs.length cv) zs) := farI HV4.out.irow HVB.out (.inr (Nat.le_refl _)) _ _
    have yf5 := HX8.out.frz 1
    have y5 := HX8.out.cel 1 _ rfl
    have yl5 := HX8.out.lt
    go_upto_region 17 with fail
    generalize (w4.setCell ⟨b10, 1, none⟩ (.int .i64 M)) = w6 at *
    clear yf5 y5 yl5 hM
    have z0 := HLA.out.frz 0
    have c0 := HLA.out.cel 0 _ rfl
    have y0 := HXA.out.cel 0 _ rfl
    have z1 := HLA.out.frz 1
    have c1 := HLA.out.cel 1 _ rfl
    have y1 := HXA.out.cel 1 _ rfl
    have z2 := HLA.out.frz 2
    have c2 := HLA.out.cel 2 _ rfl
    have y2 := HXA.out.cel 2 _ rfl
    have z3 := HLA.out.frz 3
    have c3 := HLA.out.cel 3 _ rfl
    have y3 := HXA.out.cel 3 _ rfl
    have cl := HLA.out.lt
    have yl := HXA.out.lt
    go_region
    all_goals go_wp2
    have HF : Hid _ := fin4 HLA.out (.int .i64 x.code) (.int .i64 M) (.string x.data) (.string x.tag)
    have HR : Hid _ := farI4 HVA.out HVB.out (.inl HWB.out) (.int .i64 x.code) (.int .i64 M) (.string x.data) (.string x.tag)
    generalize ((((w6.setCell ⟨w.heap.size, 0, none⟩ (.int .i64 x.code)).setCell ⟨w.heap.size, 1, none⟩ (.int .i64 M)).setCell ⟨w.heap.size, 2, none⟩ (.string x.data)).setCell ⟨w.heap.size, 3, none⟩ (.string x.tag)) = W9 at *
    have q0 := HF.out.cel 0 _ rfl
    have q1 := HF.out.cel 1 _ rfl
    have q2 := HF.out.cel 2 _ rfl
    have q3 := HF.out.cel 3 _ rfl
    refine bodyPost_ret (v := .tuple #[.string r, .slice av zs.length cv, .agg #[.int .i64 x.code, .int .i64 M, .string x.data, .string x.tag]]) (by simp [results, Try.results35, go_sem, q0, q1, q2, q3]) rfl ?_
    exact ⟨_, _, zs, ⟨x.code, M, x.data, x.tag⟩, rfl, HR.out, hz, HF.out.bel.drew⟩
  have z0 := HL8.out.frz 0
  have c0 := HL8.out.cel 0 _ rfl
  have y0 := HX8.out.cel 0 _ rfl
  have z1 := HL8.out.frz 1
  have c1 := HL8.out.cel 1 _ rfl
  have y1 := HX8.out.cel 1 _ rfl
  have z2 := HL8.out.frz 2
  have c2 := HL8.out.cel 2 _ rfl
  have y2 := HX8.out.cel 2 _ rfl
  have z3 := HL8.out.frz 3
  have c3 := HL8.out.cel 3 _ rfl
  have y3 := HX8.out.cel 3 _ rfl
  have cl := HL8.out.lt
  have yl := HX8.out.lt
  go_wp2
  go_region
  all_goals go_wp2
  have HF : Hid _ := fin4 HL8.out (.int .i64 x.code) (.int .i64 x.mask) (.string x.data) (.string x.tag)
  have HR : Hid _ := far4o HV4.out HWB.out (.int .i64 x.code) (.int .i64 x.mask) (.string x.data) (.string x.tag)
  generalize ((((w4.setCell ⟨w.heap.size, 0, none⟩ (.int .i64 x.code)).setCell ⟨w.heap.size, 1, none⟩ (.int .i64 x.mask)).setCell ⟨w.heap.size, 2, none⟩ (.string x.data)).setCell ⟨w.heap.size, 3, none⟩ (.string x.tag)) = W9 at *
  have q0 := HF.out.cel 0 _ rfl
  have q1 := HF.out.cel 1 _ rfl
  have q2 := HF.out.cel 2 _ rfl
  have q3 := HF.out.cel 3 _ rfl
  refine bodyPost_ret (v := .tuple #[.string r, .slice av zs.length cv, .agg #[.int .i64 x.code, .int .i64 x.mask, .string x.data, .string x.tag]]) (by simp [results, Try.results35, go_sem, q0, q1, q2, q3]) rfl ?_
  exact ⟨_, _, zs, ⟨x.code, x.mask, x.data, x.tag⟩, rfl, HR.out, hz, HF.out.bel.drew⟩
end Go.Proofs.Ytcglpigmellfcab
