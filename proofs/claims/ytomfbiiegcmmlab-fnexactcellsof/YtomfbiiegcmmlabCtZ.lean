import Derived.Test.YtomfbiiegcmmlabMqZ
import Derived.Test.YtomfbiiegcmmlabRp
import Derived.Laws.AppendOwn
import Derived.Test.YtomfbiiegcmmlabCt4
namespace Go.Proofs.Ytomfbiiegcmmlab
open Go.ChangeShapes Go.WideShapes Go.ChangeAt Go.RowKit

set_option maxRecDepth 100000
/-- What a slot reads as. -/
def txS (h : MH) (x : SL) : ByteArray := if x.kind = 1 then h.cs.getD x.pos.toNat ⟨#[]⟩ else if x.kind = 2 then h.ps.getD x.pos.toNat ⟨#[]⟩ else z16
theorem inB_of {l : List ByteArray} {p : Int} (h : inB l p = true) : ∃ (k : Nat) (hk : k < l.length), p = (k : Int) ∧ l.getD p.toNat ⟨#[]⟩ = l[k] := by
  unfold inB at h
  simp only [Bool.and_eq_true, decide_eq_true_eq] at h
  obtain ⟨⟨h0, h1⟩, _⟩ := h
  refine ⟨p.toNat, by omega, by omega, ?_⟩
  rw [List.getD_eq_getElem?_getD, List.getElem?_eq_getElem (by omega)]
  rfl
theorem Srow.at {w : World} {v : Value} {zs : List ByteArray} (h : Srow w v zs) (k : Nat) (hk : k < zs.length) : ∃ g o cap, v = .slice (some ⟨g, o, none⟩) zs.length cap ∧ g < w.heap.size ∧ w.cell? ⟨g, o + k, none⟩ = some (.string zs[k]) := by
  rcases h with ⟨e, _⟩ | ⟨g, o, cap, hv, _, hg, hc⟩
  · subst e; simp at hk
  · exact ⟨g, o, cap, hv, hg, hc k hk⟩
set_option maxHeartbeats 4000000 in
theorem textOf_any {w : World} {B b : Nat} {h : MH} {a : HA} {x : SL} (hq : QH w B h a) (hs : SB w b x) (hld : ldB h x = true) : Calls Try.prog 41 #[.pointer (some ⟨B, 0, none⟩), .pointer (some ⟨b, 0, none⟩)] w fun e w' => e = .returned (.string (txS h x)) ∧ Below w.heap.size w w' := by
  have s0 := hs.c0
  have s1 := hs.c1
  have sl := hs.lt
  have ql := hq.lt
  obtain ⟨X, hX⟩ : ∃ X, txS h x = X := ⟨_, rfl⟩
  rw [hX]
  unfold txS at hX
  unfold ldB at hld
  have HBD : Hid (Below w.heap.size w w.drew) := (Below.refl _ _).drew
  by_cases k1 : x.kind = 1
  · rw [if_pos k1] at hX
    rw [if_neg (by omega), if_pos k1] at hld
    obtain ⟨p, hp, ep, eX⟩ := inB_of hld
    rw [eX] at hX
    rw [k1] at s0
    rw [ep] at s1
    obtain ⟨g, o, cap, hv, hg, hc⟩ := hq.row.cs.at p hp
    have q1 := hq.c1
    rw [hv] at q1
    rw [hX] at hc
    clear hX eX hld
    generalize h.cs.length = N at *
    have HSB : Hid (w.drew.cell? ⟨B, 1, none⟩ = some (.slice (some ⟨g, o, none⟩) N cap) ∧ w.drew.cell? ⟨b, 1, none⟩ = some (.int .i64 (p : Nat)) ∧ w.drew.cell? ⟨g, o + p, none⟩ = some (.string X) ∧ B < w.drew.heap.size ∧ b < w.drew.heap.size ∧ g < w.drew.heap.size) := ⟨q1, s1, hc, ql, sl, hg⟩
    clear hq hs ep k1 hv
    go_enter Try.func41, Try.ntmps41
    go_wp2_with fail
    refine wp_region_held (S := fun w9 => w9.cell? ⟨B, 1, none⟩ = some (.slice (some ⟨g, o, none⟩) N cap) ∧ w9.cell? ⟨b, 1, none⟩ = some (.int .i64 (p : Nat)) ∧ w9.cell? ⟨g, o + p, none⟩ = some (.string X) ∧ B < w9.heap.size ∧ b < w9.heap.size ∧ g < w9.heap.size) (by kernel_rfl) ?_
    change wpAnyH _ _ _ _ _ _ _ _ (World.drew _)
    refine wpAnyH_take (i := 0) (v := .pointer (some ⟨B, 0, none⟩)) rfl (by kernel_rfl) (by kernel_rfl) (by kernel_rfl) (fun _ _ _ h => h) (Or.inl ⟨by kernel_rfl, fun w9 h9 => ?_⟩) HSB.out ?_
    · go_simp
    refine wpAnyH_take (i := 1) (v := .pointer (some ⟨B, 0, none⟩)) rfl (by kernel_rfl) (by kernel_rfl) (by kernel_rfl) (fun _ _ _ h => h) (Or.inl ⟨by kernel_rfl, fun w9 h9 => ?_⟩) HSB.out ?_
    · go_simp
    refine wpAnyH_take (i := 2) (v := .pointer (some ⟨B, 0, none⟩)) rfl (by kernel_rfl) (by kernel_rfl) (by kernel_rfl) (fun _ _ _ h => h) (Or.inl ⟨by kernel_rfl, fun w9 h9 => ?_⟩) HSB.out ?_
    · go_simp
    refine wpAnyH_take (i := 3) (v := .pointer (some ⟨B, 1, none⟩)) rfl (by kernel_rfl) (by kernel_rfl) (by kernel_rfl) (fun _ _ _ h => h) (Or.inl ⟨by kernel_rfl, fun w9 h9 => ?_⟩) HSB.out ?_
    · go_simp
    refine wpAnyH_take (i := 4) (v := .slice (some ⟨g, o, none⟩) N cap) rfl (by kernel_rfl) (by kernel_rfl) (by kernel_rfl) (fun _ _ _ h => h) (Or.inl ⟨by kernel_rfl, fun w9 h9 => ?_⟩) HSB.out ?_
    · obtain ⟨x0, x1, x2, x3, x4, x5⟩ := h9; go_simp
    refine wpAnyH_take (i := 5) (v := .pointer (some ⟨b, 0, none⟩)) rfl (by kernel_rfl) (by kernel_rfl) (by kernel_rfl) (fun _ _ _ h => h) (Or.inl ⟨by kernel_rfl, fun w9 h9 => ?_⟩) HSB.out ?_
    · go_simp
    refine wpAnyH_take (i := 6) (v := .pointer (some ⟨b, 0, none⟩)) rfl (by kernel_rfl) (by kernel_rfl) (by kernel_rfl) (fun _ _ _ h => h) (Or.inl ⟨by kernel_rfl, fun w9 h9 => ?_⟩) HSB.out ?_
    · go_simp
    refine wpAnyH_take (i := 7) (v := .pointer (some ⟨b, 1, none⟩)) rfl (by kernel_rfl) (by kernel_rfl) (by kernel_rfl) (fun _ _ _ h => h) (Or.inl ⟨by kernel_rfl, fun w9 h9 => ?_⟩) HSB.out ?_
    · go_simp
    refine wpAnyH_take (i := 8) (v := .int .i64 (p : Nat)) rfl (by kernel_rfl) (by kernel_rfl) (by kernel_rfl) (fun _ _ _ h => h) (Or.inl ⟨by kernel_rfl, fun w9 h9 => ?_⟩) HSB.out ?_
    · obtain ⟨x0, x1, x2, x3, x4, x5⟩ := h9; go_simp
    refine wpAnyH_take (i := 9) (v := .pointer (some ⟨g, o + p, none⟩)) rfl (by kernel_rfl) (by kernel_rfl) (by kernel_rfl) (fun _ _ _ h => h) (Or.inl ⟨by kernel_rfl, fun w9 h9 => ?_⟩) HSB.out ?_
    · go_simp
    refine wpAnyH_take (i := 10) (v := .string X) rfl (by kernel_rfl) (by kernel_rfl) (by kernel_rfl) (fun _ _ _ h => h) (Or.inl ⟨by kernel_rfl, fun w9 h9 => ?_⟩) HSB.out ?_
    · obtain ⟨x0, x1, x2, x3, x4, x5⟩ := h9; go_simp
    refine wpAnyH_take (i := 11) (v := .string X) rfl (by kernel_rfl) (by kernel_rfl) (by kernel_rfl) (fun _ _ _ h => h) (Or.inl ⟨by kernel_rfl, fun w9 h9 => ?_⟩) HSB.out ?_
    · go_simp
    refine wpAnyH_done (by kernel_rfl) ?_ _
    go_simp
    go_wp2
    go_ret
    exact ⟨rfl, HBD.out⟩
  · rw [if_neg k1] at hX
    by_cases k2 : x.kind = 2
    · rw [if_pos k2] at hX
      rw [if_neg (by omega), if_neg k1, if_pos k2] at hld
      obtain ⟨p, hp, ep, eX⟩ := inB_of hld
      rw [eX] at hX
      rw [k2] at s0
      rw [ep] at s1
      obtain ⟨g, o, cap, hv, hg, hc⟩ := hq.row.ps.at p hp
      have q1 := hq.c3
      rw [hv] at q1
      rw [hX] at hc
      clear hX eX hld
      generalize h.ps.length = N at *
      have HSB : Hid (w.drew.cell? ⟨B, 3, none⟩ = some (.slice (some ⟨g, o, none⟩) N cap) ∧ w.drew.cell? ⟨b, 1, none⟩ = some (.int .i64 (p : Nat)) ∧ w.drew.cell? ⟨g, o + p, none⟩ = some (.string X) ∧ B < w.drew.heap.size ∧ b < w.drew.heap.size ∧ g < w.drew.heap.size) := ⟨q1, s1, hc, ql, sl, hg⟩
      clear hq hs ep k1 k2 hv
      go_enter Try.func41, Try.ntmps41
      go_wp2_with fail
      refine wp_region_held (S := fun w9 => w9.cell? ⟨B, 3, none⟩ = some (.slice (some ⟨g, o, none⟩) N cap) ∧ w9.cell? ⟨b, 1, none⟩ = some (.int .i64 (p : Nat)) ∧ w9.cell? ⟨g, o + p, none⟩ = some (.string X) ∧ B < w9.heap.size ∧ b < w9.heap.size ∧ g < w9.heap.size) (by kernel_rfl) ?_
      change wpAnyH _ _ _ _ _ _ _ _ (World.drew _)
      refine wpAnyH_take (i := 0) (v := .pointer (some ⟨B, 0, none⟩)) rfl (by kernel_rfl) (by kernel_rfl) (by kernel_rfl) (fun _ _ _ h => h) (Or.inl ⟨by kernel_rfl, fun w9 h9 => ?_⟩) HSB.out ?_
      · go_simp
      refine wpAnyH_take (i := 1) (v := .pointer (some ⟨B, 0, none⟩)) rfl (by kernel_rfl) (by kernel_rfl) (by kernel_rfl) (fun _ _ _ h => h) (Or.inl ⟨by kernel_rfl, fun w9 h9 => ?_⟩) HSB.out ?_
      · go_simp
      refine wpAnyH_take (i := 2) (v := .pointer (some ⟨B, 2, none⟩)) rfl (by kernel_rfl) (by kernel_rfl) (by kernel_rfl) (fun _ _ _ h => h) (Or.inl ⟨by kernel_rfl, fun w9 h9 => ?_⟩) HSB.out ?_
      · go_simp
      refine wpAnyH_take (i := 3) (v := .pointer (some ⟨B, 3, none⟩)) rfl (by kernel_rfl) (by kernel_rfl) (by kernel_rfl) (fun _ _ _ h => h) (Or.inl ⟨by kernel_rfl, fun w9 h9 => ?_⟩) HSB.out ?_
      · go_simp
      refine wpAnyH_take (i := 4) (v := .slice (some ⟨g, o, none⟩) N cap) rfl (by kernel_rfl) (by kernel_rfl) (by kernel_rfl) (fun _ _ _ h => h) (Or.inl ⟨by kernel_rfl, fun w9 h9 => ?_⟩) HSB.out ?_
      · obtain ⟨x0, x1, x2, x3, x4, x5⟩ := h9; go_simp
      refine wpAnyH_take (i := 5) (v := .pointer (some ⟨b, 0, none⟩)) rfl (by kernel_rfl) (by kernel_rfl) (by kernel_rfl) (fun _ _ _ h => h) (Or.inl ⟨by kernel_rfl, fun w9 h9 => ?_⟩) HSB.out ?_
      · go_simp
      refine wpAnyH_take (i := 6) (v := .pointer (some ⟨b, 0, none⟩)) rfl (by kernel_rfl) (by kernel_rfl) (by kernel_rfl) (fun _ _ _ h => h) (Or.inl ⟨by kernel_rfl, fun w9 h9 => ?_⟩) HSB.out ?_
      · go_simp
      refine wpAnyH_take (i := 7) (v := .pointer (some ⟨b, 1, none⟩)) rfl (by kernel_rfl) (by kernel_rfl) (by kernel_rfl) (fun _ _ _ h => h) (Or.inl ⟨by kernel_rfl, fun w9 h9 => ?_⟩) HSB.out ?_
      · go_simp
      refine wpAnyH_take (i := 8) (v := .int .i64 (p : Nat)) rfl (by kernel_rfl) (by kernel_rfl) (by kernel_rfl) (fun _ _ _ h => h) (Or.inl ⟨by kernel_rfl, fun w9 h9 => ?_⟩) HSB.out ?_
      · obtain ⟨x0, x1, x2, x3, x4, x5⟩ := h9; go_simp
      refine wpAnyH_take (i := 9) (v := .pointer (some ⟨g, o + p, none⟩)) rfl (by kernel_rfl) (by kernel_rfl) (by kernel_rfl) (fun _ _ _ h => h) (Or.inl ⟨by kernel_rfl, fun w9 h9 => ?_⟩) HSB.out ?_
      · go_simp
      refine wpAnyH_take (i := 10) (v := .string X) rfl (by kernel_rfl) (by kernel_rfl) (by kernel_rfl) (fun _ _ _ h => h) (Or.inl ⟨by kernel_rfl, fun w9 h9 => ?_⟩) HSB.out ?_
      · obtain ⟨x0, x1, x2, x3, x4, x5⟩ := h9; go_simp
      refine wpAnyH_take (i := 11) (v := .string X) rfl (by kernel_rfl) (by kernel_rfl) (by kernel_rfl) (fun _ _ _ h => h) (Or.inl ⟨by kernel_rfl, fun w9 h9 => ?_⟩) HSB.out ?_
      · go_simp
      refine wpAnyH_done (by kernel_rfl) ?_ _
      go_simp
      go_wp2
      go_ret
      exact ⟨rfl, HBD.out⟩
    · rw [if_neg k2] at hX
      have k0 : x.kind = 0 := by
        by_cases k0 : x.kind = 0
        · exact k0
        · rw [if_neg k0, if_neg k1, if_neg k2] at hld; exact absurd hld (by decide)
      rw [k0] at s0
      have HRP : Hid _ := repeat16_any w
      rw [hX] at HRP
      clear hq hs hld hX k0 k1 k2
      go_enter Try.func41, Try.ntmps41
      go_wp2_with (go_at_call 75; refine Calls.mono HRP.out ?_; rintro e u1 ⟨rfl, hu⟩)
      go_ret
      exact ⟨rfl, hu⟩
theorem Try.info5 : (Try.prog.info? 5).map (fun i => (i.zero, i.size, i.bytes)) = some (some (.int .u8 0), 1, 1) := by kernel_rfl
theorem mk16 (w : World) : (Instr.makeSlice 93 (.int .i64 16) (.int .i64 16)).run Try.prog w = .ok (.slice (some ⟨w.heap.size, 0, none⟩) 16 16) (w.alloc (.cells (madeCells #[.int .u8 0] 16) 5)) := by
  obtain ⟨i0, hi, hz0, hz1, hz2⟩ := info_parts Try.info5
  have hr := run_makeSlice (P := Try.prog) w 93 5 i0 (.int .u8 0) Try.underlying93 hi hz0 .i64 .i64 16 16 (by omega) (by omega) (by rw [hz1]; omega) (by rw [hz2]; omega) (by omega)
  rw [hr, hz1]
  rfl
theorem conv16 (w : World) :
    Sem.run Try.prog (convert 93 9 (.slice (some ⟨w.heap.size, 0, none⟩) 16 16)) (w.alloc (.cells (madeCells #[.int .u8 0] 16) 5)) = .ok (.string z16) (w.alloc (.cells (madeCells #[.int .u8 0] 16) 5)) := by
  refine run_convert_bytes_arg _ 93 5 Try.underlying93 Try.underlying5 w.heap.size 0 16 16 (List.replicate 16 0) rfl ?_ 9 Try.underlying9
  intro i hi
  have h16 : i < 16 := by simpa using hi
  match i, h16 with
  | 0, _ | 1, _ | 2, _ | 3, _ | 4, _ | 5, _ | 6, _ | 7, _ | 8, _ | 9, _ | 10, _ | 11, _ | 12, _ | 13, _ | 14, _ | 15, _ => simp [madeCells]
  | _ + 16, h => exact absurd h (by omega)
set_option maxHeartbeats 4000000 in
theorem l12Read_any {w : World} {h : MH} {a : HA} {x : SL} (hr : HRows w h a) (hld : ldB h x = true) : Calls Try.prog 35 #[mhA a h.time, slA x] w fun e w' => e = .returned (.string (txS h x)) ∧ Below w.heap.size w w' := by
  obtain ⟨X, hX⟩ : ∃ X, txS h x = X := ⟨_, rfl⟩
  rw [hX]
  unfold txS at hX
  unfold ldB at hld
  have hb1 : Below w.heap.size w (w.alloc (.cells #[a.vc, a.vp, a.vg, .int .i64 h.time] 30)) := (Below.refl _ _).alloc (Nat.le_refl _) _
  have HB : Hid (Below w.heap.size w ((w.alloc (.cells #[a.vc, a.vp, a.vg, .int .i64 h.time] 30)).alloc (.cells #[.int .i64 x.kind, .int .i64 x.pos, .int .i64 x.used] 70))) := hb1.alloc hb1.size _
  have hx1 : HB2 ((w.alloc (.cells #[a.vc, a.vp, a.vg, .int .i64 h.time] 30)).alloc (.cells #[.int .i64 x.kind, .int .i64 x.pos, .int .i64 x.used] 70)) w.heap.size h a := (HB2.new hr).step ((Below.refl _ _).alloc (Nat.le_refl _) _)
  have hs := SB.new (w.alloc (.cells #[a.vc, a.vp, a.vg, .int .i64 h.time] 30)) x 70
  rw [show (w.alloc (.cells #[a.vc, a.vp, a.vg, .int .i64 h.time] 30)).heap.size = w.heap.size + 1 from by simp] at hs
  have HX : Hid _ := hx1
  have HS : Hid _ := hs
  clear hb1 hx1 hs
  unfold mhA slA
  by_cases k1 : x.kind = 1
  · rw [if_pos k1] at hX
    rw [if_neg (by omega), if_pos k1] at hld
    obtain ⟨p, hp, ep, eX⟩ := inB_of hld
    rw [eX] at hX
    have HK : Hid (x.kind = 1) := k1
    have HE : Hid (x.pos = (p : Int)) := ep
    have HXX : Hid (h.cs[p] = X) := hX
    clear hld hr k1 ep eX hX
    go_enter Try.func35, Try.ntmps35
    go_upto_region 1 with fail
    generalize ((w.alloc (.cells #[a.vc, a.vp, a.vg, .int .i64 h.time] 30)).alloc (.cells #[.int .i64 x.kind, .int .i64 x.pos, .int .i64 x.used] 70)) = W0 at *
    obtain ⟨g, o, cap, hv, hg, hc⟩ := HX.out.row.cs.at p hp
    rw [HXX.out] at hc
    obtain ⟨c0, c1, c2, _⟩ := HX.out.cel
    have cl := HX.out.lt
    obtain ⟨sl, s0, s1, _⟩ := HS.out
    rw [HK.out] at s0
    rw [HE.out] at s1
    rw [hv] at c0
    clear HXX HX HS c1 c2 hv HE HK
    generalize h.cs.length = N at *
    go_wp2
    go_ret
    exact ⟨rfl, HB.out⟩
  · rw [if_neg k1] at hX
    by_cases k2 : x.kind = 2
    · rw [if_pos k2] at hX
      rw [if_neg (by omega), if_neg k1, if_pos k2] at hld
      obtain ⟨p, hp, ep, eX⟩ := inB_of hld
      rw [eX] at hX
      have HK : Hid (x.kind = 2) := k2
      have HE : Hid (x.pos = (p : Int)) := ep
      have HXX : Hid (h.ps[p] = X) := hX
      clear hld hr k1 k2 ep eX hX
      go_enter Try.func35, Try.ntmps35
      go_upto_region 1 with fail
      generalize ((w.alloc (.cells #[a.vc, a.vp, a.vg, .int .i64 h.time] 30)).alloc (.cells #[.int .i64 x.kind, .int .i64 x.pos, .int .i64 x.used] 70)) = W0 at *
      obtain ⟨g, o, cap, hv, hg, hc⟩ := HX.out.row.ps.at p hp
      rw [HXX.out] at hc
      obtain ⟨c0, c1, c2, _⟩ := HX.out.cel
      have cl := HX.out.lt
      obtain ⟨sl, s0, s1, _⟩ := HS.out
      rw [HK.out] at s0
      rw [HE.out] at s1
      rw [hv] at c1
      clear HXX HX HS c0 c2 hv HE HK
      generalize h.ps.length = N at *
      go_wp2
      go_ret
      exact ⟨rfl, HB.out⟩
    · rw [if_neg k2] at hX
      have k0 : x.kind = 0 := by
        by_cases k0 : x.kind = 0
        · exact k0
        · rw [if_neg k0, if_neg k1, if_neg k2] at hld; exact absurd hld (by decide)
      have HK : Hid (x.kind = 0) := k0
      have HXX : Hid (z16 = X) := hX
      clear hld hr HX k0 k1 k2 hX
      go_enter Try.func35, Try.ntmps35
      go_upto_region 1 with fail
      generalize ((w.alloc (.cells #[a.vc, a.vp, a.vg, .int .i64 h.time] 30)).alloc (.cells #[.int .i64 x.kind, .int .i64 x.pos, .int .i64 x.used] 70)) = W0 at *
      obtain ⟨sl, s0, s1, _⟩ := HS.out
      rw [HK.out] at s0
      clear HS s1
      have HB2 : Hid (Below w.heap.size w (W0.alloc (.cells (madeCells #[.int .u8 0] 16) 5))) := HB.out.alloc HB.out.size _
      have hmk := mk16 W0
      have hcv := conv16 W0
      rw [HXX.out] at hcv
      clear HXX HK
      go_wp2
      go_ret
      exact ⟨rfl, HB2.out⟩

set_option maxRecDepth 100000
theorem new_cells (w : World) (xs : List Value) (t : Nat) : ∀ (j : Nat) (u : Value), xs[j]? = some u → (w.alloc (.cells xs.toArray t)).cell? ((⟨w.heap.size, 0, none⟩ : Addr).add j) = some u := by
  intro j u hu
  have hadd : Addr.add ⟨w.heap.size, 0, none⟩ j = ⟨w.heap.size, j, none⟩ := by
    unfold Addr.add
    split
    · subst_vars; rfl
    · simp
  rw [hadd]
  have hh := heap_new w (.cells xs.toArray t)
  simp only [World.cell?, hh]
  simpa using hu
/-- What the slots of a guest read as. -/
def txL (h : MH) (ss : List SL) : List ByteArray := ss.map (txS h)
theorem txL_len (h : MH) (ss : List SL) : (txL h ss).length = ss.length := by simp [txL]
theorem txL_up (h : MH) (ss : List SL) (k : Nat) (hk : k < ss.length) : txL h (ss.take (k + 1)) = txL h (ss.take k) ++ [txS h ss[k]] := by
  unfold txL
  rw [List.take_succ_eq_append_getElem hk, List.map_append]
  rfl
def celS (h : MH) (g : Int) : List ByteArray := if mhB h && inW h.gs.length g 1 then txL h ((h.gs.getD g.toNat ⟨[], ⟨#[]⟩, []⟩).ss) else []
theorem mhB_ld {h : MH} (e : mhB h = true) (k : Nat) (hk : k < h.gs.length) (j : Nat) (hj : j < h.gs[k].ss.length) : ldB h h.gs[k].ss[j] = true := by
  have hg : guB h h.gs[k] = true := by
    cases hb : guB h h.gs[k] with
    | true => rfl
    | false => rw [mh_g hk hb] at e; exact absurd e (by decide)
  cases hs : slB h h.gs[k].ss[j] with
  | true => exact slB_ld hs
  | false => rw [guB_s hj hs] at hg; exact absurd hg (by decide)
theorem inW_of {n : Nat} {g : Int} (h : inW n g 1 = true) : ∃ k : Nat, k < n ∧ g = (k : Int) := by
  rw [inW_one] at h
  have := of_decide_eq_true h
  exact ⟨g.toNat, by omega, by omega⟩
theorem celS_at {h : MH} (e : mhB h = true) (k : Nat) (hk : k < h.gs.length) : celS h (k : Int) = txL h h.gs[k].ss := by
  unfold celS
  rw [e, inW_one, decide_eq_true (by omega), Int.toNat_natCast, List.getD_eq_getElem?_getD, List.getElem?_eq_getElem hk]
  rfl
theorem celS_no {h : MH} (e : mhB h = false) (g : Int) : celS h g = [] := by unfold celS; rw [e]; rfl
theorem celS_out {h : MH} {g : Int} (e : inW h.gs.length g 1 = false) : celS h g = [] := by unfold celS; rw [e, Bool.and_false]; rfl
theorem SLrow.at {w : World} {v : Value} {zs : List SL} (h : SLrow w v zs) : zs.length = 0 ∨ ∃ g o cap, v = .slice (some ⟨g, o, none⟩) zs.length cap ∧ g < w.heap.size ∧ SLat w g o zs := by
  rcases h with ⟨e, _⟩ | ⟨g, o, cap, hv, _, hg, hc⟩
  · exact .inl (by rw [e]; rfl)
  · exact .inr ⟨g, o, cap, hv, hg, hc⟩
theorem guest_at {w : World} {h : MH} {vc vp : Value} {ac : Option Addr} {kc : Nat} {qs : List MG} (hr : HRows w h ⟨vc, vp, .slice ac qs.length kc, qs⟩) (G : Nat) (hG : G < h.gs.length) : ∃ gg og, ac = some ⟨gg, og, none⟩ ∧ ∃ as1 ks1, Hid (∀ u, Below w.heap.size w u → u.cell? ⟨gg, og + G * 3, none⟩ = some (.slice as1 h.gs[G].ss.length ks1) ∧ gg < u.heap.size ∧ SLrow u (.slice as1 h.gs[G].ss.length ks1) h.gs[G].ss) := by
  have hlen : qs.length = h.gs.length := hr.gi.len
  have hq : G < qs.length := by omega
  rcases hr.mg with ⟨e, _⟩ | ⟨g, o, cap, hv, _, hg, hat⟩
  · simp only at e; subst e; simp at hq
  · simp only at hv hat
    injection hv with e1 e2 e3
    subst e1
    obtain ⟨as1, ks1, es⟩ := (hr.gi.el G hq hG).2.1.sl
    refine ⟨g, o, rfl, as1, ks1, (show ∀ u, _ → _ from fun u hu => ⟨?_, Nat.lt_of_lt_of_le hg hu.size, ?_⟩)⟩
    · rw [← es]; exact ((bcell hu).1 g _ hg).trans (hat G hq).1
    · rw [← es]; exact (hr.gi.el G hq hG).2.1.below hu
set_option maxHeartbeats 4000000 in
theorem implCells_any {w : World} {h : MH} {a : HA} (hr : HRows w h a) (hL : HLen h) (z : Int) (hz : i64B z) : Calls Try.prog 10 #[mhA a h.time, .int .i64 z] w fun e w' => ∃ v, e = .returned v ∧ w'.ownsRow w.heap.size 9 1 v (celS h z).length (sR (celS h z)) ∧ Below w.heap.size w w' := by
  obtain ⟨al, kl, el⟩ := hr.cs.sl
  obtain ⟨am, km, em⟩ := hr.ps.sl
  obtain ⟨ac, kc, ec⟩ := hr.mg.sl
  obtain ⟨vc, vp, vg, qs⟩ := a
  simp only at el em ec
  subst el em ec
  have HB0 : Hid (Below w.heap.size w (w.alloc (.cells #[.slice al h.cs.length kl, .slice am h.ps.length km, .slice ac qs.length kc, .int .i64 h.time] 30))) := (Below.refl _ _).alloc (Nat.le_refl _) _
  have HX0 : Hid (HB2 (w.alloc (.cells #[.slice al h.cs.length kl, .slice am h.ps.length km, .slice ac qs.length kc, .int .i64 h.time] 30)) w.heap.size h ⟨.slice al h.cs.length kl, .slice am h.ps.length km, .slice ac qs.length kc, qs⟩) := HB2.new hr
  have hM := memoryOf_any (hr.below HB0.out)
  rw [show (w.alloc (.cells #[.slice al h.cs.length kl, .slice am h.ps.length km, .slice ac qs.length kc, .int .i64 h.time] 30)).heap.size = w.heap.size + 1 from by simp] at hM
  have HM : Hid _ := hM
  clear hM
  have HIR : Hid (∀ (w1 u : World) (B : Nat), PH w1 u B h ⟨.slice al h.cs.length kl, .slice am h.ps.length km, .slice ac qs.length kc, qs⟩ → Calls Try.prog 39 #[.pointer (some ⟨B, 0, none⟩)] u fun e w' => e = .returned (.bool (mhB h)) ∧ Below u.heap.size u w') := fun w1 u B x => by
    have := hostRight_any x hL
    rw [irB_mhB] at this
    exact this
  have hlen : qs.length = h.gs.length := hr.gi.len
  have HIW : Hid (∀ u, Calls Try.prog 40 #[.int .i64 (qs.length : Nat), .int .i64 z, .int .i64 1] u fun e w' => e = .returned (.bool (inW h.gs.length z 1)) ∧ w' = u) := fun u => by
    have := isWithin_any qs.length z 1 u (by rw [hlen]; exact hL.g) ⟨by decide, by decide⟩
    rw [hlen] at this ⊢
    exact this
  have HR : Hid (HRows w h ⟨.slice al h.cs.length kl, .slice am h.ps.length km, .slice ac qs.length kc, qs⟩) := hr
  have HL : Hid (HLen h) := hL
  have HLQ : Hid (qs.length = h.gs.length) := hlen
  clear hr hL hlen
  unfold mhA at HM ⊢
  simp only at HM ⊢
  cases hmh : mhB h with
  | false =>
    rw [celS_no hmh]
    rw [hmh] at HIR
    clear hmh
    go_enter Try.func10, Try.ntmps10
    go_wp2_with (first | (go_at_call 38; refine Calls.mono HM.out ?_; rintro e u1 ⟨rfl, hp⟩; have HP : Hid _ := hp; clear hp) | (go_at_call 39; refine Calls.mono (HIR.out _ _ _ HP.out) ?_; rintro e u2 ⟨rfl, hu⟩; have HU : Hid (Below w.heap.size w u2) := (HB0.out.trans (HP.out.bel.mono HB0.out.size)).trans (hu.mono (HB0.out.trans (HP.out.bel.mono HB0.out.size)).size); clear hu))
    go_ret
    exact ⟨_, rfl, World.ownsRow_nil _ _ _ _, HU.out⟩
  | true =>
  cases hin : inW h.gs.length z 1 with
  | false =>
    rw [celS_out hin]
    rw [hmh] at HIR
    rw [hin] at HIW
    clear hmh hin
    go_enter Try.func10, Try.ntmps10
    go_wp2_with (first | (go_at_call 38; refine Calls.mono HM.out ?_; rintro e u1 ⟨rfl, hp⟩; have HP : Hid _ := hp; clear hp) | (go_at_call 39; refine Calls.mono (HIR.out _ _ _ HP.out) ?_; rintro e u2 ⟨rfl, hu⟩; have HU1 : Hid (Below w.heap.size w u1) := HB0.out.trans (HP.out.bel.mono HB0.out.size); have HU : Hid (Below w.heap.size w u2) := HU1.out.trans (hu.mono HU1.out.size); obtain ⟨c0, c1, c2, c3⟩ := ((HX0.out.step HP.out.bel).step hu).cel; simp only at c0 c1 c2 c3; have cl := ((HX0.out.step HP.out.bel).step hu).lt; clear hu) | (go_at_call 40; refine Calls.mono (HIW.out _) ?_; rintro e u3 ⟨rfl, rfl⟩))
    go_ret
    exact ⟨_, rfl, World.ownsRow_nil _ _ _ _, HU.out⟩
  | true =>
  obtain ⟨G, hG, rfl⟩ := inW_of hin
  rw [celS_at hmh G hG]
  have HLD : Hid (∀ j (hj : j < h.gs[G].ss.length), ldB h h.gs[G].ss[j] = true) := fun j hj => mhB_ld hmh G hG j hj
  rw [hmh] at HIR
  rw [hin] at HIW
  obtain ⟨gg, og, rfl, as1, ks1, HF⟩ := guest_at HR.out G hG
  have hlss := HL.out.s G hG
  have hG0 : (0 : Int) ≤ (G : Int) := by omega
  have hG1 : (G : Int) < (qs.length : Int) := by rw [HLQ.out]; omega
  have hG2 : G ≤ 1048576 := by have := HL.out.g; omega
  clear hmh hin
  rw [txL_len]
  generalize h.gs[G].ss = ss at HLD HF hlss ⊢
  obtain ⟨i0, hi0, hz0, hz1, hz2⟩ := info_parts Try.info9
  have HI0 : Hid _ := hi0
  have HZ0 : Hid _ := hz0
  have HZ1 : Hid _ := hz1
  have HZ2 : Hid _ := hz2
  clear hi0 hz0 hz1 hz2
  obtain ⟨S, hS⟩ : ∃ S, ss.length = S := ⟨_, rfl⟩
  rw [hS] at hlss ⊢
  simp only [hS] at HF
  have HS : Hid (ss.length = S) := hS
  clear hS
  go_enter Try.func10, Try.ntmps10
  go_wp2_with (first | (go_at_call 38; refine Calls.mono HM.out ?_; rintro e u1 ⟨rfl, hp⟩; have HP : Hid _ := hp; clear hp) | (go_at_call 39; refine Calls.mono (HIR.out _ _ _ HP.out) ?_; rintro e u2 ⟨rfl, hu⟩; have HU1 : Hid (Below w.heap.size w u1) := HB0.out.trans (HP.out.bel.mono HB0.out.size); have HU : Hid (Below w.heap.size w u2) := HU1.out.trans (hu.mono HU1.out.size); have HXU : Hid (HB2 u2 w.heap.size h ⟨.slice al h.cs.length kl, .slice am h.ps.length km, .slice (some ⟨gg, og, none⟩) qs.length kc, qs⟩) := (HX0.out.step HP.out.bel).step hu; have HQU : Hid (QH u2 (w.heap.size + 1 + 1) h ⟨.slice al h.cs.length kl, .slice am h.ps.length km, .slice (some ⟨gg, og, none⟩) qs.length kc, qs⟩) := HP.out.qh.below hu; obtain ⟨c0, c1, c2, c3⟩ := HXU.out.cel; simp only at c0 c1 c2 c3; have cl := HXU.out.lt; obtain ⟨d0, d1, d2⟩ := HF.out _ HU.out; have HSL : Hid (SLrow u2 (.slice as1 S ks1) ss) := d2; clear hu d2) | (go_at_call 40; refine Calls.mono (HIW.out _) ?_; rintro e u3 ⟨rfl, rfl⟩))
  clear c0 c1 c2 c3 d0 cl
  go_loopw [6, 29] (fun st i wr => ∃ k : Nat, k ≤ S ∧ i = .int .i64 k ∧ wr.ownsRow u3.heap.size 9 1 st k (sR (txL h (ss.take k))) ∧ Below u3.heap.size u3 wr) (fun _ i _ => S - (intOf i).toNat)
  case atStart => exact ⟨0, Nat.zero_le _, rfl, World.ownsRow_nil _ _ _ _, Below.refl _ _⟩
  case round =>
    obtain ⟨k, hk, rfl, hown, hb⟩ := hrel
    obtain ⟨st0, kst, hst⟩ := s_sl hown
    subst hst
    have HOW : Hid (wr.ownsRow u3.heap.size 9 1 (.slice st0 k kst) k (sR (txL h (ss.take k)))) := hown
    have HB : Hid (Below u3.heap.size u3 wr) := hb
    clear hown
    by_cases hlt : k < S
    · have hks : k < ss.length := by rw [HS.out]; exact hlt
      rcases (HSL.out.below hb).at with e | ⟨sg, so, cap3, hv, hsg, hat⟩
      · rw [HS.out] at e; omega
      injection hv with e1 e2 e3
      subst e1 e3
      obtain ⟨f0, f1, f2⟩ := hat k hks
      have HUP : Hid (txL h (ss.take (k + 1)) = txL h (ss.take k) ++ [txS h ss[k]]) := txL_up h ss k hks
      have hb1 : Below u3.heap.size u3 (wr.alloc (.cells #[.int .i64 ss[k].kind, .int .i64 ss[k].pos, .int .i64 ss[k].used] 70)) := hb.alloc hb.size _
      have HB1 : Hid _ := hb1
      have HTX : Hid _ := textOf_any (HQU.out.below hb1) (SB.new wr ss[k] 70) (HLD.out k hks)
      have HO0 : Hid _ := World.ownsRow.alloc HOW.out (.cells #[.int .i64 ss[k].kind, .int .i64 ss[k].pos, .int .i64 ss[k].used] 70)
      generalize txS h ss[k] = p at *
      have hk0 : (0 : Int) ≤ (k : Int) := by omega
      have hk1 : (k : Int) < (S : Int) := by omega
      generalize ss[k].kind = x0 at *
      generalize ss[k].pos = x1 at *
      generalize ss[k].used = x2 at *
      clear hat hb hb1 e2 hks
      go_wp2_with fail
      refine Calls.mono HTX.out ?_
      rintro e u4 ⟨rfl, hu⟩
      have HU4 : Hid (Below u3.heap.size u3 u4) := HB1.out.trans (hu.mono HB1.out.size)
      have HO1 : Hid (u4.ownsRow u3.heap.size 9 1 (.slice st0 k kst) k (sR (txL h (ss.take k)))) := own_below HO0.out hu
      clear hu HTX HO0 HB1 HOW f0 f1 f2
      go_wp2_with (at_builtin; refine wpList_append_own _ rfl _ _ 22 rfl u3.heap.size 9 i0 (.string ⟨#[]⟩) 1 16 Try.underlying22 HI0.out HZ0.out HZ1.out HZ2.out rfl (by decide) (.slice st0 k kst) k (sR (txL h (ss.take k))) rfl (HO1.out.alloc _) ⟨u4.heap.size, 0, none⟩ 1 1 [.string p] rfl rfl ?c1 ?c2 ?c3 ?c4 ?c5 ?_)
      case c1 => exact new_cells u4 [.string p] 9
      case c2 => simp [Value.oneCell']
      case c3 => unfold maxLen; omega
      case c4 => omega
      case c5 => have := HU4.out.size; simp; omega
      intro v' w2 hown2 hgrow _
      have HO2 : Hid (w2.ownsRow u3.heap.size 9 1 v' (k + 1) (sR (txL h (ss.take (k + 1))))) := (show w2.ownsRow u3.heap.size 9 1 v' (k + 1) (sR (txL h (ss.take (k + 1)))) by
        rw [HUP.out]
        simpa [sR] using hown2)
      have HB2 : Hid (Below u3.heap.size u3 w2) := (HU4.out.alloc HU4.out.size _).grown hgrow (by simp; have := HU4.out.size; omega) (fun j hj => (HO1.out.lt j hj).1)
      obtain ⟨st2, k2, hst2⟩ := s_sl HO2.out
      subst hst2
      clear hown2 hgrow
      go_wp2
      exact ⟨⟨k + 1, hlt, by simp, HO2.out, HB2.out⟩, by simp [intOf]; omega⟩
    · obtain rfl : k = S := by omega
      have HOF : Hid (wr.ownsRow w.heap.size 9 1 (.slice st0 k kst) k (sR (txL h ss))) := (show wr.ownsRow w.heap.size 9 1 (.slice st0 k kst) k (sR (txL h ss)) by
        have := own_weak HOW.out HU.out.size
        rw [← HS.out, List.take_length, HS.out] at this
        exact this)
      go_wp2
      go_ret
      exact ⟨_, rfl, HOF.out, HU.out.trans (HB.out.mono HU.out.size)⟩

set_option maxRecDepth 100000
set_option maxHeartbeats 4000000 in
theorem specCells_any {w : World} {h : MH} {a : HA} (hr : HRows w h a) (hL : HLen h) (hE : (allS h).length ≤ 1048576) (z : Int) : Calls Try.prog 8 #[mhA a h.time, .int .i64 z] w fun e w' => ∃ v, e = .returned v ∧ Srow w' v (celS h z) ∧ Below w.heap.size w w' := by
  obtain ⟨al, kl, el⟩ := hr.cs.sl
  obtain ⟨am, km, em⟩ := hr.ps.sl
  obtain ⟨ac, kc, ec⟩ := hr.mg.sl
  obtain ⟨vc, vp, vg, qs⟩ := a
  simp only at el em ec
  subst el em ec
  have hb0 : Below w.heap.size w (w.alloc (.cells #[.slice al h.cs.length kl, .slice am h.ps.length km, .slice ac qs.length kc, .int .i64 h.time] 30)) := (Below.refl _ _).alloc (Nat.le_refl _) _
  have HBW : Hid (∀ u, Below (w.alloc (.cells #[.slice al h.cs.length kl, .slice am h.ps.length km, .slice ac qs.length kc, .int .i64 h.time] 30)).heap.size (w.alloc (.cells #[.slice al h.cs.length kl, .slice am h.ps.length km, .slice ac qs.length kc, .int .i64 h.time] 30)) u → Below w.heap.size w u) := fun u hu => hb0.trans (hu.mono hb0.size)
  have HXX : Hid (∀ u, Below (w.alloc (.cells #[.slice al h.cs.length kl, .slice am h.ps.length km, .slice ac qs.length kc, .int .i64 h.time] 30)).heap.size (w.alloc (.cells #[.slice al h.cs.length kl, .slice am h.ps.length km, .slice ac qs.length kc, .int .i64 h.time] 30)) u → HB2 u w.heap.size h ⟨.slice al h.cs.length kl, .slice am h.ps.length km, .slice ac qs.length kc, qs⟩) := fun u hu => (HB2.new hr).step hu
  have HB01 : Hid (Below (w.alloc (.cells #[.slice al h.cs.length kl, .slice am h.ps.length km, .slice ac qs.length kc, .int .i64 h.time] 30)).heap.size (w.alloc (.cells #[.slice al h.cs.length kl, .slice am h.ps.length km, .slice ac qs.length kc, .int .i64 h.time] 30)) ((w.alloc (.cells #[.slice al h.cs.length kl, .slice am h.ps.length km, .slice ac qs.length kc, .int .i64 h.time] 30)).alloc (.cells #[] 9))) := (Below.refl _ _).alloc (Nat.le_refl _) _
  have HO1 : Hid (((w.alloc (.cells #[.slice al h.cs.length kl, .slice am h.ps.length km, .slice ac qs.length kc, .int .i64 h.time] 30)).alloc (.cells #[] 9)).ownsRow (w.alloc (.cells #[.slice al h.cs.length kl, .slice am h.ps.length km, .slice ac qs.length kc, .int .i64 h.time] 30)).heap.size 9 1 (.slice (some ⟨w.heap.size + 1, 0, none⟩) 0 0) 0 (sR [])) := (show ((w.alloc (.cells #[.slice al h.cs.length kl, .slice am h.ps.length km, .slice ac qs.length kc, .int .i64 h.time] 30)).alloc (.cells #[] 9)).ownsRow (w.alloc (.cells #[.slice al h.cs.length kl, .slice am h.ps.length km, .slice ac qs.length kc, .int .i64 h.time] 30)).heap.size 9 1 (.slice (some ⟨w.heap.size + 1, 0, none⟩) 0 0) 0 (sR []) by
    have := s_own0 (w.alloc (.cells #[.slice al h.cs.length kl, .slice am h.ps.length km, .slice ac qs.length kc, .int .i64 h.time] 30)) 0 (by omega)
    rw [show (w.alloc (.cells #[.slice al h.cs.length kl, .slice am h.ps.length km, .slice ac qs.length kc, .int .i64 h.time] 30)).heap.size = w.heap.size + 1 from by simp] at this ⊢
    exact this)
  have HMH : Hid (∀ u, Below (w.alloc (.cells #[.slice al h.cs.length kl, .slice am h.ps.length km, .slice ac qs.length kc, .int .i64 h.time] 30)).heap.size (w.alloc (.cells #[.slice al h.cs.length kl, .slice am h.ps.length km, .slice ac qs.length kc, .int .i64 h.time] 30)) u → Calls Try.prog 34 #[.agg #[.slice al h.cs.length kl, .slice am h.ps.length km, .slice ac qs.length kc, .int .i64 h.time]] u fun e w' => e = .returned (.int .i64 (mhI h)) ∧ Below u.heap.size u w') := fun u hu => by
    have hA := specMH_any (HXX.out u hu).row hL hE
    unfold mhA at hA
    simp only at hA
    exact hA
  have HRD : Hid (∀ u x, Below (w.alloc (.cells #[.slice al h.cs.length kl, .slice am h.ps.length km, .slice ac qs.length kc, .int .i64 h.time] 30)).heap.size (w.alloc (.cells #[.slice al h.cs.length kl, .slice am h.ps.length km, .slice ac qs.length kc, .int .i64 h.time] 30)) u → ldB h x = true → Calls Try.prog 35 #[.agg #[.slice al h.cs.length kl, .slice am h.ps.length km, .slice ac qs.length kc, .int .i64 h.time], .agg #[.int .i64 x.kind, .int .i64 x.pos, .int .i64 x.used]] u fun e w' => e = .returned (.string (txS h x)) ∧ Below u.heap.size u w') := fun u x hu hl => by
    have hA := l12Read_any (HXX.out u hu).row hl
    unfold mhA slA at hA
    simp only at hA
    exact hA
  have HR : Hid (HRows w h ⟨.slice al h.cs.length kl, .slice am h.ps.length km, .slice ac qs.length kc, qs⟩) := hr
  have HL : Hid (HLen h) := hL
  have HLQ : Hid (qs.length = h.gs.length) := hr.gi.len
  clear hr hL hE hb0
  unfold mhA
  simp only
  cases hmh : mhB h with
  | false =>
    rw [celS_no hmh]
    rw [mhI_no hmh] at HMH
    clear hmh
    go_enter Try.func8, Try.ntmps8
    go_upto_region 2 with fail
    generalize ((w.alloc (.cells #[.slice al h.cs.length kl, .slice am h.ps.length km, .slice ac qs.length kc, .int .i64 h.time] 30)).alloc (.cells #[] 9)) = W1 at *
    generalize (w.alloc (.cells #[.slice al h.cs.length kl, .slice am h.ps.length km, .slice ac qs.length kc, .int .i64 h.time] 30)) = W0 at *
    generalize hbb : w.heap.size = b at *
    have HBB : Hid (w.heap.size = b) := hbb
    clear hbb
    obtain ⟨c0, c1, c2, c3⟩ := (HXX.out _ HB01.out).cel
    have cl := (HXX.out _ HB01.out).lt
    simp only at c0 c1 c2 c3
    go_wp2_with (go_at_call 34; refine Calls.mono (HMH.out _ HB01.out) ?_; rintro e u2 ⟨rfl, hu⟩; have HU : Hid (Below W0.heap.size W0 u2) := HB01.out.trans (hu.mono HB01.out.size); have HO2 : Hid (u2.ownsRow W0.heap.size 9 1 (.slice (some ⟨b + 1, 0, none⟩) 0 0) 0 (sR [])) := own_below HO1.out hu; obtain ⟨e0, e1, e2, e3⟩ := (HXX.out _ HU.out).cel; simp only at e0 e1 e2 e3; have el := (HXX.out _ HU.out).lt; clear hu)
    go_ret
    exact ⟨_, rfl, .inl ⟨rfl, _, _, rfl⟩, by rw [HBB.out]; exact HBW.out _ HU.out⟩
  | true =>
  rw [mhI_yes hmh] at HMH
  cases hin : inW h.gs.length z 1 with
  | false =>
    rw [celS_out hin]
    rw [inW_one] at hin
    have hz2 := of_decide_eq_false hin
    have hg9 := HL.out.g
    clear hmh hin
    by_cases hz0 : z < 0
    · clear hz2
      go_enter Try.func8, Try.ntmps8
      go_upto_region 2 with fail
      generalize ((w.alloc (.cells #[.slice al h.cs.length kl, .slice am h.ps.length km, .slice ac qs.length kc, .int .i64 h.time] 30)).alloc (.cells #[] 9)) = W1 at *
      generalize (w.alloc (.cells #[.slice al h.cs.length kl, .slice am h.ps.length km, .slice ac qs.length kc, .int .i64 h.time] 30)) = W0 at *
      generalize hbb : w.heap.size = b at *
      have HBB : Hid (w.heap.size = b) := hbb
      clear hbb
      obtain ⟨c0, c1, c2, c3⟩ := (HXX.out _ HB01.out).cel
      have cl := (HXX.out _ HB01.out).lt
      simp only at c0 c1 c2 c3
      go_wp2_with (go_at_call 34; refine Calls.mono (HMH.out _ HB01.out) ?_; rintro e u2 ⟨rfl, hu⟩; have HU : Hid (Below W0.heap.size W0 u2) := HB01.out.trans (hu.mono HB01.out.size); have HO2 : Hid (u2.ownsRow W0.heap.size 9 1 (.slice (some ⟨b + 1, 0, none⟩) 0 0) 0 (sR [])) := own_below HO1.out hu; obtain ⟨e0, e1, e2, e3⟩ := (HXX.out _ HU.out).cel; simp only at e0 e1 e2 e3; have el := (HXX.out _ HU.out).lt; clear hu)
      go_ret
      exact ⟨_, rfl, .inl ⟨rfl, _, _, rfl⟩, by rw [HBB.out]; exact HBW.out _ HU.out⟩
    · have hz3 : (qs.length : Int) ≤ z := by rw [HLQ.out]; omega
      have hq9 : qs.length ≤ 1048576 := by rw [HLQ.out]; exact hg9
      clear hz2 hg9
      go_enter Try.func8, Try.ntmps8
      go_upto_region 2 with fail
      generalize ((w.alloc (.cells #[.slice al h.cs.length kl, .slice am h.ps.length km, .slice ac qs.length kc, .int .i64 h.time] 30)).alloc (.cells #[] 9)) = W1 at *
      generalize (w.alloc (.cells #[.slice al h.cs.length kl, .slice am h.ps.length km, .slice ac qs.length kc, .int .i64 h.time] 30)) = W0 at *
      generalize hbb : w.heap.size = b at *
      have HBB : Hid (w.heap.size = b) := hbb
      clear hbb
      obtain ⟨c0, c1, c2, c3⟩ := (HXX.out _ HB01.out).cel
      have cl := (HXX.out _ HB01.out).lt
      simp only at c0 c1 c2 c3
      go_wp2_with (go_at_call 34; refine Calls.mono (HMH.out _ HB01.out) ?_; rintro e u2 ⟨rfl, hu⟩; have HU : Hid (Below W0.heap.size W0 u2) := HB01.out.trans (hu.mono HB01.out.size); have HO2 : Hid (u2.ownsRow W0.heap.size 9 1 (.slice (some ⟨b + 1, 0, none⟩) 0 0) 0 (sR [])) := own_below HO1.out hu; obtain ⟨e0, e1, e2, e3⟩ := (HXX.out _ HU.out).cel; simp only at e0 e1 e2 e3; have el := (HXX.out _ HU.out).lt; clear hu)
      go_ret
      exact ⟨_, rfl, .inl ⟨rfl, _, _, rfl⟩, by rw [HBB.out]; exact HBW.out _ HU.out⟩
  | true =>
  obtain ⟨G, hG, rfl⟩ := inW_of hin
  rw [celS_at hmh G hG]
  have HLD : Hid (∀ j (hj : j < h.gs[G].ss.length), ldB h h.gs[G].ss[j] = true) := fun j hj => mhB_ld hmh G hG j hj
  obtain ⟨gg, og, rfl, as1, ks1, HF⟩ := guest_at HR.out G hG
  have hlss := HL.out.s G hG
  have hG0 : (0 : Int) ≤ (G : Int) := by omega
  have hG1 : (G : Int) < (qs.length : Int) := by rw [HLQ.out]; omega
  have hG2 : G ≤ 1048576 := by have := HL.out.g; omega
  have hq9 : qs.length ≤ 1048576 := by rw [HLQ.out]; exact HL.out.g
  have hG3 : decide ((G : Int) < 0) = false := decide_eq_false (by omega)
  have hG4 : decide (qs.length ≤ G) = false := decide_eq_false (by omega)
  clear hmh hin
  generalize h.gs[G].ss = ss at HLD HF hlss ⊢
  obtain ⟨i0, hi0, hz0, hz1, hz2⟩ := info_parts Try.info9
  have HI0 : Hid _ := hi0
  have HZ0 : Hid _ := hz0
  have HZ1 : Hid _ := hz1
  have HZ2 : Hid _ := hz2
  clear hi0 hz0 hz1 hz2
  obtain ⟨S, hS⟩ : ∃ S, ss.length = S := ⟨_, rfl⟩
  rw [hS] at hlss
  simp only [hS] at HF
  have HS : Hid (ss.length = S) := hS
  clear hS
  go_enter Try.func8, Try.ntmps8
  go_upto_region 2 with fail
  generalize ((w.alloc (.cells #[.slice al h.cs.length kl, .slice am h.ps.length km, .slice (some ⟨gg, og, none⟩) qs.length kc, .int .i64 h.time] 30)).alloc (.cells #[] 9)) = W1 at *
  generalize (w.alloc (.cells #[.slice al h.cs.length kl, .slice am h.ps.length km, .slice (some ⟨gg, og, none⟩) qs.length kc, .int .i64 h.time] 30)) = W0 at *
  generalize hbb : w.heap.size = b at *
  have HBB : Hid (w.heap.size = b) := hbb
  clear hbb
  obtain ⟨c0, c1, c2, c3⟩ := (HXX.out _ HB01.out).cel
  have cl := (HXX.out _ HB01.out).lt
  simp only at c0 c1 c2 c3
  go_wp2_with (go_at_call 34; refine Calls.mono (HMH.out _ HB01.out) ?_; rintro e u2 ⟨rfl, hu⟩; have HU : Hid (Below W0.heap.size W0 u2) := HB01.out.trans (hu.mono HB01.out.size); have HO2 : Hid (u2.ownsRow W0.heap.size 9 1 (.slice (some ⟨b + 1, 0, none⟩) 0 0) 0 (sR [])) := own_below HO1.out hu; obtain ⟨e0, e1, e2, e3⟩ := (HXX.out _ HU.out).cel; simp only at e0 e1 e2 e3; have el := (HXX.out _ HU.out).lt; clear hu)
  clear c0 c1 c2 c3 cl e0 e1 e2 e3 el
  go_loopw [5, 6] (fun st i wr => ∃ k : Nat, k ≤ S ∧ i = .int .i64 k ∧ wr.ownsRow W0.heap.size 9 1 st k (sR (txL h (ss.take k))) ∧ Below W0.heap.size W0 wr) (fun _ i _ => S - (intOf i).toNat)
  case atStart => exact ⟨0, Nat.zero_le _, rfl, HO2.out, HU.out⟩
  case round =>
    obtain ⟨k, hk, rfl, hown, hb⟩ := hrel
    obtain ⟨st0, kst, hst⟩ := s_sl hown
    subst hst
    have HOW : Hid (wr.ownsRow W0.heap.size 9 1 (.slice st0 k kst) k (sR (txL h (ss.take k)))) := hown
    have HB : Hid (Below W0.heap.size W0 wr) := hb
    clear hown
    obtain ⟨c0, c1, c2, c3⟩ := (HXX.out _ hb).cel
    simp only at c0 c1 c2 c3
    have cl := (HXX.out _ hb).lt
    have hF := HF.out _ (HBW.out _ hb)
    obtain ⟨d0, d1, d2⟩ := hF
    by_cases hlt : k < S
    · have hks : k < ss.length := by rw [HS.out]; exact hlt
      rcases d2.at with e | ⟨sg, so, cap3, hv, hsg, hat⟩
      · rw [HS.out] at e; omega
      injection hv with e1 e2 e3
      subst e1 e3
      have HSS : Hid (∀ u, Below W0.heap.size W0 u → (u.cell? ⟨b, 0, none⟩ = some (.slice al h.cs.length kl) ∧ u.cell? ⟨b, 1, none⟩ = some (.slice am h.ps.length km) ∧ u.cell? ⟨b, 2, none⟩ = some (.slice (some ⟨gg, og, none⟩) qs.length kc) ∧ u.cell? ⟨b, 3, none⟩ = some (.int .i64 h.time) ∧ b < u.heap.size) ∧ (u.cell? ⟨gg, og + G * 3, none⟩ = some (.slice (some ⟨sg, so, none⟩) S ks1) ∧ gg < u.heap.size) ∧ (u.cell? ⟨sg, so + k * 3, none⟩ = some (.int .i64 ss[k].kind) ∧ u.cell? ⟨sg, so + k * 3 + 1, none⟩ = some (.int .i64 ss[k].pos) ∧ u.cell? ⟨sg, so + k * 3 + 2, none⟩ = some (.int .i64 ss[k].used) ∧ sg < u.heap.size)) := fun u hu => by
        obtain ⟨y0, y1, y2, y3⟩ := (HXX.out _ hu).cel
        obtain ⟨f0, f1, f2⟩ := HF.out _ (HBW.out _ hu)
        rcases f2.at with e | ⟨sg2, so2, cap4, hv2, hsg2, hat2⟩
        · rw [HS.out] at e; omega
        injection hv2 with q1 q2 q3
        injection q1 with q4
        injection q4 with q5 q6
        subst q5 q6
        obtain ⟨g0, g1, g2⟩ := hat2 k hks
        exact ⟨⟨y0, y1, y2, y3, (HXX.out _ hu).lt⟩, ⟨f0, f1⟩, ⟨g0, g1, g2, hsg2⟩⟩
      have HUP : Hid (txL h (ss.take (k + 1)) = txL h (ss.take k) ++ [txS h ss[k]]) := txL_up h ss k hks
      have HRD2 : Hid (∀ u, Below W0.heap.size W0 u → Calls Try.prog 35 #[.agg #[.slice al h.cs.length kl, .slice am h.ps.length km, .slice (some ⟨gg, og, none⟩) qs.length kc, .int .i64 h.time], .agg #[.int .i64 ss[k].kind, .int .i64 ss[k].pos, .int .i64 ss[k].used]] u fun e w' => e = .returned (.string (txS h ss[k])) ∧ Below u.heap.size u w') := fun u hu => HRD.out u ss[k] hu (HLD.out k hks)
      generalize txS h ss[k] = p at *
      have hk0 : (0 : Int) ≤ (k : Int) := by omega
      have hk1 : (k : Int) < (S : Int) := by omega
      generalize ss[k].kind = x0 at *
      generalize ss[k].pos = x1 at *
      generalize ss[k].used = x2 at *
      have HBD : Hid (Below W0.heap.size W0 wr.drew) := hb.trans ((Below.refl _ _).drew.mono hb.size)
      have HOD : Hid (wr.drew.ownsRow W0.heap.size 9 1 (.slice st0 k kst) k (sR (txL h (ss.take k)))) := own_below HOW.out (Below.refl _ _).drew
      clear hat hb e2 hks d2
      go_upto_region 7 with fail
      clear c0 c1 c2 c3 cl d0 d1 hsg
      refine wp_region_held (S := fun w9 => Below W0.heap.size W0 w9) (by kernel_rfl) ?_
      change wpAnyH _ _ _ _ _ _ _ _ (World.drew _)
      refine wpAnyH_take (i := 0) (v := .slice st0 k kst) rfl (by kernel_rfl) (by kernel_rfl) (by kernel_rfl) (fun _ _ _ h => h) (Or.inl ⟨by kernel_rfl, fun w9 h9 => ?_⟩) HBD.out ?_
      · go_simp
      refine wpAnyH_take (i := 1) (v := .agg #[.slice al h.cs.length kl, .slice am h.ps.length km, .slice (some ⟨gg, og, none⟩) qs.length kc, .int .i64 h.time]) rfl (by kernel_rfl) (by kernel_rfl) (by kernel_rfl) (fun _ _ _ h => h) (Or.inl ⟨by kernel_rfl, fun w9 h9 => ?_⟩) HBD.out ?_
      · obtain ⟨⟨x0, x1, x2, x3, x4⟩, ⟨x5, x6⟩, ⟨x7, x8, x9, x10⟩⟩ := HSS.out _ h9; go_simp
      refine wpAnyH_take (i := 2) (v := .pointer (some ⟨b, 2, none⟩)) rfl (by kernel_rfl) (by kernel_rfl) (by kernel_rfl) (fun _ _ _ h => h) (Or.inl ⟨by kernel_rfl, fun w9 h9 => ?_⟩) HBD.out ?_
      · go_simp
      refine wpAnyH_take (i := 3) (v := .slice (some ⟨gg, og, none⟩) qs.length kc) rfl (by kernel_rfl) (by kernel_rfl) (by kernel_rfl) (fun _ _ _ h => h) (Or.inl ⟨by kernel_rfl, fun w9 h9 => ?_⟩) HBD.out ?_
      · obtain ⟨⟨x0, x1, x2, x3, x4⟩, ⟨x5, x6⟩, ⟨x7, x8, x9, x10⟩⟩ := HSS.out _ h9; go_simp
      refine wpAnyH_take (i := 4) (v := .int .i64 (G : Nat)) rfl (by kernel_rfl) (by kernel_rfl) (by kernel_rfl) (fun _ _ _ h => h) (Or.inl ⟨by kernel_rfl, fun w9 h9 => ?_⟩) HBD.out ?_
      · go_simp
      refine wpAnyH_take (i := 5) (v := .pointer (some ⟨gg, og + G * 3, none⟩)) rfl (by kernel_rfl) (by kernel_rfl) (by kernel_rfl) (fun _ _ _ h => h) (Or.inl ⟨by kernel_rfl, fun w9 h9 => ?_⟩) HBD.out ?_
      · go_simp
      refine wpAnyH_take (i := 6) (v := .pointer (some ⟨gg, og + G * 3, none⟩)) rfl (by kernel_rfl) (by kernel_rfl) (by kernel_rfl) (fun _ _ _ h => h) (Or.inl ⟨by kernel_rfl, fun w9 h9 => ?_⟩) HBD.out ?_
      · go_simp
      refine wpAnyH_take (i := 7) (v := .slice (some ⟨sg, so, none⟩) S ks1) rfl (by kernel_rfl) (by kernel_rfl) (by kernel_rfl) (fun _ _ _ h => h) (Or.inl ⟨by kernel_rfl, fun w9 h9 => ?_⟩) HBD.out ?_
      · obtain ⟨⟨x0, x1, x2, x3, x4⟩, ⟨x5, x6⟩, ⟨x7, x8, x9, x10⟩⟩ := HSS.out _ h9; go_simp
      refine wpAnyH_take (i := 8) (v := .int .i64 (k : Nat)) rfl (by kernel_rfl) (by kernel_rfl) (by kernel_rfl) (fun _ _ _ h => h) (Or.inl ⟨by kernel_rfl, fun w9 h9 => ?_⟩) HBD.out ?_
      · go_simp
      refine wpAnyH_take (i := 9) (v := .pointer (some ⟨sg, so + k * 3, none⟩)) rfl (by kernel_rfl) (by kernel_rfl) (by kernel_rfl) (fun _ _ _ h => h) (Or.inl ⟨by kernel_rfl, fun w9 h9 => ?_⟩) HBD.out ?_
      · go_simp
      refine wpAnyH_take (i := 10) (v := .agg #[.int .i64 x0, .int .i64 x1, .int .i64 x2]) rfl (by kernel_rfl) (by kernel_rfl) (by kernel_rfl) (fun _ _ _ h => h) (Or.inl ⟨by kernel_rfl, fun w9 h9 => ?_⟩) HBD.out ?_
      · obtain ⟨⟨x0, x1, x2, x3, x4⟩, ⟨x5, x6⟩, ⟨x7, x8, x9, x10⟩⟩ := HSS.out _ h9; go_simp
      refine held_one 11 (by kernel_rfl) rfl (by kernel_rfl) fun K hK => ?_
      go_simp
      go_wp2_with (go_at_call 35; refine Calls.mono (HRD2.out _ HBD.out) ?_; rintro e u4 ⟨rfl, hu⟩; have HU4 : Hid (Below W0.heap.size W0 u4) := HBD.out.trans (hu.mono HBD.out.size); have HO4 : Hid (u4.ownsRow W0.heap.size 9 1 (.slice st0 k kst) k (sR (txL h (ss.take k)))) := own_below HOD.out hu; clear hu)
      refine hK _ _ HU4.out ?_
      clear hK K
      refine held_one 12 (by kernel_rfl) rfl (by kernel_rfl) fun K hK => ?_
      have HU5 : Hid (Below W0.heap.size W0 (u4.alloc (.cells #[.string p] 9))) := HU4.out.alloc HU4.out.size _
      have HO5 : Hid ((u4.alloc (.cells #[.string p] 9)).ownsRow W0.heap.size 9 1 (.slice st0 k kst) k (sR (txL h (ss.take k)))) := World.ownsRow.alloc HO4.out _
      go_simp
      refine hK _ _ HU5.out ?_
      clear hK K
      refine held_one 13 (by kernel_rfl) rfl (by kernel_rfl) fun K hK => ?_
      refine wp_append_own _ _ _ 22 rfl W0.heap.size 9 i0 (.string ⟨#[]⟩) 1 16 Try.underlying22 HI0.out HZ0.out HZ1.out HZ2.out rfl (by decide) (.slice st0 k kst) k (sR (txL h (ss.take k))) rfl HO5.out ⟨u4.heap.size, 0, none⟩ 1 1 [.string p] rfl rfl (new_cells u4 [.string p] 9) (by simp [Value.oneCell']) (by unfold maxLen; omega) (by omega) (by have := HU5.out.size; omega) ?_
      intro v' x2w hown hgr _
      have HO3 : Hid (x2w.ownsRow W0.heap.size 9 1 v' (k + 1) (sR (txL h (ss.take (k + 1))))) := (show x2w.ownsRow W0.heap.size 9 1 v' (k + 1) (sR (txL h (ss.take (k + 1)))) by
        rw [HUP.out]
        simpa [sR] using hown)
      have HB3 : Hid (Below W0.heap.size W0 x2w) := HU5.out.grown hgr HU5.out.size (fun j hj => (HO5.out.lt j hj).1)
      obtain ⟨st2, k2, hst2⟩ := s_sl HO3.out
      subst hst2
      clear hown hgr
      go_simp
      refine hK _ _ HB3.out ?_
      clear hK K
      refine wpAnyH_take (i := 14) (v := .slice st2 (k + 1) k2) rfl (by kernel_rfl) (by kernel_rfl) (by kernel_rfl) (fun _ _ _ h => h) (Or.inl ⟨by kernel_rfl, fun w9 h9 => ?_⟩) HB3.out ?_
      · go_simp
      refine wpAnyH_done (by kernel_rfl) ?_ _
      go_simp
      go_wp2
      exact ⟨⟨k + 1, hlt, by simp, HO3.out, HB3.out⟩, by simp [intOf]; omega⟩
    · obtain rfl : k = S := by omega
      have HOF : Hid (Srow wr (.slice st0 k kst) (txL h ss)) := (show Srow wr (.slice st0 k kst) (txL h ss) by
        have := HOW.out
        rw [← HS.out, List.take_length, ← txL_len h ss] at this
        have h2 := Srow.of this
        rw [txL_len, HS.out] at h2
        exact h2)
      clear d2 hb
      go_wp2
      go_ret
      exact ⟨_, rfl, HOF.out, by rw [HBB.out]; exact HBW.out _ HB.out⟩

set_option maxRecDepth 100000
/-- A row of texts that may be read and marked. -/
structure GR (u : World) (lo hi : Nat) (v : Value) (zs : List ByteArray) : Prop where
  r : Srow u v zs
  s : WS 9 u lo hi v zs.length 1
theorem GR.of {u : World} {lo : Nat} {v : Value} {zs : List ByteArray} (h : u.ownsRow lo 9 1 v zs.length (sR zs)) : GR u lo u.heap.size v zs := ⟨Srow.of h, WS.of h (Nat.le_refl _)⟩
theorem GR.below {u u' : World} {lo hi : Nat} {v : Value} {zs : List ByteArray} (x : GR u lo hi v zs) (hb : Below u.heap.size u u') : GR u' lo hi v zs := ⟨x.r.below hb, x.s.mk (MK.of_below (t := 9) (lo := 0) (hi := 0) hb)⟩
theorem GR.gi {u u' : World} {lo hi a b : Nat} {v : Value} {zs : List ByteArray} (x : GR u lo hi v zs) (g : GI a b u u') (hb : b ≤ lo) : GR u' lo hi v zs := by
  rcases x.s with h | ⟨k, o, cap, cur, hv, h1, h2, h3, h4⟩
  · have hz : zs = [] := List.eq_nil_of_length_eq_zero h.1
    obtain ⟨ao, cap, hv⟩ := h.2
    exact ⟨.inl ⟨hz, ao, cap, hv⟩, .inl h⟩
  · have hk := (Array.getElem?_eq_some_iff.1 h3).1
    have e := g.block k hk (.inr (by omega))
    refine ⟨?_, .inr ⟨k, o, cap, cur, hv, h1, h2, e.trans h3, h4⟩⟩
    rcases x.r with q | ⟨k2, o2, cap2, hv2, hc2, hg2, hat⟩
    · exact .inl q
    · refine .inr ⟨k2, o2, cap2, hv2, hc2, Nat.lt_of_lt_of_le hg2 g.size, fun j hj => ?_⟩
      rw [hv] at hv2
      injection hv2 with e1 e2 e3
      injection e1 with e4
      injection e4 with e5 e6
      subst e5 e6
      exact (World.cell?_of_block e).trans (hat j hj)
theorem GR.marked {u u' : World} {lo hi : Nat} {v : Value} {zs : List ByteArray} (x : GR u lo hi v zs) (m : MK 9 lo hi u u') (hm : ∀ g o cap, v = .slice (some ⟨g, o, none⟩) zs.length cap → ∀ i, i < zs.length → u'.cell? ⟨g, o + i, none⟩ = some (.string (mtx ((1 + i : Nat) : Int)))) : Srow u' v (mkS 1 zs.length) := by
  rcases x.r with ⟨hz, ao, cap, hv⟩ | ⟨k2, o2, cap2, hv2, hc2, hg2, hat⟩
  · subst hz
    exact .inl ⟨rfl, ao, cap, hv⟩
  · refine .inr ⟨k2, o2, cap2, by rw [mkS_len]; exact hv2, by rw [mkS_len]; exact hc2, Nat.lt_of_lt_of_le hg2 m.gi.size, fun j hj => ?_⟩
    rw [mkS_at]
    rw [mkS_len] at hj
    exact hm _ _ _ hv2 j hj
set_option maxHeartbeats 4000000 in
theorem walkCO {w : World} {h : MH} {a : HA} (hr : HRows w h a) (hm : HMax h) (z : Int) (hz : i64B z) : Calls Try.prog 3 #[mhA a h.time, .int .i64 z] w fun e w' => e = .returned (.bool true) ∧ Below w.heap.size w w' := by
  obtain ⟨al, kl, el⟩ := hr.cs.sl
  obtain ⟨am, km, em⟩ := hr.ps.sl
  obtain ⟨ac, kc, ec⟩ := hr.mg.sl
  obtain ⟨vc, vp, vg, qs⟩ := a
  simp only at el em ec
  subst el em ec
  have HL1 : Hid (HBx w (w.alloc (.cells #[.slice al h.cs.length kl, .slice am h.ps.length km, .slice ac qs.length kc, .int .i64 h.time] 25)) h ⟨.slice al h.cs.length kl, .slice am h.ps.length km, .slice ac qs.length kc, qs⟩) := HBx.new hr
  have HS : Hid _ := szHost_any HL1.out.row hm
  clear hr hm
  unfold mhA at HS ⊢
  simp only at HS ⊢
  cases hsz : szH h with
  | false =>
    rw [hsz] at HS
    clear hsz
    go_enter Try.func3, Try.ntmps3
    go_wp2_with (go_at_call 7; refine Calls.mono HS.out ?_; rintro e u1 ⟨q, rfl, hq, hu1⟩; have hq2 : q < 0 := of_decide_eq_true hq; have HB1 : Hid (Below w.heap.size w u1) := HL1.out.bel.trans (hu1.mono HL1.out.bel.size); clear hu1 hq)
    go_ret
    exact ⟨rfl, HB1.out⟩
  | true =>
    have HL : Hid (HLen h) := szH_len hsz
    have HE : Hid ((allS h).length ≤ 1048576) := szH_all hsz
    rw [hsz] at HS
    clear hsz
    obtain ⟨C, hC⟩ : ∃ C, celS h z = C := ⟨_, rfl⟩
    have hCn : C.length ≤ 1048576 := by
      rw [← hC]
      unfold celS
      split
      · rename_i hi
        rw [Bool.and_eq_true] at hi
        obtain ⟨k, hk, rfl⟩ := inW_of hi.2
        rw [txL_len, Int.toNat_natCast, List.getD_eq_getElem?_getD, List.getElem?_eq_getElem hk]
        exact HL.out.s k hk
      · simp
    have HSP : Hid (∀ u a, HRows u h a → Calls Try.prog 8 #[mhA a h.time, .int .i64 z] u fun e w' => ∃ v, e = .returned v ∧ Srow w' v C ∧ Below u.heap.size u w') := fun u a x => by rw [← hC]; exact specCells_any x HL.out HE.out z
    have HIM : Hid (∀ u a, HRows u h a → Calls Try.prog 10 #[mhA a h.time, .int .i64 z] u fun e w' => ∃ v, e = .returned v ∧ w'.ownsRow u.heap.size 9 1 v C.length (sR C) ∧ Below u.heap.size u w') := fun u a x => by rw [← hC]; exact implCells_any x HL.out z hz
    clear hC hz HE
    obtain ⟨n, hn⟩ : ∃ n, C.length = n := ⟨_, rfl⟩
    obtain ⟨M, hM⟩ : ∃ M : Nat, 1 + n = M := ⟨_, rfl⟩
    have HCn : Hid (C.length = n) := hn
    have HM : Hid (1 + n = M) := hM
    rw [hn] at hCn
    have hMb : M ≤ 1048577 := by omega
    have hM0 : ¬ (M : Int) < 0 := by omega
    have h10 : ¬ (1 : Int) < 0 := by decide
    clear hn hM
    go_enter Try.func3, Try.ntmps3
    go_wp2_with (first
      | (go_at_call 7; refine Calls.mono HS.out ?_; rintro e u1 ⟨q, rfl, hq, hu1⟩; have hq2 : ¬ q < 0 := of_decide_eq_false hq; have HL2 : Hid (HBx w u1 h ⟨.slice al h.cs.length kl, .slice am h.ps.length km, .slice ac qs.length kc, qs⟩) := HL1.out.step hu1; obtain ⟨c0, c1, c2, c3⟩ := HL2.out.cel; simp only at c0 c1 c2 c3; clear hu1 hq HS HL1)
      | (go_at_call 9; have hA := toHost_any HL2.out.row HL.out; unfold mhA at hA; simp only at hA; refine Calls.mono hA ?_; clear hA; rintro e u2 ⟨a2, rfl, ho, hb⟩; obtain ⟨al2, kl2, am2, km2, ac2, kc2, qs2, rfl⟩ := ho.sl; have HL2b : Hid (HBx w u2 h ⟨.slice al h.cs.length kl, .slice am h.ps.length km, .slice ac qs.length kc, qs⟩) := HL2.out.step hb; have HR2 : Hid (HRows u2 h ⟨.slice al2 h.cs.length kl2, .slice am2 h.ps.length km2, .slice ac2 qs2.length kc2, qs2⟩) := ho.rows; clear HL2; clear ho hb)
      | (go_at_call 8; have hA := HSP.out _ _ HR2.out; unfold mhA at hA; simp only at hA; refine Calls.mono hA ?_; clear hA; rintro e u3 ⟨v0, rfl, hs, hb⟩; obtain ⟨a0, k0, rfl⟩ := hs.sl; rw [HCn.out] at hs ⊢; have HS3 : Hid (Srow u3 (.slice a0 n k0) C) := hs; have HL3 : Hid (HBx w u3 h ⟨.slice al h.cs.length kl, .slice am h.ps.length km, .slice ac qs.length kc, qs⟩) := HL2b.out.step hb; obtain ⟨y0, y1, y2, y3⟩ := HL3.out.cel; simp only at y0 y1 y2 y3; clear hs hb HL2b HR2)
      | (go_at_call 9; have hA := toHost_any HL3.out.row HL.out; unfold mhA at hA; simp only at hA; refine Calls.mono hA ?_; clear hA; rintro e u4 ⟨a4, rfl, ho, hb⟩; obtain ⟨al4, kl4, am4, km4, ac4, kc4, qs4, rfl⟩ := ho.sl; have HO4 : Hid (HOwn u4 u3.heap.size h ⟨.slice al4 h.cs.length kl4, .slice am4 h.ps.length km4, .slice ac4 qs4.length kc4, qs4⟩) := ho; have HD3 : Hid (Below u3.heap.size u3 u4) := hb; have HX5 : Hid (HB2 (u4.alloc (.cells #[.slice al4 h.cs.length kl4, .slice am4 h.ps.length km4, .slice ac4 qs4.length kc4, .int .i64 h.time] 30)) u4.heap.size h ⟨.slice al4 h.cs.length kl4, .slice am4 h.ps.length km4, .slice ac4 qs4.length kc4, qs4⟩) := HB2.new ho.rows; have HD4 : Hid (Below u4.heap.size u4 (u4.alloc (.cells #[.slice al4 h.cs.length kl4, .slice am4 h.ps.length km4, .slice ac4 qs4.length kc4, .int .i64 h.time] 30))) := (Below.refl _ _).alloc (Nat.le_refl _) _; clear ho hb)
      | (go_at_call 10; have hA := HIM.out _ _ HX5.out.row; unfold mhA at hA; simp only at hA; refine Calls.mono hA ?_; clear hA; rintro e u5 ⟨v5, rfl, hs, hb⟩; rw [show (u4.alloc (.cells #[.slice al4 h.cs.length kl4, .slice am4 h.ps.length km4, .slice ac4 qs4.length kc4, .int .i64 h.time] 30)).heap.size = u4.heap.size + 1 from by simp] at hs; obtain ⟨a5, k5, rfl⟩ := s_sl hs; have HG5 : Hid (GR u5 (u4.heap.size + 1) u5.heap.size (.slice a5 C.length k5) C) := GR.of hs; rw [HCn.out] at HG5 ⊢; have HX6 : Hid (HB2 u5 u4.heap.size h ⟨.slice al4 h.cs.length kl4, .slice am4 h.ps.length km4, .slice ac4 qs4.length kc4, qs4⟩) := HX5.out.step hb; have HD5 : Hid (Below u4.heap.size u4 u5) := HD4.out.trans (hb.mono HD4.out.size); clear hs hb HX5 HD4)
      | (go_at_call 11; refine Calls.mono (eqSS_ok HG5.out.r (HS3.out.below (HD3.out.trans (HD5.out.mono HD3.out.size))) (by rw [HCn.out]; exact hCn)) ?_; rintro e u6 ⟨rfl, hb⟩; have HG6 : Hid (GR u6 (u4.heap.size + 1) u5.heap.size (.slice a5 n k5) C) := HG5.out.below hb; have HX7 : Hid (HB2 u6 u4.heap.size h ⟨.slice al4 h.cs.length kl4, .slice am4 h.ps.length km4, .slice ac4 qs4.length kc4, qs4⟩) := HX6.out.step hb; have HD6 : Hid (Below u4.heap.size u4 u6) := HD5.out.trans (hb.mono HD5.out.size); clear hb HX6 HD5))
    have HBD : Hid (Below u6.heap.size u6 u6.drew) := (Below.refl _ _).drew
    have HLL : Hid (∀ u, Below u6.heap.size u6 u → HBx w u h ⟨.slice al h.cs.length kl, .slice am h.ps.length km, .slice ac qs.length kc, qs⟩) := fun u hu => HL3.out.step (HD3.out.trans ((HD6.out.trans (hu.mono HD6.out.size)).mono HD3.out.size))
    have HSS : Hid (∀ u, Below u6.heap.size u6 u → HBx w u h ⟨.slice al h.cs.length kl, .slice am h.ps.length km, .slice ac qs.length kc, qs⟩ ∧ HB2 u u4.heap.size h ⟨.slice al4 h.cs.length kl4, .slice am4 h.ps.length km4, .slice ac4 qs4.length kc4, qs4⟩) := fun u hu => ⟨HLL.out u hu, HX7.out.step hu⟩
    clear c0 c1 c2 c3 y0 y1 y2 y3
    refine wp_region_held (S := fun u => HBx w u h ⟨.slice al h.cs.length kl, .slice am h.ps.length km, .slice ac qs.length kc, qs⟩ ∧ HB2 u u4.heap.size h ⟨.slice al4 h.cs.length kl4, .slice am4 h.ps.length km4, .slice ac4 qs4.length kc4, qs4⟩) (by kernel_rfl) ?_
    change wpAnyH _ _ _ _ _ _ _ _ (World.drew _)
    refine wpAnyH_take (i := 0) (v := .agg #[.slice al4 h.cs.length kl4, .slice am4 h.ps.length km4, .slice ac4 qs4.length kc4, .int .i64 h.time]) rfl (by kernel_rfl) (by kernel_rfl) (by kernel_rfl) (fun _ _ _ h => h) (Or.inl ⟨by kernel_rfl, fun w9 h9 => ?_⟩) (HSS.out _ HBD.out) ?_
    · obtain ⟨x0, x1, x2, x3⟩ := h9.2.cel
      simp only at x0 x1 x2 x3
      have xl := h9.2.lt
      clear h9
      go_simp
    refine wpAnyH_take (i := 1) (v := .agg #[.slice al h.cs.length kl, .slice am h.ps.length km, .slice ac qs.length kc, .int .i64 h.time]) rfl (by kernel_rfl) (by kernel_rfl) (by kernel_rfl) (fun _ _ _ h => h) (Or.inl ⟨by kernel_rfl, fun w9 h9 => ?_⟩) (HSS.out _ HBD.out) ?_
    · obtain ⟨x0, x1, x2, x3⟩ := h9.1.cel
      simp only at x0 x1 x2 x3
      have xl := h9.1.lt
      clear h9
      go_simp
    refine held_one 2 (by kernel_rfl) rfl (by kernel_rfl) fun K hK => ?_
    go_simp
    go_wp2_with (go_at_call 9; have hA := toHost_any (HLL.out _ HBD.out).row HL.out; unfold mhA at hA; simp only at hA; refine Calls.mono hA ?_; clear hA; rintro e u7 ⟨a7, rfl, ho, hb⟩; obtain ⟨al7, kl7, am7, km7, ac7, kc7, qs7, rfl⟩ := ho.sl; have HB7 : Hid (Below u6.heap.size u6 u7) := HBD.out.trans (hb.mono HBD.out.size); have HR7 : Hid (HRows u7 h ⟨.slice al7 h.cs.length kl7, .slice am7 h.ps.length km7, .slice ac7 qs7.length kc7, qs7⟩) := ho.rows; clear ho hb)
    refine hK _ _ (HSS.out _ HB7.out) ?_
    clear hK K
    refine held_one 3 (by kernel_rfl) rfl (by kernel_rfl) fun K hK => ?_
    go_simp
    go_wp2_with (go_at_call 12; have hA := eqHost_ok (HSS.out _ HB7.out).2.row HR7.out HL.out; unfold mhA at hA; simp only at hA; refine Calls.mono hA ?_; clear hA; rintro e u8 ⟨rfl, hb⟩; have HB8 : Hid (Below u6.heap.size u6 u8) := HB7.out.trans (hb.mono HB7.out.size); clear hb)
    refine hK _ _ (HSS.out _ HB8.out) ?_
    clear hK K
    refine held_one 4 (by kernel_rfl) rfl (by kernel_rfl) fun K hK => ?_
    go_simp
    refine hK _ _ (HSS.out _ HB8.out) ?_
    clear hK K
    refine wpAnyH_done (by kernel_rfl) ?_ _
    go_simp
    have HG8 : Hid (GR u8 (u4.heap.size + 1) u5.heap.size (.slice a5 n k5) C) := HG6.out.below HB8.out
    have HD8 : Hid (Below u4.heap.size u4 u8) := HD6.out.trans (HB8.out.mono HD6.out.size)
    have hA := markHost_w HO4.out HD8.out HL.out
    unfold mhA at hA
    simp only at hA
    have HMH : Hid _ := hA
    clear hA
    obtain ⟨x0, x1, x2, x3⟩ := (HSS.out _ HB8.out).2.cel
    simp only at x0 x1 x2 x3
    have xl := (HSS.out _ HB8.out).2.lt
    have HEQ : Hid (∀ u v, Srow u v C → Srow u (.slice a0 n k0) C → Calls Try.prog 11 #[v, .slice a0 n k0] u fun e w' => e = .returned (.bool true) ∧ Below u.heap.size u w') := fun u v x y => eqSS_ok x y (by rw [HCn.out]; exact hCn)
    have HHE : Hid (∀ u v, Srow u v (mkS 1 n) → Calls Try.prog 15 #[v, .int .i64 1] u fun e w' => e = .returned (.int .i64 (M : Nat)) ∧ Below u.heap.size u w') := fun u v x => by rw [← HM.out]; exact heldSS_ok n x hCn
    have HMK : Hid (∀ u, GR u (u4.heap.size + 1) u5.heap.size (.slice a5 n k5) C → Calls Try.prog 14 #[.slice a5 n k5, .int .i64 1] u fun e w' => e = .returned (.int .i64 (M : Nat)) ∧ Srow w' (.slice a5 n k5) (mkS 1 n) ∧ GI (u4.heap.size + 1) u5.heap.size u w') := fun u x => by
      have y := x.s
      rw [HCn.out] at y
      refine Calls.mono (markSS_w 1 y hCn (by omega) (by omega)) ?_
      rintro e w' ⟨rfl, m, hc⟩
      refine ⟨by rw [HM.out], ?_, m.gi⟩
      have := x.marked m (by rw [HCn.out]; exact hc)
      rw [HCn.out] at this
      exact this
    clear HG6 HX7 HD6
    go_wp2_with (first
      | (go_at_call 13; refine Calls.mono HMH.out ?_; rintro e u9 ⟨kk, rfl, g9⟩; have hkk : ¬ (kk : Int) < 0 := (by omega); have HG9 : Hid (GR u9 (u4.heap.size + 1) u5.heap.size (.slice a5 n k5) C) := HG8.out.gi g9 (by omega); have HE9 : Hid (Below u3.heap.size u3 u9) := (HD3.out.trans (HD8.out.mono HD3.out.size)).trans (g9.below (Nat.le_refl _) (HD3.out.trans (HD8.out.mono HD3.out.size)).size); clear g9 HG8 HMH x0 x1 x2 x3 xl)
      | (go_at_call 11; refine Calls.mono (HEQ.out _ _ HG9.out.r (HS3.out.below HE9.out)) ?_; rintro e v10 ⟨rfl, hb⟩; have HGx : Hid (GR v10 (u4.heap.size + 1) u5.heap.size (.slice a5 n k5) C) := HG9.out.below hb; have HEx : Hid (Below u3.heap.size u3 v10) := HE9.out.trans (hb.mono HE9.out.size); clear hb HG9 HE9)
      | (go_at_call 14; refine Calls.mono (HMK.out _ HGx.out) ?_; rintro e v11 ⟨rfl, hs, g⟩; have HH11 : Hid (Srow v11 (.slice a5 n k5) (mkS 1 n)) := hs; have HE11 : Hid (Below u3.heap.size u3 v11) := HEx.out.trans (g.below (by have := HD3.out.size; omega) HEx.out.size); clear hs g HGx HEx)
      | (go_at_call 15; refine Calls.mono (HHE.out _ _ HH11.out) ?_; rintro e v12 ⟨rfl, hb⟩; have HH12 : Hid (Srow v12 (.slice a5 n k5) (mkS 1 n)) := HH11.out.below hb; have HE12 : Hid (Below u3.heap.size u3 v12) := HE11.out.trans (hb.mono HE11.out.size); have HL12 : Hid (HBx w v12 h ⟨.slice al h.cs.length kl, .slice am h.ps.length km, .slice ac qs.length kc, qs⟩) := HL3.out.step HE12.out; obtain ⟨z0, z1, z2, z3⟩ := HL12.out.cel; simp only at z0 z1 z2 z3; have zl := HL12.out.lt; clear hb HH11 HE11)
      | (go_at_call 9; have hA := toHost_any HL12.out.row HL.out; unfold mhA at hA; simp only at hA; refine Calls.mono hA ?_; clear hA; rintro e u13 ⟨a13, rfl, ho, hb⟩; obtain ⟨al13, kl13, am13, km13, ac13, kc13, qs13, rfl⟩ := ho.sl; have HR13 : Hid (HRows u13 h ⟨.slice al13 h.cs.length kl13, .slice am13 h.ps.length km13, .slice ac13 qs13.length kc13, qs13⟩) := ho.rows; have HH13 : Hid (Srow u13 (.slice a5 n k5) (mkS 1 n)) := HH12.out.below hb; have HE13 : Hid (Below u3.heap.size u3 u13) := HE12.out.trans (hb.mono HE12.out.size); clear HH12 HE12 HL12; clear ho hb)
      | (go_at_call 10; have hA := HIM.out _ _ HR13.out; unfold mhA at hA; simp only at hA; refine Calls.mono hA ?_; clear hA; rintro e v14 ⟨v5, rfl, hs, hb⟩; obtain ⟨a14, k14, rfl⟩ := s_sl hs; have HR14 : Hid (Srow v14 (.slice a14 C.length k14) C) := Srow.of hs; rw [HCn.out] at HR14 ⊢; have HH14 : Hid (Srow v14 (.slice a5 n k5) (mkS 1 n)) := HH13.out.below hb; have HE14 : Hid (Below u3.heap.size u3 v14) := HE13.out.trans (hb.mono HE13.out.size); clear hs hb HR13 HH13 HE13)
      | (go_at_call 11; refine Calls.mono (HEQ.out _ _ HR14.out (HS3.out.below HE14.out)) ?_; rintro e v15 ⟨rfl, hb⟩; have HH15 : Hid (Srow v15 (.slice a5 n k5) (mkS 1 n)) := HH14.out.below hb; have HE15 : Hid (Below u3.heap.size u3 v15) := HE14.out.trans (hb.mono HE14.out.size); clear hb HR14 HH14 HE14)
      | (go_at_call 15; refine Calls.mono (HHE.out _ _ HH15.out) ?_; rintro e v16 ⟨rfl, hb⟩; have HE16 : Hid (Below u3.heap.size u3 v16) := HE15.out.trans (hb.mono HE15.out.size); clear hb HH15 HE15))
    all_goals go_ret
    exact ⟨rfl, HL3.out.bel.trans (HE16.out.mono HL3.out.bel.size)⟩
end Go.Proofs.Ytomfbiiegcmmlab
