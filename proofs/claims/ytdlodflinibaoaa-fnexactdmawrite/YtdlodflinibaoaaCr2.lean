import Derived.Test.YtdlodflinibaoaaCr1
import Derived.Laws.AppendOwn
namespace Go.Proofs.Ytdlodflinibaoaa
open Go.ChangeShapes Go.WideShapes Go.ChangeAt Go.RowKit

theorem buf_cells (u : World) (z : BU) : ∀ (j : Nat) (x : Value), (buC z)[j]? = some x → (u.alloc (.cells #[.int .i64 z.pos, .int .i64 z.len, .bool z.write] 53)).cell? ((⟨u.heap.size, 0, none⟩ : Addr).add j) = some x := by
  intro j x hx
  have ha : (⟨u.heap.size, 0, none⟩ : Addr).add j = ⟨u.heap.size, j, none⟩ := by unfold Addr.add; split <;> simp_all
  rw [ha]
  exact (LBx.new u _ _).cel j x (by simpa [buC] using hx)
theorem bu_oneC (z : BU) : ∀ u ∈ buC z, u.oneCell' = true := by
  intro u hu
  simp [buC] at hu
  rcases hu with rfl | rfl | rfl <;> rfl
/-- A reader whose buffers have grown by one. -/
theorem CR.grow {u x x' : World} {Bc mb n : Nat} {v v' : Value} {zs : List BU} {s : ByteArray} {z : BU} (h : CR u Bc mb n v zs s) (hb : Below u.heap.size u x) (ho : x'.ownsRow (Bc + 1) 53 3 v' (zs.length + 1) (buR zs ++ buC z)) (hg : x.grownBy x' v.ownBlock) :
    CR (x'.setCell ⟨Bc, 1, none⟩ v') Bc mb n v' (zs ++ [z]) s ∧ FrT u (x'.setCell ⟨Bc, 1, none⟩ v') Bc ∧ x'.heap[Bc]? = some (.cells #[mv mb n, v] 173 (0, 0)) := by
  have hx := h.below hb
  have hne : v.ownBlock ≠ some Bc := fun e => by have := (hx.row.lt _ e).1; omega
  have hb1 : x'.heap[Bc]? = some (.cells #[mv mb n, v] 173 (0, 0)) := (hg.block _ hx.lt (fun e => hne e.symm)).trans hx.box
  have hnm : v.ownBlock ≠ some mb := fun e => by
    obtain ⟨_, hr | ⟨g, cap, cur, hv, _, hgg, _⟩⟩ := hx.row
    · rw [hr.1] at e; cases e
    · rw [hv] at e
      have e2 : g = mb := by simpa [Value.ownBlock] using e
      subst e2
      have hm := hx.mem
      unfold MemAt at hm
      rw [hgg] at hm
      injection hm with hm
      injection hm with _ hm
      exact absurd hm (by decide)
  have hbm : Bc ≠ mb := fun e => by
    have hm := hx.mem
    unfold MemAt at hm
    rw [← e, hx.box] at hm
    injection hm with hm
    injection hm with _ hm
    exact absurd hm (by decide)
  refine ⟨⟨?_, ?_, ?_⟩, ⟨?_, ?_, ?_, ?_, ?_⟩, hb1⟩
  · simp [World.setCell, Array.getElem?_modify, hb1]
  · have e1 : (zs ++ [z]).length = zs.length + 1 := by simp
    have e2 : buR (zs ++ [z]) = buR zs ++ buC z := by rw [buR_app]; simp [buR]
    rw [e1, e2]
    refine ho.kept (row := some Bc) ⟨rfl, rfl, rfl, by simp [World.setCell], fun k _ hn => Below.heap_setCell _ _ _ _ (fun e => hn (congrArg some e))⟩ (.inr (fun e => ?_))
    have := (ho.lt _ e).1
    omega
  · exact (Below.heap_setCell _ _ _ _ (by simp; omega)).trans ((hg.block _ hx.mem.lt (fun e => hnm e.symm)).trans hx.mem)
  · exact hg.os.trans hb.os
  · exact hg.tape.trans hb.tape
  · exact hg.output.trans hb.output
  · simp only [World.setCell]
    have := hg.size
    have := hb.size
    simp
    omega
  · intro k hk hn hc
    have hkx : k < x.heap.size := Nat.lt_of_lt_of_le hk hb.size
    refine (Below.heap_setCell _ _ _ _ (by simp; omega)).trans ((hg.block k hkx (fun e => ?_)).trans (hb.block k hk))
    rcases hc with hc | hc
    · have := (hx.row.lt _ e.symm).1
      omega
    · obtain ⟨_, hr | ⟨g, cap, cur, hv, _, hgg, _⟩⟩ := hx.row
      · rw [hr.1] at e; cases e
      · rw [hv] at e
        have e2 : k = g := by simpa [Value.ownBlock] using e
        subst e2
        rw [hb.block k hk] at hgg
        exact hc _ _ hgg
/-- The buffers behind it. -/
def adZ (s : ByteArray) (zs : List BU) (z : BU) : List BU := if adC s zs z = 0 then zs ++ [z] else zs
set_option maxRecDepth 100000 in
set_option maxHeartbeats 4000000 in
theorem crAdd_any {w : World} {Bc mb n : Nat} {v : Value} {zs : List BU} {s : ByteArray} (h : CR w Bc mb n v zs s) (z : BU) (hn : s.size = n * 256) (hs : s.size ≤ 65536) (hz : i64B z.len) (hl : zs.length ≤ 1000) :
    Calls Try.prog 137 #[.pointer (some ⟨Bc, 0, none⟩), buA z] w fun e w' => e = .returned (.int .i64 (adC s zs z)) ∧ ∃ v', CR w' Bc mb n v' (adZ s zs z) s ∧ FrT w w' Bc := by
  obtain ⟨i0, hi0, hz0, hz1, hz2⟩ := info_parts Try.info53
  have HI0 : Hid _ := hi0
  have HZ0 : Hid _ := hz0
  have HZ1 : Hid _ := hz1
  have HZ2 : Hid _ := hz2
  have hv0 := bu_sl h.row
  obtain ⟨ao, cap, hv⟩ := hv0
  subst hv
  have HB1 : Hid (Below w.heap.size w (w.alloc (.cells #[.int .i64 z.pos, .int .i64 z.len, .bool z.write] 53))) := bx1 _ _
  have HH : Hid _ := crHolds_any (h.below HB1.out) z hn hs hz
  have HC : Hid (∀ u, Below (w.alloc (.cells #[.int .i64 z.pos, .int .i64 z.len, .bool z.write] 53)).heap.size (w.alloc (.cells #[.int .i64 z.pos, .int .i64 z.len, .bool z.write] 53)) u → CR u Bc mb n (.slice ao zs.length cap) zs s ∧ LBx w u w.heap.size #[.int .i64 z.pos, .int .i64 z.len, .bool z.write] 53) := fun u hu => ⟨(h.below HB1.out).below hu, (LBx.new w _ _).step hu⟩
  have HL : Hid (zs.length ≤ 1000) := hl
  have hcl : Bc < w.heap.size := h.lt
  have HNE : Hid ((Value.slice ao zs.length cap).ownBlock ≠ some w.heap.size) := fun e => by have := (h.row.lt _ e).2; omega
  clear h hn hs hz hi0 hz0 hz1 hz2 hl
  have hln : (zs.length : Int) ≤ 1000 := by have := HL.out; omega
  have hE0 : z = z := rfl
  obtain ⟨zp, zl, zw⟩ := z
  simp only at HB1 HH HC
  unfold buA at HH ⊢
  simp only at HH ⊢
  clear hE0
  cases hi : inW s.size zp zl
  · rw [hi] at HH
    have E : Hid (adC s zs ⟨zp, zl, zw⟩ = 2) := (show adC s zs ⟨zp, zl, zw⟩ = 2 by unfold adC; simp only [hi]; rfl)
    clear hi
    go_enter Try.func137, Try.ntmps137
    go_wp2_with (go_at_call 141; refine Calls.mono HH.out ?_; rintro e u1 ⟨rfl, hu⟩; obtain ⟨hcr, hlb⟩ := HC.out u1 hu; have HC1 : Hid _ := hcr; have HL1 : Hid _ := hlb; obtain ⟨c0, c1, cf⟩ := hcr.cel; have b0 := hlb.cel 0 (.int .i64 zp) rfl; have b1 := hlb.cel 1 (.int .i64 zl) rfl; have b2 := hlb.cel 2 (.bool zw) rfl; have lt1 := hcr.lt; have lt2 := hlb.lt; have HU : Hid (Below w.heap.size w u1) := HB1.out.trans (hu.mono HB1.out.size); clear hu hcr hlb HC HH)
    go_ret
    have E2 : adZ s zs ⟨zp, zl, zw⟩ = zs := by unfold adZ; rw [if_neg (by rw [E.out]; decide)]
    rw [E2]
    exact ⟨ret_int E.out.symm, _, HC1.out, FrT.of_below HU.out⟩
  rw [hi] at HH
  by_cases hnil : zs = []
  · have E : Hid (adC s zs ⟨zp, zl, zw⟩ = 0) := (show adC s zs ⟨zp, zl, zw⟩ = 0 by unfold adC; simp only [hi, hnil]; rfl)
    have E2 : Hid (adZ s zs ⟨zp, zl, zw⟩ = zs ++ [⟨zp, zl, zw⟩]) := (show adZ s zs ⟨zp, zl, zw⟩ = _ by unfold adZ; rw [if_pos E.out])
    have hl0 : (zs.length : Int) = 0 := by rw [hnil]; rfl
    clear hi hnil
    go_enter Try.func137, Try.ntmps137
    go_wp2_with (go_at_call 141; refine Calls.mono HH.out ?_; rintro e u1 ⟨rfl, hu⟩; obtain ⟨hcr, hlb⟩ := HC.out u1 hu; have HC1 : Hid _ := hcr; have HL1 : Hid _ := hlb; obtain ⟨c0, c1, cf⟩ := hcr.cel; have b0 := hlb.cel 0 (.int .i64 zp) rfl; have b1 := hlb.cel 1 (.int .i64 zl) rfl; have b2 := hlb.cel 2 (.bool zw) rfl; have lt1 := hcr.lt; have lt2 := hlb.lt; have HU : Hid (Below w.heap.size w u1) := HB1.out.trans (hu.mono HB1.out.size); clear hu hcr hlb HC HH)
    have HUD : Hid (Below u1.heap.size u1 u1.drew) := (Below.refl _ _).drew
    have HK : Hid (u1.drew.cell? ⟨w.heap.size, 0, none⟩ = some (.int .i64 zp) ∧ u1.drew.cell? ⟨w.heap.size, 1, none⟩ = some (.int .i64 zl) ∧ u1.drew.cell? ⟨w.heap.size, 2, none⟩ = some (.bool zw)) := ⟨b0, b1, b2⟩
    have d1 : u1.drew.cell? ⟨Bc, 1, none⟩ = some (.slice ao zs.length cap) := c1
    have lt3 : Bc < u1.drew.heap.size := lt1
    clear c0 c1 cf b0 b1 b2 lt1 lt2
    refine wp_region_held (S := fun w' => w'.cell? ⟨w.heap.size, 0, none⟩ = some (.int .i64 zp) ∧ w'.cell? ⟨w.heap.size, 1, none⟩ = some (.int .i64 zl) ∧ w'.cell? ⟨w.heap.size, 2, none⟩ = some (.bool zw)) (by kernel_rfl) ?_
    change wpAnyH _ _ _ _ _ _ _ _ (World.drew _)
    generalize u1.drew = X at *
    refine wpAnyH_take (i := 0) (v := .pointer (some ⟨Bc, 0, none⟩)) rfl (by kernel_rfl) (by kernel_rfl) (by kernel_rfl) (fun _ _ _ h => h) (Or.inl ⟨by kernel_rfl, fun w9 h9 => ?_⟩) HK.out ?_
    · clear h9
      go_simp
    refine wpAnyH_take (i := 1) (v := .pointer (some ⟨Bc, 0, none⟩)) rfl (by kernel_rfl) (by kernel_rfl) (by kernel_rfl) (fun _ _ _ h => h) (Or.inl ⟨by kernel_rfl, fun w9 h9 => ?_⟩) HK.out ?_
    · clear h9
      go_simp
    refine wpAnyH_take (i := 2) (v := .pointer (some ⟨Bc, 0, none⟩)) rfl (by kernel_rfl) (by kernel_rfl) (by kernel_rfl) (fun _ _ _ h => h) (Or.inl ⟨by kernel_rfl, fun w9 h9 => ?_⟩) HK.out ?_
    · clear h9
      go_simp
    refine wpAnyH_take (i := 3) (v := .pointer (some ⟨Bc, 1, none⟩)) rfl (by kernel_rfl) (by kernel_rfl) (by kernel_rfl) (fun _ _ _ h => h) (Or.inl ⟨by kernel_rfl, fun w9 h9 => ?_⟩) HK.out ?_
    · clear h9
      go_simp
    refine wpAnyH_take (i := 5) (v := .agg #[.int .i64 zp, .int .i64 zl, .bool zw]) rfl (by kernel_rfl) (by kernel_rfl) (by kernel_rfl) (fun _ _ _ h => h) (Or.inl ⟨by kernel_rfl, fun w9 h9 => ?_⟩) HK.out ?_
    · obtain ⟨d0, d1, d2⟩ := h9
      go_simp
    have HXA : Hid (Below X.heap.size X (X.alloc (.cells #[.int .i64 zp, .int .i64 zl, .bool zw] 53))) := bx1 _ _
    have hltX : w.heap.size < X.heap.size := (Array.getElem?_eq_some_iff.1 (HL1.out.step HUD.out).box).1
    have HK2 : Hid _ := (HL1.out.step HUD.out).step HXA.out
    have HKK : Hid ((X.alloc (.cells #[.int .i64 zp, .int .i64 zl, .bool zw] 53)).cell? ⟨w.heap.size, 0, none⟩ = some (.int .i64 zp) ∧ (X.alloc (.cells #[.int .i64 zp, .int .i64 zl, .bool zw] 53)).cell? ⟨w.heap.size, 1, none⟩ = some (.int .i64 zl) ∧ (X.alloc (.cells #[.int .i64 zp, .int .i64 zl, .bool zw] 53)).cell? ⟨w.heap.size, 2, none⟩ = some (.bool zw)) := ⟨HK2.out.cel 0 _ rfl, HK2.out.cel 1 _ rfl, HK2.out.cel 2 _ rfl⟩
    refine wpAnyH_all (rs := [4, 6]) (by kernel_rfl) (by simp) (all_two (held_step rfl (by kernel_rfl) fun K hK => ?_) (held_step rfl (by kernel_rfl) fun K hK => ?_))
    · go_simp
      refine hK _ _ HK.out ?_
      clear hK K
      refine held_one 6 (by kernel_rfl) rfl (by kernel_rfl) fun K hK => ?_
      go_simp
      refine hK _ _ HKK.out ?_
      clear hK K d1
      have HRW : Hid ((X.alloc (.cells #[.int .i64 zp, .int .i64 zl, .bool zw] 53)).ownsRow (Bc + 1) 53 3 (.slice ao zs.length cap) zs.length (buR zs)) := ((HC1.out.below HUD.out).below HXA.out).row
      refine held_one 7 (by kernel_rfl) rfl (by kernel_rfl) fun K hK => ?_
      refine wp_append_own _ _ _ 48 rfl (Bc + 1) 53 i0 (.agg #[.int .i64 0, .int .i64 0, .bool false]) 3 24 Try.underlying48 HI0.out HZ0.out HZ1.out HZ2.out rfl (by decide) (.slice ao zs.length cap) zs.length (buR zs) rfl HRW.out ⟨X.heap.size, 0, none⟩ 1 1 (buC ⟨zp, zl, zw⟩) rfl rfl (buf_cells X ⟨zp, zl, zw⟩) (bu_oneC _) (by have := HL.out; unfold maxLen; omega) (by have := HL.out; omega) (by simp; omega) ?_
      intro v' x2 hown hgr _
      obtain ⟨hg1, hg2, hg3⟩ := (HC1.out.below HUD.out).grow (z := ⟨zp, zl, zw⟩) HXA.out hown hgr
      have HG1 : Hid _ := hg1
      have HG2 : Hid (FrT w (x2.setCell ⟨Bc, 1, none⟩ v') Bc) := (FrT.of_below (HU.out.trans (HUD.out.mono HU.out.size))).trans hg2
      have hNo : w.heap.size ≠ Bc := by omega
      have hx2 : x2.heap[w.heap.size]? = some (.cells #[.int .i64 zp, .int .i64 zl, .bool zw] 53 (0, 0)) := (hgr.block _ (by simp; omega) (fun e => HNE.out e.symm)).trans HK2.out.box
      have k0 : x2.cell? ⟨w.heap.size, 0, none⟩ = some (.int .i64 zp) := by simp [World.cell?, hx2]
      have k1 : x2.cell? ⟨w.heap.size, 1, none⟩ = some (.int .i64 zl) := by simp [World.cell?, hx2]
      have k2 : x2.cell? ⟨w.heap.size, 2, none⟩ = some (.bool zw) := by simp [World.cell?, hx2]
      obtain ⟨ao2, cap2, hv2⟩ := bu_sl hown
      subst hv2
      have q1 : x2.cell? ⟨Bc, 1, none⟩ = some (.slice ao zs.length cap) := by simp [World.cell?, hg3]
      have qf : x2.frozen? ⟨Bc, 1, none⟩ = false := by simp [World.frozen?, hg3]
      have qlt : Bc < x2.heap.size := (Array.getElem?_eq_some_iff.1 hg3).1
      clear hown hgr hg1 hg2 hg3 hx2
      go_simp
      replace HK : Hid (x2.cell? ⟨w.heap.size, 0, none⟩ = some (.int .i64 zp) ∧ x2.cell? ⟨w.heap.size, 1, none⟩ = some (.int .i64 zl) ∧ x2.cell? ⟨w.heap.size, 2, none⟩ = some (.bool zw)) := ⟨k0, k1, k2⟩
      refine hK _ _ HK.out ?_
      clear hK K
      refine wpAnyH_take (i := 8) (v := .pointer (some ⟨Bc, 0, none⟩)) rfl (by kernel_rfl) (by kernel_rfl) (by kernel_rfl) (fun _ _ _ h => h) (Or.inl ⟨by kernel_rfl, fun w9 h9 => ?_⟩) HK.out ?_
      · clear h9
        go_simp
      refine wpAnyH_take (i := 9) (v := .pointer (some ⟨Bc, 1, none⟩)) rfl (by kernel_rfl) (by kernel_rfl) (by kernel_rfl) (fun _ _ _ h => h) (Or.inl ⟨by kernel_rfl, fun w9 h9 => ?_⟩) HK.out ?_
      · clear h9
        go_simp
      refine held_one 10 (by kernel_rfl) rfl (by kernel_rfl) fun K hK => ?_
      go_simp
      refine hK _ _ ⟨(World.cell?_setCell_other _ _ _ _ (fun hh => by injection hh with h1; exact hNo h1.symm)).trans k0, (World.cell?_setCell_other _ _ _ _ (fun hh => by injection hh with h1; exact hNo h1.symm)).trans k1, (World.cell?_setCell_other _ _ _ _ (fun hh => by injection hh with h1; exact hNo h1.symm)).trans k2⟩ ?_
      clear hK K
      refine wpAnyH_done (by kernel_rfl) ?_ _
      go_simp
      go_wp2_with fail
      go_ret
      rw [E2.out]
      exact ⟨ret_int E.out.symm, _, HG1.out, HG2.out⟩
    · go_simp
      refine hK _ _ HKK.out ?_
      clear hK K
      refine held_one 4 (by kernel_rfl) rfl (by kernel_rfl) fun K hK => ?_
      go_simp
      refine hK _ _ HKK.out ?_
      clear hK K d1
      have HRW : Hid ((X.alloc (.cells #[.int .i64 zp, .int .i64 zl, .bool zw] 53)).ownsRow (Bc + 1) 53 3 (.slice ao zs.length cap) zs.length (buR zs)) := ((HC1.out.below HUD.out).below HXA.out).row
      refine held_one 7 (by kernel_rfl) rfl (by kernel_rfl) fun K hK => ?_
      refine wp_append_own _ _ _ 48 rfl (Bc + 1) 53 i0 (.agg #[.int .i64 0, .int .i64 0, .bool false]) 3 24 Try.underlying48 HI0.out HZ0.out HZ1.out HZ2.out rfl (by decide) (.slice ao zs.length cap) zs.length (buR zs) rfl HRW.out ⟨X.heap.size, 0, none⟩ 1 1 (buC ⟨zp, zl, zw⟩) rfl rfl (buf_cells X ⟨zp, zl, zw⟩) (bu_oneC _) (by have := HL.out; unfold maxLen; omega) (by have := HL.out; omega) (by simp; omega) ?_
      intro v' x2 hown hgr _
      obtain ⟨hg1, hg2, hg3⟩ := (HC1.out.below HUD.out).grow (z := ⟨zp, zl, zw⟩) HXA.out hown hgr
      have HG1 : Hid _ := hg1
      have HG2 : Hid (FrT w (x2.setCell ⟨Bc, 1, none⟩ v') Bc) := (FrT.of_below (HU.out.trans (HUD.out.mono HU.out.size))).trans hg2
      have hNo : w.heap.size ≠ Bc := by omega
      have hx2 : x2.heap[w.heap.size]? = some (.cells #[.int .i64 zp, .int .i64 zl, .bool zw] 53 (0, 0)) := (hgr.block _ (by simp; omega) (fun e => HNE.out e.symm)).trans HK2.out.box
      have k0 : x2.cell? ⟨w.heap.size, 0, none⟩ = some (.int .i64 zp) := by simp [World.cell?, hx2]
      have k1 : x2.cell? ⟨w.heap.size, 1, none⟩ = some (.int .i64 zl) := by simp [World.cell?, hx2]
      have k2 : x2.cell? ⟨w.heap.size, 2, none⟩ = some (.bool zw) := by simp [World.cell?, hx2]
      obtain ⟨ao2, cap2, hv2⟩ := bu_sl hown
      subst hv2
      have q1 : x2.cell? ⟨Bc, 1, none⟩ = some (.slice ao zs.length cap) := by simp [World.cell?, hg3]
      have qf : x2.frozen? ⟨Bc, 1, none⟩ = false := by simp [World.frozen?, hg3]
      have qlt : Bc < x2.heap.size := (Array.getElem?_eq_some_iff.1 hg3).1
      clear hown hgr hg1 hg2 hg3 hx2
      go_simp
      replace HK : Hid (x2.cell? ⟨w.heap.size, 0, none⟩ = some (.int .i64 zp) ∧ x2.cell? ⟨w.heap.size, 1, none⟩ = some (.int .i64 zl) ∧ x2.cell? ⟨w.heap.size, 2, none⟩ = some (.bool zw)) := ⟨k0, k1, k2⟩
      refine hK _ _ HK.out ?_
      clear hK K
      refine wpAnyH_take (i := 8) (v := .pointer (some ⟨Bc, 0, none⟩)) rfl (by kernel_rfl) (by kernel_rfl) (by kernel_rfl) (fun _ _ _ h => h) (Or.inl ⟨by kernel_rfl, fun w9 h9 => ?_⟩) HK.out ?_
      · clear h9
        go_simp
      refine wpAnyH_take (i := 9) (v := .pointer (some ⟨Bc, 1, none⟩)) rfl (by kernel_rfl) (by kernel_rfl) (by kernel_rfl) (fun _ _ _ h => h) (Or.inl ⟨by kernel_rfl, fun w9 h9 => ?_⟩) HK.out ?_
      · clear h9
        go_simp
      refine held_one 10 (by kernel_rfl) rfl (by kernel_rfl) fun K hK => ?_
      go_simp
      refine hK _ _ ⟨(World.cell?_setCell_other _ _ _ _ (fun hh => by injection hh with h1; exact hNo h1.symm)).trans k0, (World.cell?_setCell_other _ _ _ _ (fun hh => by injection hh with h1; exact hNo h1.symm)).trans k1, (World.cell?_setCell_other _ _ _ _ (fun hh => by injection hh with h1; exact hNo h1.symm)).trans k2⟩ ?_
      clear hK K
      refine wpAnyH_done (by kernel_rfl) ?_ _
      go_simp
      go_wp2_with fail
      go_ret
      rw [E2.out]
      exact ⟨ret_int E.out.symm, _, HG1.out, HG2.out⟩
  have hpos : 0 < zs.length := List.length_pos_iff.2 hnil
  have HLC : Hid (∀ u : World, u.ownsRow (Bc + 1) 53 3 (.slice ao zs.length cap) zs.length (buR zs) → ∃ g cap', Value.slice ao zs.length cap = .slice (some ⟨g, 0, none⟩) zs.length cap' ∧ u.cell? ⟨g, (zs.length - 1) * 3 + 2, none⟩ = some (.bool (lastW zs)) ∧ g < u.heap.size) := fun u hu => last_cell hu hnil
  have hl1 : ¬ (zs.length : Int) - 1 < 0 := by omega
  have hl2 : (0 : Int) ≤ (zs.length : Int) - 1 := by omega
  have hl3 : ((zs.length : Int) - 1).toNat = zs.length - 1 := by omega
  have hl4 : (zs.length : Int) - 1 < (zs.length : Int) := by omega
  clear hnil
  cases hlw : (lastW zs && !zw)
  · have E : Hid (adC s zs ⟨zp, zl, zw⟩ = 0) := (show adC s zs ⟨zp, zl, zw⟩ = 0 by unfold adC; simp only [hi, hlw]; rfl)
    have E2 : Hid (adZ s zs ⟨zp, zl, zw⟩ = zs ++ [⟨zp, zl, zw⟩]) := (show adZ s zs ⟨zp, zl, zw⟩ = _ by unfold adZ; rw [if_pos E.out])
    clear hi
    generalize lastW zs = lw at *
    cases lw
    · clear hlw
      go_enter Try.func137, Try.ntmps137
      go_wp2_with (go_at_call 141; refine Calls.mono HH.out ?_; rintro e u1 ⟨rfl, hu⟩; obtain ⟨hcr, hlb⟩ := HC.out u1 hu; have HC1 : Hid _ := hcr; have HL1 : Hid _ := hlb; obtain ⟨c0, c1, cf⟩ := hcr.cel; have b0 := hlb.cel 0 (.int .i64 zp) rfl; have b1 := hlb.cel 1 (.int .i64 zl) rfl; have b2 := hlb.cel 2 (.bool zw) rfl; have lt1 := hcr.lt; have lt2 := hlb.lt; have HU : Hid (Below w.heap.size w u1) := HB1.out.trans (hu.mono HB1.out.size); clear hu hcr hlb HC HH; obtain ⟨g, cap', hvv, hlc, hgl⟩ := HLC.out _ HC1.out.row; injection hvv with hv1 hv2 hv3; subst hv1 hv3; clear HLC)
      have HUD : Hid (Below u1.heap.size u1 u1.drew) := (Below.refl _ _).drew
      have HK : Hid (u1.drew.cell? ⟨w.heap.size, 0, none⟩ = some (.int .i64 zp) ∧ u1.drew.cell? ⟨w.heap.size, 1, none⟩ = some (.int .i64 zl) ∧ u1.drew.cell? ⟨w.heap.size, 2, none⟩ = some (.bool zw)) := ⟨b0, b1, b2⟩
      have d1 : u1.drew.cell? ⟨Bc, 1, none⟩ = some (.slice (some ⟨g, 0, none⟩) zs.length cap) := c1
      have lt3 : Bc < u1.drew.heap.size := lt1
      clear c0 c1 cf b0 b1 b2 lt1 lt2
      refine wp_region_held (S := fun w' => w'.cell? ⟨w.heap.size, 0, none⟩ = some (.int .i64 zp) ∧ w'.cell? ⟨w.heap.size, 1, none⟩ = some (.int .i64 zl) ∧ w'.cell? ⟨w.heap.size, 2, none⟩ = some (.bool zw)) (by kernel_rfl) ?_
      change wpAnyH _ _ _ _ _ _ _ _ (World.drew _)
      generalize u1.drew = X at *
      refine wpAnyH_take (i := 0) (v := .pointer (some ⟨Bc, 0, none⟩)) rfl (by kernel_rfl) (by kernel_rfl) (by kernel_rfl) (fun _ _ _ h => h) (Or.inl ⟨by kernel_rfl, fun w9 h9 => ?_⟩) HK.out ?_
      · clear h9
        go_simp
      refine wpAnyH_take (i := 1) (v := .pointer (some ⟨Bc, 0, none⟩)) rfl (by kernel_rfl) (by kernel_rfl) (by kernel_rfl) (fun _ _ _ h => h) (Or.inl ⟨by kernel_rfl, fun w9 h9 => ?_⟩) HK.out ?_
      · clear h9
        go_simp
      refine wpAnyH_take (i := 2) (v := .pointer (some ⟨Bc, 0, none⟩)) rfl (by kernel_rfl) (by kernel_rfl) (by kernel_rfl) (fun _ _ _ h => h) (Or.inl ⟨by kernel_rfl, fun w9 h9 => ?_⟩) HK.out ?_
      · clear h9
        go_simp
      refine wpAnyH_take (i := 3) (v := .pointer (some ⟨Bc, 1, none⟩)) rfl (by kernel_rfl) (by kernel_rfl) (by kernel_rfl) (fun _ _ _ h => h) (Or.inl ⟨by kernel_rfl, fun w9 h9 => ?_⟩) HK.out ?_
      · clear h9
        go_simp
      refine wpAnyH_take (i := 5) (v := .agg #[.int .i64 zp, .int .i64 zl, .bool zw]) rfl (by kernel_rfl) (by kernel_rfl) (by kernel_rfl) (fun _ _ _ h => h) (Or.inl ⟨by kernel_rfl, fun w9 h9 => ?_⟩) HK.out ?_
      · obtain ⟨d0, d1, d2⟩ := h9
        go_simp
      have HXA : Hid (Below X.heap.size X (X.alloc (.cells #[.int .i64 zp, .int .i64 zl, .bool zw] 53))) := bx1 _ _
      have hltX : w.heap.size < X.heap.size := (Array.getElem?_eq_some_iff.1 (HL1.out.step HUD.out).box).1
      have HK2 : Hid _ := (HL1.out.step HUD.out).step HXA.out
      have HKK : Hid ((X.alloc (.cells #[.int .i64 zp, .int .i64 zl, .bool zw] 53)).cell? ⟨w.heap.size, 0, none⟩ = some (.int .i64 zp) ∧ (X.alloc (.cells #[.int .i64 zp, .int .i64 zl, .bool zw] 53)).cell? ⟨w.heap.size, 1, none⟩ = some (.int .i64 zl) ∧ (X.alloc (.cells #[.int .i64 zp, .int .i64 zl, .bool zw] 53)).cell? ⟨w.heap.size, 2, none⟩ = some (.bool zw)) := ⟨HK2.out.cel 0 _ rfl, HK2.out.cel 1 _ rfl, HK2.out.cel 2 _ rfl⟩
      refine wpAnyH_all (rs := [4, 6]) (by kernel_rfl) (by simp) (all_two (held_step rfl (by kernel_rfl) fun K hK => ?_) (held_step rfl (by kernel_rfl) fun K hK => ?_))
      · go_simp
        refine hK _ _ HK.out ?_
        clear hK K
        refine held_one 6 (by kernel_rfl) rfl (by kernel_rfl) fun K hK => ?_
        go_simp
        refine hK _ _ HKK.out ?_
        clear hK K d1
        have HRW : Hid ((X.alloc (.cells #[.int .i64 zp, .int .i64 zl, .bool zw] 53)).ownsRow (Bc + 1) 53 3 (.slice (some ⟨g, 0, none⟩) zs.length cap) zs.length (buR zs)) := ((HC1.out.below HUD.out).below HXA.out).row
        refine held_one 7 (by kernel_rfl) rfl (by kernel_rfl) fun K hK => ?_
        refine wp_append_own _ _ _ 48 rfl (Bc + 1) 53 i0 (.agg #[.int .i64 0, .int .i64 0, .bool false]) 3 24 Try.underlying48 HI0.out HZ0.out HZ1.out HZ2.out rfl (by decide) (.slice (some ⟨g, 0, none⟩) zs.length cap) zs.length (buR zs) rfl HRW.out ⟨X.heap.size, 0, none⟩ 1 1 (buC ⟨zp, zl, zw⟩) rfl rfl (buf_cells X ⟨zp, zl, zw⟩) (bu_oneC _) (by have := HL.out; unfold maxLen; omega) (by have := HL.out; omega) (by simp; omega) ?_
        intro v' x2 hown hgr _
        obtain ⟨hg1, hg2, hg3⟩ := (HC1.out.below HUD.out).grow (z := ⟨zp, zl, zw⟩) HXA.out hown hgr
        have HG1 : Hid _ := hg1
        have HG2 : Hid (FrT w (x2.setCell ⟨Bc, 1, none⟩ v') Bc) := (FrT.of_below (HU.out.trans (HUD.out.mono HU.out.size))).trans hg2
        have hNo : w.heap.size ≠ Bc := by omega
        have hx2 : x2.heap[w.heap.size]? = some (.cells #[.int .i64 zp, .int .i64 zl, .bool zw] 53 (0, 0)) := (hgr.block _ (by simp; omega) (fun e => HNE.out e.symm)).trans HK2.out.box
        have k0 : x2.cell? ⟨w.heap.size, 0, none⟩ = some (.int .i64 zp) := by simp [World.cell?, hx2]
        have k1 : x2.cell? ⟨w.heap.size, 1, none⟩ = some (.int .i64 zl) := by simp [World.cell?, hx2]
        have k2 : x2.cell? ⟨w.heap.size, 2, none⟩ = some (.bool zw) := by simp [World.cell?, hx2]
        obtain ⟨ao2, cap2, hv2⟩ := bu_sl hown
        subst hv2
        have q1 : x2.cell? ⟨Bc, 1, none⟩ = some (.slice (some ⟨g, 0, none⟩) zs.length cap) := by simp [World.cell?, hg3]
        have qf : x2.frozen? ⟨Bc, 1, none⟩ = false := by simp [World.frozen?, hg3]
        have qlt : Bc < x2.heap.size := (Array.getElem?_eq_some_iff.1 hg3).1
        clear hown hgr hg1 hg2 hg3 hx2
        go_simp
        replace HK : Hid (x2.cell? ⟨w.heap.size, 0, none⟩ = some (.int .i64 zp) ∧ x2.cell? ⟨w.heap.size, 1, none⟩ = some (.int .i64 zl) ∧ x2.cell? ⟨w.heap.size, 2, none⟩ = some (.bool zw)) := ⟨k0, k1, k2⟩
        refine hK _ _ HK.out ?_
        clear hK K
        refine wpAnyH_take (i := 8) (v := .pointer (some ⟨Bc, 0, none⟩)) rfl (by kernel_rfl) (by kernel_rfl) (by kernel_rfl) (fun _ _ _ h => h) (Or.inl ⟨by kernel_rfl, fun w9 h9 => ?_⟩) HK.out ?_
        · clear h9
          go_simp
        refine wpAnyH_take (i := 9) (v := .pointer (some ⟨Bc, 1, none⟩)) rfl (by kernel_rfl) (by kernel_rfl) (by kernel_rfl) (fun _ _ _ h => h) (Or.inl ⟨by kernel_rfl, fun w9 h9 => ?_⟩) HK.out ?_
        · clear h9
          go_simp
        refine held_one 10 (by kernel_rfl) rfl (by kernel_rfl) fun K hK => ?_
        go_simp
        refine hK _ _ ⟨(World.cell?_setCell_other _ _ _ _ (fun hh => by injection hh with h1; exact hNo h1.symm)).trans k0, (World.cell?_setCell_other _ _ _ _ (fun hh => by injection hh with h1; exact hNo h1.symm)).trans k1, (World.cell?_setCell_other _ _ _ _ (fun hh => by injection hh with h1; exact hNo h1.symm)).trans k2⟩ ?_
        clear hK K
        refine wpAnyH_done (by kernel_rfl) ?_ _
        go_simp
        go_wp2_with fail
        go_ret
        rw [E2.out]
        exact ⟨ret_int E.out.symm, _, HG1.out, HG2.out⟩
      · go_simp
        refine hK _ _ HKK.out ?_
        clear hK K
        refine held_one 4 (by kernel_rfl) rfl (by kernel_rfl) fun K hK => ?_
        go_simp
        refine hK _ _ HKK.out ?_
        clear hK K d1
        have HRW : Hid ((X.alloc (.cells #[.int .i64 zp, .int .i64 zl, .bool zw] 53)).ownsRow (Bc + 1) 53 3 (.slice (some ⟨g, 0, none⟩) zs.length cap) zs.length (buR zs)) := ((HC1.out.below HUD.out).below HXA.out).row
        refine held_one 7 (by kernel_rfl) rfl (by kernel_rfl) fun K hK => ?_
        refine wp_append_own _ _ _ 48 rfl (Bc + 1) 53 i0 (.agg #[.int .i64 0, .int .i64 0, .bool false]) 3 24 Try.underlying48 HI0.out HZ0.out HZ1.out HZ2.out rfl (by decide) (.slice (some ⟨g, 0, none⟩) zs.length cap) zs.length (buR zs) rfl HRW.out ⟨X.heap.size, 0, none⟩ 1 1 (buC ⟨zp, zl, zw⟩) rfl rfl (buf_cells X ⟨zp, zl, zw⟩) (bu_oneC _) (by have := HL.out; unfold maxLen; omega) (by have := HL.out; omega) (by simp; omega) ?_
        intro v' x2 hown hgr _
        obtain ⟨hg1, hg2, hg3⟩ := (HC1.out.below HUD.out).grow (z := ⟨zp, zl, zw⟩) HXA.out hown hgr
        have HG1 : Hid _ := hg1
        have HG2 : Hid (FrT w (x2.setCell ⟨Bc, 1, none⟩ v') Bc) := (FrT.of_below (HU.out.trans (HUD.out.mono HU.out.size))).trans hg2
        have hNo : w.heap.size ≠ Bc := by omega
        have hx2 : x2.heap[w.heap.size]? = some (.cells #[.int .i64 zp, .int .i64 zl, .bool zw] 53 (0, 0)) := (hgr.block _ (by simp; omega) (fun e => HNE.out e.symm)).trans HK2.out.box
        have k0 : x2.cell? ⟨w.heap.size, 0, none⟩ = some (.int .i64 zp) := by simp [World.cell?, hx2]
        have k1 : x2.cell? ⟨w.heap.size, 1, none⟩ = some (.int .i64 zl) := by simp [World.cell?, hx2]
        have k2 : x2.cell? ⟨w.heap.size, 2, none⟩ = some (.bool zw) := by simp [World.cell?, hx2]
        obtain ⟨ao2, cap2, hv2⟩ := bu_sl hown
        subst hv2
        have q1 : x2.cell? ⟨Bc, 1, none⟩ = some (.slice (some ⟨g, 0, none⟩) zs.length cap) := by simp [World.cell?, hg3]
        have qf : x2.frozen? ⟨Bc, 1, none⟩ = false := by simp [World.frozen?, hg3]
        have qlt : Bc < x2.heap.size := (Array.getElem?_eq_some_iff.1 hg3).1
        clear hown hgr hg1 hg2 hg3 hx2
        go_simp
        replace HK : Hid (x2.cell? ⟨w.heap.size, 0, none⟩ = some (.int .i64 zp) ∧ x2.cell? ⟨w.heap.size, 1, none⟩ = some (.int .i64 zl) ∧ x2.cell? ⟨w.heap.size, 2, none⟩ = some (.bool zw)) := ⟨k0, k1, k2⟩
        refine hK _ _ HK.out ?_
        clear hK K
        refine wpAnyH_take (i := 8) (v := .pointer (some ⟨Bc, 0, none⟩)) rfl (by kernel_rfl) (by kernel_rfl) (by kernel_rfl) (fun _ _ _ h => h) (Or.inl ⟨by kernel_rfl, fun w9 h9 => ?_⟩) HK.out ?_
        · clear h9
          go_simp
        refine wpAnyH_take (i := 9) (v := .pointer (some ⟨Bc, 1, none⟩)) rfl (by kernel_rfl) (by kernel_rfl) (by kernel_rfl) (fun _ _ _ h => h) (Or.inl ⟨by kernel_rfl, fun w9 h9 => ?_⟩) HK.out ?_
        · clear h9
          go_simp
        refine held_one 10 (by kernel_rfl) rfl (by kernel_rfl) fun K hK => ?_
        go_simp
        refine hK _ _ ⟨(World.cell?_setCell_other _ _ _ _ (fun hh => by injection hh with h1; exact hNo h1.symm)).trans k0, (World.cell?_setCell_other _ _ _ _ (fun hh => by injection hh with h1; exact hNo h1.symm)).trans k1, (World.cell?_setCell_other _ _ _ _ (fun hh => by injection hh with h1; exact hNo h1.symm)).trans k2⟩ ?_
        clear hK K
        refine wpAnyH_done (by kernel_rfl) ?_ _
        go_simp
        go_wp2_with fail
        go_ret
        rw [E2.out]
        exact ⟨ret_int E.out.symm, _, HG1.out, HG2.out⟩
    · have hzw : zw = true := by cases zw <;> simp_all
      subst hzw
      clear hlw
      go_enter Try.func137, Try.ntmps137
      go_wp2_with (go_at_call 141; refine Calls.mono HH.out ?_; rintro e u1 ⟨rfl, hu⟩; obtain ⟨hcr, hlb⟩ := HC.out u1 hu; have HC1 : Hid _ := hcr; have HL1 : Hid _ := hlb; obtain ⟨c0, c1, cf⟩ := hcr.cel; have b0 := hlb.cel 0 (.int .i64 zp) rfl; have b1 := hlb.cel 1 (.int .i64 zl) rfl; have b2 := hlb.cel 2 (.bool true) rfl; have lt1 := hcr.lt; have lt2 := hlb.lt; have HU : Hid (Below w.heap.size w u1) := HB1.out.trans (hu.mono HB1.out.size); clear hu hcr hlb HC HH; obtain ⟨g, cap', hvv, hlc, hgl⟩ := HLC.out _ HC1.out.row; injection hvv with hv1 hv2 hv3; subst hv1 hv3; clear HLC)
      have HUD : Hid (Below u1.heap.size u1 u1.drew) := (Below.refl _ _).drew
      have HK : Hid (u1.drew.cell? ⟨w.heap.size, 0, none⟩ = some (.int .i64 zp) ∧ u1.drew.cell? ⟨w.heap.size, 1, none⟩ = some (.int .i64 zl) ∧ u1.drew.cell? ⟨w.heap.size, 2, none⟩ = some (.bool true)) := ⟨b0, b1, b2⟩
      have d1 : u1.drew.cell? ⟨Bc, 1, none⟩ = some (.slice (some ⟨g, 0, none⟩) zs.length cap) := c1
      have lt3 : Bc < u1.drew.heap.size := lt1
      clear c0 c1 cf b0 b1 b2 lt1 lt2
      refine wp_region_held (S := fun w' => w'.cell? ⟨w.heap.size, 0, none⟩ = some (.int .i64 zp) ∧ w'.cell? ⟨w.heap.size, 1, none⟩ = some (.int .i64 zl) ∧ w'.cell? ⟨w.heap.size, 2, none⟩ = some (.bool true)) (by kernel_rfl) ?_
      change wpAnyH _ _ _ _ _ _ _ _ (World.drew _)
      generalize u1.drew = X at *
      refine wpAnyH_take (i := 0) (v := .pointer (some ⟨Bc, 0, none⟩)) rfl (by kernel_rfl) (by kernel_rfl) (by kernel_rfl) (fun _ _ _ h => h) (Or.inl ⟨by kernel_rfl, fun w9 h9 => ?_⟩) HK.out ?_
      · clear h9
        go_simp
      refine wpAnyH_take (i := 1) (v := .pointer (some ⟨Bc, 0, none⟩)) rfl (by kernel_rfl) (by kernel_rfl) (by kernel_rfl) (fun _ _ _ h => h) (Or.inl ⟨by kernel_rfl, fun w9 h9 => ?_⟩) HK.out ?_
      · clear h9
        go_simp
      refine wpAnyH_take (i := 2) (v := .pointer (some ⟨Bc, 0, none⟩)) rfl (by kernel_rfl) (by kernel_rfl) (by kernel_rfl) (fun _ _ _ h => h) (Or.inl ⟨by kernel_rfl, fun w9 h9 => ?_⟩) HK.out ?_
      · clear h9
        go_simp
      refine wpAnyH_take (i := 3) (v := .pointer (some ⟨Bc, 1, none⟩)) rfl (by kernel_rfl) (by kernel_rfl) (by kernel_rfl) (fun _ _ _ h => h) (Or.inl ⟨by kernel_rfl, fun w9 h9 => ?_⟩) HK.out ?_
      · clear h9
        go_simp
      refine wpAnyH_take (i := 5) (v := .agg #[.int .i64 zp, .int .i64 zl, .bool true]) rfl (by kernel_rfl) (by kernel_rfl) (by kernel_rfl) (fun _ _ _ h => h) (Or.inl ⟨by kernel_rfl, fun w9 h9 => ?_⟩) HK.out ?_
      · obtain ⟨d0, d1, d2⟩ := h9
        go_simp
      have HXA : Hid (Below X.heap.size X (X.alloc (.cells #[.int .i64 zp, .int .i64 zl, .bool true] 53))) := bx1 _ _
      have hltX : w.heap.size < X.heap.size := (Array.getElem?_eq_some_iff.1 (HL1.out.step HUD.out).box).1
      have HK2 : Hid _ := (HL1.out.step HUD.out).step HXA.out
      have HKK : Hid ((X.alloc (.cells #[.int .i64 zp, .int .i64 zl, .bool true] 53)).cell? ⟨w.heap.size, 0, none⟩ = some (.int .i64 zp) ∧ (X.alloc (.cells #[.int .i64 zp, .int .i64 zl, .bool true] 53)).cell? ⟨w.heap.size, 1, none⟩ = some (.int .i64 zl) ∧ (X.alloc (.cells #[.int .i64 zp, .int .i64 zl, .bool true] 53)).cell? ⟨w.heap.size, 2, none⟩ = some (.bool true)) := ⟨HK2.out.cel 0 _ rfl, HK2.out.cel 1 _ rfl, HK2.out.cel 2 _ rfl⟩
      refine wpAnyH_all (rs := [4, 6]) (by kernel_rfl) (by simp) (all_two (held_step rfl (by kernel_rfl) fun K hK => ?_) (held_step rfl (by kernel_rfl) fun K hK => ?_))
      · go_simp
        refine hK _ _ HK.out ?_
        clear hK K
        refine held_one 6 (by kernel_rfl) rfl (by kernel_rfl) fun K hK => ?_
        go_simp
        refine hK _ _ HKK.out ?_
        clear hK K d1
        have HRW : Hid ((X.alloc (.cells #[.int .i64 zp, .int .i64 zl, .bool true] 53)).ownsRow (Bc + 1) 53 3 (.slice (some ⟨g, 0, none⟩) zs.length cap) zs.length (buR zs)) := ((HC1.out.below HUD.out).below HXA.out).row
        refine held_one 7 (by kernel_rfl) rfl (by kernel_rfl) fun K hK => ?_
        refine wp_append_own _ _ _ 48 rfl (Bc + 1) 53 i0 (.agg #[.int .i64 0, .int .i64 0, .bool false]) 3 24 Try.underlying48 HI0.out HZ0.out HZ1.out HZ2.out rfl (by decide) (.slice (some ⟨g, 0, none⟩) zs.length cap) zs.length (buR zs) rfl HRW.out ⟨X.heap.size, 0, none⟩ 1 1 (buC ⟨zp, zl, true⟩) rfl rfl (buf_cells X ⟨zp, zl, true⟩) (bu_oneC _) (by have := HL.out; unfold maxLen; omega) (by have := HL.out; omega) (by simp; omega) ?_
        intro v' x2 hown hgr _
        obtain ⟨hg1, hg2, hg3⟩ := (HC1.out.below HUD.out).grow (z := ⟨zp, zl, true⟩) HXA.out hown hgr
        have HG1 : Hid _ := hg1
        have HG2 : Hid (FrT w (x2.setCell ⟨Bc, 1, none⟩ v') Bc) := (FrT.of_below (HU.out.trans (HUD.out.mono HU.out.size))).trans hg2
        have hNo : w.heap.size ≠ Bc := by omega
        have hx2 : x2.heap[w.heap.size]? = some (.cells #[.int .i64 zp, .int .i64 zl, .bool true] 53 (0, 0)) := (hgr.block _ (by simp; omega) (fun e => HNE.out e.symm)).trans HK2.out.box
        have k0 : x2.cell? ⟨w.heap.size, 0, none⟩ = some (.int .i64 zp) := by simp [World.cell?, hx2]
        have k1 : x2.cell? ⟨w.heap.size, 1, none⟩ = some (.int .i64 zl) := by simp [World.cell?, hx2]
        have k2 : x2.cell? ⟨w.heap.size, 2, none⟩ = some (.bool true) := by simp [World.cell?, hx2]
        obtain ⟨ao2, cap2, hv2⟩ := bu_sl hown
        subst hv2
        have q1 : x2.cell? ⟨Bc, 1, none⟩ = some (.slice (some ⟨g, 0, none⟩) zs.length cap) := by simp [World.cell?, hg3]
        have qf : x2.frozen? ⟨Bc, 1, none⟩ = false := by simp [World.frozen?, hg3]
        have qlt : Bc < x2.heap.size := (Array.getElem?_eq_some_iff.1 hg3).1
        clear hown hgr hg1 hg2 hg3 hx2
        go_simp
        replace HK : Hid (x2.cell? ⟨w.heap.size, 0, none⟩ = some (.int .i64 zp) ∧ x2.cell? ⟨w.heap.size, 1, none⟩ = some (.int .i64 zl) ∧ x2.cell? ⟨w.heap.size, 2, none⟩ = some (.bool true)) := ⟨k0, k1, k2⟩
        refine hK _ _ HK.out ?_
        clear hK K
        refine wpAnyH_take (i := 8) (v := .pointer (some ⟨Bc, 0, none⟩)) rfl (by kernel_rfl) (by kernel_rfl) (by kernel_rfl) (fun _ _ _ h => h) (Or.inl ⟨by kernel_rfl, fun w9 h9 => ?_⟩) HK.out ?_
        · clear h9
          go_simp
        refine wpAnyH_take (i := 9) (v := .pointer (some ⟨Bc, 1, none⟩)) rfl (by kernel_rfl) (by kernel_rfl) (by kernel_rfl) (fun _ _ _ h => h) (Or.inl ⟨by kernel_rfl, fun w9 h9 => ?_⟩) HK.out ?_
        · clear h9
          go_simp
        refine held_one 10 (by kernel_rfl) rfl (by kernel_rfl) fun K hK => ?_
        go_simp
        refine hK _ _ ⟨(World.cell?_setCell_other _ _ _ _ (fun hh => by injection hh with h1; exact hNo h1.symm)).trans k0, (World.cell?_setCell_other _ _ _ _ (fun hh => by injection hh with h1; exact hNo h1.symm)).trans k1, (World.cell?_setCell_other _ _ _ _ (fun hh => by injection hh with h1; exact hNo h1.symm)).trans k2⟩ ?_
        clear hK K
        refine wpAnyH_done (by kernel_rfl) ?_ _
        go_simp
        go_wp2_with fail
        go_ret
        rw [E2.out]
        exact ⟨ret_int E.out.symm, _, HG1.out, HG2.out⟩
      · go_simp
        refine hK _ _ HKK.out ?_
        clear hK K
        refine held_one 4 (by kernel_rfl) rfl (by kernel_rfl) fun K hK => ?_
        go_simp
        refine hK _ _ HKK.out ?_
        clear hK K d1
        have HRW : Hid ((X.alloc (.cells #[.int .i64 zp, .int .i64 zl, .bool true] 53)).ownsRow (Bc + 1) 53 3 (.slice (some ⟨g, 0, none⟩) zs.length cap) zs.length (buR zs)) := ((HC1.out.below HUD.out).below HXA.out).row
        refine held_one 7 (by kernel_rfl) rfl (by kernel_rfl) fun K hK => ?_
        refine wp_append_own _ _ _ 48 rfl (Bc + 1) 53 i0 (.agg #[.int .i64 0, .int .i64 0, .bool false]) 3 24 Try.underlying48 HI0.out HZ0.out HZ1.out HZ2.out rfl (by decide) (.slice (some ⟨g, 0, none⟩) zs.length cap) zs.length (buR zs) rfl HRW.out ⟨X.heap.size, 0, none⟩ 1 1 (buC ⟨zp, zl, true⟩) rfl rfl (buf_cells X ⟨zp, zl, true⟩) (bu_oneC _) (by have := HL.out; unfold maxLen; omega) (by have := HL.out; omega) (by simp; omega) ?_
        intro v' x2 hown hgr _
        obtain ⟨hg1, hg2, hg3⟩ := (HC1.out.below HUD.out).grow (z := ⟨zp, zl, true⟩) HXA.out hown hgr
        have HG1 : Hid _ := hg1
        have HG2 : Hid (FrT w (x2.setCell ⟨Bc, 1, none⟩ v') Bc) := (FrT.of_below (HU.out.trans (HUD.out.mono HU.out.size))).trans hg2
        have hNo : w.heap.size ≠ Bc := by omega
        have hx2 : x2.heap[w.heap.size]? = some (.cells #[.int .i64 zp, .int .i64 zl, .bool true] 53 (0, 0)) := (hgr.block _ (by simp; omega) (fun e => HNE.out e.symm)).trans HK2.out.box
        have k0 : x2.cell? ⟨w.heap.size, 0, none⟩ = some (.int .i64 zp) := by simp [World.cell?, hx2]
        have k1 : x2.cell? ⟨w.heap.size, 1, none⟩ = some (.int .i64 zl) := by simp [World.cell?, hx2]
        have k2 : x2.cell? ⟨w.heap.size, 2, none⟩ = some (.bool true) := by simp [World.cell?, hx2]
        obtain ⟨ao2, cap2, hv2⟩ := bu_sl hown
        subst hv2
        have q1 : x2.cell? ⟨Bc, 1, none⟩ = some (.slice (some ⟨g, 0, none⟩) zs.length cap) := by simp [World.cell?, hg3]
        have qf : x2.frozen? ⟨Bc, 1, none⟩ = false := by simp [World.frozen?, hg3]
        have qlt : Bc < x2.heap.size := (Array.getElem?_eq_some_iff.1 hg3).1
        clear hown hgr hg1 hg2 hg3 hx2
        go_simp
        replace HK : Hid (x2.cell? ⟨w.heap.size, 0, none⟩ = some (.int .i64 zp) ∧ x2.cell? ⟨w.heap.size, 1, none⟩ = some (.int .i64 zl) ∧ x2.cell? ⟨w.heap.size, 2, none⟩ = some (.bool true)) := ⟨k0, k1, k2⟩
        refine hK _ _ HK.out ?_
        clear hK K
        refine wpAnyH_take (i := 8) (v := .pointer (some ⟨Bc, 0, none⟩)) rfl (by kernel_rfl) (by kernel_rfl) (by kernel_rfl) (fun _ _ _ h => h) (Or.inl ⟨by kernel_rfl, fun w9 h9 => ?_⟩) HK.out ?_
        · clear h9
          go_simp
        refine wpAnyH_take (i := 9) (v := .pointer (some ⟨Bc, 1, none⟩)) rfl (by kernel_rfl) (by kernel_rfl) (by kernel_rfl) (fun _ _ _ h => h) (Or.inl ⟨by kernel_rfl, fun w9 h9 => ?_⟩) HK.out ?_
        · clear h9
          go_simp
        refine held_one 10 (by kernel_rfl) rfl (by kernel_rfl) fun K hK => ?_
        go_simp
        refine hK _ _ ⟨(World.cell?_setCell_other _ _ _ _ (fun hh => by injection hh with h1; exact hNo h1.symm)).trans k0, (World.cell?_setCell_other _ _ _ _ (fun hh => by injection hh with h1; exact hNo h1.symm)).trans k1, (World.cell?_setCell_other _ _ _ _ (fun hh => by injection hh with h1; exact hNo h1.symm)).trans k2⟩ ?_
        clear hK K
        refine wpAnyH_done (by kernel_rfl) ?_ _
        go_simp
        go_wp2_with fail
        go_ret
        rw [E2.out]
        exact ⟨ret_int E.out.symm, _, HG1.out, HG2.out⟩
  · have E : Hid (adC s zs ⟨zp, zl, zw⟩ = 6) := (show adC s zs ⟨zp, zl, zw⟩ = 6 by unfold adC; simp only [hi, hlw]; rfl)
    have E2 : Hid (adZ s zs ⟨zp, zl, zw⟩ = zs) := (show adZ s zs ⟨zp, zl, zw⟩ = zs by unfold adZ; rw [if_neg (by rw [E.out]; decide)])
    rw [Bool.and_eq_true] at hlw
    obtain ⟨q1, q2⟩ := hlw
    have hzw : zw = false := by cases zw <;> simp_all
    subst hzw
    rw [q1] at HLC
    clear hi q1 q2
    go_enter Try.func137, Try.ntmps137
    go_wp2_with (go_at_call 141; refine Calls.mono HH.out ?_; rintro e u1 ⟨rfl, hu⟩; obtain ⟨hcr, hlb⟩ := HC.out u1 hu; have HC1 : Hid _ := hcr; have HL1 : Hid _ := hlb; obtain ⟨c0, c1, cf⟩ := hcr.cel; have b0 := hlb.cel 0 (.int .i64 zp) rfl; have b1 := hlb.cel 1 (.int .i64 zl) rfl; have b2 := hlb.cel 2 (.bool false) rfl; have lt1 := hcr.lt; have lt2 := hlb.lt; have HU : Hid (Below w.heap.size w u1) := HB1.out.trans (hu.mono HB1.out.size); clear hu hcr hlb HC HH; obtain ⟨g, cap', hvv, hlc, hgl⟩ := HLC.out _ HC1.out.row; injection hvv with hv1 hv2 hv3; subst hv1 hv3; clear HLC)
    go_ret
    rw [E2.out]
    exact ⟨ret_int E.out.symm, _, HC1.out, FrT.of_below HU.out⟩
end Go.Proofs.Ytdlodflinibaoaa
