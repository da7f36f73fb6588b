import Derived.Test.YtpggbbdfbnocfaaFtQ
namespace Go.Proofs.Ytpggbbdfbnocfaa
open Go.ChangeShapes Go.WideShapes Go.ChangeAt Go.RowKit

set_option maxRecDepth 100000 in
set_option maxHeartbeats 4000000 in
theorem letsS_true_true {w : World} {s : FI} {a : FA} (h : FIRows w s a) (hl : FIlen s) (r : NR) (hr : r.inn = true) (n : Nat) (hn : (32 : Int) - r.bits = (n : Int)) (hb0 : 0 ≤ r.bits) (p : PK) : Calls Try.prog 38 #[flA s a, nrA r, pkA p, .bool true] w fun e w' => e = .returned (.bool (lsB s n r p true)) ∧ Below w.heap.size w w' := by
  have HR0 : Hid (R3 w (((w.alloc (.cells (flC s a) 35)).alloc (.cells #[.bool r.inn, .int .i64 r.proto, .int .i64 r.addr, .int .i64 r.bits, .int .i64 r.low, .int .i64 r.high, .int .i64 r.group] 44)).alloc (.cells #[.int .i64 p.proto, .int .i64 p.src, .int .i64 p.sp, .int .i64 p.dst, .int .i64 p.dp, .int .i64 p.flags] 46)) w.heap.size (w.heap.size + 1) (w.heap.size + 1 + 1) s a r p) := R3.new r p h
  have HRR : Hid (FIRows w s a) := h
  have HLN : Hid (FIlen s) := hl
  have HH : Hid (∀ u, Aft w u → Calls Try.prog 22 #[flA s a, .int .i64 p.src] u fun e w' => e = .returned (.int .i64 (hAt (s.hs.map (·.addr)) p.src)) ∧ Below u.heap.size u w') := fun u hu => hostS_any (HRR.out.below hu.out) HLN.out.lhs.len p.src
  have E : Hid (lsB s n r p true = (!(true != true || r.proto != 0 && r.proto != p.proto || p.proto != 1 && (decide (p.dp < r.low) || decide (r.high < p.dp))) && (!(decide (0 < r.bits) && p.src / 2 ^ n != r.addr / 2 ^ n) && (decide (r.group < 0) || igB s p.src r.group)))) := (show lsB s n r p true = _ by unfold lsB; rw [hr]; rfl)
  have HRI : Hid (r.inn = true) := hr
  have hs0 : (0 : Int) ≤ (n : Int) := by omega
  have hs1 : (n : Int) ≤ 64 := by omega
  obtain ⟨ahs, khs, e1⟩ := h.rhs.sl
  obtain ⟨ags, kgs, e2⟩ := h.rgs.sl
  obtain ⟨afs, kfs, e3⟩ := h.rfs.sl
  obtain ⟨acs, kcs, e4⟩ := h.rcs.sl
  rw [h.nhs.len] at e1
  rw [h.ngs.len] at e2
  have hfc : flC s a = #[.slice ahs s.hs.length khs, .slice ags s.gs.length kgs, .slice afs s.fs.length kfs, .int .i64 s.pub, .int .i64 s.fst, .int .i64 s.lst, .slice acs s.cs.length kcs, .int .i64 s.time] := by unfold flC; rw [e1, e2, e3, e4]
  have HRW : Hid (NHrow w (.slice ahs s.hs.length khs) a.qhs) := (show NHrow w _ a.qhs by rw [← e1]; exact h.rhs)
  have HI : Hid (HOin w a.qhs s.hs) := h.nhs
  have HQ : Hid (a.qhs.length = s.hs.length) := h.nhs.len
  have E1 : Hid (a.vhs = .slice ahs s.hs.length khs) := e1
  have E2 : Hid (a.vgs = .slice ags s.gs.length kgs) := e2
  have E3 : Hid (a.vfs = .slice afs s.fs.length kfs) := e3
  have E4 : Hid (a.vcs = .slice acs s.cs.length kcs) := e4
  unfold flA at HH ⊢
  rw [hfc] at HR0 HH ⊢
  unfold nrA pkA pkC
  clear h hl hr e1 e2 e3 e4 hfc HRR
  cases ha : (r.proto != 0)
  · rw [ha] at E
    cases hd : (p.proto != 1)
    · rw [hd] at E
      cases hb : decide (0 < r.bits)
      · rw [hb] at E
        cases hg : decide (r.group < 0)
        · rw [hg] at E
          cases hf : (s.hs.map (·.addr)).findIdx? (fun y => y == p.src) with
          | none =>
            rw [hAt_none hf] at HH
            have HIG : Hid (igB s p.src r.group = false) := (show igB s p.src r.group = false by unfold igB; rw [hf])
            rw [HIG.out] at E
            clear hf
            go_enter Try.func38, Try.ntmps38
            go_upto_region 1 with fail
            generalize (((w.alloc (.cells #[.slice ahs s.hs.length khs, .slice ags s.gs.length kgs, .slice afs s.fs.length kfs, .int .i64 s.pub, .int .i64 s.fst, .int .i64 s.lst, .slice acs s.cs.length kcs, .int .i64 s.time] 35)).alloc (.cells #[.bool r.inn, .int .i64 r.proto, .int .i64 r.addr, .int .i64 r.bits, .int .i64 r.low, .int .i64 r.high, .int .i64 r.group] 44)).alloc (.cells #[.int .i64 p.proto, .int .i64 p.src, .int .i64 p.sp, .int .i64 p.dst, .int .i64 p.dp, .int .i64 p.flags] 46)) = u0 at *
            generalize w.heap.size + 1 + 1 = b2 at *
            generalize w.heap.size + 1 = b1 at *
            generalize w.heap.size = b0 at *
            have k0 := celN HR0.out.r 0 _ rfl
            have k1 := celN HR0.out.r 1 _ rfl
            have k2 := celN HR0.out.r 2 _ rfl
            have k3 := celN HR0.out.r 3 _ rfl
            have k4 := celN HR0.out.r 4 _ rfl
            have k5 := celN HR0.out.r 5 _ rfl
            have k6 := celN HR0.out.r 6 _ rfl
            rw [HRI.out] at k0
            have j0 := celN HR0.out.p 0 _ rfl
            have j1 := celN HR0.out.p 1 _ rfl
            have j2 := celN HR0.out.p 2 _ rfl
            have j3 := celN HR0.out.p 3 _ rfl
            have j4 := celN HR0.out.p 4 _ rfl
            have j5 := celN HR0.out.p 5 _ rfl
            have kl := HR0.out.lr
            have jl := HR0.out.lp
            have x0 := HR0.out.x.c0
            have x1 := HR0.out.x.c1
            have x2 := HR0.out.x.c2
            have x3 := HR0.out.x.c3
            have x4 := HR0.out.x.c4
            have x5 := HR0.out.x.c5
            have x6 := HR0.out.x.c6
            have x7 := HR0.out.x.c7
            rw [E1.out] at x0
            rw [E2.out] at x1
            rw [E3.out] at x2
            rw [E4.out] at x6
            have xl := HR0.out.x.lt
            go_wp2_with fail
            refine Calls.mono (HH.out _ HR0.out.aft) ?_
            rintro e u1 ⟨rfl, hu⟩
            have HR1 : Hid (R3 w u1 b0 b1 b2 s a r p) := HR0.out.step hu
            clear hu
            clear k0 k1 k2 k3 k4 k5 k6 j0 j1 j2 j3 j4 j5 x0 x1 x2 x3 x4 x5 x6 x7 kl jl xl
            go_upto_region 11 with fail
            have HSB : Hid (R3 w u1.drew b0 b1 b2 s a r p) := HR1.out.drew
            refine wp_region_held (S := fun w9 => R3 w w9 b0 b1 b2 s a r p) (by kernel_rfl) ?_
            change wpAnyH _ _ _ _ _ _ _ _ (World.drew _)
            refine wpAnyH_take (i := 0) (v := .int .i64 (-1)) rfl (by kernel_rfl) (by kernel_rfl) (by kernel_rfl) (fun _ _ _ h => h) (Or.inl ⟨by kernel_rfl, fun w9 h9 => ?_⟩) HSB.out ?_
            · clear h9; go_simp
            refine wpAnyH_take (i := 1) (v := .bool false) rfl (by kernel_rfl) (by kernel_rfl) (by kernel_rfl) (fun _ _ _ h => h) (Or.inl ⟨by kernel_rfl, fun w9 h9 => ?_⟩) HSB.out ?_
            · clear h9; go_simp
            refine wpAnyH_take (i := 2) (v := .bool false) rfl (by kernel_rfl) (by kernel_rfl) (by kernel_rfl) (fun _ _ _ h => h) (Or.inl ⟨by kernel_rfl, fun w9 h9 => ?_⟩) HSB.out ?_
            · clear h9; go_simp
            refine wpAnyH_take (i := 3) (v := undef) rfl (by kernel_rfl) (by kernel_rfl) (by kernel_rfl) (fun _ _ _ h => h) (Or.inr ⟨by kernel_rfl, rfl⟩) HSB.out ?_
            refine wpAnyH_take (i := 4) (v := undef) rfl (by kernel_rfl) (by kernel_rfl) (by kernel_rfl) (fun _ _ _ h => h) (Or.inr ⟨by kernel_rfl, rfl⟩) HSB.out ?_
            refine wpAnyH_take (i := 5) (v := undef) rfl (by kernel_rfl) (by kernel_rfl) (by kernel_rfl) (fun _ _ _ h => h) (Or.inr ⟨by kernel_rfl, rfl⟩) HSB.out ?_
            refine wpAnyH_take (i := 6) (v := undef) rfl (by kernel_rfl) (by kernel_rfl) (by kernel_rfl) (fun _ _ _ h => h) (Or.inr ⟨by kernel_rfl, rfl⟩) HSB.out ?_
            refine wpAnyH_take (i := 7) (v := undef) rfl (by kernel_rfl) (by kernel_rfl) (by kernel_rfl) (fun _ _ _ h => h) (Or.inr ⟨by kernel_rfl, rfl⟩) HSB.out ?_
            refine wpAnyH_take (i := 8) (v := undef) rfl (by kernel_rfl) (by kernel_rfl) (by kernel_rfl) (fun _ _ _ h => h) (Or.inr ⟨by kernel_rfl, rfl⟩) HSB.out ?_
            refine wpAnyH_take (i := 9) (v := undef) rfl (by kernel_rfl) (by kernel_rfl) (by kernel_rfl) (fun _ _ _ h => h) (Or.inr ⟨by kernel_rfl, rfl⟩) HSB.out ?_
            refine wpAnyH_take (i := 10) (v := undef) rfl (by kernel_rfl) (by kernel_rfl) (by kernel_rfl) (fun _ _ _ h => h) (Or.inr ⟨by kernel_rfl, rfl⟩) HSB.out ?_
            refine wpAnyH_take (i := 11) (v := undef) rfl (by kernel_rfl) (by kernel_rfl) (by kernel_rfl) (fun _ _ _ h => h) (Or.inr ⟨by kernel_rfl, rfl⟩) HSB.out ?_
            refine wpAnyH_take (i := 12) (v := .bool false) rfl (by kernel_rfl) (by kernel_rfl) (by kernel_rfl) (fun _ _ _ h => h) (Or.inl ⟨by kernel_rfl, fun w9 h9 => ?_⟩) HSB.out ?_
            · clear h9; go_simp
            refine wpAnyH_take (i := 13) (v := .bool false) rfl (by kernel_rfl) (by kernel_rfl) (by kernel_rfl) (fun _ _ _ h => h) (Or.inl ⟨by kernel_rfl, fun w9 h9 => ?_⟩) HSB.out ?_
            · clear h9; go_simp
            refine wpAnyH_done (by kernel_rfl) ?_ _
            go_simp
            go_wp2
            go_ret
            exact ⟨ret_bool (by rw [E.out]; simp), HSB.out.bel⟩
          | some k =>
            obtain ⟨e1, hk⟩ := hAt_some hf
            rw [e1] at HH
            have hlt : k < s.hs.length := by simpa using hk
            have hkq : k < a.qhs.length := by rw [HQ.out]; exact hlt
            have HIG : Hid (igB s p.src r.group = s.hs[k].gs.any (fun z => r.group == z)) := (show igB s p.src r.group = _ by unfold igB; rw [hf]; simp only; rw [gdh hlt])
            rw [HIG.out] at E
            obtain ⟨p0, p1⟩ := HI.out.el k hkq hlt
            have lp := HLN.out.lhs.el k hlt
            obtain ⟨g2, o, cap2, hv, _, hg, hc⟩ := HRW.out.resolve_left (fun h => by rw [h.1] at hkq; simp at hkq)
            injection hv with hv1 hv2 hv3
            subst hv1 hv3
            have HD : Hid (∀ u c0 c1 c2, R3 w u c0 c1 c2 s a r p → u.cell? ⟨g2, o + k * 2 + 1, none⟩ = some a.qhs[k].groups ∧ g2 < u.heap.size) := fun u _ _ _ h3 => ⟨(hc.below h3.bel hg k hkq).2, Nat.lt_of_lt_of_le hg h3.bel.size⟩
            clear p0
            generalize s.hs[k] = pp at *
            generalize a.qhs[k].groups = y at *
            obtain ⟨ay, ky, rfl⟩ := p1.sl
            have HCT : Hid (∀ u c0 c1 c2, R3 w u c0 c1 c2 s a r p → Calls Try.prog 58 #[.slice ay pp.gs.length ky, .int .i64 r.group] u fun e w' => e = .returned (.bool (pp.gs.any (fun z => r.group == z))) ∧ w' = u) := fun u _ _ _ h3 => inInts_any (p1.below h3.bel) lp r.group
            generalize (pp.gs.any (fun z => r.group == z)) = RG at *
            have hk0 : (0 : Int) ≤ (k : Int) := by omega
            have hk1 : (k : Int) < (s.hs.length : Int) := by omega
            clear hf e1 hk hc hv2 p1 HIG
            go_enter Try.func38, Try.ntmps38
            go_upto_region 1 with fail
            generalize (((w.alloc (.cells #[.slice (some ⟨g2, o, none⟩) s.hs.length khs, .slice ags s.gs.length kgs, .slice afs s.fs.length kfs, .int .i64 s.pub, .int .i64 s.fst, .int .i64 s.lst, .slice acs s.cs.length kcs, .int .i64 s.time] 35)).alloc (.cells #[.bool r.inn, .int .i64 r.proto, .int .i64 r.addr, .int .i64 r.bits, .int .i64 r.low, .int .i64 r.high, .int .i64 r.group] 44)).alloc (.cells #[.int .i64 p.proto, .int .i64 p.src, .int .i64 p.sp, .int .i64 p.dst, .int .i64 p.dp, .int .i64 p.flags] 46)) = u0 at *
            generalize w.heap.size + 1 + 1 = b2 at *
            generalize w.heap.size + 1 = b1 at *
            generalize w.heap.size = b0 at *
            have k0 := celN HR0.out.r 0 _ rfl
            have k1 := celN HR0.out.r 1 _ rfl
            have k2 := celN HR0.out.r 2 _ rfl
            have k3 := celN HR0.out.r 3 _ rfl
            have k4 := celN HR0.out.r 4 _ rfl
            have k5 := celN HR0.out.r 5 _ rfl
            have k6 := celN HR0.out.r 6 _ rfl
            rw [HRI.out] at k0
            have j0 := celN HR0.out.p 0 _ rfl
            have j1 := celN HR0.out.p 1 _ rfl
            have j2 := celN HR0.out.p 2 _ rfl
            have j3 := celN HR0.out.p 3 _ rfl
            have j4 := celN HR0.out.p 4 _ rfl
            have j5 := celN HR0.out.p 5 _ rfl
            have kl := HR0.out.lr
            have jl := HR0.out.lp
            have x0 := HR0.out.x.c0
            have x1 := HR0.out.x.c1
            have x2 := HR0.out.x.c2
            have x3 := HR0.out.x.c3
            have x4 := HR0.out.x.c4
            have x5 := HR0.out.x.c5
            have x6 := HR0.out.x.c6
            have x7 := HR0.out.x.c7
            rw [E1.out] at x0
            rw [E2.out] at x1
            rw [E3.out] at x2
            rw [E4.out] at x6
            have xl := HR0.out.x.lt
            go_wp2_with fail
            refine Calls.mono (HH.out _ HR0.out.aft) ?_
            rintro e u1 ⟨rfl, hu⟩
            have HR1 : Hid (R3 w u1 b0 b1 b2 s a r p) := HR0.out.step hu
            clear hu
            clear k0 k1 k2 k3 k4 k5 k6 j0 j1 j2 j3 j4 j5 x0 x1 x2 x3 x4 x5 x6 x7 kl jl xl
            go_upto_region 11 with fail
            have HSB : Hid (R3 w u1.drew b0 b1 b2 s a r p) := HR1.out.drew
            refine wp_region_held (S := fun w9 => R3 w w9 b0 b1 b2 s a r p) (by kernel_rfl) ?_
            change wpAnyH _ _ _ _ _ _ _ _ (World.drew _)
            refine wpAnyH_take (i := 0) (v := .int .i64 (k : Int)) rfl (by kernel_rfl) (by kernel_rfl) (by kernel_rfl) (fun _ _ _ h => h) (Or.inl ⟨by kernel_rfl, fun w9 h9 => ?_⟩) HSB.out ?_
            · clear h9; go_simp
            refine wpAnyH_take (i := 1) (v := .bool true) rfl (by kernel_rfl) (by kernel_rfl) (by kernel_rfl) (fun _ _ _ h => h) (Or.inl ⟨by kernel_rfl, fun w9 h9 => ?_⟩) HSB.out ?_
            · clear h9; go_simp
            refine wpAnyH_take (i := 2) (v := .bool true) rfl (by kernel_rfl) (by kernel_rfl) (by kernel_rfl) (fun _ _ _ h => h) (Or.inl ⟨by kernel_rfl, fun w9 h9 => ?_⟩) HSB.out ?_
            · clear h9; go_simp
            refine wpAnyH_take (i := 3) (v := .pointer (some ⟨b0, 0, none⟩)) rfl (by kernel_rfl) (by kernel_rfl) (by kernel_rfl) (fun _ _ _ h => h) (Or.inl ⟨by kernel_rfl, fun w9 h9 => ?_⟩) HSB.out ?_
            · clear h9; go_simp
            refine wpAnyH_take (i := 4) (v := .slice (some ⟨g2, o, none⟩) s.hs.length khs) rfl (by kernel_rfl) (by kernel_rfl) (by kernel_rfl) (fun _ _ _ h => h) (Or.inl ⟨by kernel_rfl, fun w9 h9 => ?_⟩) HSB.out ?_
            · have k6 := celN h9.r 6 _ rfl; have kl := h9.lr; have x0 := h9.x.c0; rw [E1.out] at x0; have xl := h9.x.lt; obtain ⟨d1, dl⟩ := HD.out _ _ _ _ h9; clear h9; go_simp
            refine wpAnyH_take (i := 5) (v := .int .i64 (k : Int)) rfl (by kernel_rfl) (by kernel_rfl) (by kernel_rfl) (fun _ _ _ h => h) (Or.inl ⟨by kernel_rfl, fun w9 h9 => ?_⟩) HSB.out ?_
            · clear h9; go_simp
            refine wpAnyH_take (i := 6) (v := .pointer (some ⟨g2, o + k * 2, none⟩)) rfl (by kernel_rfl) (by kernel_rfl) (by kernel_rfl) (fun _ _ _ h => h) (Or.inl ⟨by kernel_rfl, fun w9 h9 => ?_⟩) HSB.out ?_
            · clear h9; go_simp
            refine wpAnyH_take (i := 7) (v := .pointer (some ⟨g2, o + k * 2 + 1, none⟩)) rfl (by kernel_rfl) (by kernel_rfl) (by kernel_rfl) (fun _ _ _ h => h) (Or.inl ⟨by kernel_rfl, fun w9 h9 => ?_⟩) HSB.out ?_
            · clear h9; go_simp
            refine wpAnyH_take (i := 8) (v := .slice ay pp.gs.length ky) rfl (by kernel_rfl) (by kernel_rfl) (by kernel_rfl) (fun _ _ _ h => h) (Or.inl ⟨by kernel_rfl, fun w9 h9 => ?_⟩) HSB.out ?_
            · have k6 := celN h9.r 6 _ rfl; have kl := h9.lr; have x0 := h9.x.c0; rw [E1.out] at x0; have xl := h9.x.lt; obtain ⟨d1, dl⟩ := HD.out _ _ _ _ h9; clear h9; go_simp
            refine wpAnyH_take (i := 9) (v := .pointer (some ⟨b1, 6, none⟩)) rfl (by kernel_rfl) (by kernel_rfl) (by kernel_rfl) (fun _ _ _ h => h) (Or.inl ⟨by kernel_rfl, fun w9 h9 => ?_⟩) HSB.out ?_
            · clear h9; go_simp
            refine wpAnyH_take (i := 10) (v := .int .i64 r.group) rfl (by kernel_rfl) (by kernel_rfl) (by kernel_rfl) (fun _ _ _ h => h) (Or.inl ⟨by kernel_rfl, fun w9 h9 => ?_⟩) HSB.out ?_
            · have k6 := celN h9.r 6 _ rfl; have kl := h9.lr; have x0 := h9.x.c0; rw [E1.out] at x0; have xl := h9.x.lt; obtain ⟨d1, dl⟩ := HD.out _ _ _ _ h9; clear h9; go_simp
            refine held_one 11 (by kernel_rfl) rfl (by kernel_rfl) fun K hK => ?_
            go_simp
            go_wp2_with (go_at_call 58; refine Calls.mono (HCT.out _ _ _ _ HSB.out) ?_; rintro e9 u9 ⟨rfl, hw9⟩; rw [hw9]; clear hw9)
            refine hK _ _ HSB.out ?_
            clear hK K
            refine wpAnyH_take (i := 12) (v := .bool RG) rfl (by kernel_rfl) (by kernel_rfl) (by kernel_rfl) (fun _ _ _ h => h) (Or.inl ⟨by kernel_rfl, fun w9 h9 => ?_⟩) HSB.out ?_
            · clear h9; go_simp
            refine wpAnyH_take (i := 13) (v := .bool RG) rfl (by kernel_rfl) (by kernel_rfl) (by kernel_rfl) (fun _ _ _ h => h) (Or.inl ⟨by kernel_rfl, fun w9 h9 => ?_⟩) HSB.out ?_
            · clear h9; go_simp
            refine wpAnyH_done (by kernel_rfl) ?_ _
            go_simp
            go_wp2
            go_ret
            exact ⟨ret_bool (by rw [E.out]; simp), HSB.out.bel⟩
        · rw [hg] at E
          go_enter Try.func38, Try.ntmps38
          go_upto_region 1 with fail
          generalize (((w.alloc (.cells #[.slice ahs s.hs.length khs, .slice ags s.gs.length kgs, .slice afs s.fs.length kfs, .int .i64 s.pub, .int .i64 s.fst, .int .i64 s.lst, .slice acs s.cs.length kcs, .int .i64 s.time] 35)).alloc (.cells #[.bool r.inn, .int .i64 r.proto, .int .i64 r.addr, .int .i64 r.bits, .int .i64 r.low, .int .i64 r.high, .int .i64 r.group] 44)).alloc (.cells #[.int .i64 p.proto, .int .i64 p.src, .int .i64 p.sp, .int .i64 p.dst, .int .i64 p.dp, .int .i64 p.flags] 46)) = u0 at *
          generalize w.heap.size + 1 + 1 = b2 at *
          generalize w.heap.size + 1 = b1 at *
          generalize w.heap.size = b0 at *
          have k0 := celN HR0.out.r 0 _ rfl
          have k1 := celN HR0.out.r 1 _ rfl
          have k2 := celN HR0.out.r 2 _ rfl
          have k3 := celN HR0.out.r 3 _ rfl
          have k4 := celN HR0.out.r 4 _ rfl
          have k5 := celN HR0.out.r 5 _ rfl
          have k6 := celN HR0.out.r 6 _ rfl
          rw [HRI.out] at k0
          have j0 := celN HR0.out.p 0 _ rfl
          have j1 := celN HR0.out.p 1 _ rfl
          have j2 := celN HR0.out.p 2 _ rfl
          have j3 := celN HR0.out.p 3 _ rfl
          have j4 := celN HR0.out.p 4 _ rfl
          have j5 := celN HR0.out.p 5 _ rfl
          have kl := HR0.out.lr
          have jl := HR0.out.lp
          have x0 := HR0.out.x.c0
          have x1 := HR0.out.x.c1
          have x2 := HR0.out.x.c2
          have x3 := HR0.out.x.c3
          have x4 := HR0.out.x.c4
          have x5 := HR0.out.x.c5
          have x6 := HR0.out.x.c6
          have x7 := HR0.out.x.c7
          rw [E1.out] at x0
          rw [E2.out] at x1
          rw [E3.out] at x2
          rw [E4.out] at x6
          have xl := HR0.out.x.lt
          go_wp2
          go_ret
          exact ⟨ret_bool (by rw [E.out]; simp), HR0.out.bel⟩
      · rw [hb] at E
        cases hn : (p.src / 2 ^ n != r.addr / 2 ^ n)
        · rw [hn] at E
          cases hg : decide (r.group < 0)
          · rw [hg] at E
            cases hf : (s.hs.map (·.addr)).findIdx? (fun y => y == p.src) with
            | none =>
              rw [hAt_none hf] at HH
              have HIG : Hid (igB s p.src r.group = false) := (show igB s p.src r.group = false by unfold igB; rw [hf])
              rw [HIG.out] at E
              clear hf
              go_enter Try.func38, Try.ntmps38
              go_upto_region 1 with fail
              generalize (((w.alloc (.cells #[.slice ahs s.hs.length khs, .slice ags s.gs.length kgs, .slice afs s.fs.length kfs, .int .i64 s.pub, .int .i64 s.fst, .int .i64 s.lst, .slice acs s.cs.length kcs, .int .i64 s.time] 35)).alloc (.cells #[.bool r.inn, .int .i64 r.proto, .int .i64 r.addr, .int .i64 r.bits, .int .i64 r.low, .int .i64 r.high, .int .i64 r.group] 44)).alloc (.cells #[.int .i64 p.proto, .int .i64 p.src, .int .i64 p.sp, .int .i64 p.dst, .int .i64 p.dp, .int .i64 p.flags] 46)) = u0 at *
              generalize w.heap.size + 1 + 1 = b2 at *
              generalize w.heap.size + 1 = b1 at *
              generalize w.heap.size = b0 at *
              have k0 := celN HR0.out.r 0 _ rfl
              have k1 := celN HR0.out.r 1 _ rfl
              have k2 := celN HR0.out.r 2 _ rfl
              have k3 := celN HR0.out.r 3 _ rfl
              have k4 := celN HR0.out.r 4 _ rfl
              have k5 := celN HR0.out.r 5 _ rfl
              have k6 := celN HR0.out.r 6 _ rfl
              rw [HRI.out] at k0
              have j0 := celN HR0.out.p 0 _ rfl
              have j1 := celN HR0.out.p 1 _ rfl
              have j2 := celN HR0.out.p 2 _ rfl
              have j3 := celN HR0.out.p 3 _ rfl
              have j4 := celN HR0.out.p 4 _ rfl
              have j5 := celN HR0.out.p 5 _ rfl
              have kl := HR0.out.lr
              have jl := HR0.out.lp
              have x0 := HR0.out.x.c0
              have x1 := HR0.out.x.c1
              have x2 := HR0.out.x.c2
              have x3 := HR0.out.x.c3
              have x4 := HR0.out.x.c4
              have x5 := HR0.out.x.c5
              have x6 := HR0.out.x.c6
              have x7 := HR0.out.x.c7
              rw [E1.out] at x0
              rw [E2.out] at x1
              rw [E3.out] at x2
              rw [E4.out] at x6
              have xl := HR0.out.x.lt
              go_wp2_with fail
              refine Calls.mono (HH.out _ HR0.out.aft) ?_
              rintro e u1 ⟨rfl, hu⟩
              have HR1 : Hid (R3 w u1 b0 b1 b2 s a r p) := HR0.out.step hu
              clear hu
              clear k0 k1 k2 k3 k4 k5 k6 j0 j1 j2 j3 j4 j5 x0 x1 x2 x3 x4 x5 x6 x7 kl jl xl
              go_upto_region 11 with fail
              have HSB : Hid (R3 w u1.drew b0 b1 b2 s a r p) := HR1.out.drew
              refine wp_region_held (S := fun w9 => R3 w w9 b0 b1 b2 s a r p) (by kernel_rfl) ?_
              change wpAnyH _ _ _ _ _ _ _ _ (World.drew _)
              refine wpAnyH_take (i := 0) (v := .int .i64 (-1)) rfl (by kernel_rfl) (by kernel_rfl) (by kernel_rfl) (fun _ _ _ h => h) (Or.inl ⟨by kernel_rfl, fun w9 h9 => ?_⟩) HSB.out ?_
              · clear h9; go_simp
              refine wpAnyH_take (i := 1) (v := .bool false) rfl (by kernel_rfl) (by kernel_rfl) (by kernel_rfl) (fun _ _ _ h => h) (Or.inl ⟨by kernel_rfl, fun w9 h9 => ?_⟩) HSB.out ?_
              · clear h9; go_simp
              refine wpAnyH_take (i := 2) (v := .bool false) rfl (by kernel_rfl) (by kernel_rfl) (by kernel_rfl) (fun _ _ _ h => h) (Or.inl ⟨by kernel_rfl, fun w9 h9 => ?_⟩) HSB.out ?_
              · clear h9; go_simp
              refine wpAnyH_take (i := 3) (v := undef) rfl (by kernel_rfl) (by kernel_rfl) (by kernel_rfl) (fun _ _ _ h => h) (Or.inr ⟨by kernel_rfl, rfl⟩) HSB.out ?_
              refine wpAnyH_take (i := 4) (v := undef) rfl (by kernel_rfl) (by kernel_rfl) (by kernel_rfl) (fun _ _ _ h => h) (Or.inr ⟨by kernel_rfl, rfl⟩) HSB.out ?_
              refine wpAnyH_take (i := 5) (v := undef) rfl (by kernel_rfl) (by kernel_rfl) (by kernel_rfl) (fun _ _ _ h => h) (Or.inr ⟨by kernel_rfl, rfl⟩) HSB.out ?_
              refine wpAnyH_take (i := 6) (v := undef) rfl (by kernel_rfl) (by kernel_rfl) (by kernel_rfl) (fun _ _ _ h => h) (Or.inr ⟨by kernel_rfl, rfl⟩) HSB.out ?_
              refine wpAnyH_take (i := 7) (v := undef) rfl (by kernel_rfl) (by kernel_rfl) (by kernel_rfl) (fun _ _ _ h => h) (Or.inr ⟨by kernel_rfl, rfl⟩) HSB.out ?_
              refine wpAnyH_take (i := 8) (v := undef) rfl (by kernel_rfl) (by kernel_rfl) (by kernel_rfl) (fun _ _ _ h => h) (Or.inr ⟨by kernel_rfl, rfl⟩) HSB.out ?_
              refine wpAnyH_take (i := 9) (v := undef) rfl (by kernel_rfl) (by kernel_rfl) (by kernel_rfl) (fun _ _ _ h => h) (Or.inr ⟨by kernel_rfl, rfl⟩) HSB.out ?_
              refine wpAnyH_take (i := 10) (v := undef) rfl (by kernel_rfl) (by kernel_rfl) (by kernel_rfl) (fun _ _ _ h => h) (Or.inr ⟨by kernel_rfl, rfl⟩) HSB.out ?_
              refine wpAnyH_take (i := 11) (v := undef) rfl (by kernel_rfl) (by kernel_rfl) (by kernel_rfl) (fun _ _ _ h => h) (Or.inr ⟨by kernel_rfl, rfl⟩) HSB.out ?_
              refine wpAnyH_take (i := 12) (v := .bool false) rfl (by kernel_rfl) (by kernel_rfl) (by kernel_rfl) (fun _ _ _ h => h) (Or.inl ⟨by kernel_rfl, fun w9 h9 => ?_⟩) HSB.out ?_
              · clear h9; go_simp
              refine wpAnyH_take (i := 13) (v := .bool false) rfl (by kernel_rfl) (by kernel_rfl) (by kernel_rfl) (fun _ _ _ h => h) (Or.inl ⟨by kernel_rfl, fun w9 h9 => ?_⟩) HSB.out ?_
              · clear h9; go_simp
              refine wpAnyH_done (by kernel_rfl) ?_ _
              go_simp
              go_wp2
              go_ret
              exact ⟨ret_bool (by rw [E.out]; simp), HSB.out.bel⟩
            | some k =>
              obtain ⟨e1, hk⟩ := hAt_some hf
              rw [e1] at HH
              have hlt : k < s.hs.length := by simpa using hk
              have hkq : k < a.qhs.length := by rw [HQ.out]; exact hlt
              have HIG : Hid (igB s p.src r.group = s.hs[k].gs.any (fun z => r.group == z)) := (show igB s p.src r.group = _ by unfold igB; rw [hf]; simp only; rw [gdh hlt])
              rw [HIG.out] at E
              obtain ⟨p0, p1⟩ := HI.out.el k hkq hlt
              have lp := HLN.out.lhs.el k hlt
              obtain ⟨g2, o, cap2, hv, _, hg, hc⟩ := HRW.out.resolve_left (fun h => by rw [h.1] at hkq; simp at hkq)
              injection hv with hv1 hv2 hv3
              subst hv1 hv3
              have HD : Hid (∀ u c0 c1 c2, R3 w u c0 c1 c2 s a r p → u.cell? ⟨g2, o + k * 2 + 1, none⟩ = some a.qhs[k].groups ∧ g2 < u.heap.size) := fun u _ _ _ h3 => ⟨(hc.below h3.bel hg k hkq).2, Nat.lt_of_lt_of_le hg h3.bel.size⟩
              clear p0
              generalize s.hs[k] = pp at *
              generalize a.qhs[k].groups = y at *
              obtain ⟨ay, ky, rfl⟩ := p1.sl
              have HCT : Hid (∀ u c0 c1 c2, R3 w u c0 c1 c2 s a r p → Calls Try.prog 58 #[.slice ay pp.gs.length ky, .int .i64 r.group] u fun e w' => e = .returned (.bool (pp.gs.any (fun z => r.group == z))) ∧ w' = u) := fun u _ _ _ h3 => inInts_any (p1.below h3.bel) lp r.group
              generalize (pp.gs.any (fun z => r.group == z)) = RG at *
              have hk0 : (0 : Int) ≤ (k : Int) := by omega
              have hk1 : (k : Int) < (s.hs.length : Int) := by omega
              clear hf e1 hk hc hv2 p1 HIG
              go_enter Try.func38, Try.ntmps38
              go_upto_region 1 with fail
              generalize (((w.alloc (.cells #[.slice (some ⟨g2, o, none⟩) s.hs.length khs, .slice ags s.gs.length kgs, .slice afs s.fs.length kfs, .int .i64 s.pub, .int .i64 s.fst, .int .i64 s.lst, .slice acs s.cs.length kcs, .int .i64 s.time] 35)).alloc (.cells #[.bool r.inn, .int .i64 r.proto, .int .i64 r.addr, .int .i64 r.bits, .int .i64 r.low, .int .i64 r.high, .int .i64 r.group] 44)).alloc (.cells #[.int .i64 p.proto, .int .i64 p.src, .int .i64 p.sp, .int .i64 p.dst, .int .i64 p.dp, .int .i64 p.flags] 46)) = u0 at *
              generalize w.heap.size + 1 + 1 = b2 at *
              generalize w.heap.size + 1 = b1 at *
              generalize w.heap.size = b0 at *
              have k0 := celN HR0.out.r 0 _ rfl
              have k1 := celN HR0.out.r 1 _ rfl
              have k2 := celN HR0.out.r 2 _ rfl
              have k3 := celN HR0.out.r 3 _ rfl
              have k4 := celN HR0.out.r 4 _ rfl
              have k5 := celN HR0.out.r 5 _ rfl
              have k6 := celN HR0.out.r 6 _ rfl
              rw [HRI.out] at k0
              have j0 := celN HR0.out.p 0 _ rfl
              have j1 := celN HR0.out.p 1 _ rfl
              have j2 := celN HR0.out.p 2 _ rfl
              have j3 := celN HR0.out.p 3 _ rfl
              have j4 := celN HR0.out.p 4 _ rfl
              have j5 := celN HR0.out.p 5 _ rfl
              have kl := HR0.out.lr
              have jl := HR0.out.lp
              have x0 := HR0.out.x.c0
              have x1 := HR0.out.x.c1
              have x2 := HR0.out.x.c2
              have x3 := HR0.out.x.c3
              have x4 := HR0.out.x.c4
              have x5 := HR0.out.x.c5
              have x6 := HR0.out.x.c6
              have x7 := HR0.out.x.c7
              rw [E1.out] at x0
              rw [E2.out] at x1
              rw [E3.out] at x2
              rw [E4.out] at x6
              have xl := HR0.out.x.lt
              go_wp2_with fail
              refine Calls.mono (HH.out _ HR0.out.aft) ?_
              rintro e u1 ⟨rfl, hu⟩
              have HR1 : Hid (R3 w u1 b0 b1 b2 s a r p) := HR0.out.step hu
              clear hu
              clear k0 k1 k2 k3 k4 k5 k6 j0 j1 j2 j3 j4 j5 x0 x1 x2 x3 x4 x5 x6 x7 kl jl xl
              go_upto_region 11 with fail
              have HSB : Hid (R3 w u1.drew b0 b1 b2 s a r p) := HR1.out.drew
              refine wp_region_held (S := fun w9 => R3 w w9 b0 b1 b2 s a r p) (by kernel_rfl) ?_
              change wpAnyH _ _ _ _ _ _ _ _ (World.drew _)
              refine wpAnyH_take (i := 0) (v := .int .i64 (k : Int)) rfl (by kernel_rfl) (by kernel_rfl) (by kernel_rfl) (fun _ _ _ h => h) (Or.inl ⟨by kernel_rfl, fun w9 h9 => ?_⟩) HSB.out ?_
              · clear h9; go_simp
              refine wpAnyH_take (i := 1) (v := .bool true) rfl (by kernel_rfl) (by kernel_rfl) (by kernel_rfl) (fun _ _ _ h => h) (Or.inl ⟨by kernel_rfl, fun w9 h9 => ?_⟩) HSB.out ?_
              · clear h9; go_simp
              refine wpAnyH_take (i := 2) (v := .bool true) rfl (by kernel_rfl) (by kernel_rfl) (by kernel_rfl) (fun _ _ _ h => h) (Or.inl ⟨by kernel_rfl, fun w9 h9 => ?_⟩) HSB.out ?_
              · clear h9; go_simp
              refine wpAnyH_take (i := 3) (v := .pointer (some ⟨b0, 0, none⟩)) rfl (by kernel_rfl) (by kernel_rfl) (by kernel_rfl) (fun _ _ _ h => h) (Or.inl ⟨by kernel_rfl, fun w9 h9 => ?_⟩) HSB.out ?_
              · clear h9; go_simp
              refine wpAnyH_take (i := 4) (v := .slice (some ⟨g2, o, none⟩) s.hs.length khs) rfl (by kernel_rfl) (by kernel_rfl) (by kernel_rfl) (fun _ _ _ h => h) (Or.inl ⟨by kernel_rfl, fun w9 h9 => ?_⟩) HSB.out ?_
              · have k6 := celN h9.r 6 _ rfl; have kl := h9.lr; have x0 := h9.x.c0; rw [E1.out] at x0; have xl := h9.x.lt; obtain ⟨d1, dl⟩ := HD.out _ _ _ _ h9; clear h9; go_simp
              refine wpAnyH_take (i := 5) (v := .int .i64 (k : Int)) rfl (by kernel_rfl) (by kernel_rfl) (by kernel_rfl) (fun _ _ _ h => h) (Or.inl ⟨by kernel_rfl, fun w9 h9 => ?_⟩) HSB.out ?_
              · clear h9; go_simp
              refine wpAnyH_take (i := 6) (v := .pointer (some ⟨g2, o + k * 2, none⟩)) rfl (by kernel_rfl) (by kernel_rfl) (by kernel_rfl) (fun _ _ _ h => h) (Or.inl ⟨by kernel_rfl, fun w9 h9 => ?_⟩) HSB.out ?_
              · clear h9; go_simp
              refine wpAnyH_take (i := 7) (v := .pointer (some ⟨g2, o + k * 2 + 1, none⟩)) rfl (by kernel_rfl) (by kernel_rfl) (by kernel_rfl) (fun _ _ _ h => h) (Or.inl ⟨by kernel_rfl, fun w9 h9 => ?_⟩) HSB.out ?_
              · clear h9; go_simp
              refine wpAnyH_take (i := 8) (v := .slice ay pp.gs.length ky) rfl (by kernel_rfl) (by kernel_rfl) (by kernel_rfl) (fun _ _ _ h => h) (Or.inl ⟨by kernel_rfl, fun w9 h9 => ?_⟩) HSB.out ?_
              · have k6 := celN h9.r 6 _ rfl; have kl := h9.lr; have x0 := h9.x.c0; rw [E1.out] at x0; have xl := h9.x.lt; obtain ⟨d1, dl⟩ := HD.out _ _ _ _ h9; clear h9; go_simp
              refine wpAnyH_take (i := 9) (v := .pointer (some ⟨b1, 6, none⟩)) rfl (by kernel_rfl) (by kernel_rfl) (by kernel_rfl) (fun _ _ _ h => h) (Or.inl ⟨by kernel_rfl, fun w9 h9 => ?_⟩) HSB.out ?_
              · clear h9; go_simp
              refine wpAnyH_take (i := 10) (v := .int .i64 r.group) rfl (by kernel_rfl) (by kernel_rfl) (by kernel_rfl) (fun _ _ _ h => h) (Or.inl ⟨by kernel_rfl, fun w9 h9 => ?_⟩) HSB.out ?_
              · have k6 := celN h9.r 6 _ rfl; have kl := h9.lr; have x0 := h9.x.c0; rw [E1.out] at x0; have xl := h9.x.lt; obtain ⟨d1, dl⟩ := HD.out _ _ _ _ h9; clear h9; go_simp
              refine held_one 11 (by kernel_rfl) rfl (by kernel_rfl) fun K hK => ?_
              go_simp
              go_wp2_with (go_at_call 58; refine Calls.mono (HCT.out _ _ _ _ HSB.out) ?_; rintro e9 u9 ⟨rfl, hw9⟩; rw [hw9]; clear hw9)
              refine hK _ _ HSB.out ?_
              clear hK K
              refine wpAnyH_take (i := 12) (v := .bool RG) rfl (by kernel_rfl) (by kernel_rfl) (by kernel_rfl) (fun _ _ _ h => h) (Or.inl ⟨by kernel_rfl, fun w9 h9 => ?_⟩) HSB.out ?_
              · clear h9; go_simp
              refine wpAnyH_take (i := 13) (v := .bool RG) rfl (by kernel_rfl) (by kernel_rfl) (by kernel_rfl) (fun _ _ _ h => h) (Or.inl ⟨by kernel_rfl, fun w9 h9 => ?_⟩) HSB.out ?_
              · clear h9; go_simp
              refine wpAnyH_done (by kernel_rfl) ?_ _
              go_simp
              go_wp2
              go_ret
              exact ⟨ret_bool (by rw [E.out]; simp), HSB.out.bel⟩
          · rw [hg] at E
            go_enter Try.func38, Try.ntmps38
            go_upto_region 1 with fail
            generalize (((w.alloc (.cells #[.slice ahs s.hs.length khs, .slice ags s.gs.length kgs, .slice afs s.fs.length kfs, .int .i64 s.pub, .int .i64 s.fst, .int .i64 s.lst, .slice acs s.cs.length kcs, .int .i64 s.time] 35)).alloc (.cells #[.bool r.inn, .int .i64 r.proto, .int .i64 r.addr, .int .i64 r.bits, .int .i64 r.low, .int .i64 r.high, .int .i64 r.group] 44)).alloc (.cells #[.int .i64 p.proto, .int .i64 p.src, .int .i64 p.sp, .int .i64 p.dst, .int .i64 p.dp, .int .i64 p.flags] 46)) = u0 at *
            generalize w.heap.size + 1 + 1 = b2 at *
            generalize w.heap.size + 1 = b1 at *
            generalize w.heap.size = b0 at *
            have k0 := celN HR0.out.r 0 _ rfl
            have k1 := celN HR0.out.r 1 _ rfl
            have k2 := celN HR0.out.r 2 _ rfl
            have k3 := celN HR0.out.r 3 _ rfl
            have k4 := celN HR0.out.r 4 _ rfl
            have k5 := celN HR0.out.r 5 _ rfl
            have k6 := celN HR0.out.r 6 _ rfl
            rw [HRI.out] at k0
            have j0 := celN HR0.out.p 0 _ rfl
            have j1 := celN HR0.out.p 1 _ rfl
            have j2 := celN HR0.out.p 2 _ rfl
            have j3 := celN HR0.out.p 3 _ rfl
            have j4 := celN HR0.out.p 4 _ rfl
            have j5 := celN HR0.out.p 5 _ rfl
            have kl := HR0.out.lr
            have jl := HR0.out.lp
            have x0 := HR0.out.x.c0
            have x1 := HR0.out.x.c1
            have x2 := HR0.out.x.c2
            have x3 := HR0.out.x.c3
            have x4 := HR0.out.x.c4
            have x5 := HR0.out.x.c5
            have x6 := HR0.out.x.c6
            have x7 := HR0.out.x.c7
            rw [E1.out] at x0
            rw [E2.out] at x1
            rw [E3.out] at x2
            rw [E4.out] at x6
            have xl := HR0.out.x.lt
            go_wp2
            go_ret
            exact ⟨ret_bool (by rw [E.out]; simp), HR0.out.bel⟩
        · rw [hn] at E
          go_enter Try.func38, Try.ntmps38
          go_upto_region 1 with fail
          generalize (((w.alloc (.cells #[.slice ahs s.hs.length khs, .slice ags s.gs.length kgs, .slice afs s.fs.length kfs, .int .i64 s.pub, .int .i64 s.fst, .int .i64 s.lst, .slice acs s.cs.length kcs, .int .i64 s.time] 35)).alloc (.cells #[.bool r.inn, .int .i64 r.proto, .int .i64 r.addr, .int .i64 r.bits, .int .i64 r.low, .int .i64 r.high, .int .i64 r.group] 44)).alloc (.cells #[.int .i64 p.proto, .int .i64 p.src, .int .i64 p.sp, .int .i64 p.dst, .int .i64 p.dp, .int .i64 p.flags] 46)) = u0 at *
          generalize w.heap.size + 1 + 1 = b2 at *
          generalize w.heap.size + 1 = b1 at *
          generalize w.heap.size = b0 at *
          have k0 := celN HR0.out.r 0 _ rfl
          have k1 := celN HR0.out.r 1 _ rfl
          have k2 := celN HR0.out.r 2 _ rfl
          have k3 := celN HR0.out.r 3 _ rfl
          have k4 := celN HR0.out.r 4 _ rfl
          have k5 := celN HR0.out.r 5 _ rfl
          have k6 := celN HR0.out.r 6 _ rfl
          rw [HRI.out] at k0
          have j0 := celN HR0.out.p 0 _ rfl
          have j1 := celN HR0.out.p 1 _ rfl
          have j2 := celN HR0.out.p 2 _ rfl
          have j3 := celN HR0.out.p 3 _ rfl
          have j4 := celN HR0.out.p 4 _ rfl
          have j5 := celN HR0.out.p 5 _ rfl
          have kl := HR0.out.lr
          have jl := HR0.out.lp
          have x0 := HR0.out.x.c0
          have x1 := HR0.out.x.c1
          have x2 := HR0.out.x.c2
          have x3 := HR0.out.x.c3
          have x4 := HR0.out.x.c4
          have x5 := HR0.out.x.c5
          have x6 := HR0.out.x.c6
          have x7 := HR0.out.x.c7
          rw [E1.out] at x0
          rw [E2.out] at x1
          rw [E3.out] at x2
          rw [E4.out] at x6
          have xl := HR0.out.x.lt
          go_wp2
          go_ret
          exact ⟨ret_bool (by rw [E.out]; simp), HR0.out.bel⟩
    · rw [hd] at E
      cases hl : decide (p.dp < r.low)
      · rw [hl] at E
        cases hh : decide (r.high < p.dp)
        · rw [hh] at E
          cases hb : decide (0 < r.bits)
          · rw [hb] at E
            cases hg : decide (r.group < 0)
            · rw [hg] at E
              cases hf : (s.hs.map (·.addr)).findIdx? (fun y => y == p.src) with
              | none =>
                rw [hAt_none hf] at HH
                have HIG : Hid (igB s p.src r.group = false) := (show igB s p.src r.group = false by unfold igB; rw [hf])
                rw [HIG.out] at E
                clear hf
                go_enter Try.func38, Try.ntmps38
                go_upto_region 1 with fail
                generalize (((w.alloc (.cells #[.slice ahs s.hs.length khs, .slice ags s.gs.length kgs, .slice afs s.fs.length kfs, .int .i64 s.pub, .int .i64 s.fst, .int .i64 s.lst, .slice acs s.cs.length kcs, .int .i64 s.time] 35)).alloc (.cells #[.bool r.inn, .int .i64 r.proto, .int .i64 r.addr, .int .i64 r.bits, .int .i64 r.low, .int .i64 r.high, .int .i64 r.group] 44)).alloc (.cells #[.int .i64 p.proto, .int .i64 p.src, .int .i64 p.sp, .int .i64 p.dst, .int .i64 p.dp, .int .i64 p.flags] 46)) = u0 at *
                generalize w.heap.size + 1 + 1 = b2 at *
                generalize w.heap.size + 1 = b1 at *
                generalize w.heap.size = b0 at *
                have k0 := celN HR0.out.r 0 _ rfl
                have k1 := celN HR0.out.r 1 _ rfl
                have k2 := celN HR0.out.r 2 _ rfl
                have k3 := celN HR0.out.r 3 _ rfl
                have k4 := celN HR0.out.r 4 _ rfl
                have k5 := celN HR0.out.r 5 _ rfl
                have k6 := celN HR0.out.r 6 _ rfl
                rw [HRI.out] at k0
                have j0 := celN HR0.out.p 0 _ rfl
                have j1 := celN HR0.out.p 1 _ rfl
                have j2 := celN HR0.out.p 2 _ rfl
                have j3 := celN HR0.out.p 3 _ rfl
                have j4 := celN HR0.out.p 4 _ rfl
                have j5 := celN HR0.out.p 5 _ rfl
                have kl := HR0.out.lr
                have jl := HR0.out.lp
                have x0 := HR0.out.x.c0
                have x1 := HR0.out.x.c1
                have x2 := HR0.out.x.c2
                have x3 := HR0.out.x.c3
                have x4 := HR0.out.x.c4
                have x5 := HR0.out.x.c5
                have x6 := HR0.out.x.c6
                have x7 := HR0.out.x.c7
                rw [E1.out] at x0
                rw [E2.out] at x1
                rw [E3.out] at x2
                rw [E4.out] at x6
                have xl := HR0.out.x.lt
                go_wp2_with fail
                refine Calls.mono (HH.out _ HR0.out.aft) ?_
                rintro e u1 ⟨rfl, hu⟩
                have HR1 : Hid (R3 w u1 b0 b1 b2 s a r p) := HR0.out.step hu
                clear hu
                clear k0 k1 k2 k3 k4 k5 k6 j0 j1 j2 j3 j4 j5 x0 x1 x2 x3 x4 x5 x6 x7 kl jl xl
                go_upto_region 11 with fail
                have HSB : Hid (R3 w u1.drew b0 b1 b2 s a r p) := HR1.out.drew
                refine wp_region_held (S := fun w9 => R3 w w9 b0 b1 b2 s a r p) (by kernel_rfl) ?_
                change wpAnyH _ _ _ _ _ _ _ _ (World.drew _)
                refine wpAnyH_take (i := 0) (v := .int .i64 (-1)) rfl (by kernel_rfl) (by kernel_rfl) (by kernel_rfl) (fun _ _ _ h => h) (Or.inl ⟨by kernel_rfl, fun w9 h9 => ?_⟩) HSB.out ?_
                · clear h9; go_simp
                refine wpAnyH_take (i := 1) (v := .bool false) rfl (by kernel_rfl) (by kernel_rfl) (by kernel_rfl) (fun _ _ _ h => h) (Or.inl ⟨by kernel_rfl, fun w9 h9 => ?_⟩) HSB.out ?_
                · clear h9; go_simp
                refine wpAnyH_take (i := 2) (v := .bool false) rfl (by kernel_rfl) (by kernel_rfl) (by kernel_rfl) (fun _ _ _ h => h) (Or.inl ⟨by kernel_rfl, fun w9 h9 => ?_⟩) HSB.out ?_
                · clear h9; go_simp
                refine wpAnyH_take (i := 3) (v := undef) rfl (by kernel_rfl) (by kernel_rfl) (by kernel_rfl) (fun _ _ _ h => h) (Or.inr ⟨by kernel_rfl, rfl⟩) HSB.out ?_
                refine wpAnyH_take (i := 4) (v := undef) rfl (by kernel_rfl) (by kernel_rfl) (by kernel_rfl) (fun _ _ _ h => h) (Or.inr ⟨by kernel_rfl, rfl⟩) HSB.out ?_
                refine wpAnyH_take (i := 5) (v := undef) rfl (by kernel_rfl) (by kernel_rfl) (by kernel_rfl) (fun _ _ _ h => h) (Or.inr ⟨by kernel_rfl, rfl⟩) HSB.out ?_
                refine wpAnyH_take (i := 6) (v := undef) rfl (by kernel_rfl) (by kernel_rfl) (by kernel_rfl) (fun _ _ _ h => h) (Or.inr ⟨by kernel_rfl, rfl⟩) HSB.out ?_
                refine wpAnyH_take (i := 7) (v := undef) rfl (by kernel_rfl) (by kernel_rfl) (by kernel_rfl) (fun _ _ _ h => h) (Or.inr ⟨by kernel_rfl, rfl⟩) HSB.out ?_
                refine wpAnyH_take (i := 8) (v := undef) rfl (by kernel_rfl) (by kernel_rfl) (by kernel_rfl) (fun _ _ _ h => h) (Or.inr ⟨by kernel_rfl, rfl⟩) HSB.out ?_
                refine wpAnyH_take (i := 9) (v := undef) rfl (by kernel_rfl) (by kernel_rfl) (by kernel_rfl) (fun _ _ _ h => h) (Or.inr ⟨by kernel_rfl, rfl⟩) HSB.out ?_
                refine wpAnyH_take (i := 10) (v := undef) rfl (by kernel_rfl) (by kernel_rfl) (by kernel_rfl) (fun _ _ _ h => h) (Or.inr ⟨by kernel_rfl, rfl⟩) HSB.out ?_
                refine wpAnyH_take (i := 11) (v := undef) rfl (by kernel_rfl) (by kernel_rfl) (by kernel_rfl) (fun _ _ _ h => h) (Or.inr ⟨by kernel_rfl, rfl⟩) HSB.out ?_
                refine wpAnyH_take (i := 12) (v := .bool false) rfl (by kernel_rfl) (by kernel_rfl) (by kernel_rfl) (fun _ _ _ h => h) (Or.inl ⟨by kernel_rfl, fun w9 h9 => ?_⟩) HSB.out ?_
                · clear h9; go_simp
                refine wpAnyH_take (i := 13) (v := .bool false) rfl (by kernel_rfl) (by kernel_rfl) (by kernel_rfl) (fun _ _ _ h => h) (Or.inl ⟨by kernel_rfl, fun w9 h9 => ?_⟩) HSB.out ?_
                · clear h9; go_simp
                refine wpAnyH_done (by kernel_rfl) ?_ _
                go_simp
                go_wp2
                go_ret
                exact ⟨ret_bool (by rw [E.out]; simp), HSB.out.bel⟩
              | some k =>
                obtain ⟨e1, hk⟩ := hAt_some hf
                rw [e1] at HH
                have hlt : k < s.hs.length := by simpa using hk
                have hkq : k < a.qhs.length := by rw [HQ.out]; exact hlt
                have HIG : Hid (igB s p.src r.group = s.hs[k].gs.any (fun z => r.group == z)) := (show igB s p.src r.group = _ by unfold igB; rw [hf]; simp only; rw [gdh hlt])
                rw [HIG.out] at E
                obtain ⟨p0, p1⟩ := HI.out.el k hkq hlt
                have lp := HLN.out.lhs.el k hlt
                obtain ⟨g2, o, cap2, hv, _, hg, hc⟩ := HRW.out.resolve_left (fun h => by rw [h.1] at hkq; simp at hkq)
                injection hv with hv1 hv2 hv3
                subst hv1 hv3
                have HD : Hid (∀ u c0 c1 c2, R3 w u c0 c1 c2 s a r p → u.cell? ⟨g2, o + k * 2 + 1, none⟩ = some a.qhs[k].groups ∧ g2 < u.heap.size) := fun u _ _ _ h3 => ⟨(hc.below h3.bel hg k hkq).2, Nat.lt_of_lt_of_le hg h3.bel.size⟩
                clear p0
                generalize s.hs[k] = pp at *
                generalize a.qhs[k].groups = y at *
                obtain ⟨ay, ky, rfl⟩ := p1.sl
                have HCT : Hid (∀ u c0 c1 c2, R3 w u c0 c1 c2 s a r p → Calls Try.prog 58 #[.slice ay pp.gs.length ky, .int .i64 r.group] u fun e w' => e = .returned (.bool (pp.gs.any (fun z => r.group == z))) ∧ w' = u) := fun u _ _ _ h3 => inInts_any (p1.below h3.bel) lp r.group
                generalize (pp.gs.any (fun z => r.group == z)) = RG at *
                have hk0 : (0 : Int) ≤ (k : Int) := by omega
                have hk1 : (k : Int) < (s.hs.length : Int) := by omega
                clear hf e1 hk hc hv2 p1 HIG
                go_enter Try.func38, Try.ntmps38
                go_upto_region 1 with fail
                generalize (((w.alloc (.cells #[.slice (some ⟨g2, o, none⟩) s.hs.length khs, .slice ags s.gs.length kgs, .slice afs s.fs.length kfs, .int .i64 s.pub, .int .i64 s.fst, .int .i64 s.lst, .slice acs s.cs.length kcs, .int .i64 s.time] 35)).alloc (.cells #[.bool r.inn, .int .i64 r.proto, .int .i64 r.addr, .int .i64 r.bits, .int .i64 r.low, .int .i64 r.high, .int .i64 r.group] 44)).alloc (.cells #[.int .i64 p.proto, .int .i64 p.src, .int .i64 p.sp, .int .i64 p.dst, .int .i64 p.dp, .int .i64 p.flags] 46)) = u0 at *
                generalize w.heap.size + 1 + 1 = b2 at *
                generalize w.heap.size + 1 = b1 at *
                generalize w.heap.size = b0 at *
                have k0 := celN HR0.out.r 0 _ rfl
                have k1 := celN HR0.out.r 1 _ rfl
                have k2 := celN HR0.out.r 2 _ rfl
                have k3 := celN HR0.out.r 3 _ rfl
                have k4 := celN HR0.out.r 4 _ rfl
                have k5 := celN HR0.out.r 5 _ rfl
                have k6 := celN HR0.out.r 6 _ rfl
                rw [HRI.out] at k0
                have j0 := celN HR0.out.p 0 _ rfl
                have j1 := celN HR0.out.p 1 _ rfl
                have j2 := celN HR0.out.p 2 _ rfl
                have j3 := celN HR0.out.p 3 _ rfl
                have j4 := celN HR0.out.p 4 _ rfl
                have j5 := celN HR0.out.p 5 _ rfl
                have kl := HR0.out.lr
                have jl := HR0.out.lp
                have x0 := HR0.out.x.c0
                have x1 := HR0.out.x.c1
                have x2 := HR0.out.x.c2
                have x3 := HR0.out.x.c3
                have x4 := HR0.out.x.c4
                have x5 := HR0.out.x.c5
                have x6 := HR0.out.x.c6
                have x7 := HR0.out.x.c7
                rw [E1.out] at x0
                rw [E2.out] at x1
                rw [E3.out] at x2
                rw [E4.out] at x6
                have xl := HR0.out.x.lt
                go_wp2_with fail
                refine Calls.mono (HH.out _ HR0.out.aft) ?_
                rintro e u1 ⟨rfl, hu⟩
                have HR1 : Hid (R3 w u1 b0 b1 b2 s a r p) := HR0.out.step hu
                clear hu
                clear k0 k1 k2 k3 k4 k5 k6 j0 j1 j2 j3 j4 j5 x0 x1 x2 x3 x4 x5 x6 x7 kl jl xl
                go_upto_region 11 with fail
                have HSB : Hid (R3 w u1.drew b0 b1 b2 s a r p) := HR1.out.drew
                refine wp_region_held (S := fun w9 => R3 w w9 b0 b1 b2 s a r p) (by kernel_rfl) ?_
                change wpAnyH _ _ _ _ _ _ _ _ (World.drew _)
                refine wpAnyH_take (i := 0) (v := .int .i64 (k : Int)) rfl (by kernel_rfl) (by kernel_rfl) (by kernel_rfl) (fun _ _ _ h => h) (Or.inl ⟨by kernel_rfl, fun w9 h9 => ?_⟩) HSB.out ?_
                · clear h9; go_simp
                refine wpAnyH_take (i := 1) (v := .bool true) rfl (by kernel_rfl) (by kernel_rfl) (by kernel_rfl) (fun _ _ _ h => h) (Or.inl ⟨by kernel_rfl, fun w9 h9 => ?_⟩) HSB.out ?_
                · clear h9; go_simp
                refine wpAnyH_take (i := 2) (v := .bool true) rfl (by kernel_rfl) (by kernel_rfl) (by kernel_rfl) (fun _ _ _ h => h) (Or.inl ⟨by kernel_rfl, fun w9 h9 => ?_⟩) HSB.out ?_
                · clear h9; go_simp
                refine wpAnyH_take (i := 3) (v := .pointer (some ⟨b0, 0, none⟩)) rfl (by kernel_rfl) (by kernel_rfl) (by kernel_rfl) (fun _ _ _ h => h) (Or.inl ⟨by kernel_rfl, fun w9 h9 => ?_⟩) HSB.out ?_
                · clear h9; go_simp
                refine wpAnyH_take (i := 4) (v := .slice (some ⟨g2, o, none⟩) s.hs.length khs) rfl (by kernel_rfl) (by kernel_rfl) (by kernel_rfl) (fun _ _ _ h => h) (Or.inl ⟨by kernel_rfl, fun w9 h9 => ?_⟩) HSB.out ?_
                · have k6 := celN h9.r 6 _ rfl; have kl := h9.lr; have x0 := h9.x.c0; rw [E1.out] at x0; have xl := h9.x.lt; obtain ⟨d1, dl⟩ := HD.out _ _ _ _ h9; clear h9; go_simp
                refine wpAnyH_take (i := 5) (v := .int .i64 (k : Int)) rfl (by kernel_rfl) (by kernel_rfl) (by kernel_rfl) (fun _ _ _ h => h) (Or.inl ⟨by kernel_rfl, fun w9 h9 => ?_⟩) HSB.out ?_
                · clear h9; go_simp
                refine wpAnyH_take (i := 6) (v := .pointer (some ⟨g2, o + k * 2, none⟩)) rfl (by kernel_rfl) (by kernel_rfl) (by kernel_rfl) (fun _ _ _ h => h) (Or.inl ⟨by kernel_rfl, fun w9 h9 => ?_⟩) HSB.out ?_
                · clear h9; go_simp
                refine wpAnyH_take (i := 7) (v := .pointer (some ⟨g2, o + k * 2 + 1, none⟩)) rfl (by kernel_rfl) (by kernel_rfl) (by kernel_rfl) (fun _ _ _ h => h) (Or.inl ⟨by kernel_rfl, fun w9 h9 => ?_⟩) HSB.out ?_
                · clear h9; go_simp
                refine wpAnyH_take (i := 8) (v := .slice ay pp.gs.length ky) rfl (by kernel_rfl) (by kernel_rfl) (by kernel_rfl) (fun _ _ _ h => h) (Or.inl ⟨by kernel_rfl, fun w9 h9 => ?_⟩) HSB.out ?_
                · have k6 := celN h9.r 6 _ rfl; have kl := h9.lr; have x0 := h9.x.c0; rw [E1.out] at x0; have xl := h9.x.lt; obtain ⟨d1, dl⟩ := HD.out _ _ _ _ h9; clear h9; go_simp
                refine wpAnyH_take (i := 9) (v := .pointer (some ⟨b1, 6, none⟩)) rfl (by kernel_rfl) (by kernel_rfl) (by kernel_rfl) (fun _ _ _ h => h) (Or.inl ⟨by kernel_rfl, fun w9 h9 => ?_⟩) HSB.out ?_
                · clear h9; go_simp
                refine wpAnyH_take (i := 10) (v := .int .i64 r.group) rfl (by kernel_rfl) (by kernel_rfl) (by kernel_rfl) (fun _ _ _ h => h) (Or.inl ⟨by kernel_rfl, fun w9 h9 => ?_⟩) HSB.out ?_
                · have k6 := celN h9.r 6 _ rfl; have kl := h9.lr; have x0 := h9.x.c0; rw [E1.out] at x0; have xl := h9.x.lt; obtain ⟨d1, dl⟩ := HD.out _ _ _ _ h9; clear h9; go_simp
                refine held_one 11 (by kernel_rfl) rfl (by kernel_rfl) fun K hK => ?_
                go_simp
                go_wp2_with (go_at_call 58; refine Calls.mono (HCT.out _ _ _ _ HSB.out) ?_; rintro e9 u9 ⟨rfl, hw9⟩; rw [hw9]; clear hw9)
                refine hK _ _ HSB.out ?_
                clear hK K
                refine wpAnyH_take (i := 12) (v := .bool RG) rfl (by kernel_rfl) (by kernel_rfl) (by kernel_rfl) (fun _ _ _ h => h) (Or.inl ⟨by kernel_rfl, fun w9 h9 => ?_⟩) HSB.out ?_
                · clear h9; go_simp
                refine wpAnyH_take (i := 13) (v := .bool RG) rfl (by kernel_rfl) (by kernel_rfl) (by kernel_rfl) (fun _ _ _ h => h) (Or.inl ⟨by kernel_rfl, fun w9 h9 => ?_⟩) HSB.out ?_
                · clear h9; go_simp
                refine wpAnyH_done (by kernel_rfl) ?_ _
                go_simp
                go_wp2
                go_ret
                exact ⟨ret_bool (by rw [E.out]; simp), HSB.out.bel⟩
            · rw [hg] at E
              go_enter Try.func38, Try.ntmps38
              go_upto_region 1 with fail
              generalize (((w.alloc (.cells #[.slice ahs s.hs.length khs, .slice ags s.gs.length kgs, .slice afs s.fs.length kfs, .int .i64 s.pub, .int .i64 s.fst, .int .i64 s.lst, .slice acs s.cs.length kcs, .int .i64 s.time] 35)).alloc (.cells #[.bool r.inn, .int .i64 r.proto, .int .i64 r.addr, .int .i64 r.bits, .int .i64 r.low, .int .i64 r.high, .int .i64 r.group] 44)).alloc (.cells #[.int .i64 p.proto, .int .i64 p.src, .int .i64 p.sp, .int .i64 p.dst, .int .i64 p.dp, .int .i64 p.flags] 46)) = u0 at *
              generalize w.heap.size + 1 + 1 = b2 at *
              generalize w.heap.size + 1 = b1 at *
              generalize w.heap.size = b0 at *
              have k0 := celN HR0.out.r 0 _ rfl
              have k1 := celN HR0.out.r 1 _ rfl
              have k2 := celN HR0.out.r 2 _ rfl
              have k3 := celN HR0.out.r 3 _ rfl
              have k4 := celN HR0.out.r 4 _ rfl
              have k5 := celN HR0.out.r 5 _ rfl
              have k6 := celN HR0.out.r 6 _ rfl
              rw [HRI.out] at k0
              have j0 := celN HR0.out.p 0 _ rfl
              have j1 := celN HR0.out.p 1 _ rfl
              have j2 := celN HR0.out.p 2 _ rfl
              have j3 := celN HR0.out.p 3 _ rfl
              have j4 := celN HR0.out.p 4 _ rfl
              have j5 := celN HR0.out.p 5 _ rfl
              have kl := HR0.out.lr
              have jl := HR0.out.lp
              have x0 := HR0.out.x.c0
              have x1 := HR0.out.x.c1
              have x2 := HR0.out.x.c2
              have x3 := HR0.out.x.c3
              have x4 := HR0.out.x.c4
              have x5 := HR0.out.x.c5
              have x6 := HR0.out.x.c6
              have x7 := HR0.out.x.c7
              rw [E1.out] at x0
              rw [E2.out] at x1
              rw [E3.out] at x2
              rw [E4.out] at x6
              have xl := HR0.out.x.lt
              go_wp2
              go_ret
              exact ⟨ret_bool (by rw [E.out]; simp), HR0.out.bel⟩
          · rw [hb] at E
            cases hn : (p.src / 2 ^ n != r.addr / 2 ^ n)
            · rw [hn] at E
              cases hg : decide (r.group < 0)
              · rw [hg] at E
                cases hf : (s.hs.map (·.addr)).findIdx? (fun y => y == p.src) with
                | none =>
                  rw [hAt_none hf] at HH
                  have HIG : Hid (igB s p.src r.group = false) := (show igB s p.src r.group = false by unfold igB; rw [hf])
                  rw [HIG.out] at E
                  clear hf
                  go_enter Try.func38, Try.ntmps38
                  go_upto_region 1 with fail
                  generalize (((w.alloc (.cells #[.slice ahs s.hs.length khs, .slice ags s.gs.length kgs, .slice afs s.fs.length kfs, .int .i64 s.pub, .int .i64 s.fst, .int .i64 s.lst, .slice acs s.cs.length kcs, .int .i64 s.time] 35)).alloc (.cells #[.bool r.inn, .int .i64 r.proto, .int .i64 r.addr, .int .i64 r.bits, .int .i64 r.low, .int .i64 r.high, .int .i64 r.group] 44)).alloc (.cells #[.int .i64 p.proto, .int .i64 p.src, .int .i64 p.sp, .int .i64 p.dst, .int .i64 p.dp, .int .i64 p.flags] 46)) = u0 at *
                  generalize w.heap.size + 1 + 1 = b2 at *
                  generalize w.heap.size + 1 = b1 at *
                  generalize w.heap.size = b0 at *
                  have k0 := celN HR0.out.r 0 _ rfl
                  have k1 := celN HR0.out.r 1 _ rfl
                  have k2 := celN HR0.out.r 2 _ rfl
                  have k3 := celN HR0.out.r 3 _ rfl
                  have k4 := celN HR0.out.r 4 _ rfl
                  have k5 := celN HR0.out.r 5 _ rfl
                  have k6 := celN HR0.out.r 6 _ rfl
                  rw [HRI.out] at k0
                  have j0 := celN HR0.out.p 0 _ rfl
                  have j1 := celN HR0.out.p 1 _ rfl
                  have j2 := celN HR0.out.p 2 _ rfl
                  have j3 := celN HR0.out.p 3 _ rfl
                  have j4 := celN HR0.out.p 4 _ rfl
                  have j5 := celN HR0.out.p 5 _ rfl
                  have kl := HR0.out.lr
                  have jl := HR0.out.lp
                  have x0 := HR0.out.x.c0
                  have x1 := HR0.out.x.c1
                  have x2 := HR0.out.x.c2
                  have x3 := HR0.out.x.c3
                  have x4 := HR0.out.x.c4
                  have x5 := HR0.out.x.c5
                  have x6 := HR0.out.x.c6
                  have x7 := HR0.out.x.c7
                  rw [E1.out] at x0
                  rw [E2.out] at x1
                  rw [E3.out] at x2
                  rw [E4.out] at x6
                  have xl := HR0.out.x.lt
                  go_wp2_with fail
                  refine Calls.mono (HH.out _ HR0.out.aft) ?_
                  rintro e u1 ⟨rfl, hu⟩
                  have HR1 : Hid (R3 w u1 b0 b1 b2 s a r p) := HR0.out.step hu
                  clear hu
                  clear k0 k1 k2 k3 k4 k5 k6 j0 j1 j2 j3 j4 j5 x0 x1 x2 x3 x4 x5 x6 x7 kl jl xl
                  go_upto_region 11 with fail
                  have HSB : Hid (R3 w u1.drew b0 b1 b2 s a r p) := HR1.out.drew
                  refine wp_region_held (S := fun w9 => R3 w w9 b0 b1 b2 s a r p) (by kernel_rfl) ?_
                  change wpAnyH _ _ _ _ _ _ _ _ (World.drew _)
                  refine wpAnyH_take (i := 0) (v := .int .i64 (-1)) rfl (by kernel_rfl) (by kernel_rfl) (by kernel_rfl) (fun _ _ _ h => h) (Or.inl ⟨by kernel_rfl, fun w9 h9 => ?_⟩) HSB.out ?_
                  · clear h9; go_simp
                  refine wpAnyH_take (i := 1) (v := .bool false) rfl (by kernel_rfl) (by kernel_rfl) (by kernel_rfl) (fun _ _ _ h => h) (Or.inl ⟨by kernel_rfl, fun w9 h9 => ?_⟩) HSB.out ?_
                  · clear h9; go_simp
                  refine wpAnyH_take (i := 2) (v := .bool false) rfl (by kernel_rfl) (by kernel_rfl) (by kernel_rfl) (fun _ _ _ h => h) (Or.inl ⟨by kernel_rfl, fun w9 h9 => ?_⟩) HSB.out ?_
                  · clear h9; go_simp
                  refine wpAnyH_take (i := 3) (v := undef) rfl (by kernel_rfl) (by kernel_rfl) (by kernel_rfl) (fun _ _ _ h => h) (Or.inr ⟨by kernel_rfl, rfl⟩) HSB.out ?_
                  refine wpAnyH_take (i := 4) (v := undef) rfl (by kernel_rfl) (by kernel_rfl) (by kernel_rfl) (fun _ _ _ h => h) (Or.inr ⟨by kernel_rfl, rfl⟩) HSB.out ?_
                  refine wpAnyH_take (i := 5) (v := undef) rfl (by kernel_rfl) (by kernel_rfl) (by kernel_rfl) (fun _ _ _ h => h) (Or.inr ⟨by kernel_rfl, rfl⟩) HSB.out ?_
                  refine wpAnyH_take (i := 6) (v := undef) rfl (by kernel_rfl) (by kernel_rfl) (by kernel_rfl) (fun _ _ _ h => h) (Or.inr ⟨by kernel_rfl, rfl⟩) HSB.out ?_
                  refine wpAnyH_take (i := 7) (v := undef) rfl (by kernel_rfl) (by kernel_rfl) (by kernel_rfl) (fun _ _ _ h => h) (Or.inr ⟨by kernel_rfl, rfl⟩) HSB.out ?_
                  refine wpAnyH_take (i := 8) (v := undef) rfl (by kernel_rfl) (by kernel_rfl) (by kernel_rfl) (fun _ _ _ h => h) (Or.inr ⟨by kernel_rfl, rfl⟩) HSB.out ?_
                  refine wpAnyH_take (i := 9) (v := undef) rfl (by kernel_rfl) (by kernel_rfl) (by kernel_rfl) (fun _ _ _ h => h) (Or.inr ⟨by kernel_rfl, rfl⟩) HSB.out ?_
                  refine wpAnyH_take (i := 10) (v := undef) rfl (by kernel_rfl) (by kernel_rfl) (by kernel_rfl) (fun _ _ _ h => h) (Or.inr ⟨by kernel_rfl, rfl⟩) HSB.out ?_
                  refine wpAnyH_take (i := 11) (v := undef) rfl (by kernel_rfl) (by kernel_rfl) (by kernel_rfl) (fun _ _ _ h => h) (Or.inr ⟨by kernel_rfl, rfl⟩) HSB.out ?_
                  refine wpAnyH_take (i := 12) (v := .bool false) rfl (by kernel_rfl) (by kernel_rfl) (by kernel_rfl) (fun _ _ _ h => h) (Or.inl ⟨by kernel_rfl, fun w9 h9 => ?_⟩) HSB.out ?_
                  · clear h9; go_simp
                  refine wpAnyH_take (i := 13) (v := .bool false) rfl (by kernel_rfl) (by kernel_rfl) (by kernel_rfl) (fun _ _ _ h => h) (Or.inl ⟨by kernel_rfl, fun w9 h9 => ?_⟩) HSB.out ?_
                  · clear h9; go_simp
                  refine wpAnyH_done (by kernel_rfl) ?_ _
                  go_simp
                  go_wp2
                  go_ret
                  exact ⟨ret_bool (by rw [E.out]; simp), HSB.out.bel⟩
                | some k =>
                  obtain ⟨e1, hk⟩ := hAt_some hf
                  rw [e1] at HH
                  have hlt : k < s.hs.length := by simpa using hk
                  have hkq : k < a.qhs.length := by rw [HQ.out]; exact hlt
                  have HIG : Hid (igB s p.src r.group = s.hs[k].gs.any (fun z => r.group == z)) := (show igB s p.src r.group = _ by unfold igB; rw [hf]; simp only; rw [gdh hlt])
                  rw [HIG.out] at E
                  obtain ⟨p0, p1⟩ := HI.out.el k hkq hlt
                  have lp := HLN.out.lhs.el k hlt
                  obtain ⟨g2, o, cap2, hv, _, hg, hc⟩ := HRW.out.resolve_left (fun h => by rw [h.1] at hkq; simp at hkq)
                  injection hv with hv1 hv2 hv3
                  subst hv1 hv3
                  have HD : Hid (∀ u c0 c1 c2, R3 w u c0 c1 c2 s a r p → u.cell? ⟨g2, o + k * 2 + 1, none⟩ = some a.qhs[k].groups ∧ g2 < u.heap.size) := fun u _ _ _ h3 => ⟨(hc.below h3.bel hg k hkq).2, Nat.lt_of_lt_of_le hg h3.bel.size⟩
                  clear p0
                  generalize s.hs[k] = pp at *
                  generalize a.qhs[k].groups = y at *
                  obtain ⟨ay, ky, rfl⟩ := p1.sl
                  have HCT : Hid (∀ u c0 c1 c2, R3 w u c0 c1 c2 s a r p → Calls Try.prog 58 #[.slice ay pp.gs.length ky, .int .i64 r.group] u fun e w' => e = .returned (.bool (pp.gs.any (fun z => r.group == z))) ∧ w' = u) := fun u _ _ _ h3 => inInts_any (p1.below h3.bel) lp r.group
                  generalize (pp.gs.any (fun z => r.group == z)) = RG at *
                  have hk0 : (0 : Int) ≤ (k : Int) := by omega
                  have hk1 : (k : Int) < (s.hs.length : Int) := by omega
                  clear hf e1 hk hc hv2 p1 HIG
                  go_enter Try.func38, Try.ntmps38
                  go_upto_region 1 with fail
                  generalize (((w.alloc (.cells #[.slice (some ⟨g2, o, none⟩) s.hs.length khs, .slice ags s.gs.length kgs, .slice afs s.fs.length kfs, .int .i64 s.pub, .int .i64 s.fst, .int .i64 s.lst, .slice acs s.cs.length kcs, .int .i64 s.time] 35)).alloc (.cells #[.bool r.inn, .int .i64 r.proto, .int .i64 r.addr, .int .i64 r.bits, .int .i64 r.low, .int .i64 r.high, .int .i64 r.group] 44)).alloc (.cells #[.int .i64 p.proto, .int .i64 p.src, .int .i64 p.sp, .int .i64 p.dst, .int .i64 p.dp, .int .i64 p.flags] 46)) = u0 at *
                  generalize w.heap.size + 1 + 1 = b2 at *
                  generalize w.heap.size + 1 = b1 at *
                  generalize w.heap.size = b0 at *
                  have k0 := celN HR0.out.r 0 _ rfl
                  have k1 := celN HR0.out.r 1 _ rfl
                  have k2 := celN HR0.out.r 2 _ rfl
                  have k3 := celN HR0.out.r 3 _ rfl
                  have k4 := celN HR0.out.r 4 _ rfl
                  have k5 := celN HR0.out.r 5 _ rfl
                  have k6 := celN HR0.out.r 6 _ rfl
                  rw [HRI.out] at k0
                  have j0 := celN HR0.out.p 0 _ rfl
                  have j1 := celN HR0.out.p 1 _ rfl
                  have j2 := celN HR0.out.p 2 _ rfl
                  have j3 := celN HR0.out.p 3 _ rfl
                  have j4 := celN HR0.out.p 4 _ rfl
                  have j5 := celN HR0.out.p 5 _ rfl
                  have kl := HR0.out.lr
                  have jl := HR0.out.lp
                  have x0 := HR0.out.x.c0
                  have x1 := HR0.out.x.c1
                  have x2 := HR0.out.x.c2
                  have x3 := HR0.out.x.c3
                  have x4 := HR0.out.x.c4
                  have x5 := HR0.out.x.c5
                  have x6 := HR0.out.x.c6
                  have x7 := HR0.out.x.c7
                  rw [E1.out] at x0
                  rw [E2.out] at x1
                  rw [E3.out] at x2
                  rw [E4.out] at x6
                  have xl := HR0.out.x.lt
                  go_wp2_with fail
                  refine Calls.mono (HH.out _ HR0.out.aft) ?_
                  rintro e u1 ⟨rfl, hu⟩
                  have HR1 : Hid (R3 w u1 b0 b1 b2 s a r p) := HR0.out.step hu
                  clear hu
                  clear k0 k1 k2 k3 k4 k5 k6 j0 j1 j2 j3 j4 j5 x0 x1 x2 x3 x4 x5 x6 x7 kl jl xl
                  go_upto_region 11 with fail
                  have HSB : Hid (R3 w u1.drew b0 b1 b2 s a r p) := HR1.out.drew
                  refine wp_region_held (S := fun w9 => R3 w w9 b0 b1 b2 s a r p) (by kernel_rfl) ?_
                  change wpAnyH _ _ _ _ _ _ _ _ (World.drew _)
                  refine wpAnyH_take (i := 0) (v := .int .i64 (k : Int)) rfl (by kernel_rfl) (by kernel_rfl) (by kernel_rfl) (fun _ _ _ h => h) (Or.inl ⟨by kernel_rfl, fun w9 h9 => ?_⟩) HSB.out ?_
                  · clear h9; go_simp
                  refine wpAnyH_take (i := 1) (v := .bool true) rfl (by kernel_rfl) (by kernel_rfl) (by kernel_rfl) (fun _ _ _ h => h) (Or.inl ⟨by kernel_rfl, fun w9 h9 => ?_⟩) HSB.out ?_
                  · clear h9; go_simp
                  refine wpAnyH_take (i := 2) (v := .bool true) rfl (by kernel_rfl) (by kernel_rfl) (by kernel_rfl) (fun _ _ _ h => h) (Or.inl ⟨by kernel_rfl, fun w9 h9 => ?_⟩) HSB.out ?_
                  · clear h9; go_simp
                  refine wpAnyH_take (i := 3) (v := .pointer (some ⟨b0, 0, none⟩)) rfl (by kernel_rfl) (by kernel_rfl) (by kernel_rfl) (fun _ _ _ h => h) (Or.inl ⟨by kernel_rfl, fun w9 h9 => ?_⟩) HSB.out ?_
                  · clear h9; go_simp
                  refine wpAnyH_take (i := 4) (v := .slice (some ⟨g2, o, none⟩) s.hs.length khs) rfl (by kernel_rfl) (by kernel_rfl) (by kernel_rfl) (fun _ _ _ h => h) (Or.inl ⟨by kernel_rfl, fun w9 h9 => ?_⟩) HSB.out ?_
                  · have k6 := celN h9.r 6 _ rfl; have kl := h9.lr; have x0 := h9.x.c0; rw [E1.out] at x0; have xl := h9.x.lt; obtain ⟨d1, dl⟩ := HD.out _ _ _ _ h9; clear h9; go_simp
                  refine wpAnyH_take (i := 5) (v := .int .i64 (k : Int)) rfl (by kernel_rfl) (by kernel_rfl) (by kernel_rfl) (fun _ _ _ h => h) (Or.inl ⟨by kernel_rfl, fun w9 h9 => ?_⟩) HSB.out ?_
                  · clear h9; go_simp
                  refine wpAnyH_take (i := 6) (v := .pointer (some ⟨g2, o + k * 2, none⟩)) rfl (by kernel_rfl) (by kernel_rfl) (by kernel_rfl) (fun _ _ _ h => h) (Or.inl ⟨by kernel_rfl, fun w9 h9 => ?_⟩) HSB.out ?_
                  · clear h9; go_simp
                  refine wpAnyH_take (i := 7) (v := .pointer (some ⟨g2, o + k * 2 + 1, none⟩)) rfl (by kernel_rfl) (by kernel_rfl) (by kernel_rfl) (fun _ _ _ h => h) (Or.inl ⟨by kernel_rfl, fun w9 h9 => ?_⟩) HSB.out ?_
                  · clear h9; go_simp
                  refine wpAnyH_take (i := 8) (v := .slice ay pp.gs.length ky) rfl (by kernel_rfl) (by kernel_rfl) (by kernel_rfl) (fun _ _ _ h => h) (Or.inl ⟨by kernel_rfl, fun w9 h9 => ?_⟩) HSB.out ?_
                  · have k6 := celN h9.r 6 _ rfl; have kl := h9.lr; have x0 := h9.x.c0; rw [E1.out] at x0; have xl := h9.x.lt; obtain ⟨d1, dl⟩ := HD.out _ _ _ _ h9; clear h9; go_simp
                  refine wpAnyH_take (i := 9) (v := .pointer (some ⟨b1, 6, none⟩)) rfl (by kernel_rfl) (by kernel_rfl) (by kernel_rfl) (fun _ _ _ h => h) (Or.inl ⟨by kernel_rfl, fun w9 h9 => ?_⟩) HSB.out ?_
                  · clear h9; go_simp
                  refine wpAnyH_take (i := 10) (v := .int .i64 r.group) rfl (by kernel_rfl) (by kernel_rfl) (by kernel_rfl) (fun _ _ _ h => h) (Or.inl ⟨by kernel_rfl, fun w9 h9 => ?_⟩) HSB.out ?_
                  · have k6 := celN h9.r 6 _ rfl; have kl := h9.lr; have x0 := h9.x.c0; rw [E1.out] at x0; have xl := h9.x.lt; obtain ⟨d1, dl⟩ := HD.out _ _ _ _ h9; clear h9; go_simp
                  refine held_one 11 (by kernel_rfl) rfl (by kernel_rfl) fun K hK => ?_
                  go_simp
                  go_wp2_with (go_at_call 58; refine Calls.mono (HCT.out _ _ _ _ HSB.out) ?_; rintro e9 u9 ⟨rfl, hw9⟩; rw [hw9]; clear hw9)
                  refine hK _ _ HSB.out ?_
                  clear hK K
                  refine wpAnyH_take (i := 12) (v := .bool RG) rfl (by kernel_rfl) (by kernel_rfl) (by kernel_rfl) (fun _ _ _ h => h) (Or.inl ⟨by kernel_rfl, fun w9 h9 => ?_⟩) HSB.out ?_
                  · clear h9; go_simp
                  refine wpAnyH_take (i := 13) (v := .bool RG) rfl (by kernel_rfl) (by kernel_rfl) (by kernel_rfl) (fun _ _ _ h => h) (Or.inl ⟨by kernel_rfl, fun w9 h9 => ?_⟩) HSB.out ?_
                  · clear h9; go_simp
                  refine wpAnyH_done (by kernel_rfl) ?_ _
                  go_simp
                  go_wp2
                  go_ret
                  exact ⟨ret_bool (by rw [E.out]; simp), HSB.out.bel⟩
              · rw [hg] at E
                go_enter Try.func38, Try.ntmps38
                go_upto_region 1 with fail
                generalize (((w.alloc (.cells #[.slice ahs s.hs.length khs, .slice ags s.gs.length kgs, .slice afs s.fs.length kfs, .int .i64 s.pub, .int .i64 s.fst, .int .i64 s.lst, .slice acs s.cs.length kcs, .int .i64 s.time] 35)).alloc (.cells #[.bool r.inn, .int .i64 r.proto, .int .i64 r.addr, .int .i64 r.bits, .int .i64 r.low, .int .i64 r.high, .int .i64 r.group] 44)).alloc (.cells #[.int .i64 p.proto, .int .i64 p.src, .int .i64 p.sp, .int .i64 p.dst, .int .i64 p.dp, .int .i64 p.flags] 46)) = u0 at *
                generalize w.heap.size + 1 + 1 = b2 at *
                generalize w.heap.size + 1 = b1 at *
                generalize w.heap.size = b0 at *
                have k0 := celN HR0.out.r 0 _ rfl
                have k1 := celN HR0.out.r 1 _ rfl
                have k2 := celN HR0.out.r 2 _ rfl
                have k3 := celN HR0.out.r 3 _ rfl
                have k4 := celN HR0.out.r 4 _ rfl
                have k5 := celN HR0.out.r 5 _ rfl
                have k6 := celN HR0.out.r 6 _ rfl
                rw [HRI.out] at k0
                have j0 := celN HR0.out.p 0 _ rfl
                have j1 := celN HR0.out.p 1 _ rfl
                have j2 := celN HR0.out.p 2 _ rfl
                have j3 := celN HR0.out.p 3 _ rfl
                have j4 := celN HR0.out.p 4 _ rfl
                have j5 := celN HR0.out.p 5 _ rfl
                have kl := HR0.out.lr
                have jl := HR0.out.lp
                have x0 := HR0.out.x.c0
                have x1 := HR0.out.x.c1
                have x2 := HR0.out.x.c2
                have x3 := HR0.out.x.c3
                have x4 := HR0.out.x.c4
                have x5 := HR0.out.x.c5
                have x6 := HR0.out.x.c6
                have x7 := HR0.out.x.c7
                rw [E1.out] at x0
                rw [E2.out] at x1
                rw [E3.out] at x2
                rw [E4.out] at x6
                have xl := HR0.out.x.lt
                go_wp2
                go_ret
                exact ⟨ret_bool (by rw [E.out]; simp), HR0.out.bel⟩
            · rw [hn] at E
              go_enter Try.func38, Try.ntmps38
              go_upto_region 1 with fail
              generalize (((w.alloc (.cells #[.slice ahs s.hs.length khs, .slice ags s.gs.length kgs, .slice afs s.fs.length kfs, .int .i64 s.pub, .int .i64 s.fst, .int .i64 s.lst, .slice acs s.cs.length kcs, .int .i64 s.time] 35)).alloc (.cells #[.bool r.inn, .int .i64 r.proto, .int .i64 r.addr, .int .i64 r.bits, .int .i64 r.low, .int .i64 r.high, .int .i64 r.group] 44)).alloc (.cells #[.int .i64 p.proto, .int .i64 p.src, .int .i64 p.sp, .int .i64 p.dst, .int .i64 p.dp, .int .i64 p.flags] 46)) = u0 at *
              generalize w.heap.size + 1 + 1 = b2 at *
              generalize w.heap.size + 1 = b1 at *
              generalize w.heap.size = b0 at *
              have k0 := celN HR0.out.r 0 _ rfl
              have k1 := celN HR0.out.r 1 _ rfl
              have k2 := celN HR0.out.r 2 _ rfl
              have k3 := celN HR0.out.r 3 _ rfl
              have k4 := celN HR0.out.r 4 _ rfl
              have k5 := celN HR0.out.r 5 _ rfl
              have k6 := celN HR0.out.r 6 _ rfl
              rw [HRI.out] at k0
              have j0 := celN HR0.out.p 0 _ rfl
              have j1 := celN HR0.out.p 1 _ rfl
              have j2 := celN HR0.out.p 2 _ rfl
              have j3 := celN HR0.out.p 3 _ rfl
              have j4 := celN HR0.out.p 4 _ rfl
              have j5 := celN HR0.out.p 5 _ rfl
              have kl := HR0.out.lr
              have jl := HR0.out.lp
              have x0 := HR0.out.x.c0
              have x1 := HR0.out.x.c1
              have x2 := HR0.out.x.c2
              have x3 := HR0.out.x.c3
              have x4 := HR0.out.x.c4
              have x5 := HR0.out.x.c5
              have x6 := HR0.out.x.c6
              have x7 := HR0.out.x.c7
              rw [E1.out] at x0
              rw [E2.out] at x1
              rw [E3.out] at x2
              rw [E4.out] at x6
              have xl := HR0.out.x.lt
              go_wp2
              go_ret
              exact ⟨ret_bool (by rw [E.out]; simp), HR0.out.bel⟩
        · rw [hh] at E
          go_enter Try.func38, Try.ntmps38
          go_upto_region 1 with fail
          generalize (((w.alloc (.cells #[.slice ahs s.hs.length khs, .slice ags s.gs.length kgs, .slice afs s.fs.length kfs, .int .i64 s.pub, .int .i64 s.fst, .int .i64 s.lst, .slice acs s.cs.length kcs, .int .i64 s.time] 35)).alloc (.cells #[.bool r.inn, .int .i64 r.proto, .int .i64 r.addr, .int .i64 r.bits, .int .i64 r.low, .int .i64 r.high, .int .i64 r.group] 44)).alloc (.cells #[.int .i64 p.proto, .int .i64 p.src, .int .i64 p.sp, .int .i64 p.dst, .int .i64 p.dp, .int .i64 p.flags] 46)) = u0 at *
          generalize w.heap.size + 1 + 1 = b2 at *
          generalize w.heap.size + 1 = b1 at *
          generalize w.heap.size = b0 at *
          have k0 := celN HR0.out.r 0 _ rfl
          have k1 := celN HR0.out.r 1 _ rfl
          have k2 := celN HR0.out.r 2 _ rfl
          have k3 := celN HR0.out.r 3 _ rfl
          have k4 := celN HR0.out.r 4 _ rfl
          have k5 := celN HR0.out.r 5 _ rfl
          have k6 := celN HR0.out.r 6 _ rfl
          rw [HRI.out] at k0
          have j0 := celN HR0.out.p 0 _ rfl
          have j1 := celN HR0.out.p 1 _ rfl
          have j2 := celN HR0.out.p 2 _ rfl
          have j3 := celN HR0.out.p 3 _ rfl
          have j4 := celN HR0.out.p 4 _ rfl
          have j5 := celN HR0.out.p 5 _ rfl
          have kl := HR0.out.lr
          have jl := HR0.out.lp
          have x0 := HR0.out.x.c0
          have x1 := HR0.out.x.c1
          have x2 := HR0.out.x.c2
          have x3 := HR0.out.x.c3
          have x4 := HR0.out.x.c4
          have x5 := HR0.out.x.c5
          have x6 := HR0.out.x.c6
          have x7 := HR0.out.x.c7
          rw [E1.out] at x0
          rw [E2.out] at x1
          rw [E3.out] at x2
          rw [E4.out] at x6
          have xl := HR0.out.x.lt
          go_wp2
          go_ret
          exact ⟨ret_bool (by rw [E.out]; simp), HR0.out.bel⟩
      · rw [hl] at E
        go_enter Try.func38, Try.ntmps38
        go_upto_region 1 with fail
        generalize (((w.alloc (.cells #[.slice ahs s.hs.length khs, .slice ags s.gs.length kgs, .slice afs s.fs.length kfs, .int .i64 s.pub, .int .i64 s.fst, .int .i64 s.lst, .slice acs s.cs.length kcs, .int .i64 s.time] 35)).alloc (.cells #[.bool r.inn, .int .i64 r.proto, .int .i64 r.addr, .int .i64 r.bits, .int .i64 r.low, .int .i64 r.high, .int .i64 r.group] 44)).alloc (.cells #[.int .i64 p.proto, .int .i64 p.src, .int .i64 p.sp, .int .i64 p.dst, .int .i64 p.dp, .int .i64 p.flags] 46)) = u0 at *
        generalize w.heap.size + 1 + 1 = b2 at *
        generalize w.heap.size + 1 = b1 at *
        generalize w.heap.size = b0 at *
        have k0 := celN HR0.out.r 0 _ rfl
        have k1 := celN HR0.out.r 1 _ rfl
        have k2 := celN HR0.out.r 2 _ rfl
        have k3 := celN HR0.out.r 3 _ rfl
        have k4 := celN HR0.out.r 4 _ rfl
        have k5 := celN HR0.out.r 5 _ rfl
        have k6 := celN HR0.out.r 6 _ rfl
        rw [HRI.out] at k0
        have j0 := celN HR0.out.p 0 _ rfl
        have j1 := celN HR0.out.p 1 _ rfl
        have j2 := celN HR0.out.p 2 _ rfl
        have j3 := celN HR0.out.p 3 _ rfl
        have j4 := celN HR0.out.p 4 _ rfl
        have j5 := celN HR0.out.p 5 _ rfl
        have kl := HR0.out.lr
        have jl := HR0.out.lp
        have x0 := HR0.out.x.c0
        have x1 := HR0.out.x.c1
        have x2 := HR0.out.x.c2
        have x3 := HR0.out.x.c3
        have x4 := HR0.out.x.c4
        have x5 := HR0.out.x.c5
        have x6 := HR0.out.x.c6
        have x7 := HR0.out.x.c7
        rw [E1.out] at x0
        rw [E2.out] at x1
        rw [E3.out] at x2
        rw [E4.out] at x6
        have xl := HR0.out.x.lt
        go_wp2
        go_ret
        exact ⟨ret_bool (by rw [E.out]; simp), HR0.out.bel⟩
  · rw [ha] at E
    cases hq : (r.proto != p.proto)
    · rw [hq] at E
      cases hd : (p.proto != 1)
      · rw [hd] at E
        cases hb : decide (0 < r.bits)
        · rw [hb] at E
          cases hg : decide (r.group < 0)
          · rw [hg] at E
            cases hf : (s.hs.map (·.addr)).findIdx? (fun y => y == p.src) with
            | none =>
              rw [hAt_none hf] at HH
              have HIG : Hid (igB s p.src r.group = false) := (show igB s p.src r.group = false by unfold igB; rw [hf])
              rw [HIG.out] at E
              clear hf
              go_enter Try.func38, Try.ntmps38
              go_upto_region 1 with fail
              generalize (((w.alloc (.cells #[.slice ahs s.hs.length khs, .slice ags s.gs.length kgs, .slice afs s.fs.length kfs, .int .i64 s.pub, .int .i64 s.fst, .int .i64 s.lst, .slice acs s.cs.length kcs, .int .i64 s.time] 35)).alloc (.cells #[.bool r.inn, .int .i64 r.proto, .int .i64 r.addr, .int .i64 r.bits, .int .i64 r.low, .int .i64 r.high, .int .i64 r.group] 44)).alloc (.cells #[.int .i64 p.proto, .int .i64 p.src, .int .i64 p.sp, .int .i64 p.dst, .int .i64 p.dp, .int .i64 p.flags] 46)) = u0 at *
              generalize w.heap.size + 1 + 1 = b2 at *
              generalize w.heap.size + 1 = b1 at *
              generalize w.heap.size = b0 at *
              have k0 := celN HR0.out.r 0 _ rfl
              have k1 := celN HR0.out.r 1 _ rfl
              have k2 := celN HR0.out.r 2 _ rfl
              have k3 := celN HR0.out.r 3 _ rfl
              have k4 := celN HR0.out.r 4 _ rfl
              have k5 := celN HR0.out.r 5 _ rfl
              have k6 := celN HR0.out.r 6 _ rfl
              rw [HRI.out] at k0
              have j0 := celN HR0.out.p 0 _ rfl
              have j1 := celN HR0.out.p 1 _ rfl
              have j2 := celN HR0.out.p 2 _ rfl
              have j3 := celN HR0.out.p 3 _ rfl
              have j4 := celN HR0.out.p 4 _ rfl
              have j5 := celN HR0.out.p 5 _ rfl
              have kl := HR0.out.lr
              have jl := HR0.out.lp
              have x0 := HR0.out.x.c0
              have x1 := HR0.out.x.c1
              have x2 := HR0.out.x.c2
              have x3 := HR0.out.x.c3
              have x4 := HR0.out.x.c4
              have x5 := HR0.out.x.c5
              have x6 := HR0.out.x.c6
              have x7 := HR0.out.x.c7
              rw [E1.out] at x0
              rw [E2.out] at x1
              rw [E3.out] at x2
              rw [E4.out] at x6
              have xl := HR0.out.x.lt
              go_wp2_with fail
              refine Calls.mono (HH.out _ HR0.out.aft) ?_
              rintro e u1 ⟨rfl, hu⟩
              have HR1 : Hid (R3 w u1 b0 b1 b2 s a r p) := HR0.out.step hu
              clear hu
              clear k0 k1 k2 k3 k4 k5 k6 j0 j1 j2 j3 j4 j5 x0 x1 x2 x3 x4 x5 x6 x7 kl jl xl
              go_upto_region 11 with fail
              have HSB : Hid (R3 w u1.drew b0 b1 b2 s a r p) := HR1.out.drew
              refine wp_region_held (S := fun w9 => R3 w w9 b0 b1 b2 s a r p) (by kernel_rfl) ?_
              change wpAnyH _ _ _ _ _ _ _ _ (World.drew _)
              refine wpAnyH_take (i := 0) (v := .int .i64 (-1)) rfl (by kernel_rfl) (by kernel_rfl) (by kernel_rfl) (fun _ _ _ h => h) (Or.inl ⟨by kernel_rfl, fun w9 h9 => ?_⟩) HSB.out ?_
              · clear h9; go_simp
              refine wpAnyH_take (i := 1) (v := .bool false) rfl (by kernel_rfl) (by kernel_rfl) (by kernel_rfl) (fun _ _ _ h => h) (Or.inl ⟨by kernel_rfl, fun w9 h9 => ?_⟩) HSB.out ?_
              · clear h9; go_simp
              refine wpAnyH_take (i := 2) (v := .bool false) rfl (by kernel_rfl) (by kernel_rfl) (by kernel_rfl) (fun _ _ _ h => h) (Or.inl ⟨by kernel_rfl, fun w9 h9 => ?_⟩) HSB.out ?_
              · clear h9; go_simp
              refine wpAnyH_take (i := 3) (v := undef) rfl (by kernel_rfl) (by kernel_rfl) (by kernel_rfl) (fun _ _ _ h => h) (Or.inr ⟨by kernel_rfl, rfl⟩) HSB.out ?_
              refine wpAnyH_take (i := 4) (v := undef) rfl (by kernel_rfl) (by kernel_rfl) (by kernel_rfl) (fun _ _ _ h => h) (Or.inr ⟨by kernel_rfl, rfl⟩) HSB.out ?_
              refine wpAnyH_take (i := 5) (v := undef) rfl (by kernel_rfl) (by kernel_rfl) (by kernel_rfl) (fun _ _ _ h => h) (Or.inr ⟨by kernel_rfl, rfl⟩) HSB.out ?_
              refine wpAnyH_take (i := 6) (v := undef) rfl (by kernel_rfl) (by kernel_rfl) (by kernel_rfl) (fun _ _ _ h => h) (Or.inr ⟨by kernel_rfl, rfl⟩) HSB.out ?_
              refine wpAnyH_take (i := 7) (v := undef) rfl (by kernel_rfl) (by kernel_rfl) (by kernel_rfl) (fun _ _ _ h => h) (Or.inr ⟨by kernel_rfl, rfl⟩) HSB.out ?_
              refine wpAnyH_take (i := 8) (v := undef) rfl (by kernel_rfl) (by kernel_rfl) (by kernel_rfl) (fun _ _ _ h => h) (Or.inr ⟨by kernel_rfl, rfl⟩) HSB.out ?_
              refine wpAnyH_take (i := 9) (v := undef) rfl (by kernel_rfl) (by kernel_rfl) (by kernel_rfl) (fun _ _ _ h => h) (Or.inr ⟨by kernel_rfl, rfl⟩) HSB.out ?_
              refine wpAnyH_take (i := 10) (v := undef) rfl (by kernel_rfl) (by kernel_rfl) (by kernel_rfl) (fun _ _ _ h => h) (Or.inr ⟨by kernel_rfl, rfl⟩) HSB.out ?_
              refine wpAnyH_take (i := 11) (v := undef) rfl (by kernel_rfl) (by kernel_rfl) (by kernel_rfl) (fun _ _ _ h => h) (Or.inr ⟨by kernel_rfl, rfl⟩) HSB.out ?_
              refine wpAnyH_take (i := 12) (v := .bool false) rfl (by kernel_rfl) (by kernel_rfl) (by kernel_rfl) (fun _ _ _ h => h) (Or.inl ⟨by kernel_rfl, fun w9 h9 => ?_⟩) HSB.out ?_
              · clear h9; go_simp
              refine wpAnyH_take (i := 13) (v := .bool false) rfl (by kernel_rfl) (by kernel_rfl) (by kernel_rfl) (fun _ _ _ h => h) (Or.inl ⟨by kernel_rfl, fun w9 h9 => ?_⟩) HSB.out ?_
              · clear h9; go_simp
              refine wpAnyH_done (by kernel_rfl) ?_ _
              go_simp
              go_wp2
              go_ret
              exact ⟨ret_bool (by rw [E.out]; simp), HSB.out.bel⟩
            | some k =>
              obtain ⟨e1, hk⟩ := hAt_some hf
              rw [e1] at HH
              have hlt : k < s.hs.length := by simpa using hk
              have hkq : k < a.qhs.length := by rw [HQ.out]; exact hlt
              have HIG : Hid (igB s p.src r.group = s.hs[k].gs.any (fun z => r.group == z)) := (show igB s p.src r.group = _ by unfold igB; rw [hf]; simp only; rw [gdh hlt])
              rw [HIG.out] at E
              obtain ⟨p0, p1⟩ := HI.out.el k hkq hlt
              have lp := HLN.out.lhs.el k hlt
              obtain ⟨g2, o, cap2, hv, _, hg, hc⟩ := HRW.out.resolve_left (fun h => by rw [h.1] at hkq; simp at hkq)
              injection hv with hv1 hv2 hv3
              subst hv1 hv3
              have HD : Hid (∀ u c0 c1 c2, R3 w u c0 c1 c2 s a r p → u.cell? ⟨g2, o + k * 2 + 1, none⟩ = some a.qhs[k].groups ∧ g2 < u.heap.size) := fun u _ _ _ h3 => ⟨(hc.below h3.bel hg k hkq).2, Nat.lt_of_lt_of_le hg h3.bel.size⟩
              clear p0
              generalize s.hs[k] = pp at *
              generalize a.qhs[k].groups = y at *
              obtain ⟨ay, ky, rfl⟩ := p1.sl
              have HCT : Hid (∀ u c0 c1 c2, R3 w u c0 c1 c2 s a r p → Calls Try.prog 58 #[.slice ay pp.gs.length ky, .int .i64 r.group] u fun e w' => e = .returned (.bool (pp.gs.any (fun z => r.group == z))) ∧ w' = u) := fun u _ _ _ h3 => inInts_any (p1.below h3.bel) lp r.group
              generalize (pp.gs.any (fun z => r.group == z)) = RG at *
              have hk0 : (0 : Int) ≤ (k : Int) := by omega
              have hk1 : (k : Int) < (s.hs.length : Int) := by omega
              clear hf e1 hk hc hv2 p1 HIG
              go_enter Try.func38, Try.ntmps38
              go_upto_region 1 with fail
              generalize (((w.alloc (.cells #[.slice (some ⟨g2, o, none⟩) s.hs.length khs, .slice ags s.gs.length kgs, .slice afs s.fs.length kfs, .int .i64 s.pub, .int .i64 s.fst, .int .i64 s.lst, .slice acs s.cs.length kcs, .int .i64 s.time] 35)).alloc (.cells #[.bool r.inn, .int .i64 r.proto, .int .i64 r.addr, .int .i64 r.bits, .int .i64 r.low, .int .i64 r.high, .int .i64 r.group] 44)).alloc (.cells #[.int .i64 p.proto, .int .i64 p.src, .int .i64 p.sp, .int .i64 p.dst, .int .i64 p.dp, .int .i64 p.flags] 46)) = u0 at *
              generalize w.heap.size + 1 + 1 = b2 at *
              generalize w.heap.size + 1 = b1 at *
              generalize w.heap.size = b0 at *
              have k0 := celN HR0.out.r 0 _ rfl
              have k1 := celN HR0.out.r 1 _ rfl
              have k2 := celN HR0.out.r 2 _ rfl
              have k3 := celN HR0.out.r 3 _ rfl
              have k4 := celN HR0.out.r 4 _ rfl
              have k5 := celN HR0.out.r 5 _ rfl
              have k6 := celN HR0.out.r 6 _ rfl
              rw [HRI.out] at k0
              have j0 := celN HR0.out.p 0 _ rfl
              have j1 := celN HR0.out.p 1 _ rfl
              have j2 := celN HR0.out.p 2 _ rfl
              have j3 := celN HR0.out.p 3 _ rfl
              have j4 := celN HR0.out.p 4 _ rfl
              have j5 := celN HR0.out.p 5 _ rfl
              have kl := HR0.out.lr
              have jl := HR0.out.lp
              have x0 := HR0.out.x.c0
              have x1 := HR0.out.x.c1
              have x2 := HR0.out.x.c2
              have x3 := HR0.out.x.c3
              have x4 := HR0.out.x.c4
              have x5 := HR0.out.x.c5
              have x6 := HR0.out.x.c6
              have x7 := HR0.out.x.c7
              rw [E1.out] at x0
              rw [E2.out] at x1
              rw [E3.out] at x2
              rw [E4.out] at x6
              have xl := HR0.out.x.lt
              go_wp2_with fail
              refine Calls.mono (HH.out _ HR0.out.aft) ?_
              rintro e u1 ⟨rfl, hu⟩
              have HR1 : Hid (R3 w u1 b0 b1 b2 s a r p) := HR0.out.step hu
              clear hu
              clear k0 k1 k2 k3 k4 k5 k6 j0 j1 j2 j3 j4 j5 x0 x1 x2 x3 x4 x5 x6 x7 kl jl xl
              go_upto_region 11 with fail
              have HSB : Hid (R3 w u1.drew b0 b1 b2 s a r p) := HR1.out.drew
              refine wp_region_held (S := fun w9 => R3 w w9 b0 b1 b2 s a r p) (by kernel_rfl) ?_
              change wpAnyH _ _ _ _ _ _ _ _ (World.drew _)
              refine wpAnyH_take (i := 0) (v := .int .i64 (k : Int)) rfl (by kernel_rfl) (by kernel_rfl) (by kernel_rfl) (fun _ _ _ h => h) (Or.inl ⟨by kernel_rfl, fun w9 h9 => ?_⟩) HSB.out ?_
              · clear h9; go_simp
              refine wpAnyH_take (i := 1) (v := .bool true) rfl (by kernel_rfl) (by kernel_rfl) (by kernel_rfl) (fun _ _ _ h => h) (Or.inl ⟨by kernel_rfl, fun w9 h9 => ?_⟩) HSB.out ?_
              · clear h9; go_simp
              refine wpAnyH_take (i := 2) (v := .bool true) rfl (by kernel_rfl) (by kernel_rfl) (by kernel_rfl) (fun _ _ _ h => h) (Or.inl ⟨by kernel_rfl, fun w9 h9 => ?_⟩) HSB.out ?_
              · clear h9; go_simp
              refine wpAnyH_take (i := 3) (v := .pointer (some ⟨b0, 0, none⟩)) rfl (by kernel_rfl) (by kernel_rfl) (by kernel_rfl) (fun _ _ _ h => h) (Or.inl ⟨by kernel_rfl, fun w9 h9 => ?_⟩) HSB.out ?_
              · clear h9; go_simp
              refine wpAnyH_take (i := 4) (v := .slice (some ⟨g2, o, none⟩) s.hs.length khs) rfl (by kernel_rfl) (by kernel_rfl) (by kernel_rfl) (fun _ _ _ h => h) (Or.inl ⟨by kernel_rfl, fun w9 h9 => ?_⟩) HSB.out ?_
              · have k6 := celN h9.r 6 _ rfl; have kl := h9.lr; have x0 := h9.x.c0; rw [E1.out] at x0; have xl := h9.x.lt; obtain ⟨d1, dl⟩ := HD.out _ _ _ _ h9; clear h9; go_simp
              refine wpAnyH_take (i := 5) (v := .int .i64 (k : Int)) rfl (by kernel_rfl) (by kernel_rfl) (by kernel_rfl) (fun _ _ _ h => h) (Or.inl ⟨by kernel_rfl, fun w9 h9 => ?_⟩) HSB.out ?_
              · clear h9; go_simp
              refine wpAnyH_take (i := 6) (v := .pointer (some ⟨g2, o + k * 2, none⟩)) rfl (by kernel_rfl) (by kernel_rfl) (by kernel_rfl) (fun _ _ _ h => h) (Or.inl ⟨by kernel_rfl, fun w9 h9 => ?_⟩) HSB.out ?_
              · clear h9; go_simp
              refine wpAnyH_take (i := 7) (v := .pointer (some ⟨g2, o + k * 2 + 1, none⟩)) rfl (by kernel_rfl) (by kernel_rfl) (by kernel_rfl) (fun _ _ _ h => h) (Or.inl ⟨by kernel_rfl, fun w9 h9 => ?_⟩) HSB.out ?_
              · clear h9; go_simp
              refine wpAnyH_take (i := 8) (v := .slice ay pp.gs.length ky) rfl (by kernel_rfl) (by kernel_rfl) (by kernel_rfl) (fun _ _ _ h => h) (Or.inl ⟨by kernel_rfl, fun w9 h9 => ?_⟩) HSB.out ?_
              · have k6 := celN h9.r 6 _ rfl; have kl := h9.lr; have x0 := h9.x.c0; rw [E1.out] at x0; have xl := h9.x.lt; obtain ⟨d1, dl⟩ := HD.out _ _ _ _ h9; clear h9; go_simp
              refine wpAnyH_take (i := 9) (v := .pointer (some ⟨b1, 6, none⟩)) rfl (by kernel_rfl) (by kernel_rfl) (by kernel_rfl) (fun _ _ _ h => h) (Or.inl ⟨by kernel_rfl, fun w9 h9 => ?_⟩) HSB.out ?_
              · clear h9; go_simp
              refine wpAnyH_take (i := 10) (v := .int .i64 r.group) rfl (by kernel_rfl) (by kernel_rfl) (by kernel_rfl) (fun _ _ _ h => h) (Or.inl ⟨by kernel_rfl, fun w9 h9 => ?_⟩) HSB.out ?_
              · have k6 := celN h9.r 6 _ rfl; have kl := h9.lr; have x0 := h9.x.c0; rw [E1.out] at x0; have xl := h9.x.lt; obtain ⟨d1, dl⟩ := HD.out _ _ _ _ h9; clear h9; go_simp
              refine held_one 11 (by kernel_rfl) rfl (by kernel_rfl) fun K hK => ?_
              go_simp
              go_wp2_with (go_at_call 58; refine Calls.mono (HCT.out _ _ _ _ HSB.out) ?_; rintro e9 u9 ⟨rfl, hw9⟩; rw [hw9]; clear hw9)
              refine hK _ _ HSB.out ?_
              clear hK K
              refine wpAnyH_take (i := 12) (v := .bool RG) rfl (by kernel_rfl) (by kernel_rfl) (by kernel_rfl) (fun _ _ _ h => h) (Or.inl ⟨by kernel_rfl, fun w9 h9 => ?_⟩) HSB.out ?_
              · clear h9; go_simp
              refine wpAnyH_take (i := 13) (v := .bool RG) rfl (by kernel_rfl) (by kernel_rfl) (by kernel_rfl) (fun _ _ _ h => h) (Or.inl ⟨by kernel_rfl, fun w9 h9 => ?_⟩) HSB.out ?_
              · clear h9; go_simp
              refine wpAnyH_done (by kernel_rfl) ?_ _
              go_simp
              go_wp2
              go_ret
              exact ⟨ret_bool (by rw [E.out]; simp), HSB.out.bel⟩
          · rw [hg] at E
            go_enter Try.func38, Try.ntmps38
            go_upto_region 1 with fail
            generalize (((w.alloc (.cells #[.slice ahs s.hs.length khs, .slice ags s.gs.length kgs, .slice afs s.fs.length kfs, .int .i64 s.pub, .int .i64 s.fst, .int .i64 s.lst, .slice acs s.cs.length kcs, .int .i64 s.time] 35)).alloc (.cells #[.bool r.inn, .int .i64 r.proto, .int .i64 r.addr, .int .i64 r.bits, .int .i64 r.low, .int .i64 r.high, .int .i64 r.group] 44)).alloc (.cells #[.int .i64 p.proto, .int .i64 p.src, .int .i64 p.sp, .int .i64 p.dst, .int .i64 p.dp, .int .i64 p.flags] 46)) = u0 at *
            generalize w.heap.size + 1 + 1 = b2 at *
            generalize w.heap.size + 1 = b1 at *
            generalize w.heap.size = b0 at *
            have k0 := celN HR0.out.r 0 _ rfl
            have k1 := celN HR0.out.r 1 _ rfl
            have k2 := celN HR0.out.r 2 _ rfl
            have k3 := celN HR0.out.r 3 _ rfl
            have k4 := celN HR0.out.r 4 _ rfl
            have k5 := celN HR0.out.r 5 _ rfl
            have k6 := celN HR0.out.r 6 _ rfl
            rw [HRI.out] at k0
            have j0 := celN HR0.out.p 0 _ rfl
            have j1 := celN HR0.out.p 1 _ rfl
            have j2 := celN HR0.out.p 2 _ rfl
            have j3 := celN HR0.out.p 3 _ rfl
            have j4 := celN HR0.out.p 4 _ rfl
            have j5 := celN HR0.out.p 5 _ rfl
            have kl := HR0.out.lr
            have jl := HR0.out.lp
            have x0 := HR0.out.x.c0
            have x1 := HR0.out.x.c1
            have x2 := HR0.out.x.c2
            have x3 := HR0.out.x.c3
            have x4 := HR0.out.x.c4
            have x5 := HR0.out.x.c5
            have x6 := HR0.out.x.c6
            have x7 := HR0.out.x.c7
            rw [E1.out] at x0
            rw [E2.out] at x1
            rw [E3.out] at x2
            rw [E4.out] at x6
            have xl := HR0.out.x.lt
            go_wp2
            go_ret
            exact ⟨ret_bool (by rw [E.out]; simp), HR0.out.bel⟩
        · rw [hb] at E
          cases hn : (p.src / 2 ^ n != r.addr / 2 ^ n)
          · rw [hn] at E
            cases hg : decide (r.group < 0)
            · rw [hg] at E
              cases hf : (s.hs.map (·.addr)).findIdx? (fun y => y == p.src) with
              | none =>
                rw [hAt_none hf] at HH
                have HIG : Hid (igB s p.src r.group = false) := (show igB s p.src r.group = false by unfold igB; rw [hf])
                rw [HIG.out] at E
                clear hf
                go_enter Try.func38, Try.ntmps38
                go_upto_region 1 with fail
                generalize (((w.alloc (.cells #[.slice ahs s.hs.length khs, .slice ags s.gs.length kgs, .slice afs s.fs.length kfs, .int .i64 s.pub, .int .i64 s.fst, .int .i64 s.lst, .slice acs s.cs.length kcs, .int .i64 s.time] 35)).alloc (.cells #[.bool r.inn, .int .i64 r.proto, .int .i64 r.addr, .int .i64 r.bits, .int .i64 r.low, .int .i64 r.high, .int .i64 r.group] 44)).alloc (.cells #[.int .i64 p.proto, .int .i64 p.src, .int .i64 p.sp, .int .i64 p.dst, .int .i64 p.dp, .int .i64 p.flags] 46)) = u0 at *
                generalize w.heap.size + 1 + 1 = b2 at *
                generalize w.heap.size + 1 = b1 at *
                generalize w.heap.size = b0 at *
                have k0 := celN HR0.out.r 0 _ rfl
                have k1 := celN HR0.out.r 1 _ rfl
                have k2 := celN HR0.out.r 2 _ rfl
                have k3 := celN HR0.out.r 3 _ rfl
                have k4 := celN HR0.out.r 4 _ rfl
                have k5 := celN HR0.out.r 5 _ rfl
                have k6 := celN HR0.out.r 6 _ rfl
                rw [HRI.out] at k0
                have j0 := celN HR0.out.p 0 _ rfl
                have j1 := celN HR0.out.p 1 _ rfl
                have j2 := celN HR0.out.p 2 _ rfl
                have j3 := celN HR0.out.p 3 _ rfl
                have j4 := celN HR0.out.p 4 _ rfl
                have j5 := celN HR0.out.p 5 _ rfl
                have kl := HR0.out.lr
                have jl := HR0.out.lp
                have x0 := HR0.out.x.c0
                have x1 := HR0.out.x.c1
                have x2 := HR0.out.x.c2
                have x3 := HR0.out.x.c3
                have x4 := HR0.out.x.c4
                have x5 := HR0.out.x.c5
                have x6 := HR0.out.x.c6
                have x7 := HR0.out.x.c7
                rw [E1.out] at x0
                rw [E2.out] at x1
                rw [E3.out] at x2
                rw [E4.out] at x6
                have xl := HR0.out.x.lt
                go_wp2_with fail
                refine Calls.mono (HH.out _ HR0.out.aft) ?_
                rintro e u1 ⟨rfl, hu⟩
                have HR1 : Hid (R3 w u1 b0 b1 b2 s a r p) := HR0.out.step hu
                clear hu
                clear k0 k1 k2 k3 k4 k5 k6 j0 j1 j2 j3 j4 j5 x0 x1 x2 x3 x4 x5 x6 x7 kl jl xl
                go_upto_region 11 with fail
                have HSB : Hid (R3 w u1.drew b0 b1 b2 s a r p) := HR1.out.drew
                refine wp_region_held (S := fun w9 => R3 w w9 b0 b1 b2 s a r p) (by kernel_rfl) ?_
                change wpAnyH _ _ _ _ _ _ _ _ (World.drew _)
                refine wpAnyH_take (i := 0) (v := .int .i64 (-1)) rfl (by kernel_rfl) (by kernel_rfl) (by kernel_rfl) (fun _ _ _ h => h) (Or.inl ⟨by kernel_rfl, fun w9 h9 => ?_⟩) HSB.out ?_
                · clear h9; go_simp
                refine wpAnyH_take (i := 1) (v := .bool false) rfl (by kernel_rfl) (by kernel_rfl) (by kernel_rfl) (fun _ _ _ h => h) (Or.inl ⟨by kernel_rfl, fun w9 h9 => ?_⟩) HSB.out ?_
                · clear h9; go_simp
                refine wpAnyH_take (i := 2) (v := .bool false) rfl (by kernel_rfl) (by kernel_rfl) (by kernel_rfl) (fun _ _ _ h => h) (Or.inl ⟨by kernel_rfl, fun w9 h9 => ?_⟩) HSB.out ?_
                · clear h9; go_simp
                refine wpAnyH_take (i := 3) (v := undef) rfl (by kernel_rfl) (by kernel_rfl) (by kernel_rfl) (fun _ _ _ h => h) (Or.inr ⟨by kernel_rfl, rfl⟩) HSB.out ?_
                refine wpAnyH_take (i := 4) (v := undef) rfl (by kernel_rfl) (by kernel_rfl) (by kernel_rfl) (fun _ _ _ h => h) (Or.inr ⟨by kernel_rfl, rfl⟩) HSB.out ?_
                refine wpAnyH_take (i := 5) (v := undef) rfl (by kernel_rfl) (by kernel_rfl) (by kernel_rfl) (fun _ _ _ h => h) (Or.inr ⟨by kernel_rfl, rfl⟩) HSB.out ?_
                refine wpAnyH_take (i := 6) (v := undef) rfl (by kernel_rfl) (by kernel_rfl) (by kernel_rfl) (fun _ _ _ h => h) (Or.inr ⟨by kernel_rfl, rfl⟩) HSB.out ?_
                refine wpAnyH_take (i := 7) (v := undef) rfl (by kernel_rfl) (by kernel_rfl) (by kernel_rfl) (fun _ _ _ h => h) (Or.inr ⟨by kernel_rfl, rfl⟩) HSB.out ?_
                refine wpAnyH_take (i := 8) (v := undef) rfl (by kernel_rfl) (by kernel_rfl) (by kernel_rfl) (fun _ _ _ h => h) (Or.inr ⟨by kernel_rfl, rfl⟩) HSB.out ?_
                refine wpAnyH_take (i := 9) (v := undef) rfl (by kernel_rfl) (by kernel_rfl) (by kernel_rfl) (fun _ _ _ h => h) (Or.inr ⟨by kernel_rfl, rfl⟩) HSB.out ?_
                refine wpAnyH_take (i := 10) (v := undef) rfl (by kernel_rfl) (by kernel_rfl) (by kernel_rfl) (fun _ _ _ h => h) (Or.inr ⟨by kernel_rfl, rfl⟩) HSB.out ?_
                refine wpAnyH_take (i := 11) (v := undef) rfl (by kernel_rfl) (by kernel_rfl) (by kernel_rfl) (fun _ _ _ h => h) (Or.inr ⟨by kernel_rfl, rfl⟩) HSB.out ?_
                refine wpAnyH_take (i := 12) (v := .bool false) rfl (by kernel_rfl) (by kernel_rfl) (by kernel_rfl) (fun _ _ _ h => h) (Or.inl ⟨by kernel_rfl, fun w9 h9 => ?_⟩) HSB.out ?_
                · clear h9; go_simp
                refine wpAnyH_take (i := 13) (v := .bool false) rfl (by kernel_rfl) (by kernel_rfl) (by kernel_rfl) (fun _ _ _ h => h) (Or.inl ⟨by kernel_rfl, fun w9 h9 => ?_⟩) HSB.out ?_
                · clear h9; go_simp
                refine wpAnyH_done (by kernel_rfl) ?_ _
                go_simp
                go_wp2
                go_ret
                exact ⟨ret_bool (by rw [E.out]; simp), HSB.out.bel⟩
              | some k =>
                obtain ⟨e1, hk⟩ := hAt_some hf
                rw [e1] at HH
                have hlt : k < s.hs.length := by simpa using hk
                have hkq : k < a.qhs.length := by rw [HQ.out]; exact hlt
                have HIG : Hid (igB s p.src r.group = s.hs[k].gs.any (fun z => r.group == z)) := (show igB s p.src r.group = _ by unfold igB; rw [hf]; simp only; rw [gdh hlt])
                rw [HIG.out] at E
                obtain ⟨p0, p1⟩ := HI.out.el k hkq hlt
                have lp := HLN.out.lhs.el k hlt
                obtain ⟨g2, o, cap2, hv, _, hg, hc⟩ := HRW.out.resolve_left (fun h => by rw [h.1] at hkq; simp at hkq)
                injection hv with hv1 hv2 hv3
                subst hv1 hv3
                have HD : Hid (∀ u c0 c1 c2, R3 w u c0 c1 c2 s a r p → u.cell? ⟨g2, o + k * 2 + 1, none⟩ = some a.qhs[k].groups ∧ g2 < u.heap.size) := fun u _ _ _ h3 => ⟨(hc.below h3.bel hg k hkq).2, Nat.lt_of_lt_of_le hg h3.bel.size⟩
                clear p0
                generalize s.hs[k] = pp at *
                generalize a.qhs[k].groups = y at *
                obtain ⟨ay, ky, rfl⟩ := p1.sl
                have HCT : Hid (∀ u c0 c1 c2, R3 w u c0 c1 c2 s a r p → Calls Try.prog 58 #[.slice ay pp.gs.length ky, .int .i64 r.group] u fun e w' => e = .returned (.bool (pp.gs.any (fun z => r.group == z))) ∧ w' = u) := fun u _ _ _ h3 => inInts_any (p1.below h3.bel) lp r.group
                generalize (pp.gs.any (fun z => r.group == z)) = RG at *
                have hk0 : (0 : Int) ≤ (k : Int) := by omega
                have hk1 : (k : Int) < (s.hs.length : Int) := by omega
                clear hf e1 hk hc hv2 p1 HIG
                go_enter Try.func38, Try.ntmps38
                go_upto_region 1 with fail
                generalize (((w.alloc (.cells #[.slice (some ⟨g2, o, none⟩) s.hs.length khs, .slice ags s.gs.length kgs, .slice afs s.fs.length kfs, .int .i64 s.pub, .int .i64 s.fst, .int .i64 s.lst, .slice acs s.cs.length kcs, .int .i64 s.time] 35)).alloc (.cells #[.bool r.inn, .int .i64 r.proto, .int .i64 r.addr, .int .i64 r.bits, .int .i64 r.low, .int .i64 r.high, .int .i64 r.group] 44)).alloc (.cells #[.int .i64 p.proto, .int .i64 p.src, .int .i64 p.sp, .int .i64 p.dst, .int .i64 p.dp, .int .i64 p.flags] 46)) = u0 at *
                generalize w.heap.size + 1 + 1 = b2 at *
                generalize w.heap.size + 1 = b1 at *
                generalize w.heap.size = b0 at *
                have k0 := celN HR0.out.r 0 _ rfl
                have k1 := celN HR0.out.r 1 _ rfl
                have k2 := celN HR0.out.r 2 _ rfl
                have k3 := celN HR0.out.r 3 _ rfl
                have k4 := celN HR0.out.r 4 _ rfl
                have k5 := celN HR0.out.r 5 _ rfl
                have k6 := celN HR0.out.r 6 _ rfl
                rw [HRI.out] at k0
                have j0 := celN HR0.out.p 0 _ rfl
                have j1 := celN HR0.out.p 1 _ rfl
                have j2 := celN HR0.out.p 2 _ rfl
                have j3 := celN HR0.out.p 3 _ rfl
                have j4 := celN HR0.out.p 4 _ rfl
                have j5 := celN HR0.out.p 5 _ rfl
                have kl := HR0.out.lr
                have jl := HR0.out.lp
                have x0 := HR0.out.x.c0
                have x1 := HR0.out.x.c1
                have x2 := HR0.out.x.c2
                have x3 := HR0.out.x.c3
                have x4 := HR0.out.x.c4
                have x5 := HR0.out.x.c5
                have x6 := HR0.out.x.c6
                have x7 := HR0.out.x.c7
                rw [E1.out] at x0
                rw [E2.out] at x1
                rw [E3.out] at x2
                rw [E4.out] at x6
                have xl := HR0.out.x.lt
                go_wp2_with fail
                refine Calls.mono (HH.out _ HR0.out.aft) ?_
                rintro e u1 ⟨rfl, hu⟩
                have HR1 : Hid (R3 w u1 b0 b1 b2 s a r p) := HR0.out.step hu
                clear hu
                clear k0 k1 k2 k3 k4 k5 k6 j0 j1 j2 j3 j4 j5 x0 x1 x2 x3 x4 x5 x6 x7 kl jl xl
                go_upto_region 11 with fail
                have HSB : Hid (R3 w u1.drew b0 b1 b2 s a r p) := HR1.out.drew
                refine wp_region_held (S := fun w9 => R3 w w9 b0 b1 b2 s a r p) (by kernel_rfl) ?_
                change wpAnyH _ _ _ _ _ _ _ _ (World.drew _)
                refine wpAnyH_take (i := 0) (v := .int .i64 (k : Int)) rfl (by kernel_rfl) (by kernel_rfl) (by kernel_rfl) (fun _ _ _ h => h) (Or.inl ⟨by kernel_rfl, fun w9 h9 => ?_⟩) HSB.out ?_
                · clear h9; go_simp
                refine wpAnyH_take (i := 1) (v := .bool true) rfl (by kernel_rfl) (by kernel_rfl) (by kernel_rfl) (fun _ _ _ h => h) (Or.inl ⟨by kernel_rfl, fun w9 h9 => ?_⟩) HSB.out ?_
                · clear h9; go_simp
                refine wpAnyH_take (i := 2) (v := .bool true) rfl (by kernel_rfl) (by kernel_rfl) (by kernel_rfl) (fun _ _ _ h => h) (Or.inl ⟨by kernel_rfl, fun w9 h9 => ?_⟩) HSB.out ?_
                · clear h9; go_simp
                refine wpAnyH_take (i := 3) (v := .pointer (some ⟨b0, 0, none⟩)) rfl (by kernel_rfl) (by kernel_rfl) (by kernel_rfl) (fun _ _ _ h => h) (Or.inl ⟨by kernel_rfl, fun w9 h9 => ?_⟩) HSB.out ?_
                · clear h9; go_simp
                refine wpAnyH_take (i := 4) (v := .slice (some ⟨g2, o, none⟩) s.hs.length khs) rfl (by kernel_rfl) (by kernel_rfl) (by kernel_rfl) (fun _ _ _ h => h) (Or.inl ⟨by kernel_rfl, fun w9 h9 => ?_⟩) HSB.out ?_
                · have k6 := celN h9.r 6 _ rfl; have kl := h9.lr; have x0 := h9.x.c0; rw [E1.out] at x0; have xl := h9.x.lt; obtain ⟨d1, dl⟩ := HD.out _ _ _ _ h9; clear h9; go_simp
                refine wpAnyH_take (i := 5) (v := .int .i64 (k : Int)) rfl (by kernel_rfl) (by kernel_rfl) (by kernel_rfl) (fun _ _ _ h => h) (Or.inl ⟨by kernel_rfl, fun w9 h9 => ?_⟩) HSB.out ?_
                · clear h9; go_simp
                refine wpAnyH_take (i := 6) (v := .pointer (some ⟨g2, o + k * 2, none⟩)) rfl (by kernel_rfl) (by kernel_rfl) (by kernel_rfl) (fun _ _ _ h => h) (Or.inl ⟨by kernel_rfl, fun w9 h9 => ?_⟩) HSB.out ?_
                · clear h9; go_simp
                refine wpAnyH_take (i := 7) (v := .pointer (some ⟨g2, o + k * 2 + 1, none⟩)) rfl (by kernel_rfl) (by kernel_rfl) (by kernel_rfl) (fun _ _ _ h => h) (Or.inl ⟨by kernel_rfl, fun w9 h9 => ?_⟩) HSB.out ?_
                · clear h9; go_simp
                refine wpAnyH_take (i := 8) (v := .slice ay pp.gs.length ky) rfl (by kernel_rfl) (by kernel_rfl) (by kernel_rfl) (fun _ _ _ h => h) (Or.inl ⟨by kernel_rfl, fun w9 h9 => ?_⟩) HSB.out ?_
                · have k6 := celN h9.r 6 _ rfl; have kl := h9.lr; have x0 := h9.x.c0; rw [E1.out] at x0; have xl := h9.x.lt; obtain ⟨d1, dl⟩ := HD.out _ _ _ _ h9; clear h9; go_simp
                refine wpAnyH_take (i := 9) (v := .pointer (some ⟨b1, 6, none⟩)) rfl (by kernel_rfl) (by kernel_rfl) (by kernel_rfl) (fun _ _ _ h => h) (Or.inl ⟨by kernel_rfl, fun w9 h9 => ?_⟩) HSB.out ?_
                · clear h9; go_simp
                refine wpAnyH_take (i := 10) (v := .int .i64 r.group) rfl (by kernel_rfl) (by kernel_rfl) (by kernel_rfl) (fun _ _ _ h => h) (Or.inl ⟨by kernel_rfl, fun w9 h9 => ?_⟩) HSB.out ?_
                · have k6 := celN h9.r 6 _ rfl; have kl := h9.lr; have x0 := h9.x.c0; rw [E1.out] at x0; have xl := h9.x.lt; obtain ⟨d1, dl⟩ := HD.out _ _ _ _ h9; clear h9; go_simp
                refine held_one 11 (by kernel_rfl) rfl (by kernel_rfl) fun K hK => ?_
                go_simp
                go_wp2_with (go_at_call 58; refine Calls.mono (HCT.out _ _ _ _ HSB.out) ?_; rintro e9 u9 ⟨rfl, hw9⟩; rw [hw9]; clear hw9)
                refine hK _ _ HSB.out ?_
                clear hK K
                refine wpAnyH_take (i := 12) (v := .bool RG) rfl (by kernel_rfl) (by kernel_rfl) (by kernel_rfl) (fun _ _ _ h => h) (Or.inl ⟨by kernel_rfl, fun w9 h9 => ?_⟩) HSB.out ?_
                · clear h9; go_simp
                refine wpAnyH_take (i := 13) (v := .bool RG) rfl (by kernel_rfl) (by kernel_rfl) (by kernel_rfl) (fun _ _ _ h => h) (Or.inl ⟨by kernel_rfl, fun w9 h9 => ?_⟩) HSB.out ?_
                · clear h9; go_simp
                refine wpAnyH_done (by kernel_rfl) ?_ _
                go_simp
                go_wp2
                go_ret
                exact ⟨ret_bool (by rw [E.out]; simp), HSB.out.bel⟩
            · rw [hg] at E
              go_enter Try.func38, Try.ntmps38
              go_upto_region 1 with fail
              generalize (((w.alloc (.cells #[.slice ahs s.hs.length khs, .slice ags s.gs.length kgs, .slice afs s.fs.length kfs, .int .i64 s.pub, .int .i64 s.fst, .int .i64 s.lst, .slice acs s.cs.length kcs, .int .i64 s.time] 35)).alloc (.cells #[.bool r.inn, .int .i64 r.proto, .int .i64 r.addr, .int .i64 r.bits, .int .i64 r.low, .int .i64 r.high, .int .i64 r.group] 44)).alloc (.cells #[.int .i64 p.proto, .int .i64 p.src, .int .i64 p.sp, .int .i64 p.dst, .int .i64 p.dp, .int .i64 p.flags] 46)) = u0 at *
              generalize w.heap.size + 1 + 1 = b2 at *
              generalize w.heap.size + 1 = b1 at *
              generalize w.heap.size = b0 at *
              have k0 := celN HR0.out.r 0 _ rfl
              have k1 := celN HR0.out.r 1 _ rfl
              have k2 := celN HR0.out.r 2 _ rfl
              have k3 := celN HR0.out.r 3 _ rfl
              have k4 := celN HR0.out.r 4 _ rfl
              have k5 := celN HR0.out.r 5 _ rfl
              have k6 := celN HR0.out.r 6 _ rfl
              rw [HRI.out] at k0
              have j0 := celN HR0.out.p 0 _ rfl
              have j1 := celN HR0.out.p 1 _ rfl
              have j2 := celN HR0.out.p 2 _ rfl
              have j3 := celN HR0.out.p 3 _ rfl
              have j4 := celN HR0.out.p 4 _ rfl
              have j5 := celN HR0.out.p 5 _ rfl
              have kl := HR0.out.lr
              have jl := HR0.out.lp
              have x0 := HR0.out.x.c0
              have x1 := HR0.out.x.c1
              have x2 := HR0.out.x.c2
              have x3 := HR0.out.x.c3
              have x4 := HR0.out.x.c4
              have x5 := HR0.out.x.c5
              have x6 := HR0.out.x.c6
              have x7 := HR0.out.x.c7
              rw [E1.out] at x0
              rw [E2.out] at x1
              rw [E3.out] at x2
              rw [E4.out] at x6
              have xl := HR0.out.x.lt
              go_wp2
              go_ret
              exact ⟨ret_bool (by rw [E.out]; simp), HR0.out.bel⟩
          · rw [hn] at E
            go_enter Try.func38, Try.ntmps38
            go_upto_region 1 with fail
            generalize (((w.alloc (.cells #[.slice ahs s.hs.length khs, .slice ags s.gs.length kgs, .slice afs s.fs.length kfs, .int .i64 s.pub, .int .i64 s.fst, .int .i64 s.lst, .slice acs s.cs.length kcs, .int .i64 s.time] 35)).alloc (.cells #[.bool r.inn, .int .i64 r.proto, .int .i64 r.addr, .int .i64 r.bits, .int .i64 r.low, .int .i64 r.high, .int .i64 r.group] 44)).alloc (.cells #[.int .i64 p.proto, .int .i64 p.src, .int .i64 p.sp, .int .i64 p.dst, .int .i64 p.dp, .int .i64 p.flags] 46)) = u0 at *
            generalize w.heap.size + 1 + 1 = b2 at *
            generalize w.heap.size + 1 = b1 at *
            generalize w.heap.size = b0 at *
            have k0 := celN HR0.out.r 0 _ rfl
            have k1 := celN HR0.out.r 1 _ rfl
            have k2 := celN HR0.out.r 2 _ rfl
            have k3 := celN HR0.out.r 3 _ rfl
            have k4 := celN HR0.out.r 4 _ rfl
            have k5 := celN HR0.out.r 5 _ rfl
            have k6 := celN HR0.out.r 6 _ rfl
            rw [HRI.out] at k0
            have j0 := celN HR0.out.p 0 _ rfl
            have j1 := celN HR0.out.p 1 _ rfl
            have j2 := celN HR0.out.p 2 _ rfl
            have j3 := celN HR0.out.p 3 _ rfl
            have j4 := celN HR0.out.p 4 _ rfl
            have j5 := celN HR0.out.p 5 _ rfl
            have kl := HR0.out.lr
            have jl := HR0.out.lp
            have x0 := HR0.out.x.c0
            have x1 := HR0.out.x.c1
            have x2 := HR0.out.x.c2
            have x3 := HR0.out.x.c3
            have x4 := HR0.out.x.c4
            have x5 := HR0.out.x.c5
            have x6 := HR0.out.x.c6
            have x7 := HR0.out.x.c7
            rw [E1.out] at x0
            rw [E2.out] at x1
            rw [E3.out] at x2
            rw [E4.out] at x6
            have xl := HR0.out.x.lt
            go_wp2
            go_ret
            exact ⟨ret_bool (by rw [E.out]; simp), HR0.out.bel⟩
      · rw [hd] at E
        cases hl : decide (p.dp < r.low)
        · rw [hl] at E
          cases hh : decide (r.high < p.dp)
          · rw [hh] at E
            cases hb : decide (0 < r.bits)
            · rw [hb] at E
              cases hg : decide (r.group < 0)
              · rw [hg] at E
                cases hf : (s.hs.map (·.addr)).findIdx? (fun y => y == p.src) with
                | none =>
                  rw [hAt_none hf] at HH
                  have HIG : Hid (igB s p.src r.group = false) := (show igB s p.src r.group = false by unfold igB; rw [hf])
                  rw [HIG.out] at E
                  clear hf
                  go_enter Try.func38, Try.ntmps38
                  go_upto_region 1 with fail
                  generalize (((w.alloc (.cells #[.slice ahs s.hs.length khs, .slice ags s.gs.length kgs, .slice afs s.fs.length kfs, .int .i64 s.pub, .int .i64 s.fst, .int .i64 s.lst, .slice acs s.cs.length kcs, .int .i64 s.time] 35)).alloc (.cells #[.bool r.inn, .int .i64 r.proto, .int .i64 r.addr, .int .i64 r.bits, .int .i64 r.low, .int .i64 r.high, .int .i64 r.group] 44)).alloc (.cells #[.int .i64 p.proto, .int .i64 p.src, .int .i64 p.sp, .int .i64 p.dst, .int .i64 p.dp, .int .i64 p.flags] 46)) = u0 at *
                  generalize w.heap.size + 1 + 1 = b2 at *
                  generalize w.heap.size + 1 = b1 at *
                  generalize w.heap.size = b0 at *
                  have k0 := celN HR0.out.r 0 _ rfl
                  have k1 := celN HR0.out.r 1 _ rfl
                  have k2 := celN HR0.out.r 2 _ rfl
                  have k3 := celN HR0.out.r 3 _ rfl
                  have k4 := celN HR0.out.r 4 _ rfl
                  have k5 := celN HR0.out.r 5 _ rfl
                  have k6 := celN HR0.out.r 6 _ rfl
                  rw [HRI.out] at k0
                  have j0 := celN HR0.out.p 0 _ rfl
                  have j1 := celN HR0.out.p 1 _ rfl
                  have j2 := celN HR0.out.p 2 _ rfl
                  have j3 := celN HR0.out.p 3 _ rfl
                  have j4 := celN HR0.out.p 4 _ rfl
                  have j5 := celN HR0.out.p 5 _ rfl
                  have kl := HR0.out.lr
                  have jl := HR0.out.lp
                  have x0 := HR0.out.x.c0
                  have x1 := HR0.out.x.c1
                  have x2 := HR0.out.x.c2
                  have x3 := HR0.out.x.c3
                  have x4 := HR0.out.x.c4
                  have x5 := HR0.out.x.c5
                  have x6 := HR0.out.x.c6
                  have x7 := HR0.out.x.c7
                  rw [E1.out] at x0
                  rw [E2.out] at x1
                  rw [E3.out] at x2
                  rw [E4.out] at x6
                  have xl := HR0.out.x.lt
                  go_wp2_with fail
                  refine Calls.mono (HH.out _ HR0.out.aft) ?_
                  rintro e u1 ⟨rfl, hu⟩
                  have HR1 : Hid (R3 w u1 b0 b1 b2 s a r p) := HR0.out.step hu
                  clear hu
                  clear k0 k1 k2 k3 k4 k5 k6 j0 j1 j2 j3 j4 j5 x0 x1 x2 x3 x4 x5 x6 x7 kl jl xl
                  go_upto_region 11 with fail
                  have HSB : Hid (R3 w u1.drew b0 b1 b2 s a r p) := HR1.out.drew
                  refine wp_region_held (S := fun w9 => R3 w w9 b0 b1 b2 s a r p) (by kernel_rfl) ?_
                  change wpAnyH _ _ _ _ _ _ _ _ (World.drew _)
                  refine wpAnyH_take (i := 0) (v := .int .i64 (-1)) rfl (by kernel_rfl) (by kernel_rfl) (by kernel_rfl) (fun _ _ _ h => h) (Or.inl ⟨by kernel_rfl, fun w9 h9 => ?_⟩) HSB.out ?_
                  · clear h9; go_simp
                  refine wpAnyH_take (i := 1) (v := .bool false) rfl (by kernel_rfl) (by kernel_rfl) (by kernel_rfl) (fun _ _ _ h => h) (Or.inl ⟨by kernel_rfl, fun w9 h9 => ?_⟩) HSB.out ?_
                  · clear h9; go_simp
                  refine wpAnyH_take (i := 2) (v := .bool false) rfl (by kernel_rfl) (by kernel_rfl) (by kernel_rfl) (fun _ _ _ h => h) (Or.inl ⟨by kernel_rfl, fun w9 h9 => ?_⟩) HSB.out ?_
                  · clear h9; go_simp
                  refine wpAnyH_take (i := 3) (v := undef) rfl (by kernel_rfl) (by kernel_rfl) (by kernel_rfl) (fun _ _ _ h => h) (Or.inr ⟨by kernel_rfl, rfl⟩) HSB.out ?_
                  refine wpAnyH_take (i := 4) (v := undef) rfl (by kernel_rfl) (by kernel_rfl) (by kernel_rfl) (fun _ _ _ h => h) (Or.inr ⟨by kernel_rfl, rfl⟩) HSB.out ?_
                  refine wpAnyH_take (i := 5) (v := undef) rfl (by kernel_rfl) (by kernel_rfl) (by kernel_rfl) (fun _ _ _ h => h) (Or.inr ⟨by kernel_rfl, rfl⟩) HSB.out ?_
                  refine wpAnyH_take (i := 6) (v := undef) rfl (by kernel_rfl) (by kernel_rfl) (by kernel_rfl) (fun _ _ _ h => h) (Or.inr ⟨by kernel_rfl, rfl⟩) HSB.out ?_
                  refine wpAnyH_take (i := 7) (v := undef) rfl (by kernel_rfl) (by kernel_rfl) (by kernel_rfl) (fun _ _ _ h => h) (Or.inr ⟨by kernel_rfl, rfl⟩) HSB.out ?_
                  refine wpAnyH_take (i := 8) (v := undef) rfl (by kernel_rfl) (by kernel_rfl) (by kernel_rfl) (fun _ _ _ h => h) (Or.inr ⟨by kernel_rfl, rfl⟩) HSB.out ?_
                  refine wpAnyH_take (i := 9) (v := undef) rfl (by kernel_rfl) (by kernel_rfl) (by kernel_rfl) (fun _ _ _ h => h) (Or.inr ⟨by kernel_rfl, rfl⟩) HSB.out ?_
                  refine wpAnyH_take (i := 10) (v := undef) rfl (by kernel_rfl) (by kernel_rfl) (by kernel_rfl) (fun _ _ _ h => h) (Or.inr ⟨by kernel_rfl, rfl⟩) HSB.out ?_
                  refine wpAnyH_take (i := 11) (v := undef) rfl (by kernel_rfl) (by kernel_rfl) (by kernel_rfl) (fun _ _ _ h => h) (Or.inr ⟨by kernel_rfl, rfl⟩) HSB.out ?_
                  refine wpAnyH_take (i := 12) (v := .bool false) rfl (by kernel_rfl) (by kernel_rfl) (by kernel_rfl) (fun _ _ _ h => h) (Or.inl ⟨by kernel_rfl, fun w9 h9 => ?_⟩) HSB.out ?_
                  · clear h9; go_simp
                  refine wpAnyH_take (i := 13) (v := .bool false) rfl (by kernel_rfl) (by kernel_rfl) (by kernel_rfl) (fun _ _ _ h => h) (Or.inl ⟨by kernel_rfl, fun w9 h9 => ?_⟩) HSB.out ?_
                  · clear h9; go_simp
                  refine wpAnyH_done (by kernel_rfl) ?_ _
                  go_simp
                  go_wp2
                  go_ret
                  exact ⟨ret_bool (by rw [E.out]; simp), HSB.out.bel⟩
                | some k =>
                  obtain ⟨e1, hk⟩ := hAt_some hf
                  rw [e1] at HH
                  have hlt : k < s.hs.length := by simpa using hk
                  have hkq : k < a.qhs.length := by rw [HQ.out]; exact hlt
                  have HIG : Hid (igB s p.src r.group = s.hs[k].gs.any (fun z => r.group == z)) := (show igB s p.src r.group = _ by unfold igB; rw [hf]; simp only; rw [gdh hlt])
                  rw [HIG.out] at E
                  obtain ⟨p0, p1⟩ := HI.out.el k hkq hlt
                  have lp := HLN.out.lhs.el k hlt
                  obtain ⟨g2, o, cap2, hv, _, hg, hc⟩ := HRW.out.resolve_left (fun h => by rw [h.1] at hkq; simp at hkq)
                  injection hv with hv1 hv2 hv3
                  subst hv1 hv3
                  have HD : Hid (∀ u c0 c1 c2, R3 w u c0 c1 c2 s a r p → u.cell? ⟨g2, o + k * 2 + 1, none⟩ = some a.qhs[k].groups ∧ g2 < u.heap.size) := fun u _ _ _ h3 => ⟨(hc.below h3.bel hg k hkq).2, Nat.lt_of_lt_of_le hg h3.bel.size⟩
                  clear p0
                  generalize s.hs[k] = pp at *
                  generalize a.qhs[k].groups = y at *
                  obtain ⟨ay, ky, rfl⟩ := p1.sl
                  have HCT : Hid (∀ u c0 c1 c2, R3 w u c0 c1 c2 s a r p → Calls Try.prog 58 #[.slice ay pp.gs.length ky, .int .i64 r.group] u fun e w' => e = .returned (.bool (pp.gs.any (fun z => r.group == z))) ∧ w' = u) := fun u _ _ _ h3 => inInts_any (p1.below h3.bel) lp r.group
                  generalize (pp.gs.any (fun z => r.group == z)) = RG at *
                  have hk0 : (0 : Int) ≤ (k : Int) := by omega
                  have hk1 : (k : Int) < (s.hs.length : Int) := by omega
                  clear hf e1 hk hc hv2 p1 HIG
                  go_enter Try.func38, Try.ntmps38
                  go_upto_region 1 with fail
                  generalize (((w.alloc (.cells #[.slice (some ⟨g2, o, none⟩) s.hs.length khs, .slice ags s.gs.length kgs, .slice afs s.fs.length kfs, .int .i64 s.pub, .int .i64 s.fst, .int .i64 s.lst, .slice acs s.cs.length kcs, .int .i64 s.time] 35)).alloc (.cells #[.bool r.inn, .int .i64 r.proto, .int .i64 r.addr, .int .i64 r.bits, .int .i64 r.low, .int .i64 r.high, .int .i64 r.group] 44)).alloc (.cells #[.int .i64 p.proto, .int .i64 p.src, .int .i64 p.sp, .int .i64 p.dst, .int .i64 p.dp, .int .i64 p.flags] 46)) = u0 at *
                  generalize w.heap.size + 1 + 1 = b2 at *
                  generalize w.heap.size + 1 = b1 at *
                  generalize w.heap.size = b0 at *
                  have k0 := celN HR0.out.r 0 _ rfl
                  have k1 := celN HR0.out.r 1 _ rfl
                  have k2 := celN HR0.out.r 2 _ rfl
                  have k3 := celN HR0.out.r 3 _ rfl
                  have k4 := celN HR0.out.r 4 _ rfl
                  have k5 := celN HR0.out.r 5 _ rfl
                  have k6 := celN HR0.out.r 6 _ rfl
                  rw [HRI.out] at k0
                  have j0 := celN HR0.out.p 0 _ rfl
                  have j1 := celN HR0.out.p 1 _ rfl
                  have j2 := celN HR0.out.p 2 _ rfl
                  have j3 := celN HR0.out.p 3 _ rfl
                  have j4 := celN HR0.out.p 4 _ rfl
                  have j5 := celN HR0.out.p 5 _ rfl
                  have kl := HR0.out.lr
                  have jl := HR0.out.lp
                  have x0 := HR0.out.x.c0
                  have x1 := HR0.out.x.c1
                  have x2 := HR0.out.x.c2
                  have x3 := HR0.out.x.c3
                  have x4 := HR0.out.x.c4
                  have x5 := HR0.out.x.c5
                  have x6 := HR0.out.x.c6
                  have x7 := HR0.out.x.c7
                  rw [E1.out] at x0
                  rw [E2.out] at x1
                  rw [E3.out] at x2
                  rw [E4.out] at x6
                  have xl := HR0.out.x.lt
                  go_wp2_with fail
                  refine Calls.mono (HH.out _ HR0.out.aft) ?_
                  rintro e u1 ⟨rfl, hu⟩
                  have HR1 : Hid (R3 w u1 b0 b1 b2 s a r p) := HR0.out.step hu
                  clear hu
                  clear k0 k1 k2 k3 k4 k5 k6 j0 j1 j2 j3 j4 j5 x0 x1 x2 x3 x4 x5 x6 x7 kl jl xl
                  go_upto_region 11 with fail
                  have HSB : Hid (R3 w u1.drew b0 b1 b2 s a r p) := HR1.out.drew
                  refine wp_region_held (S := fun w9 => R3 w w9 b0 b1 b2 s a r p) (by kernel_rfl) ?_
                  change wpAnyH _ _ _ _ _ _ _ _ (World.drew _)
                  refine wpAnyH_take (i := 0) (v := .int .i64 (k : Int)) rfl (by kernel_rfl) (by kernel_rfl) (by kernel_rfl) (fun _ _ _ h => h) (Or.inl ⟨by kernel_rfl, fun w9 h9 => ?_⟩) HSB.out ?_
                  · clear h9; go_simp
                  refine wpAnyH_take (i := 1) (v := .bool true) rfl (by kernel_rfl) (by kernel_rfl) (by kernel_rfl) (fun _ _ _ h => h) (Or.inl ⟨by kernel_rfl, fun w9 h9 => ?_⟩) HSB.out ?_
                  · clear h9; go_simp
                  refine wpAnyH_take (i := 2) (v := .bool true) rfl (by kernel_rfl) (by kernel_rfl) (by kernel_rfl) (fun _ _ _ h => h) (Or.inl ⟨by kernel_rfl, fun w9 h9 => ?_⟩) HSB.out ?_
                  · clear h9; go_simp
                  refine wpAnyH_take (i := 3) (v := .pointer (some ⟨b0, 0, none⟩)) rfl (by kernel_rfl) (by kernel_rfl) (by kernel_rfl) (fun _ _ _ h => h) (Or.inl ⟨by kernel_rfl, fun w9 h9 => ?_⟩) HSB.out ?_
                  · clear h9; go_simp
                  refine wpAnyH_take (i := 4) (v := .slice (some ⟨g2, o, none⟩) s.hs.length khs) rfl (by kernel_rfl) (by kernel_rfl) (by kernel_rfl) (fun _ _ _ h => h) (Or.inl ⟨by kernel_rfl, fun w9 h9 => ?_⟩) HSB.out ?_
                  · have k6 := celN h9.r 6 _ rfl; have kl := h9.lr; have x0 := h9.x.c0; rw [E1.out] at x0; have xl := h9.x.lt; obtain ⟨d1, dl⟩ := HD.out _ _ _ _ h9; clear h9; go_simp
                  refine wpAnyH_take (i := 5) (v := .int .i64 (k : Int)) rfl (by kernel_rfl) (by kernel_rfl) (by kernel_rfl) (fun _ _ _ h => h) (Or.inl ⟨by kernel_rfl, fun w9 h9 => ?_⟩) HSB.out ?_
                  · clear h9; go_simp
                  refine wpAnyH_take (i := 6) (v := .pointer (some ⟨g2, o + k * 2, none⟩)) rfl (by kernel_rfl) (by kernel_rfl) (by kernel_rfl) (fun _ _ _ h => h) (Or.inl ⟨by kernel_rfl, fun w9 h9 => ?_⟩) HSB.out ?_
                  · clear h9; go_simp
                  refine wpAnyH_take (i := 7) (v := .pointer (some ⟨g2, o + k * 2 + 1, none⟩)) rfl (by kernel_rfl) (by kernel_rfl) (by kernel_rfl) (fun _ _ _ h => h) (Or.inl ⟨by kernel_rfl, fun w9 h9 => ?_⟩) HSB.out ?_
                  · clear h9; go_simp
                  refine wpAnyH_take (i := 8) (v := .slice ay pp.gs.length ky) rfl (by kernel_rfl) (by kernel_rfl) (by kernel_rfl) (fun _ _ _ h => h) (Or.inl ⟨by kernel_rfl, fun w9 h9 => ?_⟩) HSB.out ?_
                  · have k6 := celN h9.r 6 _ rfl; have kl := h9.lr; have x0 := h9.x.c0; rw [E1.out] at x0; have xl := h9.x.lt; obtain ⟨d1, dl⟩ := HD.out _ _ _ _ h9; clear h9; go_simp
                  refine wpAnyH_take (i := 9) (v := .pointer (some ⟨b1, 6, none⟩)) rfl (by kernel_rfl) (by kernel_rfl) (by kernel_rfl) (fun _ _ _ h => h) (Or.inl ⟨by kernel_rfl, fun w9 h9 => ?_⟩) HSB.out ?_
                  · clear h9; go_simp
                  refine wpAnyH_take (i := 10) (v := .int .i64 r.group) rfl (by kernel_rfl) (by kernel_rfl) (by kernel_rfl) (fun _ _ _ h => h) (Or.inl ⟨by kernel_rfl, fun w9 h9 => ?_⟩) HSB.out ?_
                  · have k6 := celN h9.r 6 _ rfl; have kl := h9.lr; have x0 := h9.x.c0; rw [E1.out] at x0; have xl := h9.x.lt; obtain ⟨d1, dl⟩ := HD.out _ _ _ _ h9; clear h9; go_simp
                  refine held_one 11 (by kernel_rfl) rfl (by kernel_rfl) fun K hK => ?_
                  go_simp
                  go_wp2_with (go_at_call 58; refine Calls.mono (HCT.out _ _ _ _ HSB.out) ?_; rintro e9 u9 ⟨rfl, hw9⟩; rw [hw9]; clear hw9)
                  refine hK _ _ HSB.out ?_
                  clear hK K
                  refine wpAnyH_take (i := 12) (v := .bool RG) rfl (by kernel_rfl) (by kernel_rfl) (by kernel_rfl) (fun _ _ _ h => h) (Or.inl ⟨by kernel_rfl, fun w9 h9 => ?_⟩) HSB.out ?_
                  · clear h9; go_simp
                  refine wpAnyH_take (i := 13) (v := .bool RG) rfl (by kernel_rfl) (by kernel_rfl) (by kernel_rfl) (fun _ _ _ h => h) (Or.inl ⟨by kernel_rfl, fun w9 h9 => ?_⟩) HSB.out ?_
                  · clear h9; go_simp
                  refine wpAnyH_done (by kernel_rfl) ?_ _
                  go_simp
                  go_wp2
                  go_ret
                  exact ⟨ret_bool (by rw [E.out]; simp), HSB.out.bel⟩
              · rw [hg] at E
                go_enter Try.func38, Try.ntmps38
                go_upto_region 1 with fail
                generalize (((w.alloc (.cells #[.slice ahs s.hs.length khs, .slice ags s.gs.length kgs, .slice afs s.fs.length kfs, .int .i64 s.pub, .int .i64 s.fst, .int .i64 s.lst, .slice acs s.cs.length kcs, .int .i64 s.time] 35)).alloc (.cells #[.bool r.inn, .int .i64 r.proto, .int .i64 r.addr, .int .i64 r.bits, .int .i64 r.low, .int .i64 r.high, .int .i64 r.group] 44)).alloc (.cells #[.int .i64 p.proto, .int .i64 p.src, .int .i64 p.sp, .int .i64 p.dst, .int .i64 p.dp, .int .i64 p.flags] 46)) = u0 at *
                generalize w.heap.size + 1 + 1 = b2 at *
                generalize w.heap.size + 1 = b1 at *
                generalize w.heap.size = b0 at *
                have k0 := celN HR0.out.r 0 _ rfl
                have k1 := celN HR0.out.r 1 _ rfl
                have k2 := celN HR0.out.r 2 _ rfl
                have k3 := celN HR0.out.r 3 _ rfl
                have k4 := celN HR0.out.r 4 _ rfl
                have k5 := celN HR0.out.r 5 _ rfl
                have k6 := celN HR0.out.r 6 _ rfl
                rw [HRI.out] at k0
                have j0 := celN HR0.out.p 0 _ rfl
                have j1 := celN HR0.out.p 1 _ rfl
                have j2 := celN HR0.out.p 2 _ rfl
                have j3 := celN HR0.out.p 3 _ rfl
                have j4 := celN HR0.out.p 4 _ rfl
                have j5 := celN HR0.out.p 5 _ rfl
                have kl := HR0.out.lr
                have jl := HR0.out.lp
                have x0 := HR0.out.x.c0
                have x1 := HR0.out.x.c1
                have x2 := HR0.out.x.c2
                have x3 := HR0.out.x.c3
                have x4 := HR0.out.x.c4
                have x5 := HR0.out.x.c5
                have x6 := HR0.out.x.c6
                have x7 := HR0.out.x.c7
                rw [E1.out] at x0
                rw [E2.out] at x1
                rw [E3.out] at x2
                rw [E4.out] at x6
                have xl := HR0.out.x.lt
                go_wp2
                go_ret
                exact ⟨ret_bool (by rw [E.out]; simp), HR0.out.bel⟩
            · rw [hb] at E
              cases hn : (p.src / 2 ^ n != r.addr / 2 ^ n)
              · rw [hn] at E
                cases hg : decide (r.group < 0)
                · rw [hg] at E
                  cases hf : (s.hs.map (·.addr)).findIdx? (fun y => y == p.src) with
                  | none =>
                    rw [hAt_none hf] at HH
                    have HIG : Hid (igB s p.src r.group = false) := (show igB s p.src r.group = false by unfold igB; rw [hf])
                    rw [HIG.out] at E
                    clear hf
                    go_enter Try.func38, Try.ntmps38
                    go_upto_region 1 with fail
                    generalize (((w.alloc (.cells #[.slice ahs s.hs.length khs, .slice ags s.gs.length kgs, .slice afs s.fs.length kfs, .int .i64 s.pub, .int .i64 s.fst, .int .i64 s.lst, .slice acs s.cs.length kcs, .int .i64 s.time] 35)).alloc (.cells #[.bool r.inn, .int .i64 r.proto, .int .i64 r.addr, .int .i64 r.bits, .int .i64 r.low, .int .i64 r.high, .int .i64 r.group] 44)).alloc (.cells #[.int .i64 p.proto, .int .i64 p.src, .int .i64 p.sp, .int .i64 p.dst, .int .i64 p.dp, .int .i64 p.flags] 46)) = u0 at *
                    generalize w.heap.size + 1 + 1 = b2 at *
                    generalize w.heap.size + 1 = b1 at *
                    generalize w.heap.size = b0 at *
                    have k0 := celN HR0.out.r 0 _ rfl
                    have k1 := celN HR0.out.r 1 _ rfl
                    have k2 := celN HR0.out.r 2 _ rfl
                    have k3 := celN HR0.out.r 3 _ rfl
                    have k4 := celN HR0.out.r 4 _ rfl
                    have k5 := celN HR0.out.r 5 _ rfl
                    have k6 := celN HR0.out.r 6 _ rfl
                    rw [HRI.out] at k0
                    have j0 := celN HR0.out.p 0 _ rfl
                    have j1 := celN HR0.out.p 1 _ rfl
                    have j2 := celN HR0.out.p 2 _ rfl
                    have j3 := celN HR0.out.p 3 _ rfl
                    have j4 := celN HR0.out.p 4 _ rfl
                    have j5 := celN HR0.out.p 5 _ rfl
                    have kl := HR0.out.lr
                    have jl := HR0.out.lp
                    have x0 := HR0.out.x.c0
                    have x1 := HR0.out.x.c1
                    have x2 := HR0.out.x.c2
                    have x3 := HR0.out.x.c3
                    have x4 := HR0.out.x.c4
                    have x5 := HR0.out.x.c5
                    have x6 := HR0.out.x.c6
                    have x7 := HR0.out.x.c7
                    rw [E1.out] at x0
                    rw [E2.out] at x1
                    rw [E3.out] at x2
                    rw [E4.out] at x6
                    have xl := HR0.out.x.lt
                    go_wp2_with fail
                    refine Calls.mono (HH.out _ HR0.out.aft) ?_
                    rintro e u1 ⟨rfl, hu⟩
                    have HR1 : Hid (R3 w u1 b0 b1 b2 s a r p) := HR0.out.step hu
                    clear hu
                    clear k0 k1 k2 k3 k4 k5 k6 j0 j1 j2 j3 j4 j5 x0 x1 x2 x3 x4 x5 x6 x7 kl jl xl
                    go_upto_region 11 with fail
                    have HSB : Hid (R3 w u1.drew b0 b1 b2 s a r p) := HR1.out.drew
                    refine wp_region_held (S := fun w9 => R3 w w9 b0 b1 b2 s a r p) (by kernel_rfl) ?_
                    change wpAnyH _ _ _ _ _ _ _ _ (World.drew _)
                    refine wpAnyH_take (i := 0) (v := .int .i64 (-1)) rfl (by kernel_rfl) (by kernel_rfl) (by kernel_rfl) (fun _ _ _ h => h) (Or.inl ⟨by kernel_rfl, fun w9 h9 => ?_⟩) HSB.out ?_
                    · clear h9; go_simp
                    refine wpAnyH_take (i := 1) (v := .bool false) rfl (by kernel_rfl) (by kernel_rfl) (by kernel_rfl) (fun _ _ _ h => h) (Or.inl ⟨by kernel_rfl, fun w9 h9 => ?_⟩) HSB.out ?_
                    · clear h9; go_simp
                    refine wpAnyH_take (i := 2) (v := .bool false) rfl (by kernel_rfl) (by kernel_rfl) (by kernel_rfl) (fun _ _ _ h => h) (Or.inl ⟨by kernel_rfl, fun w9 h9 => ?_⟩) HSB.out ?_
                    · clear h9; go_simp
                    refine wpAnyH_take (i := 3) (v := undef) rfl (by kernel_rfl) (by kernel_rfl) (by kernel_rfl) (fun _ _ _ h => h) (Or.inr ⟨by kernel_rfl, rfl⟩) HSB.out ?_
                    refine wpAnyH_take (i := 4) (v := undef) rfl (by kernel_rfl) (by kernel_rfl) (by kernel_rfl) (fun _ _ _ h => h) (Or.inr ⟨by kernel_rfl, rfl⟩) HSB.out ?_
                    refine wpAnyH_take (i := 5) (v := undef) rfl (by kernel_rfl) (by kernel_rfl) (by kernel_rfl) (fun _ _ _ h => h) (Or.inr ⟨by kernel_rfl, rfl⟩) HSB.out ?_
                    refine wpAnyH_take (i := 6) (v := undef) rfl (by kernel_rfl) (by kernel_rfl) (by kernel_rfl) (fun _ _ _ h => h) (Or.inr ⟨by kernel_rfl, rfl⟩) HSB.out ?_
                    refine wpAnyH_take (i := 7) (v := undef) rfl (by kernel_rfl) (by kernel_rfl) (by kernel_rfl) (fun _ _ _ h => h) (Or.inr ⟨by kernel_rfl, rfl⟩) HSB.out ?_
                    refine wpAnyH_take (i := 8) (v := undef) rfl (by kernel_rfl) (by kernel_rfl) (by kernel_rfl) (fun _ _ _ h => h) (Or.inr ⟨by kernel_rfl, rfl⟩) HSB.out ?_
                    refine wpAnyH_take (i := 9) (v := undef) rfl (by kernel_rfl) (by kernel_rfl) (by kernel_rfl) (fun _ _ _ h => h) (Or.inr ⟨by kernel_rfl, rfl⟩) HSB.out ?_
                    refine wpAnyH_take (i := 10) (v := undef) rfl (by kernel_rfl) (by kernel_rfl) (by kernel_rfl) (fun _ _ _ h => h) (Or.inr ⟨by kernel_rfl, rfl⟩) HSB.out ?_
                    refine wpAnyH_take (i := 11) (v := undef) rfl (by kernel_rfl) (by kernel_rfl) (by kernel_rfl) (fun _ _ _ h => h) (Or.inr ⟨by kernel_rfl, rfl⟩) HSB.out ?_
                    refine wpAnyH_take (i := 12) (v := .bool false) rfl (by kernel_rfl) (by kernel_rfl) (by kernel_rfl) (fun _ _ _ h => h) (Or.inl ⟨by kernel_rfl, fun w9 h9 => ?_⟩) HSB.out ?_
                    · clear h9; go_simp
                    refine wpAnyH_take (i := 13) (v := .bool false) rfl (by kernel_rfl) (by kernel_rfl) (by kernel_rfl) (fun _ _ _ h => h) (Or.inl ⟨by kernel_rfl, fun w9 h9 => ?_⟩) HSB.out ?_
                    · clear h9; go_simp
                    refine wpAnyH_done (by kernel_rfl) ?_ _
                    go_simp
                    go_wp2
                    go_ret
                    exact ⟨ret_bool (by rw [E.out]; simp), HSB.out.bel⟩
                  | some k =>
                    obtain ⟨e1, hk⟩ := hAt_some hf
                    rw [e1] at HH
                    have hlt : k < s.hs.length := by simpa using hk
                    have hkq : k < a.qhs.length := by rw [HQ.out]; exact hlt
                    have HIG : Hid (igB s p.src r.group = s.hs[k].gs.any (fun z => r.group == z)) := (show igB s p.src r.group = _ by unfold igB; rw [hf]; simp only; rw [gdh hlt])
                    rw [HIG.out] at E
                    obtain ⟨p0, p1⟩ := HI.out.el k hkq hlt
                    have lp := HLN.out.lhs.el k hlt
                    obtain ⟨g2, o, cap2, hv, _, hg, hc⟩ := HRW.out.resolve_left (fun h => by rw [h.1] at hkq; simp at hkq)
                    injection hv with hv1 hv2 hv3
                    subst hv1 hv3
                    have HD : Hid (∀ u c0 c1 c2, R3 w u c0 c1 c2 s a r p → u.cell? ⟨g2, o + k * 2 + 1, none⟩ = some a.qhs[k].groups ∧ g2 < u.heap.size) := fun u _ _ _ h3 => ⟨(hc.below h3.bel hg k hkq).2, Nat.lt_of_lt_of_le hg h3.bel.size⟩
                    clear p0
                    generalize s.hs[k] = pp at *
                    generalize a.qhs[k].groups = y at *
                    obtain ⟨ay, ky, rfl⟩ := p1.sl
                    have HCT : Hid (∀ u c0 c1 c2, R3 w u c0 c1 c2 s a r p → Calls Try.prog 58 #[.slice ay pp.gs.length ky, .int .i64 r.group] u fun e w' => e = .returned (.bool (pp.gs.any (fun z => r.group == z))) ∧ w' = u) := fun u _ _ _ h3 => inInts_any (p1.below h3.bel) lp r.group
                    generalize (pp.gs.any (fun z => r.group == z)) = RG at *
                    have hk0 : (0 : Int) ≤ (k : Int) := by omega
                    have hk1 : (k : Int) < (s.hs.length : Int) := by omega
                    clear hf e1 hk hc hv2 p1 HIG
                    go_enter Try.func38, Try.ntmps38
                    go_upto_region 1 with fail
                    generalize (((w.alloc (.cells #[.slice (some ⟨g2, o, none⟩) s.hs.length khs, .slice ags s.gs.length kgs, .slice afs s.fs.length kfs, .int .i64 s.pub, .int .i64 s.fst, .int .i64 s.lst, .slice acs s.cs.length kcs, .int .i64 s.time] 35)).alloc (.cells #[.bool r.inn, .int .i64 r.proto, .int .i64 r.addr, .int .i64 r.bits, .int .i64 r.low, .int .i64 r.high, .int .i64 r.group] 44)).alloc (.cells #[.int .i64 p.proto, .int .i64 p.src, .int .i64 p.sp, .int .i64 p.dst, .int .i64 p.dp, .int .i64 p.flags] 46)) = u0 at *
                    generalize w.heap.size + 1 + 1 = b2 at *
                    generalize w.heap.size + 1 = b1 at *
                    generalize w.heap.size = b0 at *
                    have k0 := celN HR0.out.r 0 _ rfl
                    have k1 := celN HR0.out.r 1 _ rfl
                    have k2 := celN HR0.out.r 2 _ rfl
                    have k3 := celN HR0.out.r 3 _ rfl
                    have k4 := celN HR0.out.r 4 _ rfl
                    have k5 := celN HR0.out.r 5 _ rfl
                    have k6 := celN HR0.out.r 6 _ rfl
                    rw [HRI.out] at k0
                    have j0 := celN HR0.out.p 0 _ rfl
                    have j1 := celN HR0.out.p 1 _ rfl
                    have j2 := celN HR0.out.p 2 _ rfl
                    have j3 := celN HR0.out.p 3 _ rfl
                    have j4 := celN HR0.out.p 4 _ rfl
                    have j5 := celN HR0.out.p 5 _ rfl
                    have kl := HR0.out.lr
                    have jl := HR0.out.lp
                    have x0 := HR0.out.x.c0
                    have x1 := HR0.out.x.c1
                    have x2 := HR0.out.x.c2
                    have x3 := HR0.out.x.c3
                    have x4 := HR0.out.x.c4
                    have x5 := HR0.out.x.c5
                    have x6 := HR0.out.x.c6
                    have x7 := HR0.out.x.c7
                    rw [E1.out] at x0
                    rw [E2.out] at x1
                    rw [E3.out] at x2
                    rw [E4.out] at x6
                    have xl := HR0.out.x.lt
                    go_wp2_with fail
                    refine Calls.mono (HH.out _ HR0.out.aft) ?_
                    rintro e u1 ⟨rfl, hu⟩
                    have HR1 : Hid (R3 w u1 b0 b1 b2 s a r p) := HR0.out.step hu
                    clear hu
                    clear k0 k1 k2 k3 k4 k5 k6 j0 j1 j2 j3 j4 j5 x0 x1 x2 x3 x4 x5 x6 x7 kl jl xl
                    go_upto_region 11 with fail
                    have HSB : Hid (R3 w u1.drew b0 b1 b2 s a r p) := HR1.out.drew
                    refine wp_region_held (S := fun w9 => R3 w w9 b0 b1 b2 s a r p) (by kernel_rfl) ?_
                    change wpAnyH _ _ _ _ _ _ _ _ (World.drew _)
                    refine wpAnyH_take (i := 0) (v := .int .i64 (k : Int)) rfl (by kernel_rfl) (by kernel_rfl) (by kernel_rfl) (fun _ _ _ h => h) (Or.inl ⟨by kernel_rfl, fun w9 h9 => ?_⟩) HSB.out ?_
                    · clear h9; go_simp
                    refine wpAnyH_take (i := 1) (v := .bool true) rfl (by kernel_rfl) (by kernel_rfl) (by kernel_rfl) (fun _ _ _ h => h) (Or.inl ⟨by kernel_rfl, fun w9 h9 => ?_⟩) HSB.out ?_
                    · clear h9; go_simp
                    refine wpAnyH_take (i := 2) (v := .bool true) rfl (by kernel_rfl) (by kernel_rfl) (by kernel_rfl) (fun _ _ _ h => h) (Or.inl ⟨by kernel_rfl, fun w9 h9 => ?_⟩) HSB.out ?_
                    · clear h9; go_simp
                    refine wpAnyH_take (i := 3) (v := .pointer (some ⟨b0, 0, none⟩)) rfl (by kernel_rfl) (by kernel_rfl) (by kernel_rfl) (fun _ _ _ h => h) (Or.inl ⟨by kernel_rfl, fun w9 h9 => ?_⟩) HSB.out ?_
                    · clear h9; go_simp
                    refine wpAnyH_take (i := 4) (v := .slice (some ⟨g2, o, none⟩) s.hs.length khs) rfl (by kernel_rfl) (by kernel_rfl) (by kernel_rfl) (fun _ _ _ h => h) (Or.inl ⟨by kernel_rfl, fun w9 h9 => ?_⟩) HSB.out ?_
                    · have k6 := celN h9.r 6 _ rfl; have kl := h9.lr; have x0 := h9.x.c0; rw [E1.out] at x0; have xl := h9.x.lt; obtain ⟨d1, dl⟩ := HD.out _ _ _ _ h9; clear h9; go_simp
                    refine wpAnyH_take (i := 5) (v := .int .i64 (k : Int)) rfl (by kernel_rfl) (by kernel_rfl) (by kernel_rfl) (fun _ _ _ h => h) (Or.inl ⟨by kernel_rfl, fun w9 h9 => ?_⟩) HSB.out ?_
                    · clear h9; go_simp
                    refine wpAnyH_take (i := 6) (v := .pointer (some ⟨g2, o + k * 2, none⟩)) rfl (by kernel_rfl) (by kernel_rfl) (by kernel_rfl) (fun _ _ _ h => h) (Or.inl ⟨by kernel_rfl, fun w9 h9 => ?_⟩) HSB.out ?_
                    · clear h9; go_simp
                    refine wpAnyH_take (i := 7) (v := .pointer (some ⟨g2, o + k * 2 + 1, none⟩)) rfl (by kernel_rfl) (by kernel_rfl) (by kernel_rfl) (fun _ _ _ h => h) (Or.inl ⟨by kernel_rfl, fun w9 h9 => ?_⟩) HSB.out ?_
                    · clear h9; go_simp
                    refine wpAnyH_take (i := 8) (v := .slice ay pp.gs.length ky) rfl (by kernel_rfl) (by kernel_rfl) (by kernel_rfl) (fun _ _ _ h => h) (Or.inl ⟨by kernel_rfl, fun w9 h9 => ?_⟩) HSB.out ?_
                    · have k6 := celN h9.r 6 _ rfl; have kl := h9.lr; have x0 := h9.x.c0; rw [E1.out] at x0; have xl := h9.x.lt; obtain ⟨d1, dl⟩ := HD.out _ _ _ _ h9; clear h9; go_simp
                    refine wpAnyH_take (i := 9) (v := .pointer (some ⟨b1, 6, none⟩)) rfl (by kernel_rfl) (by kernel_rfl) (by kernel_rfl) (fun _ _ _ h => h) (Or.inl ⟨by kernel_rfl, fun w9 h9 => ?_⟩) HSB.out ?_
                    · clear h9; go_simp
                    refine wpAnyH_take (i := 10) (v := .int .i64 r.group) rfl (by kernel_rfl) (by kernel_rfl) (by kernel_rfl) (fun _ _ _ h => h) (Or.inl ⟨by kernel_rfl, fun w9 h9 => ?_⟩) HSB.out ?_
                    · have k6 := celN h9.r 6 _ rfl; have kl := h9.lr; have x0 := h9.x.c0; rw [E1.out] at x0; have xl := h9.x.lt; obtain ⟨d1, dl⟩ := HD.out _ _ _ _ h9; clear h9; go_simp
                    refine held_one 11 (by kernel_rfl) rfl (by kernel_rfl) fun K hK => ?_
                    go_simp
                    go_wp2_with (go_at_call 58; refine Calls.mono (HCT.out _ _ _ _ HSB.out) ?_; rintro e9 u9 ⟨rfl, hw9⟩; rw [hw9]; clear hw9)
                    refine hK _ _ HSB.out ?_
                    clear hK K
                    refine wpAnyH_take (i := 12) (v := .bool RG) rfl (by kernel_rfl) (by kernel_rfl) (by kernel_rfl) (fun _ _ _ h => h) (Or.inl ⟨by kernel_rfl, fun w9 h9 => ?_⟩) HSB.out ?_
                    · clear h9; go_simp
                    refine wpAnyH_take (i := 13) (v := .bool RG) rfl (by kernel_rfl) (by kernel_rfl) (by kernel_rfl) (fun _ _ _ h => h) (Or.inl ⟨by kernel_rfl, fun w9 h9 => ?_⟩) HSB.out ?_
                    · clear h9; go_simp
                    refine wpAnyH_done (by kernel_rfl) ?_ _
                    go_simp
                    go_wp2
                    go_ret
                    exact ⟨ret_bool (by rw [E.out]; simp), HSB.out.bel⟩
                · rw [hg] at E
                  go_enter Try.func38, Try.ntmps38
                  go_upto_region 1 with fail
                  generalize (((w.alloc (.cells #[.slice ahs s.hs.length khs, .slice ags s.gs.length kgs, .slice afs s.fs.length kfs, .int .i64 s.pub, .int .i64 s.fst, .int .i64 s.lst, .slice acs s.cs.length kcs, .int .i64 s.time] 35)).alloc (.cells #[.bool r.inn, .int .i64 r.proto, .int .i64 r.addr, .int .i64 r.bits, .int .i64 r.low, .int .i64 r.high, .int .i64 r.group] 44)).alloc (.cells #[.int .i64 p.proto, .int .i64 p.src, .int .i64 p.sp, .int .i64 p.dst, .int .i64 p.dp, .int .i64 p.flags] 46)) = u0 at *
                  generalize w.heap.size + 1 + 1 = b2 at *
                  generalize w.heap.size + 1 = b1 at *
                  generalize w.heap.size = b0 at *
                  have k0 := celN HR0.out.r 0 _ rfl
                  have k1 := celN HR0.out.r 1 _ rfl
                  have k2 := celN HR0.out.r 2 _ rfl
                  have k3 := celN HR0.out.r 3 _ rfl
                  have k4 := celN HR0.out.r 4 _ rfl
                  have k5 := celN HR0.out.r 5 _ rfl
                  have k6 := celN HR0.out.r 6 _ rfl
                  rw [HRI.out] at k0
                  have j0 := celN HR0.out.p 0 _ rfl
                  have j1 := celN HR0.out.p 1 _ rfl
                  have j2 := celN HR0.out.p 2 _ rfl
                  have j3 := celN HR0.out.p 3 _ rfl
                  have j4 := celN HR0.out.p 4 _ rfl
                  have j5 := celN HR0.out.p 5 _ rfl
                  have kl := HR0.out.lr
                  have jl := HR0.out.lp
                  have x0 := HR0.out.x.c0
                  have x1 := HR0.out.x.c1
                  have x2 := HR0.out.x.c2
                  have x3 := HR0.out.x.c3
                  have x4 := HR0.out.x.c4
                  have x5 := HR0.out.x.c5
                  have x6 := HR0.out.x.c6
                  have x7 := HR0.out.x.c7
                  rw [E1.out] at x0
                  rw [E2.out] at x1
                  rw [E3.out] at x2
                  rw [E4.out] at x6
                  have xl := HR0.out.x.lt
                  go_wp2
                  go_ret
                  exact ⟨ret_bool (by rw [E.out]; simp), HR0.out.bel⟩
              · rw [hn] at E
                go_enter Try.func38, Try.ntmps38
                go_upto_region 1 with fail
                generalize (((w.alloc (.cells #[.slice ahs s.hs.length khs, .slice ags s.gs.length kgs, .slice afs s.fs.length kfs, .int .i64 s.pub, .int .i64 s.fst, .int .i64 s.lst, .slice acs s.cs.length kcs, .int .i64 s.time] 35)).alloc (.cells #[.bool r.inn, .int .i64 r.proto, .int .i64 r.addr, .int .i64 r.bits, .int .i64 r.low, .int .i64 r.high, .int .i64 r.group] 44)).alloc (.cells #[.int .i64 p.proto, .int .i64 p.src, .int .i64 p.sp, .int .i64 p.dst, .int .i64 p.dp, .int .i64 p.flags] 46)) = u0 at *
                generalize w.heap.size + 1 + 1 = b2 at *
                generalize w.heap.size + 1 = b1 at *
                generalize w.heap.size = b0 at *
                have k0 := celN HR0.out.r 0 _ rfl
                have k1 := celN HR0.out.r 1 _ rfl
                have k2 := celN HR0.out.r 2 _ rfl
                have k3 := celN HR0.out.r 3 _ rfl
                have k4 := celN HR0.out.r 4 _ rfl
                have k5 := celN HR0.out.r 5 _ rfl
                have k6 := celN HR0.out.r 6 _ rfl
                rw [HRI.out] at k0
                have j0 := celN HR0.out.p 0 _ rfl
                have j1 := celN HR0.out.p 1 _ rfl
                have j2 := celN HR0.out.p 2 _ rfl
                have j3 := celN HR0.out.p 3 _ rfl
                have j4 := celN HR0.out.p 4 _ rfl
                have j5 := celN HR0.out.p 5 _ rfl
                have kl := HR0.out.lr
                have jl := HR0.out.lp
                have x0 := HR0.out.x.c0
                have x1 := HR0.out.x.c1
                have x2 := HR0.out.x.c2
                have x3 := HR0.out.x.c3
                have x4 := HR0.out.x.c4
                have x5 := HR0.out.x.c5
                have x6 := HR0.out.x.c6
                have x7 := HR0.out.x.c7
                rw [E1.out] at x0
                rw [E2.out] at x1
                rw [E3.out] at x2
                rw [E4.out] at x6
                have xl := HR0.out.x.lt
                go_wp2
                go_ret
                exact ⟨ret_bool (by rw [E.out]; simp), HR0.out.bel⟩
          · rw [hh] at E
            go_enter Try.func38, Try.ntmps38
            go_upto_region 1 with fail
            generalize (((w.alloc (.cells #[.slice ahs s.hs.length khs, .slice ags s.gs.length kgs, .slice afs s.fs.length kfs, .int .i64 s.pub, .int .i64 s.fst, .int .i64 s.lst, .slice acs s.cs.length kcs, .int .i64 s.time] 35)).alloc (.cells #[.bool r.inn, .int .i64 r.proto, .int .i64 r.addr, .int .i64 r.bits, .int .i64 r.low, .int .i64 r.high, .int .i64 r.group] 44)).alloc (.cells #[.int .i64 p.proto, .int .i64 p.src, .int .i64 p.sp, .int .i64 p.dst, .int .i64 p.dp, .int .i64 p.flags] 46)) = u0 at *
            generalize w.heap.size + 1 + 1 = b2 at *
            generalize w.heap.size + 1 = b1 at *
            generalize w.heap.size = b0 at *
            have k0 := celN HR0.out.r 0 _ rfl
            have k1 := celN HR0.out.r 1 _ rfl
            have k2 := celN HR0.out.r 2 _ rfl
            have k3 := celN HR0.out.r 3 _ rfl
            have k4 := celN HR0.out.r 4 _ rfl
            have k5 := celN HR0.out.r 5 _ rfl
            have k6 := celN HR0.out.r 6 _ rfl
            rw [HRI.out] at k0
            have j0 := celN HR0.out.p 0 _ rfl
            have j1 := celN HR0.out.p 1 _ rfl
            have j2 := celN HR0.out.p 2 _ rfl
            have j3 := celN HR0.out.p 3 _ rfl
            have j4 := celN HR0.out.p 4 _ rfl
            have j5 := celN HR0.out.p 5 _ rfl
            have kl := HR0.out.lr
            have jl := HR0.out.lp
            have x0 := HR0.out.x.c0
            have x1 := HR0.out.x.c1
            have x2 := HR0.out.x.c2
            have x3 := HR0.out.x.c3
            have x4 := HR0.out.x.c4
            have x5 := HR0.out.x.c5
            have x6 := HR0.out.x.c6
            have x7 := HR0.out.x.c7
            rw [E1.out] at x0
            rw [E2.out] at x1
            rw [E3.out] at x2
            rw [E4.out] at x6
            have xl := HR0.out.x.lt
            go_wp2
            go_ret
            exact ⟨ret_bool (by rw [E.out]; simp), HR0.out.bel⟩
        · rw [hl] at E
          go_enter Try.func38, Try.ntmps38
          go_upto_region 1 with fail
          generalize (((w.alloc (.cells #[.slice ahs s.hs.length khs, .slice ags s.gs.length kgs, .slice afs s.fs.length kfs, .int .i64 s.pub, .int .i64 s.fst, .int .i64 s.lst, .slice acs s.cs.length kcs, .int .i64 s.time] 35)).alloc (.cells #[.bool r.inn, .int .i64 r.proto, .int .i64 r.addr, .int .i64 r.bits, .int .i64 r.low, .int .i64 r.high, .int .i64 r.group] 44)).alloc (.cells #[.int .i64 p.proto, .int .i64 p.src, .int .i64 p.sp, .int .i64 p.dst, .int .i64 p.dp, .int .i64 p.flags] 46)) = u0 at *
          generalize w.heap.size + 1 + 1 = b2 at *
          generalize w.heap.size + 1 = b1 at *
          generalize w.heap.size = b0 at *
          have k0 := celN HR0.out.r 0 _ rfl
          have k1 := celN HR0.out.r 1 _ rfl
          have k2 := celN HR0.out.r 2 _ rfl
          have k3 := celN HR0.out.r 3 _ rfl
          have k4 := celN HR0.out.r 4 _ rfl
          have k5 := celN HR0.out.r 5 _ rfl
          have k6 := celN HR0.out.r 6 _ rfl
          rw [HRI.out] at k0
          have j0 := celN HR0.out.p 0 _ rfl
          have j1 := celN HR0.out.p 1 _ rfl
          have j2 := celN HR0.out.p 2 _ rfl
          have j3 := celN HR0.out.p 3 _ rfl
          have j4 := celN HR0.out.p 4 _ rfl
          have j5 := celN HR0.out.p 5 _ rfl
          have kl := HR0.out.lr
          have jl := HR0.out.lp
          have x0 := HR0.out.x.c0
          have x1 := HR0.out.x.c1
          have x2 := HR0.out.x.c2
          have x3 := HR0.out.x.c3
          have x4 := HR0.out.x.c4
          have x5 := HR0.out.x.c5
          have x6 := HR0.out.x.c6
          have x7 := HR0.out.x.c7
          rw [E1.out] at x0
          rw [E2.out] at x1
          rw [E3.out] at x2
          rw [E4.out] at x6
          have xl := HR0.out.x.lt
          go_wp2
          go_ret
          exact ⟨ret_bool (by rw [E.out]; simp), HR0.out.bel⟩
    · rw [hq] at E
      go_enter Try.func38, Try.ntmps38
      go_upto_region 1 with fail
      generalize (((w.alloc (.cells #[.slice ahs s.hs.length khs, .slice ags s.gs.length kgs, .slice afs s.fs.length kfs, .int .i64 s.pub, .int .i64 s.fst, .int .i64 s.lst, .slice acs s.cs.length kcs, .int .i64 s.time] 35)).alloc (.cells #[.bool r.inn, .int .i64 r.proto, .int .i64 r.addr, .int .i64 r.bits, .int .i64 r.low, .int .i64 r.high, .int .i64 r.group] 44)).alloc (.cells #[.int .i64 p.proto, .int .i64 p.src, .int .i64 p.sp, .int .i64 p.dst, .int .i64 p.dp, .int .i64 p.flags] 46)) = u0 at *
      generalize w.heap.size + 1 + 1 = b2 at *
      generalize w.heap.size + 1 = b1 at *
      generalize w.heap.size = b0 at *
      have k0 := celN HR0.out.r 0 _ rfl
      have k1 := celN HR0.out.r 1 _ rfl
      have k2 := celN HR0.out.r 2 _ rfl
      have k3 := celN HR0.out.r 3 _ rfl
      have k4 := celN HR0.out.r 4 _ rfl
      have k5 := celN HR0.out.r 5 _ rfl
      have k6 := celN HR0.out.r 6 _ rfl
      rw [HRI.out] at k0
      have j0 := celN HR0.out.p 0 _ rfl
      have j1 := celN HR0.out.p 1 _ rfl
      have j2 := celN HR0.out.p 2 _ rfl
      have j3 := celN HR0.out.p 3 _ rfl
      have j4 := celN HR0.out.p 4 _ rfl
      have j5 := celN HR0.out.p 5 _ rfl
      have kl := HR0.out.lr
      have jl := HR0.out.lp
      have x0 := HR0.out.x.c0
      have x1 := HR0.out.x.c1
      have x2 := HR0.out.x.c2
      have x3 := HR0.out.x.c3
      have x4 := HR0.out.x.c4
      have x5 := HR0.out.x.c5
      have x6 := HR0.out.x.c6
      have x7 := HR0.out.x.c7
      rw [E1.out] at x0
      rw [E2.out] at x1
      rw [E3.out] at x2
      rw [E4.out] at x6
      have xl := HR0.out.x.lt
      go_wp2
      go_ret
      exact ⟨ret_bool (by rw [E.out]; simp), HR0.out.bel⟩
end Go.Proofs.Ytpggbbdfbnocfaa
