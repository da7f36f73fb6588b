import Derived.Test.YtlpkkclmcgnapaaTb2
import Derived.Test.YtlpkkclmcgnapaaTb3
import Derived.Test.YtlpkkclmcgnapaaBd3
import Derived.Test.YtlpkkclmcgnapaaMkFT
namespace Go.Proofs.Ytlpkkclmcgnapaa
open Go.ChangeShapes Go.WideShapes Go.ChangeAt Go.RowKit

set_option maxRecDepth 100000 in
set_option maxHeartbeats 8000000 in
theorem walkTO {w : World} {s : BD} {a : BDA} (h : BDRows w s a) (hm : BDmax s) : Calls Try.prog 4 #[bdA s a] w fun e w' => e = .returned (.bool true) ∧ Below w.heap.size w w' := by
  have HR : Hid (BDRows w s a) := h
  have HSZ : Hid (∀ u, Aft w u → Calls Try.prog 6 #[bdA s a, .int .i64 1048576] u fun e w' => ∃ q, e = .returned (.int .i64 q) ∧ -1 ≤ q ∧ q ≤ 1048576 ∧ (0 ≤ q → BDlen s) ∧ Below u.heap.size u w') := fun u hu => szBD_w (HR.out.below hu.out) hm
  have HTO0 : Hid (BDlen s → ∀ u, Aft w u → Calls Try.prog 8 #[bdA s a] u fun e w' => ∃ a2 : BDA, e = .returned (bdA s a2) ∧ w'.ownsRow u.heap.size 49 3 a2.vds s.ds.length (dvR s.ds) ∧ Below u.heap.size u w') := fun hl u hu => toBD_own (HR.out.below hu.out) hl
  obtain ⟨ao, cap, e⟩ := h.sl
  subst e
  have HL0 : Hid (LG w (w.alloc (.cells #[.int .i64 s.frames, .int .i64 s.cpus, .slice ao s.ds.length cap] 24)) w.heap.size #[.int .i64 s.frames, .int .i64 s.cpus, .slice ao s.ds.length cap] 24) := LG.new w _ _
  clear h hm
  unfold bdA bdC at HSZ HTO0
  unfold bdA bdC
  simp only at HSZ HTO0 ⊢
  go_enter Try.func4, Try.ntmps4
  go_wp2_with fail
  generalize (w.alloc (.cells #[.int .i64 s.frames, .int .i64 s.cpus, .slice ao s.ds.length cap] 24)) = u0 at *
  generalize w.heap.size = b0 at HL0 ⊢
  refine Calls.mono (HSZ.out _ HL0.out.aft) ?_
  rintro e u1 ⟨q, rfl, q0, _, hq, hu⟩
  have HL1 : Hid (LG w u1 b0 #[.int .i64 s.frames, .int .i64 s.cpus, .slice ao s.ds.length cap] 24) := HL0.out.step hu
  have HQ : Hid (0 ≤ q → BDlen s) := hq
  clear hu hq HL0 HSZ
  cases h3 : decide (q < 0)
  rotate_left
  · go_wp2
    go_ret
    exact ⟨rfl, HL1.out.bel⟩
  have hl : BDlen s := HQ.out (by have := of_decide_eq_false h3; omega)
  have HLZ : Hid (s.ds.length ≤ 1048576) := hl.lds
  have HTO : Hid (∀ u, Aft w u → Calls Try.prog 8 #[.agg #[.int .i64 s.frames, .int .i64 s.cpus, .slice ao s.ds.length cap]] u fun e w' => ∃ ax cx, e = .returned (.agg #[.int .i64 s.frames, .int .i64 s.cpus, .slice ax s.ds.length cx]) ∧ w'.ownsRow u.heap.size 49 3 (.slice ax s.ds.length cx) s.ds.length (dvR s.ds) ∧ Below u.heap.size u w') := (fun u hu => (HTO0.out hl u hu).mono (by rintro e w' ⟨⟨vx⟩, rfl, hx, hb⟩; obtain ⟨ax, cx, rfl⟩ := dv_sl hx; exact ⟨ax, cx, rfl, hx, hb⟩))
  have HSP : Hid (∀ u ax cx, DVrow u (.slice ax s.ds.length cx) s.ds → Calls Try.prog 11 #[.agg #[.int .i64 s.frames, .int .i64 s.cpus, .slice ax s.ds.length cx]] u fun e w' => ∃ ag cg, e = .returned (.slice ag (tbV s.frames s.cpus s.ds).length cg) ∧ w'.ownsRow u.heap.size 56 3 (.slice ag (tbV s.frames s.cpus s.ds).length cg) (tbV s.frames s.cpus s.ds).length (ftR (tbV s.frames s.cpus s.ds)) ∧ Below u.heap.size u w') := (fun u ax cx hx => (specTO_any hx).mono (by rintro e w' ⟨v, rfl, ho, hb⟩; obtain ⟨ag, cg, rfl⟩ := ft_sl ho; exact ⟨ag, cg, rfl, ho, hb⟩))
  have HIM : Hid (∀ u ax cx, DVrow u (.slice ax s.ds.length cx) s.ds → Calls Try.prog 12 #[.agg #[.int .i64 s.frames, .int .i64 s.cpus, .slice ax s.ds.length cx]] u fun e w' => ∃ ag cg, e = .returned (.slice ag (tbV s.frames s.cpus s.ds).length cg) ∧ w'.ownsRow u.heap.size 56 3 (.slice ag (tbV s.frames s.cpus s.ds).length cg) (tbV s.frames s.cpus s.ds).length (ftR (tbV s.frames s.cpus s.ds)) ∧ Below u.heap.size u w') := (fun u ax cx hx => (implTO_any hx).mono (by rintro e w' ⟨v, rfl, ho, hb⟩; obtain ⟨ag, cg, rfl⟩ := ft_sl ho; exact ⟨ag, cg, rfl, ho, hb⟩))
  have HEQ : Hid (∀ u ax cx ay cy, DVrow u (.slice ax s.ds.length cx) s.ds → DVrow u (.slice ay s.ds.length cy) s.ds → Calls Try.prog 10 #[.agg #[.int .i64 s.frames, .int .i64 s.cpus, .slice ax s.ds.length cx], .agg #[.int .i64 s.frames, .int .i64 s.cpus, .slice ay s.ds.length cy]] u fun e w' => e = .returned (.bool true) ∧ Below u.heap.size u w') := (fun u ax cx ay cy hx hy => by have h9 := eqBD_ok (a := ⟨.slice ax s.ds.length cx⟩) (a2 := ⟨.slice ay s.ds.length cy⟩) ⟨hx⟩ ⟨hy⟩ hl; unfold bdA bdC at h9; simp only at h9; exact h9)
  have hln := tbV_len s.frames s.cpus s.ds
  generalize tbV s.frames s.cpus s.ds = ts at *
  have HEF : Hid (∀ u ax cx ay cy, FTrow u (.slice ax ts.length cx) ts → FTrow u (.slice ay ts.length cy) ts → Calls Try.prog 13 #[.slice ax ts.length cx, .slice ay ts.length cy] u fun e w' => e = .returned (.bool true) ∧ Below u.heap.size u w') := (fun u ax cx ay cy hx hy => eqFTS_ok hx hy (by omega))
  have HLN : Hid (ts.length ≤ 3) := hln
  clear HQ hl hln HTO0 HR
  have r0 := HL1.out.cel 0 _ rfl
  have r1 := HL1.out.cel 1 _ rfl
  have r2 := HL1.out.cel 2 _ rfl
  have rl := HL1.out.lt
  go_wp2_with fail
  refine Calls.mono (HTO.out _ HL1.out.aft) ?_
  rintro e u101 ⟨at1, ct1, rfl, ho, hb⟩
  clear r0 r1 r2 rl
  have HB0102 : Hid (LG w u101 b0 #[.int .i64 s.frames, .int .i64 s.cpus, .slice ao s.ds.length cap] 24) := HL1.out.step hb
  clear HL1
  have HT103 : Hid (u101.ownsRow u1.heap.size 49 3 (.slice at1 s.ds.length ct1) s.ds.length (dvR s.ds)) := ho
  clear ho hb
  go_wp2_with fail
  refine Calls.mono (HSP.out _ _ _ (DVrow.of HT103.out)) ?_
  rintro e u3 ⟨aw, cw, rfl, ho, hb⟩
  clear HT103
  have HWX : Hid (w.heap.size ≤ u101.heap.size) := HB0102.out.bel.size
  have HB0104 : Hid (LG w u3 b0 #[.int .i64 s.frames, .int .i64 s.cpus, .slice ao s.ds.length cap] 24) := HB0102.out.step hb
  clear HB0102
  have HRW105 : Hid (u3.ownsRow w.heap.size 56 3 (.slice aw ts.length cw) ts.length (ftR (ts))) := own_weakN ho HWX.out
  have HKW0 : Hid (∀ k, (Value.slice aw ts.length cw).ownBlock = some k → k < u3.heap.size) := fun k hk => (ho.lt k hk).2
  clear ho hb HWX
  obtain ⟨n1, hn1⟩ : ∃ n, u3.heap.size = n := ⟨_, rfl⟩
  rw [hn1] at HKW0
  have HB01 : Hid (b0 < n1) := (show b0 < n1 by have := HB0104.out.lt; omega)
  have HN1 : Hid (u3.heap.size = n1) := hn1
  have r0 := HB0104.out.cel 0 _ rfl
  have r1 := HB0104.out.cel 1 _ rfl
  have r2 := HB0104.out.cel 2 _ rfl
  have rl := HB0104.out.lt
  go_wp2_with fail
  refine Calls.mono (HTO.out _ HB0104.out.aft) ?_
  rintro e u106 ⟨ax, cx, rfl, ho, hb⟩
  clear r0 r1 r2 rl
  have HB0107 : Hid (LG w u106 b0 #[.int .i64 s.frames, .int .i64 s.cpus, .slice ao s.ds.length cap] 24) := HB0104.out.step hb
  clear HB0104
  have HRW108 : Hid (u106.ownsRow w.heap.size 56 3 (.slice aw ts.length cw) ts.length (ftR (ts))) := own_belowN HRW105.out hb
  clear HRW105
  have HRX109 : Hid (u106.ownsRow n1 49 3 (.slice ax s.ds.length cx) s.ds.length (dvR s.ds)) := (by rw [← hn1]; exact ho)
  have HKX : Hid (∀ k, (Value.slice ax s.ds.length cx).ownBlock = some k → n1 ≤ k ∧ k < u106.heap.size) := (fun k hk => by have := ho.lt k hk; omega)
  have HPX : Hid (n1 ≤ u106.heap.size) := (show n1 ≤ u106.heap.size by have := hb.size; omega)
  clear ho hb hn1 HN1
  have HSZ9 : Hid (w.heap.size ≤ u106.heap.size) := HB0107.out.bel.size
  have HB0110 : Hid (LG w (u106.alloc (.cells #[.int .i64 s.frames, .int .i64 s.cpus, .slice ax s.ds.length cx] 29)) b0 #[.int .i64 s.frames, .int .i64 s.cpus, .slice ao s.ds.length cap] 24) := HB0107.out.step (bx1 _ _)
  clear HB0107
  have HRW111 : Hid ((u106.alloc (.cells #[.int .i64 s.frames, .int .i64 s.cpus, .slice ax s.ds.length cx] 29)).ownsRow w.heap.size 56 3 (.slice aw ts.length cw) ts.length (ftR (ts))) := World.ownsRow.alloc HRW108.out _
  clear HRW108
  have HRX112 : Hid ((u106.alloc (.cells #[.int .i64 s.frames, .int .i64 s.cpus, .slice ax s.ds.length cx] 29)).ownsRow n1 49 3 (.slice ax s.ds.length cx) s.ds.length (dvR s.ds)) := World.ownsRow.alloc HRX109.out _
  clear HRX109
  have HBX113 : Hid (LG w (u106.alloc (.cells #[.int .i64 s.frames, .int .i64 s.cpus, .slice ax s.ds.length cx] 29)) u106.heap.size #[.int .i64 s.frames, .int .i64 s.cpus, .slice ax s.ds.length cx] 29) := ⟨HB0110.out.bel, heap_new _ _, HSZ9.out⟩
  have HBX9 : Hid (u106.heap.size < (u106.alloc (.cells #[.int .i64 s.frames, .int .i64 s.cpus, .slice ax s.ds.length cx] 29)).heap.size) := (show _ < _ by simp)
  clear HSZ9
  go_upto_region 7 with fail
  generalize (u106.alloc (.cells #[.int .i64 s.frames, .int .i64 s.cpus, .slice ax s.ds.length cx] 29)) = u114 at *
  generalize u106.heap.size = bx at *
  obtain ⟨n2, hn2⟩ : ∃ n, u114.heap.size = n := ⟨_, rfl⟩
  rw [hn2] at HBX9
  have r0 := HBX113.out.cel 0 _ rfl
  have r1 := HBX113.out.cel 1 _ rfl
  have r2 := HBX113.out.cel 2 _ rfl
  have rl := HBX113.out.lt
  go_wp2_with fail
  refine Calls.mono (HIM.out _ _ _ (DVrow.of HRX112.out)) ?_
  rintro e u115 ⟨ag, cg, rfl, ho, hb⟩
  clear r0 r1 r2 rl
  have HB0116 : Hid (LG w u115 b0 #[.int .i64 s.frames, .int .i64 s.cpus, .slice ao s.ds.length cap] 24) := HB0110.out.step hb
  clear HB0110
  have HRW117 : Hid (u115.ownsRow w.heap.size 56 3 (.slice aw ts.length cw) ts.length (ftR (ts))) := own_belowN HRW111.out hb
  clear HRW111
  have HRX118 : Hid (u115.ownsRow n1 49 3 (.slice ax s.ds.length cx) s.ds.length (dvR s.ds)) := own_belowN HRX112.out hb
  clear HRX112
  have HBX119 : Hid (LG w u115 bx #[.int .i64 s.frames, .int .i64 s.cpus, .slice ax s.ds.length cx] 29) := HBX113.out.step hb
  clear HBX113
  rw [hn2] at ho
  have HRG120 : Hid (u115.ownsRow n2 56 3 (.slice ag ts.length cg) ts.length (ftR (ts))) := ho
  have HKG : Hid (∀ k, (Value.slice ag ts.length cg).ownBlock = some k → n2 ≤ k ∧ k < u115.heap.size) := fun k hk => ho.lt k hk
  have HN12 : Hid (n1 ≤ n2) := (show n1 ≤ n2 by have := HPX.out; have := HBX9.out; omega)
  clear ho hb hn2
  go_wp2_with fail
  refine Calls.mono (HEF.out _ _ _ _ _ (FTrow.of HRG120.out) (FTrow.of HRW117.out)) ?_
  rintro e u121 ⟨rfl, hb⟩
  have HB0122 : Hid (LG w u121 b0 #[.int .i64 s.frames, .int .i64 s.cpus, .slice ao s.ds.length cap] 24) := HB0116.out.step hb
  clear HB0116
  have HRW123 : Hid (u121.ownsRow w.heap.size 56 3 (.slice aw ts.length cw) ts.length (ftR (ts))) := own_belowN HRW117.out hb
  clear HRW117
  have HRX124 : Hid (u121.ownsRow n1 49 3 (.slice ax s.ds.length cx) s.ds.length (dvR s.ds)) := own_belowN HRX118.out hb
  clear HRX118
  have HBX125 : Hid (LG w u121 bx #[.int .i64 s.frames, .int .i64 s.cpus, .slice ax s.ds.length cx] 29) := HBX119.out.step hb
  clear HBX119
  have HRG126 : Hid (u121.ownsRow n2 56 3 (.slice ag ts.length cg) ts.length (ftR (ts))) := own_belowN HRG120.out hb
  clear HRG120
  clear hb
  go_upto_region 10 with fail
  refine wp_region_held (S := fun w9 => LG w w9 b0 #[.int .i64 s.frames, .int .i64 s.cpus, .slice ao s.ds.length cap] 24 ∧ LG w w9 bx #[.int .i64 s.frames, .int .i64 s.cpus, .slice ax s.ds.length cx] 29) (by kernel_rfl) ?_
  change wpAnyH _ _ _ _ _ _ _ _ (World.drew _)
  have HB0128 : Hid (LG w u121.drew b0 #[.int .i64 s.frames, .int .i64 s.cpus, .slice ao s.ds.length cap] 24) := HB0122.out.drew
  clear HB0122
  have HRW129 : Hid (u121.drew.ownsRow w.heap.size 56 3 (.slice aw ts.length cw) ts.length (ftR (ts))) := HRW123.out
  clear HRW123
  have HRX130 : Hid (u121.drew.ownsRow n1 49 3 (.slice ax s.ds.length cx) s.ds.length (dvR s.ds)) := HRX124.out
  clear HRX124
  have HBX131 : Hid (LG w u121.drew bx #[.int .i64 s.frames, .int .i64 s.cpus, .slice ax s.ds.length cx] 29) := HBX125.out.drew
  clear HBX125
  have HRG132 : Hid (u121.drew.ownsRow n2 56 3 (.slice ag ts.length cg) ts.length (ftR (ts))) := HRG126.out
  clear HRG126
  generalize u121.drew = u127 at *
  refine wpAnyH_take (i := 0) (v := .agg #[.int .i64 s.frames, .int .i64 s.cpus, .slice ax s.ds.length cx]) rfl (by kernel_rfl) (by kernel_rfl) (by kernel_rfl) (fun _ _ _ h => h) (Or.inl ⟨by kernel_rfl, fun w9 h9 => ?_⟩) ⟨HB0128.out, HBX131.out⟩ ?_
  · have x0 := h9.2.cel 0 _ rfl; have x1 := h9.2.cel 1 _ rfl; have x2 := h9.2.cel 2 _ rfl; have xl := h9.2.lt; clear h9; go_simp
  refine wpAnyH_take (i := 1) (v := .agg #[.int .i64 s.frames, .int .i64 s.cpus, .slice ao s.ds.length cap]) rfl (by kernel_rfl) (by kernel_rfl) (by kernel_rfl) (fun _ _ _ h => h) (Or.inl ⟨by kernel_rfl, fun w9 h9 => ?_⟩) ⟨HB0128.out, HBX131.out⟩ ?_
  · have x0 := h9.1.cel 0 _ rfl; have x1 := h9.1.cel 1 _ rfl; have x2 := h9.1.cel 2 _ rfl; have xl := h9.1.lt; clear h9; go_simp
  refine held_one 2 (by kernel_rfl) rfl (by kernel_rfl) fun K hK => ?_
  go_simp
  go_wp2_with (go_at_call 8; refine Calls.mono (HTO.out _ HB0128.out.aft) ?_; rintro e u133 ⟨at2, ct2, rfl, ho, hb⟩; have HT134 : Hid (DVrow u133 (.slice at2 s.ds.length ct2) s.ds) := DVrow.of ho; clear ho; have HB0135 : Hid (LG w u133 b0 #[.int .i64 s.frames, .int .i64 s.cpus, .slice ao s.ds.length cap] 24) := HB0128.out.step hb; have HRW136 : Hid (u133.ownsRow w.heap.size 56 3 (.slice aw ts.length cw) ts.length (ftR (ts))) := own_belowN HRW129.out hb; have HRX137 : Hid (u133.ownsRow n1 49 3 (.slice ax s.ds.length cx) s.ds.length (dvR s.ds)) := own_belowN HRX130.out hb; have HBX138 : Hid (LG w u133 bx #[.int .i64 s.frames, .int .i64 s.cpus, .slice ax s.ds.length cx] 29) := HBX131.out.step hb; have HRG139 : Hid (u133.ownsRow n2 56 3 (.slice ag ts.length cg) ts.length (ftR (ts))) := own_belowN HRG132.out hb; clear hb HB0128 HRW129 HRX130 HBX131 HRG132)
  refine hK _ _ ⟨HB0135.out, HBX138.out⟩ ?_
  clear hK K
  refine held_one 3 (by kernel_rfl) rfl (by kernel_rfl) fun K hK => ?_
  go_simp
  go_wp2_with (go_at_call 10; refine Calls.mono (HEQ.out _ _ _ _ _ (DVrow.of HRX137.out) HT134.out) ?_; rintro e u140 ⟨rfl, hb⟩; have HB0141 : Hid (LG w u140 b0 #[.int .i64 s.frames, .int .i64 s.cpus, .slice ao s.ds.length cap] 24) := HB0135.out.step hb; have HRW142 : Hid (u140.ownsRow w.heap.size 56 3 (.slice aw ts.length cw) ts.length (ftR (ts))) := own_belowN HRW136.out hb; have HRX143 : Hid (u140.ownsRow n1 49 3 (.slice ax s.ds.length cx) s.ds.length (dvR s.ds)) := own_belowN HRX137.out hb; have HBX144 : Hid (LG w u140 bx #[.int .i64 s.frames, .int .i64 s.cpus, .slice ax s.ds.length cx] 29) := HBX138.out.step hb; have HRG145 : Hid (u140.ownsRow n2 56 3 (.slice ag ts.length cg) ts.length (ftR (ts))) := own_belowN HRG139.out hb; clear hb HB0135 HRW136 HRX137 HBX138 HRG139)
  refine hK _ _ ⟨HB0141.out, HBX144.out⟩ ?_
  clear hK K HT134
  refine wpAnyH_take (i := 4) (v := .bool false) rfl (by kernel_rfl) (by kernel_rfl) (by kernel_rfl) (fun _ _ _ h => h) (Or.inl ⟨by kernel_rfl, fun w9 h9 => ?_⟩) ⟨HB0141.out, HBX144.out⟩ ?_
  · go_simp
  refine wpAnyH_done (by kernel_rfl) ?_ _
  go_simp
  have HMV : Hid (∃ M : Nat, 1 + 3 * s.ds.length = M ∧ M ≤ 4194304) := ⟨_, rfl, by have := HLZ.out; omega⟩
  obtain ⟨M, hM, hM2⟩ := HMV.out
  have HM : Hid (1 + 3 * s.ds.length = M) := hM
  have hm0 : decide ((M : Int) < 0) = false := decide_eq_false (by omega)
  clear hM hM2 HMV
  have r0 := HBX144.out.cel 0 _ rfl
  have r1 := HBX144.out.cel 1 _ rfl
  have r2 := HBX144.out.cel 2 _ rfl
  have rl := HBX144.out.lt
  go_wp2_with fail
  refine Calls.mono (markBD_ok 1 HRX143.out (by have := HLZ.out; omega) (by omega) (by omega) s.frames s.cpus) ?_
  rintro e u146 ⟨rfl, ho, hg⟩
  clear r0 r1 r2 rl
  rw [HM.out]
  clear ho
  have hx : ∀ k, (Value.slice ax s.ds.length cx).ownBlock = some k → n1 ≤ k ∧ k < bx := HKX.out
  have hbx := HBX9.out
  have hb01 := HB01.out
  have hw0 := HB0141.out.ge
  have HB0147 : Hid (LG w u146 b0 #[.int .i64 s.frames, .int .i64 s.cpus, .slice ao s.ds.length cap] 24) := HB0141.out.growD hg (fun e => by have := hx _ e; omega) (fun k hk => by have := hx k hk; omega)
  clear HB0141
  have HRW148 : Hid (u146.ownsRow w.heap.size 56 3 (.slice aw ts.length cw) ts.length (ftR (ts))) := (show _ from World.ownsRow.kept HRW142.out hg (by
    rcases hq : (Value.slice aw ts.length cw).ownBlock with _ | k1
    · exact .inl rfl
    · exact .inr (fun e => by have h1 := HKW0.out k1 hq; have h2 := hx k1 e.symm; omega)))
  clear HRW142
  have HRG149 : Hid (u146.ownsRow n2 56 3 (.slice ag ts.length cg) ts.length (ftR (ts))) := (show _ from World.ownsRow.kept HRG145.out hg (by
    rcases hq : (Value.slice ag ts.length cg).ownBlock with _ | k1
    · exact .inl rfl
    · exact .inr (fun e => by have h1 := (HKG.out k1 hq).1; have h2 := hx k1 e.symm; omega)))
  clear HRG145
  clear hg hx hbx hb01 hw0 HRX143 HBX144
  go_wp2_with fail
  refine Calls.mono (HEF.out _ _ _ _ _ (FTrow.of HRG149.out) (FTrow.of HRW148.out)) ?_
  rintro e u150 ⟨rfl, hb⟩
  have HB0151 : Hid (LG w u150 b0 #[.int .i64 s.frames, .int .i64 s.cpus, .slice ao s.ds.length cap] 24) := HB0147.out.step hb
  clear HB0147
  have HRW152 : Hid (u150.ownsRow w.heap.size 56 3 (.slice aw ts.length cw) ts.length (ftR (ts))) := own_belowN HRW148.out hb
  clear HRW148
  have HRG153 : Hid (u150.ownsRow n2 56 3 (.slice ag ts.length cg) ts.length (ftR (ts))) := own_belowN HRG149.out hb
  clear HRG149
  clear hb
  go_wp2_with fail
  refine Calls.mono (markFT_ok 1 HRG153.out (by have := HLN.out; omega) (by omega) (by omega)) ?_
  rintro e u154 ⟨rfl, ho, hg⟩
  have hx : ∀ k, (Value.slice ag ts.length cg).ownBlock = some k → n2 ≤ k := fun k hk => (HKG.out k hk).1
  have hb01 := HB01.out
  have hn12 := HN12.out
  have hw0 := HB0151.out.ge
  have HB0155 : Hid (LG w u154 b0 #[.int .i64 s.frames, .int .i64 s.cpus, .slice ao s.ds.length cap] 24) := HB0151.out.growD hg (fun e => by have := hx _ e; omega) (fun k hk => by have := hx k hk; omega)
  clear HB0151
  have HRW156 : Hid (u154.ownsRow w.heap.size 56 3 (.slice aw ts.length cw) ts.length (ftR (ts))) := (show _ from World.ownsRow.kept HRW152.out hg (by
    rcases hq : (Value.slice aw ts.length cw).ownBlock with _ | k1
    · exact .inl rfl
    · exact .inr (fun e => by have h1 := HKW0.out k1 hq; have h2 := hx k1 e.symm; omega)))
  clear HRW152
  have HXG157 : Hid (u154.ownsRow n2 56 3 (.slice ag ts.length cg) ts.length (ftR (mfK 1 ts.length))) := ho
  clear hg hx ho hb01 hn12 hw0 HRG153
  obtain ⟨N, hN⟩ : ∃ N : Nat, 1 + 3 * ts.length = N := ⟨_, rfl⟩
  have hNb : N ≤ 100 := by have := HLN.out; omega
  rw [hN]
  have HN : Hid (1 + 3 * ts.length = N) := hN
  clear hN
  have HHE : Hid (∀ u, FTrow u (.slice ag ts.length cg) (mfK 1 ts.length) → Calls Try.prog 16 #[.slice ag ts.length cg, .int .i64 1] u fun e w' => e = .returned (.int .i64 (N : Int)) ∧ Below u.heap.size u w') := (fun u hu => by rw [← HN.out]; exact heldFT_ok 1 ts.length hu (by have := HLN.out; omega) (by omega) (by omega))
  have hn0 : decide ((N : Int) < 0) = false := decide_eq_false (by omega)
  have hnn : ((N : Int) != (N : Int)) = false := by simp
  go_wp2_with fail
  refine Calls.mono (HHE.out _ (FTrow.of (by rw [mfK_len]; exact HXG157.out))) ?_
  rintro e u158 ⟨rfl, hb⟩
  have HB0159 : Hid (LG w u158 b0 #[.int .i64 s.frames, .int .i64 s.cpus, .slice ao s.ds.length cap] 24) := HB0155.out.step hb
  clear HB0155
  have HRW160 : Hid (u158.ownsRow w.heap.size 56 3 (.slice aw ts.length cw) ts.length (ftR (ts))) := own_belowN HRW156.out hb
  clear HRW156
  have HXG161 : Hid (u158.ownsRow n2 56 3 (.slice ag ts.length cg) ts.length (ftR (mfK 1 ts.length))) := own_belowN HXG157.out hb
  clear HXG157
  clear hb
  have r0 := HB0159.out.cel 0 _ rfl
  have r1 := HB0159.out.cel 1 _ rfl
  have r2 := HB0159.out.cel 2 _ rfl
  have rl := HB0159.out.lt
  go_wp2_with fail
  refine Calls.mono (HTO.out _ HB0159.out.aft) ?_
  rintro e u162 ⟨at3, ct3, rfl, ho, hb⟩
  clear r0 r1 r2 rl
  have HB0163 : Hid (LG w u162 b0 #[.int .i64 s.frames, .int .i64 s.cpus, .slice ao s.ds.length cap] 24) := HB0159.out.step hb
  clear HB0159
  have HRW164 : Hid (u162.ownsRow w.heap.size 56 3 (.slice aw ts.length cw) ts.length (ftR (ts))) := own_belowN HRW160.out hb
  clear HRW160
  have HXG165 : Hid (u162.ownsRow n2 56 3 (.slice ag ts.length cg) ts.length (ftR (mfK 1 ts.length))) := own_belowN HXG161.out hb
  clear HXG161
  have HT166 : Hid (u162.ownsRow u158.heap.size 49 3 (.slice at3 s.ds.length ct3) s.ds.length (dvR s.ds)) := ho
  clear ho hb
  go_wp2_with fail
  refine Calls.mono (HIM.out _ _ _ (DVrow.of HT166.out)) ?_
  rintro e u167 ⟨ah, ch, rfl, ho, hb⟩
  clear HT166
  have HB0168 : Hid (LG w u167 b0 #[.int .i64 s.frames, .int .i64 s.cpus, .slice ao s.ds.length cap] 24) := HB0163.out.step hb
  clear HB0163
  have HRW169 : Hid (u167.ownsRow w.heap.size 56 3 (.slice aw ts.length cw) ts.length (ftR (ts))) := own_belowN HRW164.out hb
  clear HRW164
  have HXG170 : Hid (u167.ownsRow n2 56 3 (.slice ag ts.length cg) ts.length (ftR (mfK 1 ts.length))) := own_belowN HXG165.out hb
  clear HXG165
  have HRH171 : Hid (u167.ownsRow u162.heap.size 56 3 (.slice ah ts.length ch) ts.length (ftR (ts))) := ho
  clear ho hb
  go_wp2_with fail
  refine Calls.mono (HEF.out _ _ _ _ _ (FTrow.of HRH171.out) (FTrow.of HRW169.out)) ?_
  rintro e u172 ⟨rfl, hb⟩
  have HB0173 : Hid (LG w u172 b0 #[.int .i64 s.frames, .int .i64 s.cpus, .slice ao s.ds.length cap] 24) := HB0168.out.step hb
  clear HB0168
  have HRW174 : Hid (u172.ownsRow w.heap.size 56 3 (.slice aw ts.length cw) ts.length (ftR (ts))) := own_belowN HRW169.out hb
  clear HRW169
  have HXG175 : Hid (u172.ownsRow n2 56 3 (.slice ag ts.length cg) ts.length (ftR (mfK 1 ts.length))) := own_belowN HXG170.out hb
  clear HXG170
  have HRH176 : Hid (u172.ownsRow u162.heap.size 56 3 (.slice ah ts.length ch) ts.length (ftR (ts))) := own_belowN HRH171.out hb
  clear HRH171
  clear hb
  go_wp2_with fail
  refine Calls.mono (HHE.out _ (FTrow.of (by rw [mfK_len]; exact HXG175.out))) ?_
  rintro e u177 ⟨rfl, hb⟩
  have HB0178 : Hid (LG w u177 b0 #[.int .i64 s.frames, .int .i64 s.cpus, .slice ao s.ds.length cap] 24) := HB0173.out.step hb
  clear HB0173
  have HRW179 : Hid (u177.ownsRow w.heap.size 56 3 (.slice aw ts.length cw) ts.length (ftR (ts))) := own_belowN HRW174.out hb
  clear HRW174
  have HXG180 : Hid (u177.ownsRow n2 56 3 (.slice ag ts.length cg) ts.length (ftR (mfK 1 ts.length))) := own_belowN HXG175.out hb
  clear HXG175
  have HRH181 : Hid (u177.ownsRow u162.heap.size 56 3 (.slice ah ts.length ch) ts.length (ftR (ts))) := own_belowN HRH176.out hb
  clear HRH176
  clear hb
  go_wp2
  go_ret
  exact ⟨rfl, HB0178.out.bel⟩
end Go.Proofs.Ytlpkkclmcgnapaa
