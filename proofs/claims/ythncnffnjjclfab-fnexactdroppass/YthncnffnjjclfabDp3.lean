import Derived.Test.YthncnffnjjclfabDp2
import Derived.Test.YthncnffnjjclfabVm4
import Derived.Test.YthncnffnjjclfabVo3
namespace Go.Proofs.Ythncnffnjjclfab
open Go.ChangeShapes Go.WideShapes Go.ChangeAt Go.RowKit

set_option maxRecDepth 100000 in
set_option maxHeartbeats 8000000 in
theorem walkDP {w : World} {v : Value} {zs : List KS} (h : KSrow w v zs) (hm : zs.length ≤ maxLen) (hz : ∀ z ∈ zs, z.key.size ≤ maxLen ∧ z.tag.size ≤ maxLen) (c : ByteArray) (hc : c.size ≤ maxLen) (n : Int) :
    Calls Try.prog 3 #[.agg #[v, .string c], .int .i64 n] w fun e w' => e = .returned (.bool true) ∧ Below w.heap.size w w' := by
  have HR : Hid (KSrow w v zs) := h
  obtain ⟨ao, cap, rfl⟩ := h.sl
  have HSZ : Hid (∀ u, Aft w u → Calls Try.prog 7 #[.agg #[.slice ao zs.length cap, .string c], .int .i64 1048576] u fun e w' => ∃ q, e = .returned (.int .i64 q) ∧ -1 ≤ q ∧ (0 ≤ q → zs.length ≤ 1048576) ∧ Below u.heap.size u w') := fun u hu => szVol_w (HR.out.below hu.out) hm hz c hc
  have HL0 : Hid (LG w (w.alloc (.cells #[.slice ao zs.length cap, .string c] 24)) w.heap.size #[.slice ao zs.length cap, .string c] 24) := LG.new w _ _
  clear h hm hz hc
  go_enter Try.func3, Try.ntmps3
  go_wp2_with fail
  generalize (w.alloc (.cells #[.slice ao zs.length cap, .string c] 24)) = u0 at *
  generalize w.heap.size = b0 at *
  refine Calls.mono (HSZ.out _ HL0.out.aft) ?_
  rintro e u1 ⟨q, rfl, q0, hq, hu⟩
  have HL1 : Hid (LG w u1 b0 #[.slice ao zs.length cap, .string c] 24) := HL0.out.step hu
  have HQ : Hid (0 ≤ q → zs.length ≤ 1048576) := hq
  clear hu hq HL0 HSZ
  cases h3 : decide (q < 0)
  rotate_left
  · go_wp2
    go_ret
    exact ⟨rfl, HL1.out.bel⟩
  have hl : zs.length ≤ 1048576 := HQ.out (by have := of_decide_eq_false h3; omega)
  have HLZ : Hid (zs.length ≤ 1048576) := hl
  have HTO : Hid (∀ u, Aft w u → Calls Try.prog 9 #[.agg #[.slice ao zs.length cap, .string c]] u fun e w' => ∃ x, e = .returned (.agg #[x, .string c]) ∧ w'.ownsRow u.heap.size 79 3 x zs.length (ksR zs) ∧ Below u.heap.size u w') := fun u hu => toVol_any (HR.out.below hu.out) hl c
  have HSP : Hid (∀ u x, KSrow u x zs → Calls Try.prog 8 #[.agg #[x, .string c], .int .i64 n] u fun e w' => ∃ sv, e = .returned (vrA sv (dpR zs c n)) ∧ w'.ownsRow u.heap.size 79 3 sv (dpR zs c n).zs.length (ksR (dpR zs c n).zs) ∧ Below u.heap.size u w') := fun u x hx => specDrop_any hx c n
  have HIM : Hid (∀ u x, KSrow u x zs → Calls Try.prog 10 #[.agg #[x, .string c], .int .i64 n] u fun e w' => ∃ sv, e = .returned (vrA sv (dpR zs c n)) ∧ w'.ownsRow u.heap.size 79 3 sv (dpR zs c n).zs.length (ksR (dpR zs c n).zs) ∧ Below u.heap.size u w') := fun u x hx => implDrop_any hx hl c n
  have HEQ : Hid (∀ u x y, KSrow u x zs → KSrow u y zs → Calls Try.prog 12 #[.agg #[x, .string c], .agg #[y, .string c]] u fun e w' => e = .returned (.bool true) ∧ Below u.heap.size u w') := fun u x y hx hy => eqVol_ok hx hy hl c
  have hln := dpR_len zs c n
  generalize dpR zs c n = R at *
  obtain ⟨cd, rs, ck⟩ := R
  unfold vrA at HSP HIM
  simp only at HSP HIM hln
  have HLN : Hid (rs.length ≤ 5) := hln
  clear HQ hl hln
  have r0 := HL1.out.cel 0 _ rfl
  have r1 := HL1.out.cel 1 _ rfl
  have rl := HL1.out.lt
  go_wp2_with fail
  refine Calls.mono (HTO.out _ HL1.out.aft) ?_
  rintro e u101 ⟨xx, rfl, ho, hb⟩
  clear r0 r1 rl
  have HB0102 : Hid (LG w u101 b0 #[.slice ao zs.length cap, .string c] 24) := HL1.out.step hb
  clear HL1
  obtain ⟨at1, ct1, rfl⟩ := ks_sl ho
  have HT103 : Hid (u101.ownsRow u1.heap.size 79 3 (.slice at1 zs.length ct1) zs.length (ksR zs)) := ho
  clear ho hb
  go_wp2_with fail
  refine Calls.mono (HSP.out _ _ (KSrow.of HT103.out)) ?_
  rintro e u3 ⟨sv, rfl, ho, hb⟩
  clear HT103
  have HWX : Hid (w.heap.size ≤ u101.heap.size) := HB0102.out.bel.size
  have HB0104 : Hid (LG w u3 b0 #[.slice ao zs.length cap, .string c] 24) := HB0102.out.step hb
  clear HB0102
  obtain ⟨aw, cw, rfl⟩ := ks_sl ho
  have HRW105 : Hid (u3.ownsRow w.heap.size 79 3 (.slice aw rs.length cw) rs.length (ksR rs)) := ks_weak ho HWX.out
  have HKW0 : Hid (∀ k, (Value.slice aw rs.length cw).ownBlock = some k → k < u3.heap.size) := fun k hk => (ho.lt k hk).2
  clear ho hb HWX
  have HSZ106 : Hid (w.heap.size ≤ u3.heap.size) := HB0104.out.bel.size
  have HB0107 : Hid (LG w (u3.alloc (.cells #[.int .i64 cd, .slice aw rs.length cw, .string ck] 30)) b0 #[.slice ao zs.length cap, .string c] 24) := HB0104.out.step (bx1 _ _)
  clear HB0104
  have HRW108 : Hid ((u3.alloc (.cells #[.int .i64 cd, .slice aw rs.length cw, .string ck] 30)).ownsRow w.heap.size 79 3 (.slice aw rs.length cw) rs.length (ksR rs)) := World.ownsRow.alloc HRW105.out _
  clear HRW105
  have HBW109 : Hid (LG w (u3.alloc (.cells #[.int .i64 cd, .slice aw rs.length cw, .string ck] 30)) u3.heap.size #[.int .i64 cd, .slice aw rs.length cw, .string ck] 30) := ⟨HB0107.out.bel, heap_new _ _, HSZ106.out⟩
  clear HSZ106
  have HKW : Hid (∀ k, (Value.slice aw rs.length cw).ownBlock = some k → k < (u3.alloc (.cells #[.int .i64 cd, .slice aw rs.length cw, .string ck] 30)).heap.size) := (fun k hk => by have := HKW0.out k hk; simp; omega)
  clear HKW0
  have HBW9 : Hid (u3.heap.size < (u3.alloc (.cells #[.int .i64 cd, .slice aw rs.length cw, .string ck] 30)).heap.size) := (show _ < _ by simp)
  go_upto_region 6 with fail
  generalize (u3.alloc (.cells #[.int .i64 cd, .slice aw rs.length cw, .string ck] 30)) = u110 at *
  generalize u3.heap.size = bw at *
  obtain ⟨n1, hn1⟩ : ∃ n, u110.heap.size = n := ⟨_, rfl⟩
  rw [hn1] at HKW HBW9
  have HB01 : Hid (b0 < n1) := (show b0 < n1 by have := HB0107.out.lt; omega)
  have r0 := HB0107.out.cel 0 _ rfl
  have r1 := HB0107.out.cel 1 _ rfl
  have rl := HB0107.out.lt
  go_wp2_with fail
  refine Calls.mono (HTO.out _ HB0107.out.aft) ?_
  rintro e u111 ⟨xx, rfl, ho, hb⟩
  clear r0 r1 rl
  have HB0112 : Hid (LG w u111 b0 #[.slice ao zs.length cap, .string c] 24) := HB0107.out.step hb
  clear HB0107
  have HRW113 : Hid (u111.ownsRow w.heap.size 79 3 (.slice aw rs.length cw) rs.length (ksR rs)) := ks_below HRW108.out hb
  clear HRW108
  have HBW114 : Hid (LG w u111 bw #[.int .i64 cd, .slice aw rs.length cw, .string ck] 30) := HBW109.out.step hb
  clear HBW109
  obtain ⟨ax, cx, rfl⟩ := ks_sl ho
  have HRX115 : Hid (u111.ownsRow u110.heap.size 79 3 (.slice ax zs.length cx) zs.length (ksR zs)) := ho
  have HKX0 : Hid (∀ k, (Value.slice ax zs.length cx).ownBlock = some k → n1 ≤ k ∧ k < u111.heap.size) := (fun k hk => by have := ho.lt k hk; omega)
  have HPX : Hid (n1 ≤ u111.heap.size) := (show n1 ≤ u111.heap.size by have := hb.size; omega)
  have HRX116 : Hid (u111.ownsRow n1 79 3 (.slice ax zs.length cx) zs.length (ksR zs)) := (by rw [← hn1]; exact HRX115.out)
  clear HRX115
  clear ho hb hn1
  have HSZ117 : Hid (w.heap.size ≤ u111.heap.size) := HB0112.out.bel.size
  have HB0118 : Hid (LG w (u111.alloc (.cells #[.slice ax zs.length cx, .string c] 28)) b0 #[.slice ao zs.length cap, .string c] 24) := HB0112.out.step (bx1 _ _)
  clear HB0112
  have HRW119 : Hid ((u111.alloc (.cells #[.slice ax zs.length cx, .string c] 28)).ownsRow w.heap.size 79 3 (.slice aw rs.length cw) rs.length (ksR rs)) := World.ownsRow.alloc HRW113.out _
  clear HRW113
  have HBW120 : Hid (LG w (u111.alloc (.cells #[.slice ax zs.length cx, .string c] 28)) bw #[.int .i64 cd, .slice aw rs.length cw, .string ck] 30) := HBW114.out.step (bx1 _ _)
  clear HBW114
  have HRX121 : Hid ((u111.alloc (.cells #[.slice ax zs.length cx, .string c] 28)).ownsRow n1 79 3 (.slice ax zs.length cx) zs.length (ksR zs)) := World.ownsRow.alloc HRX116.out _
  clear HRX116
  have HBX122 : Hid (LG w (u111.alloc (.cells #[.slice ax zs.length cx, .string c] 28)) u111.heap.size #[.slice ax zs.length cx, .string c] 28) := ⟨HB0118.out.bel, heap_new _ _, HSZ117.out⟩
  clear HSZ117
  have HBX9 : Hid (u111.heap.size < (u111.alloc (.cells #[.slice ax zs.length cx, .string c] 28)).heap.size) := (show _ < _ by simp)
  go_upto_region 7 with fail
  generalize (u111.alloc (.cells #[.slice ax zs.length cx, .string c] 28)) = u123 at *
  generalize u111.heap.size = bx at *
  obtain ⟨n2, hn2⟩ : ∃ n, u123.heap.size = n := ⟨_, rfl⟩
  rw [hn2] at HBX9
  have r0 := HBX122.out.cel 0 _ rfl
  have r1 := HBX122.out.cel 1 _ rfl
  have rl := HBX122.out.lt
  go_wp2_with fail
  refine Calls.mono (HIM.out _ _ (KSrow.of HRX121.out)) ?_
  rintro e u124 ⟨sv, rfl, ho, hb⟩
  clear r0 r1 rl
  have HB0125 : Hid (LG w u124 b0 #[.slice ao zs.length cap, .string c] 24) := HB0118.out.step hb
  clear HB0118
  have HRW126 : Hid (u124.ownsRow w.heap.size 79 3 (.slice aw rs.length cw) rs.length (ksR rs)) := ks_below HRW119.out hb
  clear HRW119
  have HBW127 : Hid (LG w u124 bw #[.int .i64 cd, .slice aw rs.length cw, .string ck] 30) := HBW120.out.step hb
  clear HBW120
  have HRX128 : Hid (u124.ownsRow n1 79 3 (.slice ax zs.length cx) zs.length (ksR zs)) := ks_below HRX121.out hb
  clear HRX121
  have HBX129 : Hid (LG w u124 bx #[.slice ax zs.length cx, .string c] 28) := HBX122.out.step hb
  clear HBX122
  obtain ⟨ag, cg, rfl⟩ := ks_sl ho
  rw [hn2] at ho
  have HRG130 : Hid (u124.ownsRow n2 79 3 (.slice ag rs.length cg) rs.length (ksR rs)) := ho
  have HKG : Hid (∀ k, (Value.slice ag rs.length cg).ownBlock = some k → n2 ≤ k ∧ k < u124.heap.size) := fun k hk => ho.lt k hk
  have HN12 : Hid (n1 ≤ n2) := (show n1 ≤ n2 by have := HPX.out; have := HBX9.out; omega)
  have HN2 : Hid (n2 ≤ u124.heap.size) := (show _ ≤ _ by have := hb.size; omega)
  clear ho hb hn2
  have HSZ131 : Hid (w.heap.size ≤ u124.heap.size) := HB0125.out.bel.size
  have HB0132 : Hid (LG w (u124.alloc (.cells #[.int .i64 cd, .slice ag rs.length cg, .string ck] 30)) b0 #[.slice ao zs.length cap, .string c] 24) := HB0125.out.step (bx1 _ _)
  clear HB0125
  have HRW133 : Hid ((u124.alloc (.cells #[.int .i64 cd, .slice ag rs.length cg, .string ck] 30)).ownsRow w.heap.size 79 3 (.slice aw rs.length cw) rs.length (ksR rs)) := World.ownsRow.alloc HRW126.out _
  clear HRW126
  have HBW134 : Hid (LG w (u124.alloc (.cells #[.int .i64 cd, .slice ag rs.length cg, .string ck] 30)) bw #[.int .i64 cd, .slice aw rs.length cw, .string ck] 30) := HBW127.out.step (bx1 _ _)
  clear HBW127
  have HRX135 : Hid ((u124.alloc (.cells #[.int .i64 cd, .slice ag rs.length cg, .string ck] 30)).ownsRow n1 79 3 (.slice ax zs.length cx) zs.length (ksR zs)) := World.ownsRow.alloc HRX128.out _
  clear HRX128
  have HBX136 : Hid (LG w (u124.alloc (.cells #[.int .i64 cd, .slice ag rs.length cg, .string ck] 30)) bx #[.slice ax zs.length cx, .string c] 28) := HBX129.out.step (bx1 _ _)
  clear HBX129
  have HRG137 : Hid ((u124.alloc (.cells #[.int .i64 cd, .slice ag rs.length cg, .string ck] 30)).ownsRow n2 79 3 (.slice ag rs.length cg) rs.length (ksR rs)) := World.ownsRow.alloc HRG130.out _
  clear HRG130
  have HBG138 : Hid (LG w (u124.alloc (.cells #[.int .i64 cd, .slice ag rs.length cg, .string ck] 30)) u124.heap.size #[.int .i64 cd, .slice ag rs.length cg, .string ck] 30) := ⟨HB0132.out.bel, heap_new _ _, HSZ131.out⟩
  clear HSZ131
  go_upto_region 8 with fail
  generalize (u124.alloc (.cells #[.int .i64 cd, .slice ag rs.length cg, .string ck] 30)) = u139 at *
  generalize u124.heap.size = bg at *
  have r0 := HBG138.out.cel 0 _ rfl
  have r1 := HBG138.out.cel 1 _ rfl
  have r2 := HBG138.out.cel 2 _ rfl
  have rl := HBG138.out.lt
  have q0 := HBW134.out.cel 0 _ rfl
  have q1 := HBW134.out.cel 1 _ rfl
  have q2 := HBW134.out.cel 2 _ rfl
  have ql := HBW134.out.lt
  go_wp2_with fail
  refine Calls.mono (eqVR_ok (KSrow.of HRG137.out) (KSrow.of HRW133.out) (by have := HLN.out; omega) cd ck) ?_
  rintro e u140 ⟨rfl, hb⟩
  clear r0 r1 r2 rl
  clear q0 q1 q2 ql
  have HB0141 : Hid (LG w u140 b0 #[.slice ao zs.length cap, .string c] 24) := HB0132.out.step hb
  clear HB0132
  have HRW142 : Hid (u140.ownsRow w.heap.size 79 3 (.slice aw rs.length cw) rs.length (ksR rs)) := ks_below HRW133.out hb
  clear HRW133
  have HBW143 : Hid (LG w u140 bw #[.int .i64 cd, .slice aw rs.length cw, .string ck] 30) := HBW134.out.step hb
  clear HBW134
  have HRX144 : Hid (u140.ownsRow n1 79 3 (.slice ax zs.length cx) zs.length (ksR zs)) := ks_below HRX135.out hb
  clear HRX135
  have HBX145 : Hid (LG w u140 bx #[.slice ax zs.length cx, .string c] 28) := HBX136.out.step hb
  clear HBX136
  have HRG146 : Hid (u140.ownsRow n2 79 3 (.slice ag rs.length cg) rs.length (ksR rs)) := ks_below HRG137.out hb
  clear HRG137
  have HBG147 : Hid (LG w u140 bg #[.int .i64 cd, .slice ag rs.length cg, .string ck] 30) := HBG138.out.step hb
  clear HBG138
  clear hb
  go_upto_region 10 with fail
  refine wp_region_held (S := fun w9 => LG w w9 b0 #[.slice ao zs.length cap, .string c] 24 ∧ LG w w9 bx #[.slice ax zs.length cx, .string c] 28) (by kernel_rfl) ?_
  change wpAnyH _ _ _ _ _ _ _ _ (World.drew _)
  have HB0149 : Hid (LG w u140.drew b0 #[.slice ao zs.length cap, .string c] 24) := HB0141.out.drew
  clear HB0141
  have HRW150 : Hid (u140.drew.ownsRow w.heap.size 79 3 (.slice aw rs.length cw) rs.length (ksR rs)) := HRW142.out
  clear HRW142
  have HBW151 : Hid (LG w u140.drew bw #[.int .i64 cd, .slice aw rs.length cw, .string ck] 30) := HBW143.out.drew
  clear HBW143
  have HRX152 : Hid (u140.drew.ownsRow n1 79 3 (.slice ax zs.length cx) zs.length (ksR zs)) := HRX144.out
  clear HRX144
  have HBX153 : Hid (LG w u140.drew bx #[.slice ax zs.length cx, .string c] 28) := HBX145.out.drew
  clear HBX145
  have HRG154 : Hid (u140.drew.ownsRow n2 79 3 (.slice ag rs.length cg) rs.length (ksR rs)) := HRG146.out
  clear HRG146
  have HBG155 : Hid (LG w u140.drew bg #[.int .i64 cd, .slice ag rs.length cg, .string ck] 30) := HBG147.out.drew
  clear HBG147
  generalize u140.drew = u148 at *
  refine wpAnyH_take (i := 0) (v := .agg #[.slice ax zs.length cx, .string c]) rfl (by kernel_rfl) (by kernel_rfl) (by kernel_rfl) (fun _ _ _ h => h) (Or.inl ⟨by kernel_rfl, fun w9 h9 => ?_⟩) ⟨HB0149.out, HBX153.out⟩ ?_
  · have x0 := h9.1.cel 0 _ rfl; have x1 := h9.1.cel 1 _ rfl; have xl := h9.1.lt; have y0 := h9.2.cel 0 _ rfl; have y1 := h9.2.cel 1 _ rfl; have yl := h9.2.lt; go_simp
  refine wpAnyH_take (i := 1) (v := .agg #[.slice ao zs.length cap, .string c]) rfl (by kernel_rfl) (by kernel_rfl) (by kernel_rfl) (fun _ _ _ h => h) (Or.inl ⟨by kernel_rfl, fun w9 h9 => ?_⟩) ⟨HB0149.out, HBX153.out⟩ ?_
  · have x0 := h9.1.cel 0 _ rfl; have x1 := h9.1.cel 1 _ rfl; have xl := h9.1.lt; have y0 := h9.2.cel 0 _ rfl; have y1 := h9.2.cel 1 _ rfl; have yl := h9.2.lt; go_simp
  refine held_one 2 (by kernel_rfl) rfl (by kernel_rfl) fun K hK => ?_
  go_simp
  go_wp2_with (go_at_call 9; refine Calls.mono (HTO.out _ HB0149.out.aft) ?_; rintro e u156 ⟨xx, rfl, ho, hb⟩; obtain ⟨at2, ct2, rfl⟩ := ks_sl ho; have HT157 : Hid (KSrow u156 (.slice at2 zs.length ct2) zs) := KSrow.of ho; clear ho; have HB0158 : Hid (LG w u156 b0 #[.slice ao zs.length cap, .string c] 24) := HB0149.out.step hb; have HRW159 : Hid (u156.ownsRow w.heap.size 79 3 (.slice aw rs.length cw) rs.length (ksR rs)) := ks_below HRW150.out hb; have HBW160 : Hid (LG w u156 bw #[.int .i64 cd, .slice aw rs.length cw, .string ck] 30) := HBW151.out.step hb; have HRX161 : Hid (u156.ownsRow n1 79 3 (.slice ax zs.length cx) zs.length (ksR zs)) := ks_below HRX152.out hb; have HBX162 : Hid (LG w u156 bx #[.slice ax zs.length cx, .string c] 28) := HBX153.out.step hb; have HRG163 : Hid (u156.ownsRow n2 79 3 (.slice ag rs.length cg) rs.length (ksR rs)) := ks_below HRG154.out hb; have HBG164 : Hid (LG w u156 bg #[.int .i64 cd, .slice ag rs.length cg, .string ck] 30) := HBG155.out.step hb; clear hb HB0149 HRW150 HBW151 HRX152 HBX153 HRG154 HBG155)
  refine hK _ _ ⟨HB0158.out, HBX162.out⟩ ?_
  clear hK K
  refine held_one 3 (by kernel_rfl) rfl (by kernel_rfl) fun K hK => ?_
  go_simp
  go_wp2_with (go_at_call 12; refine Calls.mono (HEQ.out _ _ _ (KSrow.of HRX161.out) HT157.out) ?_; rintro e u165 ⟨rfl, hb⟩; have HB0166 : Hid (LG w u165 b0 #[.slice ao zs.length cap, .string c] 24) := HB0158.out.step hb; have HRW167 : Hid (u165.ownsRow w.heap.size 79 3 (.slice aw rs.length cw) rs.length (ksR rs)) := ks_below HRW159.out hb; have HBW168 : Hid (LG w u165 bw #[.int .i64 cd, .slice aw rs.length cw, .string ck] 30) := HBW160.out.step hb; have HRX169 : Hid (u165.ownsRow n1 79 3 (.slice ax zs.length cx) zs.length (ksR zs)) := ks_below HRX161.out hb; have HBX170 : Hid (LG w u165 bx #[.slice ax zs.length cx, .string c] 28) := HBX162.out.step hb; have HRG171 : Hid (u165.ownsRow n2 79 3 (.slice ag rs.length cg) rs.length (ksR rs)) := ks_below HRG163.out hb; have HBG172 : Hid (LG w u165 bg #[.int .i64 cd, .slice ag rs.length cg, .string ck] 30) := HBG164.out.step hb; clear hb HB0158 HRW159 HBW160 HRX161 HBX162 HRG163 HBG164)
  refine hK _ _ ⟨HB0166.out, HBX170.out⟩ ?_
  clear hK K HT157
  refine wpAnyH_take (i := 4) (v := .bool false) rfl (by kernel_rfl) (by kernel_rfl) (by kernel_rfl) (fun _ _ _ h => h) (Or.inl ⟨by kernel_rfl, fun w9 h9 => ?_⟩) ⟨HB0166.out, HBX170.out⟩ ?_
  · go_simp
  refine wpAnyH_done (by kernel_rfl) ?_ _
  go_simp
  have HMV : Hid (∃ M : Nat, 1 + 3 * zs.length = M ∧ M ≤ 4194304) := ⟨_, rfl, by have := HLZ.out; omega⟩
  obtain ⟨M, hM, hM2⟩ := HMV.out
  have HM : Hid (1 + 3 * zs.length = M) := hM
  have hm0 : decide ((M : Int) < 0) = false := decide_eq_false (by omega)
  clear hM hM2 HMV
  have r0 := HBX170.out.cel 0 _ rfl
  have r1 := HBX170.out.cel 1 _ rfl
  have rl := HBX170.out.lt
  go_wp2_with fail
  refine Calls.mono (markVol_ok 1 HRX169.out (by have := HLZ.out; omega) (by omega) (by omega) c) ?_
  rintro e u173 ⟨rfl, ho, hg⟩
  clear r0 r1 rl
  rw [HM.out]
  clear ho
  have hx : ∀ k, (Value.slice ax zs.length cx).ownBlock = some k → n1 ≤ k ∧ k < bx := HKX0.out
  have hbx := HBX9.out
  have hbw := HBW9.out
  have hb01 := HB01.out
  have hn2g : n2 ≤ bg := HN2.out
  have hw0 := HB0166.out.ge
  have HB0174 : Hid (LG w u173 b0 #[.slice ao zs.length cap, .string c] 24) := HB0166.out.grow hg (fun e => by have := hx _ e; omega) (fun k hk => by have := hx k hk; omega)
  clear HB0166
  have HRW175 : Hid (u173.ownsRow w.heap.size 79 3 (.slice aw rs.length cw) rs.length (ksR rs)) := (show _ from World.ownsRow.kept HRW167.out hg (by
    rcases hq : (Value.slice aw rs.length cw).ownBlock with _ | k1
    · exact .inl rfl
    · exact .inr (fun e => by have h1 := HKW.out k1 hq; have h2 := hx k1 e.symm; omega)))
  clear HRW167
  have HBW176 : Hid (LG w u173 bw #[.int .i64 cd, .slice aw rs.length cw, .string ck] 30) := HBW168.out.grow hg (fun e => by have := hx _ e; omega) (fun k hk => by have := hx k hk; omega)
  clear HBW168
  have HRG177 : Hid (u173.ownsRow n2 79 3 (.slice ag rs.length cg) rs.length (ksR rs)) := (show _ from World.ownsRow.kept HRG171.out hg (by
    rcases hq : (Value.slice ag rs.length cg).ownBlock with _ | k1
    · exact .inl rfl
    · exact .inr (fun e => by have h1 := (HKG.out k1 hq).1; have h2 := hx k1 e.symm; omega)))
  clear HRG171
  have HBG178 : Hid (LG w u173 bg #[.int .i64 cd, .slice ag rs.length cg, .string ck] 30) := HBG172.out.grow hg (fun e => by have := hx _ e; omega) (fun k hk => by have := hx k hk; omega)
  clear HBG172
  clear hg hx HRX169 HBX170
  clear hbx hbw hb01 hn2g hw0
  have r0 := HBG178.out.cel 0 _ rfl
  have r1 := HBG178.out.cel 1 _ rfl
  have r2 := HBG178.out.cel 2 _ rfl
  have rl := HBG178.out.lt
  have q0 := HBW176.out.cel 0 _ rfl
  have q1 := HBW176.out.cel 1 _ rfl
  have q2 := HBW176.out.cel 2 _ rfl
  have ql := HBW176.out.lt
  go_wp2_with fail
  refine Calls.mono (eqVR_ok (KSrow.of HRG177.out) (KSrow.of HRW175.out) (by have := HLN.out; omega) cd ck) ?_
  rintro e u179 ⟨rfl, hb⟩
  clear r0 r1 r2 rl
  clear q0 q1 q2 ql
  have HB0180 : Hid (LG w u179 b0 #[.slice ao zs.length cap, .string c] 24) := HB0174.out.step hb
  clear HB0174
  have HRW181 : Hid (u179.ownsRow w.heap.size 79 3 (.slice aw rs.length cw) rs.length (ksR rs)) := ks_below HRW175.out hb
  clear HRW175
  have HBW182 : Hid (LG w u179 bw #[.int .i64 cd, .slice aw rs.length cw, .string ck] 30) := HBW176.out.step hb
  clear HBW176
  have HRG183 : Hid (u179.ownsRow n2 79 3 (.slice ag rs.length cg) rs.length (ksR rs)) := ks_below HRG177.out hb
  clear HRG177
  have HBG184 : Hid (LG w u179 bg #[.int .i64 cd, .slice ag rs.length cg, .string ck] 30) := HBG178.out.step hb
  clear HBG178
  clear hb
  have r0 := HBG184.out.cel 0 _ rfl
  have r1 := HBG184.out.cel 1 _ rfl
  have r2 := HBG184.out.cel 2 _ rfl
  have rl := HBG184.out.lt
  go_wp2_with fail
  refine Calls.mono (markVR_ok 1 HRG183.out (by have := HLN.out; omega) (by omega) (by omega) cd ck) ?_
  rintro e u185 ⟨rfl, ho, hg⟩
  clear r0 r1 r2 rl
  have hx : ∀ k, (Value.slice ag rs.length cg).ownBlock = some k → n2 ≤ k ∧ k < bg := HKG.out
  have hbx := HBX9.out
  have hbw := HBW9.out
  have hb01 := HB01.out
  have hn12 := HN12.out
  have hw0 := HB0180.out.ge
  have HB0186 : Hid (LG w u185 b0 #[.slice ao zs.length cap, .string c] 24) := HB0180.out.grow hg (fun e => by have := hx _ e; omega) (fun k hk => by have := hx k hk; omega)
  clear HB0180
  have HRW187 : Hid (u185.ownsRow w.heap.size 79 3 (.slice aw rs.length cw) rs.length (ksR rs)) := (show _ from World.ownsRow.kept HRW181.out hg (by
    rcases hq : (Value.slice aw rs.length cw).ownBlock with _ | k1
    · exact .inl rfl
    · exact .inr (fun e => by have h1 := HKW.out k1 hq; have h2 := hx k1 e.symm; omega)))
  clear HRW181
  have HBW188 : Hid (LG w u185 bw #[.int .i64 cd, .slice aw rs.length cw, .string ck] 30) := HBW182.out.grow hg (fun e => by have := hx _ e; omega) (fun k hk => by have := hx k hk; omega)
  clear HBW182
  have HBG189 : Hid (LG w u185 bg #[.int .i64 cd, .slice ag rs.length cg, .string ck] 30) := HBG184.out.grow hg (fun e => by have := hx _ e; omega) (fun k hk => by have := hx k hk; omega)
  clear HBG184
  have HXG190 : Hid (u185.ownsRow n2 79 3 (.slice ag rs.length cg) rs.length (ksR (mkK 1 rs.length))) := ho
  clear hg hx ho hbx hbw hb01 hn12 hw0 HRG183
  obtain ⟨N, hN⟩ : ∃ N : Nat, 1 + 3 * rs.length = N := ⟨_, rfl⟩
  have hNb : N ≤ 100 := by have := HLN.out; omega
  rw [hN]
  have HN : Hid (1 + 3 * rs.length = N) := hN
  clear hN
  have HHE : Hid (∀ u, KSrow u (.slice ag rs.length cg) (mkK 1 rs.length) → Calls Try.prog 15 #[.agg #[.int .i64 cd, .slice ag rs.length cg, .string ck], .int .i64 1] u fun e w' => e = .returned (.int .i64 (N : Int)) ∧ Below u.heap.size u w') := (fun u hu => by rw [← HN.out]; exact heldVR_ok 1 rs.length hu (by have := HLN.out; omega) (by omega) (by omega) cd ck)
  have hn0 : decide ((N : Int) < 0) = false := decide_eq_false (by omega)
  have hnn : ((N : Int) != (N : Int)) = false := by simp
  have r0 := HBG189.out.cel 0 _ rfl
  have r1 := HBG189.out.cel 1 _ rfl
  have r2 := HBG189.out.cel 2 _ rfl
  have rl := HBG189.out.lt
  go_wp2_with fail
  refine Calls.mono (HHE.out _ (KSrow.of (by rw [mkK_len]; exact HXG190.out))) ?_
  rintro e u191 ⟨rfl, hb⟩
  clear r0 r1 r2 rl
  have HB0192 : Hid (LG w u191 b0 #[.slice ao zs.length cap, .string c] 24) := HB0186.out.step hb
  clear HB0186
  have HRW193 : Hid (u191.ownsRow w.heap.size 79 3 (.slice aw rs.length cw) rs.length (ksR rs)) := ks_below HRW187.out hb
  clear HRW187
  have HBW194 : Hid (LG w u191 bw #[.int .i64 cd, .slice aw rs.length cw, .string ck] 30) := HBW188.out.step hb
  clear HBW188
  have HBG195 : Hid (LG w u191 bg #[.int .i64 cd, .slice ag rs.length cg, .string ck] 30) := HBG189.out.step hb
  clear HBG189
  have HXG196 : Hid (u191.ownsRow n2 79 3 (.slice ag rs.length cg) rs.length (ksR (mkK 1 rs.length))) := ks_below HXG190.out hb
  clear HXG190
  clear hb
  have r0 := HB0192.out.cel 0 _ rfl
  have r1 := HB0192.out.cel 1 _ rfl
  have rl := HB0192.out.lt
  go_wp2_with fail
  refine Calls.mono (HTO.out _ HB0192.out.aft) ?_
  rintro e u197 ⟨xx, rfl, ho, hb⟩
  clear r0 r1 rl
  have HB0198 : Hid (LG w u197 b0 #[.slice ao zs.length cap, .string c] 24) := HB0192.out.step hb
  clear HB0192
  have HRW199 : Hid (u197.ownsRow w.heap.size 79 3 (.slice aw rs.length cw) rs.length (ksR rs)) := ks_below HRW193.out hb
  clear HRW193
  have HBW200 : Hid (LG w u197 bw #[.int .i64 cd, .slice aw rs.length cw, .string ck] 30) := HBW194.out.step hb
  clear HBW194
  have HBG201 : Hid (LG w u197 bg #[.int .i64 cd, .slice ag rs.length cg, .string ck] 30) := HBG195.out.step hb
  clear HBG195
  have HXG202 : Hid (u197.ownsRow n2 79 3 (.slice ag rs.length cg) rs.length (ksR (mkK 1 rs.length))) := ks_below HXG196.out hb
  clear HXG196
  obtain ⟨at3, ct3, rfl⟩ := ks_sl ho
  have HT203 : Hid (u197.ownsRow u191.heap.size 79 3 (.slice at3 zs.length ct3) zs.length (ksR zs)) := ho
  clear ho hb
  go_wp2_with fail
  refine Calls.mono (HIM.out _ _ (KSrow.of HT203.out)) ?_
  rintro e u204 ⟨sv, rfl, ho, hb⟩
  clear HT203
  have HB0205 : Hid (LG w u204 b0 #[.slice ao zs.length cap, .string c] 24) := HB0198.out.step hb
  clear HB0198
  have HRW206 : Hid (u204.ownsRow w.heap.size 79 3 (.slice aw rs.length cw) rs.length (ksR rs)) := ks_below HRW199.out hb
  clear HRW199
  have HBW207 : Hid (LG w u204 bw #[.int .i64 cd, .slice aw rs.length cw, .string ck] 30) := HBW200.out.step hb
  clear HBW200
  have HBG208 : Hid (LG w u204 bg #[.int .i64 cd, .slice ag rs.length cg, .string ck] 30) := HBG201.out.step hb
  clear HBG201
  have HXG209 : Hid (u204.ownsRow n2 79 3 (.slice ag rs.length cg) rs.length (ksR (mkK 1 rs.length))) := ks_below HXG202.out hb
  clear HXG202
  obtain ⟨ah, ch, rfl⟩ := ks_sl ho
  have HRH210 : Hid (u204.ownsRow u197.heap.size 79 3 (.slice ah rs.length ch) rs.length (ksR rs)) := ho
  clear ho hb
  have HSZ211 : Hid (w.heap.size ≤ u204.heap.size) := HB0205.out.bel.size
  have HB0212 : Hid (LG w (u204.alloc (.cells #[.int .i64 cd, .slice ah rs.length ch, .string ck] 30)) b0 #[.slice ao zs.length cap, .string c] 24) := HB0205.out.step (bx1 _ _)
  clear HB0205
  have HRW213 : Hid ((u204.alloc (.cells #[.int .i64 cd, .slice ah rs.length ch, .string ck] 30)).ownsRow w.heap.size 79 3 (.slice aw rs.length cw) rs.length (ksR rs)) := World.ownsRow.alloc HRW206.out _
  clear HRW206
  have HBW214 : Hid (LG w (u204.alloc (.cells #[.int .i64 cd, .slice ah rs.length ch, .string ck] 30)) bw #[.int .i64 cd, .slice aw rs.length cw, .string ck] 30) := HBW207.out.step (bx1 _ _)
  clear HBW207
  have HBG215 : Hid (LG w (u204.alloc (.cells #[.int .i64 cd, .slice ah rs.length ch, .string ck] 30)) bg #[.int .i64 cd, .slice ag rs.length cg, .string ck] 30) := HBG208.out.step (bx1 _ _)
  clear HBG208
  have HXG216 : Hid ((u204.alloc (.cells #[.int .i64 cd, .slice ah rs.length ch, .string ck] 30)).ownsRow n2 79 3 (.slice ag rs.length cg) rs.length (ksR (mkK 1 rs.length))) := World.ownsRow.alloc HXG209.out _
  clear HXG209
  have HRH217 : Hid ((u204.alloc (.cells #[.int .i64 cd, .slice ah rs.length ch, .string ck] 30)).ownsRow u197.heap.size 79 3 (.slice ah rs.length ch) rs.length (ksR rs)) := World.ownsRow.alloc HRH210.out _
  clear HRH210
  have HBH218 : Hid (LG w (u204.alloc (.cells #[.int .i64 cd, .slice ah rs.length ch, .string ck] 30)) u204.heap.size #[.int .i64 cd, .slice ah rs.length ch, .string ck] 30) := ⟨HB0212.out.bel, heap_new _ _, HSZ211.out⟩
  clear HSZ211
  go_upto_region 25 with fail
  generalize (u204.alloc (.cells #[.int .i64 cd, .slice ah rs.length ch, .string ck] 30)) = u219 at *
  generalize u204.heap.size = bh at *
  have r0 := HBH218.out.cel 0 _ rfl
  have r1 := HBH218.out.cel 1 _ rfl
  have r2 := HBH218.out.cel 2 _ rfl
  have rl := HBH218.out.lt
  have q0 := HBW214.out.cel 0 _ rfl
  have q1 := HBW214.out.cel 1 _ rfl
  have q2 := HBW214.out.cel 2 _ rfl
  have ql := HBW214.out.lt
  go_wp2_with fail
  refine Calls.mono (eqVR_ok (KSrow.of HRH217.out) (KSrow.of HRW213.out) (by have := HLN.out; omega) cd ck) ?_
  rintro e u220 ⟨rfl, hb⟩
  clear r0 r1 r2 rl
  clear q0 q1 q2 ql
  have HB0221 : Hid (LG w u220 b0 #[.slice ao zs.length cap, .string c] 24) := HB0212.out.step hb
  clear HB0212
  have HRW222 : Hid (u220.ownsRow w.heap.size 79 3 (.slice aw rs.length cw) rs.length (ksR rs)) := ks_below HRW213.out hb
  clear HRW213
  have HBW223 : Hid (LG w u220 bw #[.int .i64 cd, .slice aw rs.length cw, .string ck] 30) := HBW214.out.step hb
  clear HBW214
  have HBG224 : Hid (LG w u220 bg #[.int .i64 cd, .slice ag rs.length cg, .string ck] 30) := HBG215.out.step hb
  clear HBG215
  have HXG225 : Hid (u220.ownsRow n2 79 3 (.slice ag rs.length cg) rs.length (ksR (mkK 1 rs.length))) := ks_below HXG216.out hb
  clear HXG216
  have HRH226 : Hid (u220.ownsRow u197.heap.size 79 3 (.slice ah rs.length ch) rs.length (ksR rs)) := ks_below HRH217.out hb
  clear HRH217
  have HBH227 : Hid (LG w u220 bh #[.int .i64 cd, .slice ah rs.length ch, .string ck] 30) := HBH218.out.step hb
  clear HBH218
  clear hb
  have r0 := HBG224.out.cel 0 _ rfl
  have r1 := HBG224.out.cel 1 _ rfl
  have r2 := HBG224.out.cel 2 _ rfl
  have rl := HBG224.out.lt
  go_wp2_with fail
  refine Calls.mono (HHE.out _ (KSrow.of (by rw [mkK_len]; exact HXG225.out))) ?_
  rintro e u228 ⟨rfl, hb⟩
  clear r0 r1 r2 rl
  have HB0229 : Hid (LG w u228 b0 #[.slice ao zs.length cap, .string c] 24) := HB0221.out.step hb
  clear HB0221
  have HRW230 : Hid (u228.ownsRow w.heap.size 79 3 (.slice aw rs.length cw) rs.length (ksR rs)) := ks_below HRW222.out hb
  clear HRW222
  have HBW231 : Hid (LG w u228 bw #[.int .i64 cd, .slice aw rs.length cw, .string ck] 30) := HBW223.out.step hb
  clear HBW223
  have HBG232 : Hid (LG w u228 bg #[.int .i64 cd, .slice ag rs.length cg, .string ck] 30) := HBG224.out.step hb
  clear HBG224
  have HXG233 : Hid (u228.ownsRow n2 79 3 (.slice ag rs.length cg) rs.length (ksR (mkK 1 rs.length))) := ks_below HXG225.out hb
  clear HXG225
  have HRH234 : Hid (u228.ownsRow u197.heap.size 79 3 (.slice ah rs.length ch) rs.length (ksR rs)) := ks_below HRH226.out hb
  clear HRH226
  have HBH235 : Hid (LG w u228 bh #[.int .i64 cd, .slice ah rs.length ch, .string ck] 30) := HBH227.out.step hb
  clear HBH227
  clear hb
  go_wp2
  go_ret
  exact ⟨rfl, HB0229.out.bel⟩
end Go.Proofs.Ythncnffnjjclfab
