import Derived.Test.YtalpcjclahkgnaaGreatMg2
import Derived.Test.YtalpcjclahkgnaaGreatMpY
import Derived.Test.YtalpcjclahkgnaaGreatMp8
import Derived.Test.YtalpcjclahkgnaaGreatHl
namespace Go.Proofs.YtalpcjclahkgnaaGreat
open Go.ChangeShapes Go.WideShapes Go.ChangeAt Go.RowKit

set_option maxRecDepth 100000 in
set_option maxHeartbeats 8000000 in
theorem walkMF {w : World} {s : MG} {a : MGA} (h : MGRows w s a) (hm : MGmax s) : Calls Tryz.prog 3 #[mgA s a] w fun e w' => e = .returned (.bool true) ∧ Below w.heap.size w w' := by
  have HR : Hid (MGRows w s a) := h
  have HSZ : Hid (∀ u, Aft w u → Calls Tryz.prog 4 #[mgA s a, .int .i64 1048576] u fun e w' => ∃ q, e = .returned (.int .i64 q) ∧ -1 ≤ q ∧ q ≤ 1048576 ∧ (0 ≤ q → MGlen s) ∧ Below u.heap.size u w') := fun u hu => szMG_w (HR.out.below hu.out) hm
  have HTO0 : Hid (MGlen s → ∀ u, Aft w u → Calls Tryz.prog 6 #[mgA s a] u fun e w' => ∃ a2 : MGA, e = .returned (mgA s a2) ∧ MGRows w' s a2 ∧ Below u.heap.size u w') := fun hl u hu => toMG_any (HR.out.below hu.out) hl
  obtain ⟨an, kn, av, kv, ae, ke, ak, kk, aj, kj, e⟩ := h.sl
  generalize a.qj = qj at e
  subst e
  have HL0 : Hid (LG w (w.alloc (.cells #[.slice an s.c.nodes.length kn, .slice av s.c.vms.length kv, .slice ae s.c.tenants.length ke, .int .i64 s.c.over, .int .i64 s.c.time, .slice ak s.kept.length kk, .slice aj s.jobs.length kj, .int .i64 s.next] 30)) w.heap.size #[.slice an s.c.nodes.length kn, .slice av s.c.vms.length kv, .slice ae s.c.tenants.length ke, .int .i64 s.c.over, .int .i64 s.c.time, .slice ak s.kept.length kk, .slice aj s.jobs.length kj, .int .i64 s.next] 30) := LG.new w _ _
  clear h hm
  unfold mgA mgC at HSZ HTO0
  unfold mgA mgC
  simp only at HSZ HTO0 ⊢
  go_enter Tryz.func3, Tryz.ntmps3
  go_wp2_with fail
  generalize (w.alloc (.cells #[.slice an s.c.nodes.length kn, .slice av s.c.vms.length kv, .slice ae s.c.tenants.length ke, .int .i64 s.c.over, .int .i64 s.c.time, .slice ak s.kept.length kk, .slice aj s.jobs.length kj, .int .i64 s.next] 30)) = u0 at *
  generalize w.heap.size = b0 at *
  refine Calls.mono (HSZ.out _ HL0.out.aft) ?_
  rintro e u1 ⟨q, rfl, q0, _, hq, hu⟩
  have HL1 : Hid (LG w u1 b0 #[.slice an s.c.nodes.length kn, .slice av s.c.vms.length kv, .slice ae s.c.tenants.length ke, .int .i64 s.c.over, .int .i64 s.c.time, .slice ak s.kept.length kk, .slice aj s.jobs.length kj, .int .i64 s.next] 30) := HL0.out.step hu
  have HQ : Hid (0 ≤ q → MGlen s) := hq
  clear hu hq HL0 HSZ
  cases h3 : decide (q < 0)
  · have hl : MGlen s := HQ.out (by have := of_decide_eq_false h3; omega)
    have HTO : Hid (∀ u, Aft w u → Calls Tryz.prog 6 #[.agg #[.slice an s.c.nodes.length kn, .slice av s.c.vms.length kv, .slice ae s.c.tenants.length ke, .int .i64 s.c.over, .int .i64 s.c.time, .slice ak s.kept.length kk, .slice aj s.jobs.length kj, .int .i64 s.next]] u fun e w' => ∃ anx knx avx kvx aex kex akx kkx ajx kjx qjx, e = .returned (.agg #[.slice anx s.c.nodes.length knx, .slice avx s.c.vms.length kvx, .slice aex s.c.tenants.length kex, .int .i64 s.c.over, .int .i64 s.c.time, .slice akx s.kept.length kkx, .slice ajx s.jobs.length kjx, .int .i64 s.next]) ∧ MGRows w' s ⟨⟨.slice anx s.c.nodes.length knx, .slice avx s.c.vms.length kvx, .slice aex s.c.tenants.length kex⟩, .slice akx s.kept.length kkx, .slice ajx s.jobs.length kjx, qjx⟩ ∧ Below u.heap.size u w') := (fun u hu => (HTO0.out hl u hu).mono (by rintro e w' ⟨a2, rfl, hx, hb⟩; obtain ⟨anx, knx, avx, kvx, aex, kex, akx, kkx, ajx, kjx, ee⟩ := hx.sl; generalize a2.qj = qjx at ee; subst ee; exact ⟨anx, knx, avx, kvx, aex, kex, akx, kkx, ajx, kjx, qjx, rfl, hx, hb⟩))
    have HSP : Hid (∀ u anx knx avx kvx aex kex akx kkx ajx kjx qjx, MGRows u s ⟨⟨.slice anx s.c.nodes.length knx, .slice avx s.c.vms.length kvx, .slice aex s.c.tenants.length kex⟩, .slice akx s.kept.length kkx, .slice ajx s.jobs.length kjx, qjx⟩ → Calls Tryz.prog 5 #[.agg #[.slice anx s.c.nodes.length knx, .slice avx s.c.vms.length kvx, .slice aex s.c.tenants.length kex, .int .i64 s.c.over, .int .i64 s.c.time, .slice akx s.kept.length kkx, .slice ajx s.jobs.length kjx, .int .i64 s.next]] u fun e w' => e = .returned (.int .i64 (mgV s)) ∧ Below u.heap.size u w') := (fun u anx knx avx kvx aex kex akx kkx ajx kjx qjx hx => (by have h9 := specMF_any hx hl; unfold mgA mgC at h9; simp only at h9; exact h9))
    have HIM : Hid (∀ u anx knx avx kvx aex kex akx kkx ajx kjx qjx, MGRows u s ⟨⟨.slice anx s.c.nodes.length knx, .slice avx s.c.vms.length kvx, .slice aex s.c.tenants.length kex⟩, .slice akx s.kept.length kkx, .slice ajx s.jobs.length kjx, qjx⟩ → Calls Tryz.prog 7 #[.agg #[.slice anx s.c.nodes.length knx, .slice avx s.c.vms.length kvx, .slice aex s.c.tenants.length kex, .int .i64 s.c.over, .int .i64 s.c.time, .slice akx s.kept.length kkx, .slice ajx s.jobs.length kjx, .int .i64 s.next]] u fun e w' => e = .returned (.int .i64 (mgV s)) ∧ Below u.heap.size u w') := (fun u anx knx avx kvx aex kex akx kkx ajx kjx qjx hx => (by have h9 := implMF_any hx hl; unfold mgA mgC at h9; simp only at h9; exact h9))
    have HEQ : Hid (∀ u anx knx avx kvx aex kex akx kkx ajx kjx qjx any kny avy kvy aey key aky kky ajy kjy qjy, MGRows u s ⟨⟨.slice anx s.c.nodes.length knx, .slice avx s.c.vms.length kvx, .slice aex s.c.tenants.length kex⟩, .slice akx s.kept.length kkx, .slice ajx s.jobs.length kjx, qjx⟩ → MGRows u s ⟨⟨.slice any s.c.nodes.length kny, .slice avy s.c.vms.length kvy, .slice aey s.c.tenants.length key⟩, .slice aky s.kept.length kky, .slice ajy s.jobs.length kjy, qjy⟩ → Calls Tryz.prog 8 #[.agg #[.slice anx s.c.nodes.length knx, .slice avx s.c.vms.length kvx, .slice aex s.c.tenants.length kex, .int .i64 s.c.over, .int .i64 s.c.time, .slice akx s.kept.length kkx, .slice ajx s.jobs.length kjx, .int .i64 s.next], .agg #[.slice any s.c.nodes.length kny, .slice avy s.c.vms.length kvy, .slice aey s.c.tenants.length key, .int .i64 s.c.over, .int .i64 s.c.time, .slice aky s.kept.length kky, .slice ajy s.jobs.length kjy, .int .i64 s.next]] u fun e w' => e = .returned (.bool true) ∧ Below u.heap.size u w') := (fun u anx knx avx kvx aex kex akx kkx ajx kjx qjx any kny avy kvy aey key aky kky ajy kjy qjy hx hy => by have h9 := eqMG_ok hx hy hl; unfold mgA mgC at h9; simp only at h9; exact h9)
    generalize mgV s = V at HSP HIM
    have hV : (V != V) = false := by simp
    clear HQ hl HTO0 HR
    have r0 := HL1.out.cel 0 _ rfl
    have r1 := HL1.out.cel 1 _ rfl
    have r2 := HL1.out.cel 2 _ rfl
    have r3 := HL1.out.cel 3 _ rfl
    have r4 := HL1.out.cel 4 _ rfl
    have r5 := HL1.out.cel 5 _ rfl
    have r6 := HL1.out.cel 6 _ rfl
    have r7 := HL1.out.cel 7 _ rfl
    have rl := HL1.out.lt
    go_wp2_with fail
    refine Calls.mono (HTO.out _ HL1.out.aft) ?_
    rintro e u2 ⟨an2, kn2, av2, kv2, ae2, ke2, ak2, kk2, aj2, kj2, qj2, rfl, hx2, hb⟩
    have HL2 : Hid (LG w u2 b0 #[.slice an s.c.nodes.length kn, .slice av s.c.vms.length kv, .slice ae s.c.tenants.length ke, .int .i64 s.c.over, .int .i64 s.c.time, .slice ak s.kept.length kk, .slice aj s.jobs.length kj, .int .i64 s.next] 30) := HL1.out.step hb
    have HX2 : Hid (MGRows u2 s ⟨⟨.slice an2 s.c.nodes.length kn2, .slice av2 s.c.vms.length kv2, .slice ae2 s.c.tenants.length ke2⟩, .slice ak2 s.kept.length kk2, .slice aj2 s.jobs.length kj2, qj2⟩) := hx2
    clear hx2 hb
    clear HL1 r0 r1 r2 r3 r4 r5 r6 r7 rl
    go_wp2_with fail
    refine Calls.mono (HSP.out _ _ _ _ _ _ _ _ _ _ _ _ HX2.out) ?_
    rintro e u3 ⟨rfl, hb⟩
    have HL3 : Hid (LG w u3 b0 #[.slice an s.c.nodes.length kn, .slice av s.c.vms.length kv, .slice ae s.c.tenants.length ke, .int .i64 s.c.over, .int .i64 s.c.time, .slice ak s.kept.length kk, .slice aj s.jobs.length kj, .int .i64 s.next] 30) := HL2.out.step hb
    clear hb HL2 HX2
    have r0 := HL3.out.cel 0 _ rfl
    have r1 := HL3.out.cel 1 _ rfl
    have r2 := HL3.out.cel 2 _ rfl
    have r3 := HL3.out.cel 3 _ rfl
    have r4 := HL3.out.cel 4 _ rfl
    have r5 := HL3.out.cel 5 _ rfl
    have r6 := HL3.out.cel 6 _ rfl
    have r7 := HL3.out.cel 7 _ rfl
    have rl := HL3.out.lt
    go_wp2_with fail
    refine Calls.mono (HTO.out _ HL3.out.aft) ?_
    rintro e u4 ⟨an4, kn4, av4, kv4, ae4, ke4, ak4, kk4, aj4, kj4, qj4, rfl, hx4, hb⟩
    have HL4 : Hid (LG w u4 b0 #[.slice an s.c.nodes.length kn, .slice av s.c.vms.length kv, .slice ae s.c.tenants.length ke, .int .i64 s.c.over, .int .i64 s.c.time, .slice ak s.kept.length kk, .slice aj s.jobs.length kj, .int .i64 s.next] 30) := HL3.out.step hb
    have HX4 : Hid (MGRows u4 s ⟨⟨.slice an4 s.c.nodes.length kn4, .slice av4 s.c.vms.length kv4, .slice ae4 s.c.tenants.length ke4⟩, .slice ak4 s.kept.length kk4, .slice aj4 s.jobs.length kj4, qj4⟩) := hx4
    clear hx4 hb
    clear HL3 r0 r1 r2 r3 r4 r5 r6 r7 rl
    have HX5 : Hid (MGRows (u4.alloc (.cells #[.slice an4 s.c.nodes.length kn4, .slice av4 s.c.vms.length kv4, .slice ae4 s.c.tenants.length ke4, .int .i64 s.c.over, .int .i64 s.c.time, .slice ak4 s.kept.length kk4, .slice aj4 s.jobs.length kj4, .int .i64 s.next] 41)) s ⟨⟨.slice an4 s.c.nodes.length kn4, .slice av4 s.c.vms.length kv4, .slice ae4 s.c.tenants.length ke4⟩, .slice ak4 s.kept.length kk4, .slice aj4 s.jobs.length kj4, qj4⟩) := HX4.out.below (bx1 _ _)
    have HL5 : Hid (LG w (u4.alloc (.cells #[.slice an4 s.c.nodes.length kn4, .slice av4 s.c.vms.length kv4, .slice ae4 s.c.tenants.length ke4, .int .i64 s.c.over, .int .i64 s.c.time, .slice ak4 s.kept.length kk4, .slice aj4 s.jobs.length kj4, .int .i64 s.next] 41)) b0 #[.slice an s.c.nodes.length kn, .slice av s.c.vms.length kv, .slice ae s.c.tenants.length ke, .int .i64 s.c.over, .int .i64 s.c.time, .slice ak s.kept.length kk, .slice aj s.jobs.length kj, .int .i64 s.next] 30) := HL4.out.step (bx1 _ _)
    have HW5 : Hid (LG w (u4.alloc (.cells #[.slice an4 s.c.nodes.length kn4, .slice av4 s.c.vms.length kv4, .slice ae4 s.c.tenants.length ke4, .int .i64 s.c.over, .int .i64 s.c.time, .slice ak4 s.kept.length kk4, .slice aj4 s.jobs.length kj4, .int .i64 s.next] 41)) u4.heap.size #[.slice an4 s.c.nodes.length kn4, .slice av4 s.c.vms.length kv4, .slice ae4 s.c.tenants.length ke4, .int .i64 s.c.over, .int .i64 s.c.time, .slice ak4 s.kept.length kk4, .slice aj4 s.jobs.length kj4, .int .i64 s.next] 41) := ⟨HL5.out.bel, heap_new _ _, HL4.out.bel.size⟩
    clear HX4 HL4
    go_upto_region 7 with fail
    generalize (u4.alloc (.cells #[.slice an4 s.c.nodes.length kn4, .slice av4 s.c.vms.length kv4, .slice ae4 s.c.tenants.length ke4, .int .i64 s.c.over, .int .i64 s.c.time, .slice ak4 s.kept.length kk4, .slice aj4 s.jobs.length kj4, .int .i64 s.next] 41)) = u5 at *
    generalize u4.heap.size = b5 at *
    have r0 := HW5.out.cel 0 _ rfl
    have r1 := HW5.out.cel 1 _ rfl
    have r2 := HW5.out.cel 2 _ rfl
    have r3 := HW5.out.cel 3 _ rfl
    have r4 := HW5.out.cel 4 _ rfl
    have r5 := HW5.out.cel 5 _ rfl
    have r6 := HW5.out.cel 6 _ rfl
    have r7 := HW5.out.cel 7 _ rfl
    have rl := HW5.out.lt
    go_wp2_with fail
    refine Calls.mono (HIM.out _ _ _ _ _ _ _ _ _ _ _ _ HX5.out) ?_
    rintro e u6 ⟨rfl, hb⟩
    have HX6 : Hid (MGRows u6 s ⟨⟨.slice an4 s.c.nodes.length kn4, .slice av4 s.c.vms.length kv4, .slice ae4 s.c.tenants.length ke4⟩, .slice ak4 s.kept.length kk4, .slice aj4 s.jobs.length kj4, qj4⟩) := HX5.out.below hb
    have HL6 : Hid (LG w u6 b0 #[.slice an s.c.nodes.length kn, .slice av s.c.vms.length kv, .slice ae s.c.tenants.length ke, .int .i64 s.c.over, .int .i64 s.c.time, .slice ak s.kept.length kk, .slice aj s.jobs.length kj, .int .i64 s.next] 30) := HL5.out.step hb
    have HW6 : Hid (LG w u6 b5 #[.slice an4 s.c.nodes.length kn4, .slice av4 s.c.vms.length kv4, .slice ae4 s.c.tenants.length ke4, .int .i64 s.c.over, .int .i64 s.c.time, .slice ak4 s.kept.length kk4, .slice aj4 s.jobs.length kj4, .int .i64 s.next] 41) := HW5.out.step hb
    clear hb HX5 HL5 HW5 r0 r1 r2 r3 r4 r5 r6 r7 rl
    go_upto_region 10 with fail
    refine wp_region_held (S := fun w9 => LG w w9 b0 #[.slice an s.c.nodes.length kn, .slice av s.c.vms.length kv, .slice ae s.c.tenants.length ke, .int .i64 s.c.over, .int .i64 s.c.time, .slice ak s.kept.length kk, .slice aj s.jobs.length kj, .int .i64 s.next] 30 ∧ LG w w9 b5 #[.slice an4 s.c.nodes.length kn4, .slice av4 s.c.vms.length kv4, .slice ae4 s.c.tenants.length ke4, .int .i64 s.c.over, .int .i64 s.c.time, .slice ak4 s.kept.length kk4, .slice aj4 s.jobs.length kj4, .int .i64 s.next] 41) (by kernel_rfl) ?_
    change wpAnyH _ _ _ _ _ _ _ _ (World.drew _)
    have HS0 : Hid (LG w u6.drew b0 #[.slice an s.c.nodes.length kn, .slice av s.c.vms.length kv, .slice ae s.c.tenants.length ke, .int .i64 s.c.over, .int .i64 s.c.time, .slice ak s.kept.length kk, .slice aj s.jobs.length kj, .int .i64 s.next] 30 ∧ LG w u6.drew b5 #[.slice an4 s.c.nodes.length kn4, .slice av4 s.c.vms.length kv4, .slice ae4 s.c.tenants.length ke4, .int .i64 s.c.over, .int .i64 s.c.time, .slice ak4 s.kept.length kk4, .slice aj4 s.jobs.length kj4, .int .i64 s.next] 41) := ⟨HL6.out.drew, HW6.out.drew⟩
    have HX7 : Hid (MGRows u6.drew s ⟨⟨.slice an4 s.c.nodes.length kn4, .slice av4 s.c.vms.length kv4, .slice ae4 s.c.tenants.length ke4⟩, .slice ak4 s.kept.length kk4, .slice aj4 s.jobs.length kj4, qj4⟩) := HX6.out.below (Below.refl _ _).drew
    generalize u6.drew = u7 at *
    clear HX6 HL6 HW6
    refine wpAnyH_take (i := 0) (v := .agg #[.slice an4 s.c.nodes.length kn4, .slice av4 s.c.vms.length kv4, .slice ae4 s.c.tenants.length ke4, .int .i64 s.c.over, .int .i64 s.c.time, .slice ak4 s.kept.length kk4, .slice aj4 s.jobs.length kj4, .int .i64 s.next]) rfl (by kernel_rfl) (by kernel_rfl) (by kernel_rfl) (fun _ _ _ h => h) (Or.inl ⟨by kernel_rfl, fun w9 h9 => ?_⟩) HS0.out ?_
    · have y0 := h9.2.cel 0 _ rfl; have y1 := h9.2.cel 1 _ rfl; have y2 := h9.2.cel 2 _ rfl; have y3 := h9.2.cel 3 _ rfl; have y4 := h9.2.cel 4 _ rfl; have y5 := h9.2.cel 5 _ rfl; have y6 := h9.2.cel 6 _ rfl; have y7 := h9.2.cel 7 _ rfl; have yl := h9.2.lt; clear h9; go_simp
    refine wpAnyH_take (i := 1) (v := .agg #[.slice an s.c.nodes.length kn, .slice av s.c.vms.length kv, .slice ae s.c.tenants.length ke, .int .i64 s.c.over, .int .i64 s.c.time, .slice ak s.kept.length kk, .slice aj s.jobs.length kj, .int .i64 s.next]) rfl (by kernel_rfl) (by kernel_rfl) (by kernel_rfl) (fun _ _ _ h => h) (Or.inl ⟨by kernel_rfl, fun w9 h9 => ?_⟩) HS0.out ?_
    · have y0 := h9.1.cel 0 _ rfl; have y1 := h9.1.cel 1 _ rfl; have y2 := h9.1.cel 2 _ rfl; have y3 := h9.1.cel 3 _ rfl; have y4 := h9.1.cel 4 _ rfl; have y5 := h9.1.cel 5 _ rfl; have y6 := h9.1.cel 6 _ rfl; have y7 := h9.1.cel 7 _ rfl; have yl := h9.1.lt; clear h9; go_simp
    refine held_one 2 (by kernel_rfl) rfl (by kernel_rfl) fun K hK => ?_
    go_simp
    go_wp2_with fail
    refine Calls.mono (HTO.out _ HS0.out.1.aft) ?_
    rintro e u8 ⟨an8, kn8, av8, kv8, ae8, ke8, ak8, kk8, aj8, kj8, qj8, rfl, hx8, hb⟩
    have HX8 : Hid (MGRows u8 s ⟨⟨.slice an8 s.c.nodes.length kn8, .slice av8 s.c.vms.length kv8, .slice ae8 s.c.tenants.length ke8⟩, .slice ak8 s.kept.length kk8, .slice aj8 s.jobs.length kj8, qj8⟩) := hx8
    have HX9 : Hid (MGRows u8 s ⟨⟨.slice an4 s.c.nodes.length kn4, .slice av4 s.c.vms.length kv4, .slice ae4 s.c.tenants.length ke4⟩, .slice ak4 s.kept.length kk4, .slice aj4 s.jobs.length kj4, qj4⟩) := HX7.out.below hb
    have HS8 : Hid (LG w u8 b0 #[.slice an s.c.nodes.length kn, .slice av s.c.vms.length kv, .slice ae s.c.tenants.length ke, .int .i64 s.c.over, .int .i64 s.c.time, .slice ak s.kept.length kk, .slice aj s.jobs.length kj, .int .i64 s.next] 30 ∧ LG w u8 b5 #[.slice an4 s.c.nodes.length kn4, .slice av4 s.c.vms.length kv4, .slice ae4 s.c.tenants.length ke4, .int .i64 s.c.over, .int .i64 s.c.time, .slice ak4 s.kept.length kk4, .slice aj4 s.jobs.length kj4, .int .i64 s.next] 41) := ⟨HS0.out.1.step hb, HS0.out.2.step hb⟩
    clear hx8 hb HS0 HX7
    refine hK _ _ HS8.out ?_
    clear hK K
    refine held_one 3 (by kernel_rfl) rfl (by kernel_rfl) fun K hK => ?_
    go_simp
    go_wp2_with fail
    refine Calls.mono (HEQ.out _ _ _ _ _ _ _ _ _ _ _ _ _ _ _ _ _ _ _ _ _ _ _ HX9.out HX8.out) ?_
    rintro e u9 ⟨rfl, hb⟩
    have HS9 : Hid (LG w u9 b0 #[.slice an s.c.nodes.length kn, .slice av s.c.vms.length kv, .slice ae s.c.tenants.length ke, .int .i64 s.c.over, .int .i64 s.c.time, .slice ak s.kept.length kk, .slice aj s.jobs.length kj, .int .i64 s.next] 30 ∧ LG w u9 b5 #[.slice an4 s.c.nodes.length kn4, .slice av4 s.c.vms.length kv4, .slice ae4 s.c.tenants.length ke4, .int .i64 s.c.over, .int .i64 s.c.time, .slice ak4 s.kept.length kk4, .slice aj4 s.jobs.length kj4, .int .i64 s.next] 41) := ⟨HS8.out.1.step hb, HS8.out.2.step hb⟩
    clear hb HS8
    refine hK _ _ HS9.out ?_
    clear hK K
    refine wpAnyH_take (i := 4) (v := .bool false) rfl (by kernel_rfl) (by kernel_rfl) (by kernel_rfl) (fun _ _ _ h => h) (Or.inl ⟨by kernel_rfl, fun w9 h9 => ?_⟩) HS9.out ?_
    · clear h9; go_simp
    refine wpAnyH_done (by kernel_rfl) ?_ _
    go_simp
    go_wp2
    go_ret
    exact ⟨rfl, HS9.out.1.bel⟩
  · go_wp2
    go_ret
    exact ⟨rfl, HL1.out.bel⟩
end Go.Proofs.YtalpcjclahkgnaaGreat
