import Derived.Test.YtlpkkclmcgnapaaBo3
import Derived.Test.YtlpkkclmcgnapaaMkFT
import Derived.Test.YtlpkkclmcgnapaaSzFT
namespace Go.Proofs.Ytlpkkclmcgnapaa
open Go.ChangeShapes Go.WideShapes Go.ChangeAt Go.RowKit

set_option maxRecDepth 100000 in
set_option maxHeartbeats 8000000 in
theorem eqBRd_ok {w : World} {a1 a2 : Option Addr} {c1 c2 : Nat} {zs : List DV} (h : DVrow w (.slice a1 zs.length c1) zs) (h' : DVrow w (.slice a2 zs.length c2) zs) (hl : zs.length ≤ 1048576) (g : Bool) (f c : Int) :
    Calls Try.prog 21 #[.agg #[.bool g, .int .i64 f, .int .i64 c, .slice a1 zs.length c1], .agg #[.bool g, .int .i64 f, .int .i64 c, .slice a2 zs.length c2]] w fun e w' => e = .returned (.bool true) ∧ Below w.heap.size w w' := by
  have HEQ : Hid (∀ u, Aft w u → Calls Try.prog 10 #[.agg #[.int .i64 f, .int .i64 c, .slice a1 zs.length c1], .agg #[.int .i64 f, .int .i64 c, .slice a2 zs.length c2]] u fun e w' => e = .returned (.bool true) ∧ Below u.heap.size u w') := (fun u hu => by have h9 := eqBD_ok (s := ⟨f, c, zs⟩) (a := ⟨.slice a1 zs.length c1⟩) (a2 := ⟨.slice a2 zs.length c2⟩) ⟨h.below hu.out⟩ ⟨h'.below hu.out⟩ ⟨hl⟩; unfold bdA bdC at h9; simp only at h9; exact h9)
  have HE0 : Hid (E2 w ((w.alloc (.cells #[.bool g, .int .i64 f, .int .i64 c, .slice a1 zs.length c1] 41)).alloc (.cells #[.bool g, .int .i64 f, .int .i64 c, .slice a2 zs.length c2] 41)) 41 #[.bool g, .int .i64 f, .int .i64 c, .slice a1 zs.length c1] #[.bool g, .int .i64 f, .int .i64 c, .slice a2 zs.length c2]) := E2.new _ _ _ _
  have n0 : (g != g) = false := by simp
  clear h h' hl
  go_enter Try.func21, Try.ntmps21
  go_upto_region 1 with fail
  generalize ((w.alloc (.cells #[.bool g, .int .i64 f, .int .i64 c, .slice a1 zs.length c1] 41)).alloc (.cells #[.bool g, .int .i64 f, .int .i64 c, .slice a2 zs.length c2] 41)) = u0 at *
  have c0 := celN HE0.out.b0 0 _ rfl
  have c1' := celN HE0.out.b0 1 _ rfl
  have c2' := celN HE0.out.b0 2 _ rfl
  have c3 := celN HE0.out.b0 3 _ rfl
  have d0 := celN HE0.out.b1 0 _ rfl
  have d1 := celN HE0.out.b1 1 _ rfl
  have d2 := celN HE0.out.b1 2 _ rfl
  have d3 := celN HE0.out.b1 3 _ rfl
  have lt := HE0.out.lt
  have lt0 : w.heap.size < u0.heap.size := by omega
  go_wp2_with fail
  refine Calls.mono (HEQ.out _ ⟨HE0.out.bel⟩) ?_
  rintro e u1 ⟨rfl, hb⟩
  have HB : Hid (Below w.heap.size w u1) := HE0.out.bel.trans (hb.mono HE0.out.bel.size)
  clear hb
  go_wp2
  go_ret
  exact ⟨rfl, HB.out⟩
set_option maxRecDepth 100000 in
set_option maxHeartbeats 8000000 in
theorem markBRd_ok {w : World} {B : Nat} {v : Value} {zs : List DV} (k0 : Nat) (h : w.ownsRow B 49 3 v zs.length (dvR zs)) (hn : zs.length ≤ 1048576) (hk1 : 1 ≤ k0) (hk2 : k0 ≤ 140737488355328) (g : Bool) (f c : Int) :
    Calls Try.prog 22 #[.agg #[.bool g, .int .i64 f, .int .i64 c, v], .int .i64 (k0 : Nat)] w fun e w' => e = .returned (.int .i64 ((k0 + 3 * zs.length : Nat) : Int)) ∧ w'.ownsRow B 49 3 v zs.length (dvR (mdK k0 zs.length)) ∧ w.grownBy w' v.ownBlock := by
  have HM : Hid (∀ x, Below w.heap.size w x → Calls Try.prog 14 #[.agg #[.int .i64 f, .int .i64 c, v], .int .i64 (k0 : Nat)] x fun e w' => e = .returned (.int .i64 ((k0 + 3 * zs.length : Nat) : Int)) ∧ w'.ownsRow B 49 3 v zs.length (dvR (mdK k0 zs.length)) ∧ x.grownBy w' v.ownBlock) := fun x hx => markBD_ok k0 (dv_below h hx) hn hk1 hk2 f c
  obtain ⟨a1, c1, rfl⟩ := dv_sl h
  generalize (Value.slice a1 zs.length c1).ownBlock = ob at *
  generalize k0 + 3 * zs.length = N at *
  clear h
  go_enter Try.func22, Try.ntmps22
  go_wp2_with fail
  refine Calls.mono (HM.out _ (bx1 _ _)) ?_
  rintro e u1 ⟨rfl, ho, hg⟩
  have HO : Hid _ := ho
  have HG : Hid (w.grownBy u1 ob) := gtr21 (gal21 _ _ _) hg
  clear ho hg
  go_wp2
  go_ret
  exact ⟨rfl, HO.out, HG.out⟩
set_option maxRecDepth 100000 in
set_option maxHeartbeats 8000000 in
theorem heldBD_ok {w : World} {v : Value} (k0 n : Nat) (h : DVrow w v (mdK k0 n)) (hn : n ≤ 1048576) (hk1 : 1 ≤ k0) (hk2 : k0 ≤ 140737488355328) (f c : Int) :
    Calls Try.prog 40 #[.agg #[.int .i64 f, .int .i64 c, v], .int .i64 (k0 : Nat)] w fun e w' => e = .returned (.int .i64 ((k0 + 3 * n : Nat) : Int)) ∧ Below w.heap.size w w' := by
  have HM : Hid (∀ u, Aft w u → Calls Try.prog 48 #[v, .int .i64 (k0 : Nat)] u fun e w' => e = .returned (.int .i64 ((k0 + 3 * n : Nat) : Int)) ∧ Below u.heap.size u w') := fun u hu => heldDV_ok k0 n (h.below hu.out) hn hk1 hk2
  obtain ⟨a1, c1, rfl⟩ := h.sl
  have hN : k0 + 3 * n ≤ 281474976710656 := by omega
  generalize k0 + 3 * n = N at *
  have hn0 : decide ((N : Int) < 0) = false := decide_eq_false (by omega)
  clear h
  go_enter Try.func40, Try.ntmps40
  go_wp2_with fail
  refine Calls.mono (HM.out _ ⟨bx1 _ _⟩) ?_
  rintro e u1 ⟨rfl, hb⟩
  have HB : Hid (Below w.heap.size w u1) := (bx1 w _).trans (hb.mono (bx1 w _).size)
  clear hb
  go_wp2
  go_ret
  exact ⟨rfl, HB.out⟩
set_option maxRecDepth 100000 in
set_option maxHeartbeats 8000000 in
theorem heldBRd_ok {w : World} {v : Value} (k0 n : Nat) (h : DVrow w v (mdK k0 n)) (hn : n ≤ 1048576) (hk1 : 1 ≤ k0) (hk2 : k0 ≤ 140737488355328) (g : Bool) (f c : Int) :
    Calls Try.prog 23 #[.agg #[.bool g, .int .i64 f, .int .i64 c, v], .int .i64 (k0 : Nat)] w fun e w' => e = .returned (.int .i64 ((k0 + 3 * n : Nat) : Int)) ∧ Below w.heap.size w w' := by
  have HM : Hid (∀ u, Aft w u → Calls Try.prog 40 #[.agg #[.int .i64 f, .int .i64 c, v], .int .i64 (k0 : Nat)] u fun e w' => e = .returned (.int .i64 ((k0 + 3 * n : Nat) : Int)) ∧ Below u.heap.size u w') := fun u hu => heldBD_ok k0 n (h.below hu.out) hn hk1 hk2 f c
  obtain ⟨a1, c1, rfl⟩ := h.sl
  have hN : k0 + 3 * n ≤ 281474976710656 := by omega
  generalize k0 + 3 * n = N at *
  have hn0 : decide ((N : Int) < 0) = false := decide_eq_false (by omega)
  clear h
  go_enter Try.func23, Try.ntmps23
  go_wp2_with fail
  refine Calls.mono (HM.out _ ⟨bx1 _ _⟩) ?_
  rintro e u1 ⟨rfl, hb⟩
  have HB : Hid (Below w.heap.size w u1) := (bx1 w _).trans (hb.mono (bx1 w _).size)
  clear hb
  go_wp2
  go_ret
  exact ⟨rfl, HB.out⟩
set_option maxRecDepth 100000 in
set_option maxHeartbeats 8000000 in
theorem walkBO {w : World} {v : Value} {zs : List FT} (h : FTrow w v zs) (hmz : zs.length ≤ maxLen ∧ ∀ z ∈ zs, z.name.size ≤ maxLen ∧ z.body.size ≤ maxLen) : Calls Try.prog 5 #[v] w fun e w' => e = .returned (.bool true) ∧ Below w.heap.size w w' := by
  have HR : Hid (FTrow w v zs) := h
  have HSZ : Hid (Calls Try.prog 17 #[v, .int .i64 1048576] w fun e w' => ∃ q, e = .returned (.int .i64 q) ∧ -1 ≤ q ∧ q ≤ 1048576 ∧ (0 ≤ q → zs.length ≤ 1048576 ∧ ∀ z ∈ zs, z.name.size ≤ 1048576 ∧ z.body.size ≤ 1048576) ∧ Below w.heap.size w w') := szFTS_w h hmz.1 hmz.2
  obtain ⟨ao, cap, rfl⟩ := h.sl
  clear h hmz
  go_enter Try.func5, Try.ntmps5
  go_wp2_with fail
  refine Calls.mono HSZ.out ?_
  rintro e u1 ⟨q, rfl, q0, _, hq, hu⟩
  have HL1 : Hid (Below w.heap.size w u1) := hu
  have HQ : Hid (0 ≤ q → zs.length ≤ 1048576 ∧ ∀ z ∈ zs, z.name.size ≤ 1048576 ∧ z.body.size ≤ 1048576) := hq
  clear hu hq HSZ
  cases h3 : decide (q < 0)
  rotate_left
  · go_wp2
    go_ret
    exact ⟨rfl, HL1.out⟩
  have hl := HQ.out (by have := of_decide_eq_false h3; omega)
  have HLZ : Hid (zs.length ≤ 1048576) := hl.1
  have HTO : Hid (∀ u, Aft w u → Calls Try.prog 19 #[.slice ao zs.length cap] u fun e w' => ∃ ax cx, e = .returned (.slice ax zs.length cx) ∧ w'.ownsRow u.heap.size 56 3 (.slice ax zs.length cx) zs.length (ftR zs) ∧ Below u.heap.size u w') := (fun u hu => (toFTS_any (HR.out.below hu.out) hl.1).mono (by rintro e w' ⟨vx, rfl, hx, hb⟩; obtain ⟨ax, cx, rfl⟩ := ft_sl hx; exact ⟨ax, cx, rfl, hx, hb⟩))
  have HSP : Hid (∀ u ax cx, FTrow u (.slice ax zs.length cx) zs → Calls Try.prog 18 #[.slice ax zs.length cx] u fun e w' => ∃ ag cg, e = .returned (boA (boV zs) (.slice ag (boV zs).ds.length cg)) ∧ w'.ownsRow u.heap.size 49 3 (.slice ag (boV zs).ds.length cg) (boV zs).ds.length (dvR (boV zs).ds) ∧ Below u.heap.size u w') := (fun u ax cx hx => (specBO_any hx).mono (by rintro e w' ⟨v, rfl, ho, hb⟩; obtain ⟨ag, cg, rfl⟩ := dv_sl ho; exact ⟨ag, cg, rfl, ho, hb⟩))
  have HIM : Hid (∀ u ax cx, FTrow u (.slice ax zs.length cx) zs → Calls Try.prog 20 #[.slice ax zs.length cx] u fun e w' => ∃ ag cg, e = .returned (boA (boV zs) (.slice ag (boV zs).ds.length cg)) ∧ w'.ownsRow u.heap.size 49 3 (.slice ag (boV zs).ds.length cg) (boV zs).ds.length (dvR (boV zs).ds) ∧ Below u.heap.size u w') := (fun u ax cx hx => (implBO_any hx (fun t ht => (hl.2 t ht).2)).mono (by rintro e w' ⟨v, rfl, ho, hb⟩; obtain ⟨ag, cg, rfl⟩ := dv_sl ho; exact ⟨ag, cg, rfl, ho, hb⟩))
  have HEF : Hid (∀ u ax cx ay cy, FTrow u (.slice ax zs.length cx) zs → FTrow u (.slice ay zs.length cy) zs → Calls Try.prog 13 #[.slice ax zs.length cx, .slice ay zs.length cy] u fun e w' => e = .returned (.bool true) ∧ Below u.heap.size u w') := (fun u ax cx ay cy hx hy => eqFTS_ok hx hy HLZ.out)
  have hln := boV_len zs
  unfold boA at HSP HIM
  generalize boV zs = R at *
  obtain ⟨gd, fr_, cp_, rs⟩ := R
  simp only at HSP HIM hln
  have HLN : Hid (rs.length ≤ 16) := hln
  clear HQ hl hln HR
  go_wp2_with fail
  refine Calls.mono (HTO.out _ ⟨HL1.out⟩) ?_
  rintro e u101 ⟨at1, ct1, rfl, ho, hb⟩
  have HBE102 : Hid (Below w.heap.size w u101) := HL1.out.trans (Below.mono hb HL1.out.size)
  clear HL1
  have HT103 : Hid (u101.ownsRow u1.heap.size 56 3 (.slice at1 zs.length ct1) zs.length (ftR zs)) := ho
  clear ho hb
  go_wp2_with fail
  refine Calls.mono (HSP.out _ _ _ (FTrow.of HT103.out)) ?_
  rintro e u3 ⟨aw, cw, rfl, ho, hb⟩
  clear HT103
  have HWX : Hid (w.heap.size ≤ u101.heap.size) := HBE102.out.size
  have HBE104 : Hid (Below w.heap.size w u3) := HBE102.out.trans (Below.mono hb HBE102.out.size)
  clear HBE102
  have HRW105 : Hid (u3.ownsRow w.heap.size 49 3 (.slice aw rs.length cw) rs.length (dvR (rs))) := own_weakN ho HWX.out
  have HKW0 : Hid (∀ k, (Value.slice aw rs.length cw).ownBlock = some k → k < u3.heap.size) := fun k hk => (ho.lt k hk).2
  clear ho hb HWX
  have HSZ9 : Hid (w.heap.size ≤ u3.heap.size) := HBE104.out.size
  have HBE106 : Hid (Below w.heap.size w (u3.alloc (.cells #[.bool gd, .int .i64 fr_, .int .i64 cp_, .slice aw rs.length cw] 41))) := HBE104.out.trans ((bx1 _ _).mono HBE104.out.size)
  clear HBE104
  have HRW107 : Hid ((u3.alloc (.cells #[.bool gd, .int .i64 fr_, .int .i64 cp_, .slice aw rs.length cw] 41)).ownsRow w.heap.size 49 3 (.slice aw rs.length cw) rs.length (dvR (rs))) := World.ownsRow.alloc HRW105.out _
  clear HRW105
  have HBW108 : Hid (LG w (u3.alloc (.cells #[.bool gd, .int .i64 fr_, .int .i64 cp_, .slice aw rs.length cw] 41)) u3.heap.size #[.bool gd, .int .i64 fr_, .int .i64 cp_, .slice aw rs.length cw] 41) := ⟨HBE106.out, heap_new _ _, HSZ9.out⟩
  clear HSZ9
  have HBW9 : Hid (u3.heap.size < (u3.alloc (.cells #[.bool gd, .int .i64 fr_, .int .i64 cp_, .slice aw rs.length cw] 41)).heap.size) := (show _ < _ by simp)
  go_upto_region 6 with fail
  generalize (u3.alloc (.cells #[.bool gd, .int .i64 fr_, .int .i64 cp_, .slice aw rs.length cw] 41)) = u109 at *
  generalize u3.heap.size = bw at *
  obtain ⟨n1, hn1⟩ : ∃ n, u109.heap.size = n := ⟨_, rfl⟩
  rw [hn1] at HBW9
  have HKW : Hid (∀ k, (Value.slice aw rs.length cw).ownBlock = some k → k < n1) := (fun k hk => by have := HKW0.out k hk; have := HBW9.out; omega)
  clear HKW0
  go_wp2_with fail
  refine Calls.mono (HTO.out _ ⟨HBE106.out⟩) ?_
  rintro e u110 ⟨ax, cx, rfl, ho, hb⟩
  have HBE111 : Hid (Below w.heap.size w u110) := HBE106.out.trans (Below.mono hb HBE106.out.size)
  clear HBE106
  have HRW112 : Hid (u110.ownsRow w.heap.size 49 3 (.slice aw rs.length cw) rs.length (dvR (rs))) := own_belowN HRW107.out hb
  clear HRW107
  have HBW113 : Hid (LG w u110 bw #[.bool gd, .int .i64 fr_, .int .i64 cp_, .slice aw rs.length cw] 41) := HBW108.out.step hb
  clear HBW108
  have HRX114 : Hid (u110.ownsRow n1 56 3 (.slice ax zs.length cx) zs.length (ftR zs)) := (by rw [← hn1]; exact ho)
  have HKX : Hid (∀ k, (Value.slice ax zs.length cx).ownBlock = some k → n1 ≤ k ∧ k < u110.heap.size) := (fun k hk => by have := ho.lt k hk; omega)
  have HPX : Hid (n1 ≤ u110.heap.size) := (show n1 ≤ u110.heap.size by have := hb.size; omega)
  clear ho hb hn1
  obtain ⟨n2, hn2⟩ : ∃ n, u110.heap.size = n := ⟨_, rfl⟩
  rw [hn2] at HKX HPX
  go_wp2_with fail
  refine Calls.mono (HIM.out _ _ _ (FTrow.of HRX114.out)) ?_
  rintro e u115 ⟨ag, cg, rfl, ho, hb⟩
  have HBE116 : Hid (Below w.heap.size w u115) := HBE111.out.trans (Below.mono hb HBE111.out.size)
  clear HBE111
  have HRW117 : Hid (u115.ownsRow w.heap.size 49 3 (.slice aw rs.length cw) rs.length (dvR (rs))) := own_belowN HRW112.out hb
  clear HRW112
  have HBW118 : Hid (LG w u115 bw #[.bool gd, .int .i64 fr_, .int .i64 cp_, .slice aw rs.length cw] 41) := HBW113.out.step hb
  clear HBW113
  have HRX119 : Hid (u115.ownsRow n1 56 3 (.slice ax zs.length cx) zs.length (ftR zs)) := own_belowN HRX114.out hb
  clear HRX114
  rw [hn2] at ho
  have HRG120 : Hid (u115.ownsRow n2 49 3 (.slice ag rs.length cg) rs.length (dvR (rs))) := ho
  have HKG : Hid (∀ k, (Value.slice ag rs.length cg).ownBlock = some k → n2 ≤ k ∧ k < u115.heap.size) := fun k hk => ho.lt k hk
  have HN2 : Hid (n2 ≤ u115.heap.size) := (show _ ≤ _ by have := hb.size; omega)
  clear ho hb hn2
  have HSZ9 : Hid (w.heap.size ≤ u115.heap.size) := HBE116.out.size
  have HBE121 : Hid (Below w.heap.size w (u115.alloc (.cells #[.bool gd, .int .i64 fr_, .int .i64 cp_, .slice ag rs.length cg] 41))) := HBE116.out.trans ((bx1 _ _).mono HBE116.out.size)
  clear HBE116
  have HRW122 : Hid ((u115.alloc (.cells #[.bool gd, .int .i64 fr_, .int .i64 cp_, .slice ag rs.length cg] 41)).ownsRow w.heap.size 49 3 (.slice aw rs.length cw) rs.length (dvR (rs))) := World.ownsRow.alloc HRW117.out _
  clear HRW117
  have HBW123 : Hid (LG w (u115.alloc (.cells #[.bool gd, .int .i64 fr_, .int .i64 cp_, .slice ag rs.length cg] 41)) bw #[.bool gd, .int .i64 fr_, .int .i64 cp_, .slice aw rs.length cw] 41) := HBW118.out.step (bx1 _ _)
  clear HBW118
  have HRX124 : Hid ((u115.alloc (.cells #[.bool gd, .int .i64 fr_, .int .i64 cp_, .slice ag rs.length cg] 41)).ownsRow n1 56 3 (.slice ax zs.length cx) zs.length (ftR zs)) := World.ownsRow.alloc HRX119.out _
  clear HRX119
  have HRG125 : Hid ((u115.alloc (.cells #[.bool gd, .int .i64 fr_, .int .i64 cp_, .slice ag rs.length cg] 41)).ownsRow n2 49 3 (.slice ag rs.length cg) rs.length (dvR (rs))) := World.ownsRow.alloc HRG120.out _
  clear HRG120
  have HBG126 : Hid (LG w (u115.alloc (.cells #[.bool gd, .int .i64 fr_, .int .i64 cp_, .slice ag rs.length cg] 41)) u115.heap.size #[.bool gd, .int .i64 fr_, .int .i64 cp_, .slice ag rs.length cg] 41) := ⟨HBE121.out, heap_new _ _, HSZ9.out⟩
  clear HSZ9
  go_upto_region 8 with fail
  generalize (u115.alloc (.cells #[.bool gd, .int .i64 fr_, .int .i64 cp_, .slice ag rs.length cg] 41)) = u127 at *
  generalize u115.heap.size = bg at *
  have r0 := HBG126.out.cel 0 _ rfl
  have r1 := HBG126.out.cel 1 _ rfl
  have r2 := HBG126.out.cel 2 _ rfl
  have r3 := HBG126.out.cel 3 _ rfl
  have rl := HBG126.out.lt
  have q0 := HBW123.out.cel 0 _ rfl
  have q1 := HBW123.out.cel 1 _ rfl
  have q2 := HBW123.out.cel 2 _ rfl
  have q3 := HBW123.out.cel 3 _ rfl
  have ql := HBW123.out.lt
  go_wp2_with fail
  refine Calls.mono (eqBRd_ok (DVrow.of HRG125.out) (DVrow.of HRW122.out) (by have := HLN.out; omega) gd fr_ cp_) ?_
  rintro e u128 ⟨rfl, hb⟩
  clear r0 r1 r2 r3 rl
  clear q0 q1 q2 q3 ql
  have HBE129 : Hid (Below w.heap.size w u128) := HBE121.out.trans (Below.mono hb HBE121.out.size)
  clear HBE121
  have HRW130 : Hid (u128.ownsRow w.heap.size 49 3 (.slice aw rs.length cw) rs.length (dvR (rs))) := own_belowN HRW122.out hb
  clear HRW122
  have HBW131 : Hid (LG w u128 bw #[.bool gd, .int .i64 fr_, .int .i64 cp_, .slice aw rs.length cw] 41) := HBW123.out.step hb
  clear HBW123
  have HRX132 : Hid (u128.ownsRow n1 56 3 (.slice ax zs.length cx) zs.length (ftR zs)) := own_belowN HRX124.out hb
  clear HRX124
  have HRG133 : Hid (u128.ownsRow n2 49 3 (.slice ag rs.length cg) rs.length (dvR (rs))) := own_belowN HRG125.out hb
  clear HRG125
  have HBG134 : Hid (LG w u128 bg #[.bool gd, .int .i64 fr_, .int .i64 cp_, .slice ag rs.length cg] 41) := HBG126.out.step hb
  clear HBG126
  clear hb
  go_wp2_with fail
  refine Calls.mono (HTO.out _ ⟨HBE129.out⟩) ?_
  rintro e u135 ⟨at2, ct2, rfl, ho, hb⟩
  have HBE136 : Hid (Below w.heap.size w u135) := HBE129.out.trans (Below.mono hb HBE129.out.size)
  clear HBE129
  have HRW137 : Hid (u135.ownsRow w.heap.size 49 3 (.slice aw rs.length cw) rs.length (dvR (rs))) := own_belowN HRW130.out hb
  clear HRW130
  have HBW138 : Hid (LG w u135 bw #[.bool gd, .int .i64 fr_, .int .i64 cp_, .slice aw rs.length cw] 41) := HBW131.out.step hb
  clear HBW131
  have HRX139 : Hid (u135.ownsRow n1 56 3 (.slice ax zs.length cx) zs.length (ftR zs)) := own_belowN HRX132.out hb
  clear HRX132
  have HRG140 : Hid (u135.ownsRow n2 49 3 (.slice ag rs.length cg) rs.length (dvR (rs))) := own_belowN HRG133.out hb
  clear HRG133
  have HBG141 : Hid (LG w u135 bg #[.bool gd, .int .i64 fr_, .int .i64 cp_, .slice ag rs.length cg] 41) := HBG134.out.step hb
  clear HBG134
  have HT142 : Hid (u135.ownsRow u128.heap.size 56 3 (.slice at2 zs.length ct2) zs.length (ftR zs)) := ho
  clear ho hb
  go_wp2_with fail
  refine Calls.mono (HEF.out _ _ _ _ _ (FTrow.of HRX139.out) (FTrow.of HT142.out)) ?_
  rintro e u143 ⟨rfl, hb⟩
  clear HT142
  have HBE144 : Hid (Below w.heap.size w u143) := HBE136.out.trans (Below.mono hb HBE136.out.size)
  clear HBE136
  have HRW145 : Hid (u143.ownsRow w.heap.size 49 3 (.slice aw rs.length cw) rs.length (dvR (rs))) := own_belowN HRW137.out hb
  clear HRW137
  have HBW146 : Hid (LG w u143 bw #[.bool gd, .int .i64 fr_, .int .i64 cp_, .slice aw rs.length cw] 41) := HBW138.out.step hb
  clear HBW138
  have HRX147 : Hid (u143.ownsRow n1 56 3 (.slice ax zs.length cx) zs.length (ftR zs)) := own_belowN HRX139.out hb
  clear HRX139
  have HRG148 : Hid (u143.ownsRow n2 49 3 (.slice ag rs.length cg) rs.length (dvR (rs))) := own_belowN HRG140.out hb
  clear HRG140
  have HBG149 : Hid (LG w u143 bg #[.bool gd, .int .i64 fr_, .int .i64 cp_, .slice ag rs.length cg] 41) := HBG141.out.step hb
  clear HBG141
  clear hb
  have HMV : Hid (∃ M : Nat, 1 + 3 * zs.length = M ∧ M ≤ 4194304) := ⟨_, rfl, by have := HLZ.out; omega⟩
  obtain ⟨M, hM, hM2⟩ := HMV.out
  have HM : Hid (1 + 3 * zs.length = M) := hM
  have hm0 : decide ((M : Int) < 0) = false := decide_eq_false (by omega)
  clear hM hM2 HMV
  go_wp2_with fail
  refine Calls.mono (markFT_ok 1 HRX147.out (by have := HLZ.out; omega) (by omega) (by omega)) ?_
  rintro e u150 ⟨rfl, ho, hg⟩
  rw [HM.out]
  clear ho
  have hx : ∀ k, (Value.slice ax zs.length cx).ownBlock = some k → n1 ≤ k ∧ k < n2 := HKX.out
  have hbw := HBW9.out
  have hn2g : n2 ≤ bg := HN2.out
  have hw0 := HBW146.out.ge
  have HBE151 : Hid (Below w.heap.size w u150) := HBE144.out.grown hg HBE144.out.size (fun k hk => by have := hx k hk; omega)
  clear HBE144
  have HRW152 : Hid (u150.ownsRow w.heap.size 49 3 (.slice aw rs.length cw) rs.length (dvR (rs))) := (show _ from World.ownsRow.kept HRW145.out hg (by
    rcases hq : (Value.slice aw rs.length cw).ownBlock with _ | k1
    · exact .inl rfl
    · exact .inr (fun e => by have h1 := HKW.out k1 hq; have h2 := hx k1 e.symm; omega)))
  clear HRW145
  have HBW153 : Hid (LG w u150 bw #[.bool gd, .int .i64 fr_, .int .i64 cp_, .slice aw rs.length cw] 41) := HBW146.out.growD hg (fun e => by have := hx _ e; omega) (fun k hk => by have := hx k hk; omega)
  clear HBW146
  have HRG154 : Hid (u150.ownsRow n2 49 3 (.slice ag rs.length cg) rs.length (dvR (rs))) := (show _ from World.ownsRow.kept HRG148.out hg (by
    rcases hq : (Value.slice ag rs.length cg).ownBlock with _ | k1
    · exact .inl rfl
    · exact .inr (fun e => by have h1 := (HKG.out k1 hq).1; have h2 := hx k1 e.symm; omega)))
  clear HRG148
  have HBG155 : Hid (LG w u150 bg #[.bool gd, .int .i64 fr_, .int .i64 cp_, .slice ag rs.length cg] 41) := HBG149.out.growD hg (fun e => by have := hx _ e; omega) (fun k hk => by have := hx k hk; omega)
  clear HBG149
  clear hg hx hbw hn2g hw0 HRX147
  have r0 := HBG155.out.cel 0 _ rfl
  have r1 := HBG155.out.cel 1 _ rfl
  have r2 := HBG155.out.cel 2 _ rfl
  have r3 := HBG155.out.cel 3 _ rfl
  have rl := HBG155.out.lt
  have q0 := HBW153.out.cel 0 _ rfl
  have q1 := HBW153.out.cel 1 _ rfl
  have q2 := HBW153.out.cel 2 _ rfl
  have q3 := HBW153.out.cel 3 _ rfl
  have ql := HBW153.out.lt
  go_wp2_with fail
  refine Calls.mono (eqBRd_ok (DVrow.of HRG154.out) (DVrow.of HRW152.out) (by have := HLN.out; omega) gd fr_ cp_) ?_
  rintro e u156 ⟨rfl, hb⟩
  clear r0 r1 r2 r3 rl
  clear q0 q1 q2 q3 ql
  have HBE157 : Hid (Below w.heap.size w u156) := HBE151.out.trans (Below.mono hb HBE151.out.size)
  clear HBE151
  have HRW158 : Hid (u156.ownsRow w.heap.size 49 3 (.slice aw rs.length cw) rs.length (dvR (rs))) := own_belowN HRW152.out hb
  clear HRW152
  have HBW159 : Hid (LG w u156 bw #[.bool gd, .int .i64 fr_, .int .i64 cp_, .slice aw rs.length cw] 41) := HBW153.out.step hb
  clear HBW153
  have HRG160 : Hid (u156.ownsRow n2 49 3 (.slice ag rs.length cg) rs.length (dvR (rs))) := own_belowN HRG154.out hb
  clear HRG154
  have HBG161 : Hid (LG w u156 bg #[.bool gd, .int .i64 fr_, .int .i64 cp_, .slice ag rs.length cg] 41) := HBG155.out.step hb
  clear HBG155
  clear hb
  have r0 := HBG161.out.cel 0 _ rfl
  have r1 := HBG161.out.cel 1 _ rfl
  have r2 := HBG161.out.cel 2 _ rfl
  have r3 := HBG161.out.cel 3 _ rfl
  have rl := HBG161.out.lt
  go_wp2_with fail
  refine Calls.mono (markBRd_ok 1 HRG160.out (by have := HLN.out; omega) (by omega) (by omega) gd fr_ cp_) ?_
  rintro e u162 ⟨rfl, ho, hg⟩
  clear r0 r1 r2 r3 rl
  have hx : ∀ k, (Value.slice ag rs.length cg).ownBlock = some k → n2 ≤ k ∧ k < bg := HKG.out
  have hbw := HBW9.out
  have hn12 := HPX.out
  have hw0 := HBW159.out.ge
  have HBE163 : Hid (Below w.heap.size w u162) := HBE157.out.grown hg HBE157.out.size (fun k hk => by have := hx k hk; omega)
  clear HBE157
  have HRW164 : Hid (u162.ownsRow w.heap.size 49 3 (.slice aw rs.length cw) rs.length (dvR (rs))) := (show _ from World.ownsRow.kept HRW158.out hg (by
    rcases hq : (Value.slice aw rs.length cw).ownBlock with _ | k1
    · exact .inl rfl
    · exact .inr (fun e => by have h1 := HKW.out k1 hq; have h2 := hx k1 e.symm; omega)))
  clear HRW158
  have HBW165 : Hid (LG w u162 bw #[.bool gd, .int .i64 fr_, .int .i64 cp_, .slice aw rs.length cw] 41) := HBW159.out.growD hg (fun e => by have := hx _ e; omega) (fun k hk => by have := hx k hk; omega)
  clear HBW159
  have HBG166 : Hid (LG w u162 bg #[.bool gd, .int .i64 fr_, .int .i64 cp_, .slice ag rs.length cg] 41) := HBG161.out.growD hg (fun e => by have := hx _ e; omega) (fun k hk => by have := hx k hk; omega)
  clear HBG161
  have HXG167 : Hid (u162.ownsRow n2 49 3 (.slice ag rs.length cg) rs.length (dvR (mdK 1 rs.length))) := ho
  clear hg hx ho hbw hn12 hw0 HRG160
  obtain ⟨N, hN⟩ : ∃ N : Nat, 1 + 3 * rs.length = N := ⟨_, rfl⟩
  have hNb : N ≤ 100 := by have := HLN.out; omega
  rw [hN]
  have HN : Hid (1 + 3 * rs.length = N) := hN
  clear hN
  have HHE : Hid (∀ u, DVrow u (.slice ag rs.length cg) (mdK 1 rs.length) → Calls Try.prog 23 #[.agg #[.bool gd, .int .i64 fr_, .int .i64 cp_, .slice ag rs.length cg], .int .i64 1] u fun e w' => e = .returned (.int .i64 (N : Int)) ∧ Below u.heap.size u w') := (fun u hu => by rw [← HN.out]; exact heldBRd_ok 1 rs.length hu (by have := HLN.out; omega) (by omega) (by omega) gd fr_ cp_)
  have hn0 : decide ((N : Int) < 0) = false := decide_eq_false (by omega)
  have hnn : ((N : Int) != (N : Int)) = false := by simp
  have r0 := HBG166.out.cel 0 _ rfl
  have r1 := HBG166.out.cel 1 _ rfl
  have r2 := HBG166.out.cel 2 _ rfl
  have r3 := HBG166.out.cel 3 _ rfl
  have rl := HBG166.out.lt
  go_wp2_with fail
  refine Calls.mono (HHE.out _ (DVrow.of (by rw [mdK_len]; exact HXG167.out))) ?_
  rintro e u168 ⟨rfl, hb⟩
  clear r0 r1 r2 r3 rl
  have HBE169 : Hid (Below w.heap.size w u168) := HBE163.out.trans (Below.mono hb HBE163.out.size)
  clear HBE163
  have HRW170 : Hid (u168.ownsRow w.heap.size 49 3 (.slice aw rs.length cw) rs.length (dvR (rs))) := own_belowN HRW164.out hb
  clear HRW164
  have HBW171 : Hid (LG w u168 bw #[.bool gd, .int .i64 fr_, .int .i64 cp_, .slice aw rs.length cw] 41) := HBW165.out.step hb
  clear HBW165
  have HBG172 : Hid (LG w u168 bg #[.bool gd, .int .i64 fr_, .int .i64 cp_, .slice ag rs.length cg] 41) := HBG166.out.step hb
  clear HBG166
  have HXG173 : Hid (u168.ownsRow n2 49 3 (.slice ag rs.length cg) rs.length (dvR (mdK 1 rs.length))) := own_belowN HXG167.out hb
  clear HXG167
  clear hb
  go_wp2_with fail
  refine Calls.mono (HTO.out _ ⟨HBE169.out⟩) ?_
  rintro e u174 ⟨at3, ct3, rfl, ho, hb⟩
  have HBE175 : Hid (Below w.heap.size w u174) := HBE169.out.trans (Below.mono hb HBE169.out.size)
  clear HBE169
  have HRW176 : Hid (u174.ownsRow w.heap.size 49 3 (.slice aw rs.length cw) rs.length (dvR (rs))) := own_belowN HRW170.out hb
  clear HRW170
  have HBW177 : Hid (LG w u174 bw #[.bool gd, .int .i64 fr_, .int .i64 cp_, .slice aw rs.length cw] 41) := HBW171.out.step hb
  clear HBW171
  have HBG178 : Hid (LG w u174 bg #[.bool gd, .int .i64 fr_, .int .i64 cp_, .slice ag rs.length cg] 41) := HBG172.out.step hb
  clear HBG172
  have HXG179 : Hid (u174.ownsRow n2 49 3 (.slice ag rs.length cg) rs.length (dvR (mdK 1 rs.length))) := own_belowN HXG173.out hb
  clear HXG173
  have HT180 : Hid (u174.ownsRow u168.heap.size 56 3 (.slice at3 zs.length ct3) zs.length (ftR zs)) := ho
  clear ho hb
  go_wp2_with fail
  refine Calls.mono (HIM.out _ _ _ (FTrow.of HT180.out)) ?_
  rintro e u181 ⟨ah, ch, rfl, ho, hb⟩
  clear HT180
  have HBE182 : Hid (Below w.heap.size w u181) := HBE175.out.trans (Below.mono hb HBE175.out.size)
  clear HBE175
  have HRW183 : Hid (u181.ownsRow w.heap.size 49 3 (.slice aw rs.length cw) rs.length (dvR (rs))) := own_belowN HRW176.out hb
  clear HRW176
  have HBW184 : Hid (LG w u181 bw #[.bool gd, .int .i64 fr_, .int .i64 cp_, .slice aw rs.length cw] 41) := HBW177.out.step hb
  clear HBW177
  have HBG185 : Hid (LG w u181 bg #[.bool gd, .int .i64 fr_, .int .i64 cp_, .slice ag rs.length cg] 41) := HBG178.out.step hb
  clear HBG178
  have HXG186 : Hid (u181.ownsRow n2 49 3 (.slice ag rs.length cg) rs.length (dvR (mdK 1 rs.length))) := own_belowN HXG179.out hb
  clear HXG179
  have HRH187 : Hid (u181.ownsRow u174.heap.size 49 3 (.slice ah rs.length ch) rs.length (dvR (rs))) := ho
  clear ho hb
  have HSZ9 : Hid (w.heap.size ≤ u181.heap.size) := HBE182.out.size
  have HBE188 : Hid (Below w.heap.size w (u181.alloc (.cells #[.bool gd, .int .i64 fr_, .int .i64 cp_, .slice ah rs.length ch] 41))) := HBE182.out.trans ((bx1 _ _).mono HBE182.out.size)
  clear HBE182
  have HRW189 : Hid ((u181.alloc (.cells #[.bool gd, .int .i64 fr_, .int .i64 cp_, .slice ah rs.length ch] 41)).ownsRow w.heap.size 49 3 (.slice aw rs.length cw) rs.length (dvR (rs))) := World.ownsRow.alloc HRW183.out _
  clear HRW183
  have HBW190 : Hid (LG w (u181.alloc (.cells #[.bool gd, .int .i64 fr_, .int .i64 cp_, .slice ah rs.length ch] 41)) bw #[.bool gd, .int .i64 fr_, .int .i64 cp_, .slice aw rs.length cw] 41) := HBW184.out.step (bx1 _ _)
  clear HBW184
  have HBG191 : Hid (LG w (u181.alloc (.cells #[.bool gd, .int .i64 fr_, .int .i64 cp_, .slice ah rs.length ch] 41)) bg #[.bool gd, .int .i64 fr_, .int .i64 cp_, .slice ag rs.length cg] 41) := HBG185.out.step (bx1 _ _)
  clear HBG185
  have HXG192 : Hid ((u181.alloc (.cells #[.bool gd, .int .i64 fr_, .int .i64 cp_, .slice ah rs.length ch] 41)).ownsRow n2 49 3 (.slice ag rs.length cg) rs.length (dvR (mdK 1 rs.length))) := World.ownsRow.alloc HXG186.out _
  clear HXG186
  have HRH193 : Hid ((u181.alloc (.cells #[.bool gd, .int .i64 fr_, .int .i64 cp_, .slice ah rs.length ch] 41)).ownsRow u174.heap.size 49 3 (.slice ah rs.length ch) rs.length (dvR (rs))) := World.ownsRow.alloc HRH187.out _
  clear HRH187
  have HBH194 : Hid (LG w (u181.alloc (.cells #[.bool gd, .int .i64 fr_, .int .i64 cp_, .slice ah rs.length ch] 41)) u181.heap.size #[.bool gd, .int .i64 fr_, .int .i64 cp_, .slice ah rs.length ch] 41) := ⟨HBE188.out, heap_new _ _, HSZ9.out⟩
  clear HSZ9
  go_upto_region 25 with fail
  generalize (u181.alloc (.cells #[.bool gd, .int .i64 fr_, .int .i64 cp_, .slice ah rs.length ch] 41)) = u195 at *
  generalize u181.heap.size = bh at *
  have r0 := HBH194.out.cel 0 _ rfl
  have r1 := HBH194.out.cel 1 _ rfl
  have r2 := HBH194.out.cel 2 _ rfl
  have r3 := HBH194.out.cel 3 _ rfl
  have rl := HBH194.out.lt
  have q0 := HBW190.out.cel 0 _ rfl
  have q1 := HBW190.out.cel 1 _ rfl
  have q2 := HBW190.out.cel 2 _ rfl
  have q3 := HBW190.out.cel 3 _ rfl
  have ql := HBW190.out.lt
  go_wp2_with fail
  refine Calls.mono (eqBRd_ok (DVrow.of HRH193.out) (DVrow.of HRW189.out) (by have := HLN.out; omega) gd fr_ cp_) ?_
  rintro e u196 ⟨rfl, hb⟩
  clear r0 r1 r2 r3 rl
  clear q0 q1 q2 q3 ql
  have HBE197 : Hid (Below w.heap.size w u196) := HBE188.out.trans (Below.mono hb HBE188.out.size)
  clear HBE188
  have HRW198 : Hid (u196.ownsRow w.heap.size 49 3 (.slice aw rs.length cw) rs.length (dvR (rs))) := own_belowN HRW189.out hb
  clear HRW189
  have HBW199 : Hid (LG w u196 bw #[.bool gd, .int .i64 fr_, .int .i64 cp_, .slice aw rs.length cw] 41) := HBW190.out.step hb
  clear HBW190
  have HBG200 : Hid (LG w u196 bg #[.bool gd, .int .i64 fr_, .int .i64 cp_, .slice ag rs.length cg] 41) := HBG191.out.step hb
  clear HBG191
  have HXG201 : Hid (u196.ownsRow n2 49 3 (.slice ag rs.length cg) rs.length (dvR (mdK 1 rs.length))) := own_belowN HXG192.out hb
  clear HXG192
  have HRH202 : Hid (u196.ownsRow u174.heap.size 49 3 (.slice ah rs.length ch) rs.length (dvR (rs))) := own_belowN HRH193.out hb
  clear HRH193
  have HBH203 : Hid (LG w u196 bh #[.bool gd, .int .i64 fr_, .int .i64 cp_, .slice ah rs.length ch] 41) := HBH194.out.step hb
  clear HBH194
  clear hb
  have r0 := HBG200.out.cel 0 _ rfl
  have r1 := HBG200.out.cel 1 _ rfl
  have r2 := HBG200.out.cel 2 _ rfl
  have r3 := HBG200.out.cel 3 _ rfl
  have rl := HBG200.out.lt
  go_wp2_with fail
  refine Calls.mono (HHE.out _ (DVrow.of (by rw [mdK_len]; exact HXG201.out))) ?_
  rintro e u204 ⟨rfl, hb⟩
  clear r0 r1 r2 r3 rl
  have HBE205 : Hid (Below w.heap.size w u204) := HBE197.out.trans (Below.mono hb HBE197.out.size)
  clear HBE197
  have HRW206 : Hid (u204.ownsRow w.heap.size 49 3 (.slice aw rs.length cw) rs.length (dvR (rs))) := own_belowN HRW198.out hb
  clear HRW198
  have HBW207 : Hid (LG w u204 bw #[.bool gd, .int .i64 fr_, .int .i64 cp_, .slice aw rs.length cw] 41) := HBW199.out.step hb
  clear HBW199
  have HBG208 : Hid (LG w u204 bg #[.bool gd, .int .i64 fr_, .int .i64 cp_, .slice ag rs.length cg] 41) := HBG200.out.step hb
  clear HBG200
  have HXG209 : Hid (u204.ownsRow n2 49 3 (.slice ag rs.length cg) rs.length (dvR (mdK 1 rs.length))) := own_belowN HXG201.out hb
  clear HXG201
  have HRH210 : Hid (u204.ownsRow u174.heap.size 49 3 (.slice ah rs.length ch) rs.length (dvR (rs))) := own_belowN HRH202.out hb
  clear HRH202
  have HBH211 : Hid (LG w u204 bh #[.bool gd, .int .i64 fr_, .int .i64 cp_, .slice ah rs.length ch] 41) := HBH203.out.step hb
  clear HBH203
  clear hb
  go_wp2
  go_ret
  exact ⟨rfl, HBE205.out⟩
end Go.Proofs.Ytlpkkclmcgnapaa
