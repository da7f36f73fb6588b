import Derived.Test.YtfagohdmepnkkaaPTwo
import Derived.Test.YtfagohdmepnkkaaSTwo2
import Derived.Test.YtfagohdmepnkkaaPWk1
namespace Go.Proofs.Ytfagohdmepnkkaa
open Go.ChangeShapes Go.WideShapes Go.ChangeAt Go.RowKit

set_option maxRecDepth 100000 in
set_option maxHeartbeats 4000000 in
theorem implTwo_f12 (s : ByteArray) (host root va : Nat) (acc : Int) (user : Bool) (w : World) (hm : memOk s = true) (r0 : host ≤ 255) (r1 : root ≤ 255) (v1 : va ≤ 262143) (a1 : 1 ≤ acc) (a2 : acc ≤ 3) (hf : ¬ (finG (feG s host root va 0) host va acc user).code = 0 ∧ ¬ (finG (feG s host root va 0) host va acc user).code = 3) :
    Calls Try.prog 9 #[.string s, .int .i64 host, .int .i64 root, .int .i64 va, .int .i64 acc, .bool user] w fun e w' => e = .returned (twA ⟨(finG (feG s host root va 0) host va acc user).code, 0, 0, (finG (feG s host root va 0) host va acc user).steps + ((finG (feG s host root va 0) host va acc user).zs.length : Int), (finG (feG s host root va 0) host va acc user).mem⟩) ∧ Below w.heap.size w w' := by
  have hc : Hid _ := memC_ok hm
  obtain ⟨hs0, hs1, hs2⟩ := memOk_b hm
  obtain ⟨n, hn⟩ : ∃ n, s.size = n * 256 := ⟨s.size / 256, by omega⟩
  have hRt := fun w => isRoot_any (root : Int) w
  have hRh := fun w => isRoot_any (host : Int) w
  have hVt := fun w => isVirtual_any (va : Int) w
  rw [show (decide (0 ≤ (root : Int)) && decide ((root : Int) ≤ 255)) = true by simp; omega] at hRt
  rw [show (decide (0 ≤ (host : Int)) && decide ((host : Int) ≤ 255)) = true by simp; omega] at hRh
  rw [show (decide (0 ≤ (va : Int)) && decide ((va : Int) < 262144)) = true by simp; omega] at hVt
  have HRM : Hid _ := fun w => readMemory_any s n w hn (by omega)
  have V : Hid (va ≤ 262143) := v1
  have HF : Hid (∀ {w0 wr : World} {b G B : Nat} {rv : Value} (h : GW w0 b G B n s ⟨host, 0, 0⟩ wr rv [] ⟨va, acc, user, 0, 0, false, 0⟩), _) := fun {w0 wr b G B rv} h => findG h hn (by omega) root (by omega) v1 r0 (Int.le_refl 0) (show (0 : Int) ≤ 100 by decide) a1 a2
  simp only at HF
  have hO := finG_ok s 0 (feG s host root va 0) host va acc user (feG_ok s host root va 0 r1 v1)
  obtain ⟨d, hd⟩ : ∃ d, finG (feG s host root va 0) host va acc user = d := ⟨_, rfl⟩
  rw [hd] at HF hO hf ⊢
  obtain ⟨cd, pa, zs, mem, st, pl⟩ := d
  have hzl := hO.zl
  have hsz := hO.size
  have hst0 := hO.s0
  have hst1 := hO.s1
  have HPa : Hid _ := hO.pa
  simp only at *
  have HN : Hid (s.size = n * 256) := hn
  have hn1 : n ≤ 256 := by omega
  clear hd v1 hm hn hs0 hs1 hs2 hO
  go_enter Try.func9, Try.ntmps9
  go_wp2_with (first | (go_at_call 43; refine (implMemFault_any _ _ (by have := HN.out; omega)).mono ?_; rintro e u1 ⟨rfl, hu1⟩; rw [hu1, hc.out]; clear hu1) | (go_at_call 44; refine Calls.mono (hRh _) ?_; rintro e u2 ⟨rfl, hu2⟩; rw [hu2]; clear hu2 hRh) | (go_at_call 44; refine Calls.mono (hRt _) ?_; rintro e u2 ⟨rfl, hu2⟩; rw [hu2]; clear hu2) | (go_at_call 45; refine Calls.mono (hVt _) ?_; rintro e u2 ⟨rfl, hu2⟩; rw [hu2]; clear hu2) | (go_at_call 46; refine (isAccess_yes _ _ a1 a2).mono ?_; rintro e u2 ⟨rfl, hu2⟩; rw [hu2]; clear hu2) | (go_at_call 47; refine Calls.mono (HRM.out _) ?_; rintro e u3 ⟨rfl, hM3, hB3, hS3⟩; unfold mv; have HM3 : Hid _ := hM3; have HB3 : Hid _ := hB3; have HS3 : Hid _ := hS3; clear hM3 hB3 hS3) | fail)
  have HI : Hid (GW (u3.alloc (.cells #[mv (w.heap.size + 1) n, .int .i64 host, .int .i64 0, .int .i64 0] 88)) (w.heap.size + 1) u3.heap.size (u3.heap.size + 1) n s ⟨host, 0, 0⟩ ((u3.alloc (.cells #[mv (w.heap.size + 1) n, .int .i64 host, .int .i64 0, .int .i64 0] 88)).alloc (.cells #[.iface 83 (.pointer (some ⟨u3.heap.size, 0, none⟩)), .int .i64 va, .int .i64 acc, .bool user, .int .i64 0, .int .i64 0, .bool false, .slice none 0 0, .int .i64 0, .bool false] 92)) (.slice none 0 0) [] ⟨va, acc, user, 0, 0, false, 0⟩) := by
    have h1 : MemAt u3 (w.heap.size + 1) s := by
      have h0 := HM3.out
      simp only [World.size_alloc] at h0
      exact h0
    have h2 := h1.lt
    have hb1 : Below u3.heap.size u3 (u3.alloc (.cells #[mv (w.heap.size + 1) n, .int .i64 host, .int .i64 0, .int .i64 0] 88)) := (Below.refl _ _).alloc (Nat.le_refl _) _
    have hb2 : Below (u3.alloc (.cells #[mv (w.heap.size + 1) n, .int .i64 host, .int .i64 0, .int .i64 0] 88)).heap.size (u3.alloc (.cells #[mv (w.heap.size + 1) n, .int .i64 host, .int .i64 0, .int .i64 0] 88)) ((u3.alloc (.cells #[mv (w.heap.size + 1) n, .int .i64 host, .int .i64 0, .int .i64 0] 88)).alloc (.cells #[.iface 83 (.pointer (some ⟨u3.heap.size, 0, none⟩)), .int .i64 va, .int .i64 acc, .bool user, .int .i64 0, .int .i64 0, .bool false, .slice none 0 0, .int .i64 0, .bool false] 92)) := (Below.refl _ _).alloc (Nat.le_refl _) _
    have hz : (u3.alloc (.cells #[mv (w.heap.size + 1) n, .int .i64 host, .int .i64 0, .int .i64 0] 88)).heap.size = u3.heap.size + 1 := by simp
    have hx := heap_new (u3.alloc (.cells #[mv (w.heap.size + 1) n, .int .i64 host, .int .i64 0, .int .i64 0] 88)) (.cells #[.iface 83 (.pointer (some ⟨u3.heap.size, 0, none⟩)), .int .i64 va, .int .i64 acc, .bool user, .int .i64 0, .int .i64 0, .bool false, .slice none 0 0, .int .i64 0, .bool false] 92)
    rw [hz] at hx
    refine ⟨g2_below ⟨rfl, rfl, rfl, Nat.le_refl _, fun _ _ _ _ => rfl⟩ hb2, (h1.below hb1 h1.lt).below hb2 (by rw [hz]; omega), ?_, ⟨false, hx⟩, World.ownsRow_nil _ _ _ _, by rw [hz]; exact Nat.le_refl _, h2, by omega⟩
    exact (hb2.block _ (by rw [hz]; omega)).trans (heap_new _ _)
  have HRb : Hid (u3.heap[w.heap.size]? = some (.cells #[.int .i64 0, .int .i64 0, .int .i64 0, .int .i64 0, .string ⟨#[]⟩] 23 (0, 0))) := (HB3.out.block _ (by simp)).trans (heap_new _ _)
  have HLt : Hid (w.heap.size + 1 < u3.heap.size) := by
    have h2 := HS3.out
    simp only [World.size_alloc] at h2
    show w.heap.size + 1 < u3.heap.size
    omega
  have HBw : Hid (Below w.heap.size w (u3.alloc (.cells #[mv (w.heap.size + 1) n, .int .i64 host, .int .i64 0, .int .i64 0] 88))) := by
    have h0 : Below w.heap.size w _ := (Below.refl _ _).alloc (Nat.le_refl _) (.cells #[.int .i64 0, .int .i64 0, .int .i64 0, .int .i64 0, .string ⟨#[]⟩] 23)
    have h1 := h0.trans (HB3.out.mono (by simp))
    exact h1.alloc h1.size _
  have HRw : Hid ((u3.alloc (.cells #[mv (w.heap.size + 1) n, .int .i64 host, .int .i64 0, .int .i64 0] 88)).heap[w.heap.size]? = some (.cells #[.int .i64 0, .int .i64 0, .int .i64 0, .int .i64 0, .string ⟨#[]⟩] 23 (0, 0))) := (Below.heap_alloc _ _ _ (by have := HLt.out; omega)).trans HRb.out
  have HZw : Hid ((u3.alloc (.cells #[mv (w.heap.size + 1) n, .int .i64 host, .int .i64 0, .int .i64 0] 88)).heap.size = u3.heap.size + 1) := by simp [Hid]
  clear HB3 HS3 HM3 HRb
  refine Calls.mono (HF.out HI.out) ?_
  rintro e u4 ⟨rfl, rv', x', hG, hx4⟩
  generalize u3.alloc (.cells #[mv (w.heap.size + 1) n, .int .i64 host, .int .i64 0, .int .i64 0] 88) = wA at hG HBw HRw HZw
  clear HI HF
  obtain ⟨hf1, hf2⟩ := hf
  have hf3 : (cd == 0) = false := by simpa using hf1
  have hf4 : (cd == 3) = false := by simpa using hf2
  obtain ⟨ao, cap, hv⟩ := hG.sl
  subst hv
  have HK : Hid (u4.heap[w.heap.size]? = some (.cells #[.int .i64 0, .int .i64 0, .int .i64 0, .int .i64 0, .string ⟨#[]⟩] 23 (0, 0))) := (hG.grw.block _ (by have := HZw.out; have := HLt.out; omega) (by omega) (by have := HLt.out; omega)).trans HRw.out
  have HM4 : Hid (MemAt u4 (w.heap.size + 1) mem) := hG.mem
  have HM4b : Hid (MemAt (u4.alloc (.cells #[.int .i64 0, .int .i64 0, .int .i64 0, .int .i64 0, .string ⟨#[]⟩] 23)) (w.heap.size + 1) mem) := HM4.out.below ((Below.refl _ _).alloc (Nat.le_refl _) _) HM4.out.lt
  have HG4 : Hid (Below w.heap.size w u4) := by
    have hg := hG.grw
    have hb := HBw.out
    exact ⟨hg.os.trans hb.os, hg.tape.trans hb.tape, hg.output.trans hb.output, Nat.le_trans hb.size hg.size, fun k hk => (hg.block k (Nat.lt_of_lt_of_le hk hb.size) (by omega) (by have := HLt.out; omega)).trans (hb.block k hk)⟩
  have HL4 : Hid (w.heap.size + 1 < u3.heap.size ∧ u3.heap.size + 1 < u4.heap.size) := ⟨HLt.out, hG.box.lt⟩
  have HGx : Hid (GBx u4 u3.heap.size (w.heap.size + 1) n ⟨host, st, pl⟩) := hG.gbx
  have HC : Hid (∀ v, Below u4.heap.size u4 v → _) := fun v hv => (hG.below hv).gbx.cells
  have HD : Hid (∀ v, Below u4.heap.size u4 v → v.cell? ⟨u3.heap.size + 1, 7, none⟩ = some (.slice ao zs.length cap)) := fun v hv => (hG.below hv).box.cells.2.2.2.2.2.2.2.1
  obtain ⟨g0, g1, g2, g3, gf⟩ := hG.gbx.cells
  obtain ⟨c0, c1, c2, c3, c4, c5, c6, c7, c8, cf⟩ := hG.box.cells
  have HT : Hid _ := fun (w' : World) (hM : MemAt w' (w.heap.size + 1) mem) => memText_any (w.heap.size + 1) mem n w' hM (by have := HN.out; omega) (by have := HN.out; omega)
  have hw9 : IntKind.i64.wrap (st + (zs.length : Int)) = st + (zs.length : Int) := by rw [IntKind.wrap_i64]; omega
  simp only at g1 g2 g3 c1 c2 c3 c4 c5 c6 c8
  clear hG
  go_wp2
  go_region_held (fun w' => w'.cell? ⟨u3.heap.size, 2, none⟩ = some (.int .i64 (st)) ∧ w'.cell? ⟨u3.heap.size + 1, 7, none⟩ = some (.slice ao zs.length cap) ∧ w'.cell? ⟨u3.heap.size, 0, none⟩ = some (.slice (some ⟨w.heap.size + 1, 0, none⟩) n n)) (go_keep) ((first | (go_at_call 51; refine Calls.mono (HT.out u4.drew (by exact HM4.out)) ?_; rintro e u5 ⟨rfl, hu5⟩; have hb5 : Below u4.heap.size u4 u5 := ⟨hu5.os, hu5.tape, hu5.output, hu5.size, hu5.block⟩; have HB5 : Hid (Below u4.heap.size u4 u5) := hb5; obtain ⟨f0, f1, f2, f3, ff⟩ := HC.out u5 hb5; have k7 := HD.out u5 hb5; (try simp only at f0 f1 f2 f3); clear hu5 hb5) | (go_at_call 51; refine Calls.mono (HT.out (u4.alloc (.cells #[.int .i64 0, .int .i64 0, .int .i64 0, .int .i64 0, .string ⟨#[]⟩] 23)).drew (by exact HM4b.out)) ?_; rintro e u5 ⟨rfl, hu5⟩; have hb2 : Below (u4.alloc (.cells #[.int .i64 0, .int .i64 0, .int .i64 0, .int .i64 0, .string ⟨#[]⟩] 23)).heap.size (u4.alloc (.cells #[.int .i64 0, .int .i64 0, .int .i64 0, .int .i64 0, .string ⟨#[]⟩] 23)) u5 := ⟨hu5.os, hu5.tape, hu5.output, hu5.size, hu5.block⟩; have hb5 : Below u4.heap.size u4 u5 := ((Below.refl _ _).alloc (Nat.le_refl _) _).trans (hb2.mono (by simp)); have HB5 : Hid (Below u4.heap.size u4 u5) := hb5; obtain ⟨f0, f1, f2, f3, ff⟩ := HC.out u5 hb5; have k7 := HD.out u5 hb5; (try simp only at f0 f1 f2 f3); have hx5 := (hb2.block u4.heap.size (by simp)).trans (heap_new _ _); have HX5 : Hid _ := hx5; obtain ⟨t0, t1, t2, t3, t4, tf⟩ := cel5 hx5; have hn1 : ¬ u3.heap.size = u4.heap.size := (by have := HL4.out; omega); have hn4 : ¬ u4.heap.size = u3.heap.size := (fun e => hn1 e.symm); have hn5 : ¬ u3.heap.size + 1 = u4.heap.size := (by have := HL4.out; omega); have hn6 : ¬ u4.heap.size = u3.heap.size + 1 := (fun e => hn5 e.symm); clear hu5 hb5 hb2 hx5)))
  · have HX0 : Hid ((u5.alloc (.cells #[.int .i64 cd, .int .i64 0, .int .i64 0, .int .i64 (st + (zs.length : Int)), .string mem] 23)).heap[u5.heap.size]? = some (.cells #[.int .i64 cd, .int .i64 0, .int .i64 0, .int .i64 (st + (zs.length : Int)), .string mem] 23 (0, 0))) := heap_new _ _
    have hbV : Below u5.heap.size u5 (u5.alloc (.cells #[.int .i64 cd, .int .i64 0, .int .i64 0, .int .i64 (st + (zs.length : Int)), .string mem] 23)) := (Below.refl _ _).alloc (Nat.le_refl _) _
    have hz5 := HB5.out.size
    have HV0 : Hid (GBx (u5.alloc (.cells #[.int .i64 cd, .int .i64 0, .int .i64 0, .int .i64 (st + (zs.length : Int)), .string mem] 23)) u3.heap.size (w.heap.size + 1) n ⟨host, st, pl⟩) := HGx.out.block ((hbV.block _ (by have := HL4.out; omega)).trans (HB5.out.block _ (by have := HL4.out; omega)))
    have HR0 : Hid ((u5.alloc (.cells #[.int .i64 cd, .int .i64 0, .int .i64 0, .int .i64 (st + (zs.length : Int)), .string mem] 23)).heap[w.heap.size]? = some (.cells #[.int .i64 0, .int .i64 0, .int .i64 0, .int .i64 0, .string ⟨#[]⟩] 23 (0, 0))) := ((hbV.block _ (by have := HL4.out; omega)).trans (HB5.out.block _ (by have := HL4.out; omega))).trans HK.out
    have HB0 : Hid (Below w.heap.size w (u5.alloc (.cells #[.int .i64 cd, .int .i64 0, .int .i64 0, .int .i64 (st + (zs.length : Int)), .string mem] 23))) := (HG4.out.trans (HB5.out.mono HG4.out.size)).trans (hbV.mono (Nat.le_trans HG4.out.size HB5.out.size))
    have HN0 : Hid (¬ u5.heap.size = w.heap.size ∧ ¬ u5.heap.size = u3.heap.size ∧ w.heap.size ≤ u5.heap.size) := ⟨by have := HL4.out; omega, by have := HL4.out; omega, by have := HL4.out; omega⟩
    clear hbV hz5 f0 f1 f2 f3 ff k7
    generalize (u5.alloc (.cells #[.int .i64 cd, .int .i64 0, .int .i64 0, .int .i64 (st + (zs.length : Int)), .string mem] 23)) = V at HX0 HV0 HR0 HB0 ⊢
    generalize u5.heap.size = BX at HX0 HN0 ⊢
    have HX : Hid (V.heap[BX]? = some (.cells #[.int .i64 cd, .int .i64 0, .int .i64 0, .int .i64 (st + (zs.length : Int)), .string mem] 23 (0, 0))) := HX0.out
    obtain ⟨x0, x1, x2, x3, x4, xf⟩ := cel5 HX.out
    obtain ⟨y0, y1, y2, y3, yf⟩ := HV0.out.cells
    obtain ⟨z0, z1, z2, z3, z4, zf⟩ := cel5 HR0.out
    simp only at y1 y2 y3
    have hq1 : ¬ BX = w.heap.size := HN0.out.1
    have hq2 : ¬ w.heap.size = BX := fun e => hq1 e.symm
    have hq3 : ¬ BX = u3.heap.size := HN0.out.2.1
    have hq4 : ¬ u3.heap.size = BX := fun e => hq3 e.symm
    clear HX HX0 HV0 HR0 HB5 HGx HC HD HT HM4 HM4b HK HG4 g0 g1 g2 g3 gf c0 c1 c2 c3 c4 c5 c6 c7 c8 cf
    go_wp2
    refine bodyPost_ret (v := twA ⟨cd, 0, 0, st + (zs.length : Int), mem⟩) (by simp [results, Try.results9, go_sem, twA, z0, z1, z2, z3, z4]) rfl ⟨rfl, ?_⟩
    have hl : w.heap.size ≤ w.heap.size := Nat.le_refl _
    exact (((((HB0.out.setCell hl _).setCell hl _).setCell hl _).setCell hl _).setCell hl _)
  · have HX0 : Hid ((((((u5.setCell ⟨u4.heap.size, 0, none⟩ (.int .i64 cd)).setCell ⟨u4.heap.size, 1, none⟩ (.int .i64 0)).setCell ⟨u4.heap.size, 2, none⟩ (.int .i64 0)).setCell ⟨u4.heap.size, 3, none⟩ (.int .i64 (st + (zs.length : Int)))).setCell ⟨u4.heap.size, 4, none⟩ (.string mem)).heap[u4.heap.size]? = some (.cells #[.int .i64 cd, .int .i64 0, .int .i64 0, .int .i64 (st + (zs.length : Int)), .string mem] 23 (0, 0))) := by
      have h0 := HX5.out
      show _ = _
      simp [World.setCell, Array.getElem?_modify, h0]
    have HV0 : Hid (GBx (((((u5.setCell ⟨u4.heap.size, 0, none⟩ (.int .i64 cd)).setCell ⟨u4.heap.size, 1, none⟩ (.int .i64 0)).setCell ⟨u4.heap.size, 2, none⟩ (.int .i64 0)).setCell ⟨u4.heap.size, 3, none⟩ (.int .i64 (st + (zs.length : Int)))).setCell ⟨u4.heap.size, 4, none⟩ (.string mem)) u3.heap.size (w.heap.size + 1) n ⟨host, st, pl⟩) := HGx.out.block (by
      rw [Below.heap_setCell _ _ _ _ hn1, Below.heap_setCell _ _ _ _ hn1, Below.heap_setCell _ _ _ _ hn1, Below.heap_setCell _ _ _ _ hn1, Below.heap_setCell _ _ _ _ hn1]
      exact HB5.out.block _ (by have := HL4.out; omega))
    have hnw : ¬ w.heap.size = u4.heap.size := by have := HL4.out; omega
    have HR0 : Hid ((((((u5.setCell ⟨u4.heap.size, 0, none⟩ (.int .i64 cd)).setCell ⟨u4.heap.size, 1, none⟩ (.int .i64 0)).setCell ⟨u4.heap.size, 2, none⟩ (.int .i64 0)).setCell ⟨u4.heap.size, 3, none⟩ (.int .i64 (st + (zs.length : Int)))).setCell ⟨u4.heap.size, 4, none⟩ (.string mem)).heap[w.heap.size]? = some (.cells #[.int .i64 0, .int .i64 0, .int .i64 0, .int .i64 0, .string ⟨#[]⟩] 23 (0, 0))) := by
      show _ = _
      rw [Below.heap_setCell _ _ _ _ hnw, Below.heap_setCell _ _ _ _ hnw, Below.heap_setCell _ _ _ _ hnw, Below.heap_setCell _ _ _ _ hnw, Below.heap_setCell _ _ _ _ hnw]
      exact (HB5.out.block _ (by have := HL4.out; omega)).trans HK.out
    have HB0 : Hid (Below w.heap.size w (((((u5.setCell ⟨u4.heap.size, 0, none⟩ (.int .i64 cd)).setCell ⟨u4.heap.size, 1, none⟩ (.int .i64 0)).setCell ⟨u4.heap.size, 2, none⟩ (.int .i64 0)).setCell ⟨u4.heap.size, 3, none⟩ (.int .i64 (st + (zs.length : Int)))).setCell ⟨u4.heap.size, 4, none⟩ (.string mem))) := by
      have h6 : Below w.heap.size w u5 := HG4.out.trans (HB5.out.mono HG4.out.size)
      have hl : w.heap.size ≤ u4.heap.size := HG4.out.size
      exact ((((h6.setCell hl _).setCell hl _).setCell hl _).setCell hl _).setCell hl _
    have HN0 : Hid (¬ u4.heap.size = w.heap.size ∧ ¬ u4.heap.size = u3.heap.size ∧ w.heap.size ≤ u4.heap.size) := ⟨by have := HL4.out; omega, by have := HL4.out; omega, by have := HL4.out; omega⟩
    clear f0 f1 f2 f3 ff k7 t0 t1 t2 t3 t4 tf hn1 hn4 hn5 hn6 hnw HX5
    generalize (((((u5.setCell ⟨u4.heap.size, 0, none⟩ (.int .i64 cd)).setCell ⟨u4.heap.size, 1, none⟩ (.int .i64 0)).setCell ⟨u4.heap.size, 2, none⟩ (.int .i64 0)).setCell ⟨u4.heap.size, 3, none⟩ (.int .i64 (st + (zs.length : Int)))).setCell ⟨u4.heap.size, 4, none⟩ (.string mem)) = V at HX0 HV0 HR0 HB0 ⊢
    generalize u4.heap.size = BX at HX0 HN0 ⊢
    have HX : Hid (V.heap[BX]? = some (.cells #[.int .i64 cd, .int .i64 0, .int .i64 0, .int .i64 (st + (zs.length : Int)), .string mem] 23 (0, 0))) := HX0.out
    obtain ⟨x0, x1, x2, x3, x4, xf⟩ := cel5 HX.out
    obtain ⟨y0, y1, y2, y3, yf⟩ := HV0.out.cells
    obtain ⟨z0, z1, z2, z3, z4, zf⟩ := cel5 HR0.out
    simp only at y1 y2 y3
    have hq1 : ¬ BX = w.heap.size := HN0.out.1
    have hq2 : ¬ w.heap.size = BX := fun e => hq1 e.symm
    have hq3 : ¬ BX = u3.heap.size := HN0.out.2.1
    have hq4 : ¬ u3.heap.size = BX := fun e => hq3 e.symm
    clear HX HX0 HV0 HR0 HB5 HGx HC HD HT HM4 HM4b HK HG4 g0 g1 g2 g3 gf c0 c1 c2 c3 c4 c5 c6 c7 c8 cf
    go_wp2
    refine bodyPost_ret (v := twA ⟨cd, 0, 0, st + (zs.length : Int), mem⟩) (by simp [results, Try.results9, go_sem, twA, z0, z1, z2, z3, z4]) rfl ⟨rfl, ?_⟩
    have hl : w.heap.size ≤ w.heap.size := Nat.le_refl _
    exact (((((HB0.out.setCell hl _).setCell hl _).setCell hl _).setCell hl _).setCell hl _)

set_option maxRecDepth 100000 in
set_option maxHeartbeats 4000000 in
theorem implTwo_f3 (s : ByteArray) (host root va : Nat) (acc : Int) (user : Bool) (w : World) (hm : memOk s = true) (r0 : host ≤ 255) (r1 : root ≤ 255) (v1 : va ≤ 262143) (a1 : 1 ≤ acc) (a2 : acc ≤ 3) (hf : (finG (feG s host root va 0) host va acc user).code = 3) :
    Calls Try.prog 9 #[.string s, .int .i64 host, .int .i64 root, .int .i64 va, .int .i64 acc, .bool user] w fun e w' => e = .returned (twA ⟨3, (finG (feG s host root va 0) host va acc user).place, 0, (finG (feG s host root va 0) host va acc user).steps + ((finG (feG s host root va 0) host va acc user).zs.length : Int), (finG (feG s host root va 0) host va acc user).mem⟩) ∧ Below w.heap.size w w' := by
  have hc : Hid _ := memC_ok hm
  obtain ⟨hs0, hs1, hs2⟩ := memOk_b hm
  obtain ⟨n, hn⟩ : ∃ n, s.size = n * 256 := ⟨s.size / 256, by omega⟩
  have hRt := fun w => isRoot_any (root : Int) w
  have hRh := fun w => isRoot_any (host : Int) w
  have hVt := fun w => isVirtual_any (va : Int) w
  rw [show (decide (0 ≤ (root : Int)) && decide ((root : Int) ≤ 255)) = true by simp; omega] at hRt
  rw [show (decide (0 ≤ (host : Int)) && decide ((host : Int) ≤ 255)) = true by simp; omega] at hRh
  rw [show (decide (0 ≤ (va : Int)) && decide ((va : Int) < 262144)) = true by simp; omega] at hVt
  have HRM : Hid _ := fun w => readMemory_any s n w hn (by omega)
  have V : Hid (va ≤ 262143) := v1
  have HF : Hid (∀ {w0 wr : World} {b G B : Nat} {rv : Value} (h : GW w0 b G B n s ⟨host, 0, 0⟩ wr rv [] ⟨va, acc, user, 0, 0, false, 0⟩), _) := fun {w0 wr b G B rv} h => findG h hn (by omega) root (by omega) v1 r0 (Int.le_refl 0) (show (0 : Int) ≤ 100 by decide) a1 a2
  simp only at HF
  have hO := finG_ok s 0 (feG s host root va 0) host va acc user (feG_ok s host root va 0 r1 v1)
  obtain ⟨d, hd⟩ : ∃ d, finG (feG s host root va 0) host va acc user = d := ⟨_, rfl⟩
  rw [hd] at HF hO hf ⊢
  obtain ⟨cd, pa, zs, mem, st, pl⟩ := d
  have hzl := hO.zl
  have hsz := hO.size
  have hst0 := hO.s0
  have hst1 := hO.s1
  have HPa : Hid _ := hO.pa
  simp only at *
  have HN : Hid (s.size = n * 256) := hn
  have hn1 : n ≤ 256 := by omega
  clear hd v1 hm hn hs0 hs1 hs2 hO
  go_enter Try.func9, Try.ntmps9
  go_wp2_with (first | (go_at_call 43; refine (implMemFault_any _ _ (by have := HN.out; omega)).mono ?_; rintro e u1 ⟨rfl, hu1⟩; rw [hu1, hc.out]; clear hu1) | (go_at_call 44; refine Calls.mono (hRh _) ?_; rintro e u2 ⟨rfl, hu2⟩; rw [hu2]; clear hu2 hRh) | (go_at_call 44; refine Calls.mono (hRt _) ?_; rintro e u2 ⟨rfl, hu2⟩; rw [hu2]; clear hu2) | (go_at_call 45; refine Calls.mono (hVt _) ?_; rintro e u2 ⟨rfl, hu2⟩; rw [hu2]; clear hu2) | (go_at_call 46; refine (isAccess_yes _ _ a1 a2).mono ?_; rintro e u2 ⟨rfl, hu2⟩; rw [hu2]; clear hu2) | (go_at_call 47; refine Calls.mono (HRM.out _) ?_; rintro e u3 ⟨rfl, hM3, hB3, hS3⟩; unfold mv; have HM3 : Hid _ := hM3; have HB3 : Hid _ := hB3; have HS3 : Hid _ := hS3; clear hM3 hB3 hS3) | fail)
  have HI : Hid (GW (u3.alloc (.cells #[mv (w.heap.size + 1) n, .int .i64 host, .int .i64 0, .int .i64 0] 88)) (w.heap.size + 1) u3.heap.size (u3.heap.size + 1) n s ⟨host, 0, 0⟩ ((u3.alloc (.cells #[mv (w.heap.size + 1) n, .int .i64 host, .int .i64 0, .int .i64 0] 88)).alloc (.cells #[.iface 83 (.pointer (some ⟨u3.heap.size, 0, none⟩)), .int .i64 va, .int .i64 acc, .bool user, .int .i64 0, .int .i64 0, .bool false, .slice none 0 0, .int .i64 0, .bool false] 92)) (.slice none 0 0) [] ⟨va, acc, user, 0, 0, false, 0⟩) := by
    have h1 : MemAt u3 (w.heap.size + 1) s := by
      have h0 := HM3.out
      simp only [World.size_alloc] at h0
      exact h0
    have h2 := h1.lt
    have hb1 : Below u3.heap.size u3 (u3.alloc (.cells #[mv (w.heap.size + 1) n, .int .i64 host, .int .i64 0, .int .i64 0] 88)) := (Below.refl _ _).alloc (Nat.le_refl _) _
    have hb2 : Below (u3.alloc (.cells #[mv (w.heap.size + 1) n, .int .i64 host, .int .i64 0, .int .i64 0] 88)).heap.size (u3.alloc (.cells #[mv (w.heap.size + 1) n, .int .i64 host, .int .i64 0, .int .i64 0] 88)) ((u3.alloc (.cells #[mv (w.heap.size + 1) n, .int .i64 host, .int .i64 0, .int .i64 0] 88)).alloc (.cells #[.iface 83 (.pointer (some ⟨u3.heap.size, 0, none⟩)), .int .i64 va, .int .i64 acc, .bool user, .int .i64 0, .int .i64 0, .bool false, .slice none 0 0, .int .i64 0, .bool false] 92)) := (Below.refl _ _).alloc (Nat.le_refl _) _
    have hz : (u3.alloc (.cells #[mv (w.heap.size + 1) n, .int .i64 host, .int .i64 0, .int .i64 0] 88)).heap.size = u3.heap.size + 1 := by simp
    have hx := heap_new (u3.alloc (.cells #[mv (w.heap.size + 1) n, .int .i64 host, .int .i64 0, .int .i64 0] 88)) (.cells #[.iface 83 (.pointer (some ⟨u3.heap.size, 0, none⟩)), .int .i64 va, .int .i64 acc, .bool user, .int .i64 0, .int .i64 0, .bool false, .slice none 0 0, .int .i64 0, .bool false] 92)
    rw [hz] at hx
    refine ⟨g2_below ⟨rfl, rfl, rfl, Nat.le_refl _, fun _ _ _ _ => rfl⟩ hb2, (h1.below hb1 h1.lt).below hb2 (by rw [hz]; omega), ?_, ⟨false, hx⟩, World.ownsRow_nil _ _ _ _, by rw [hz]; exact Nat.le_refl _, h2, by omega⟩
    exact (hb2.block _ (by rw [hz]; omega)).trans (heap_new _ _)
  have HRb : Hid (u3.heap[w.heap.size]? = some (.cells #[.int .i64 0, .int .i64 0, .int .i64 0, .int .i64 0, .string ⟨#[]⟩] 23 (0, 0))) := (HB3.out.block _ (by simp)).trans (heap_new _ _)
  have HLt : Hid (w.heap.size + 1 < u3.heap.size) := by
    have h2 := HS3.out
    simp only [World.size_alloc] at h2
    show w.heap.size + 1 < u3.heap.size
    omega
  have HBw : Hid (Below w.heap.size w (u3.alloc (.cells #[mv (w.heap.size + 1) n, .int .i64 host, .int .i64 0, .int .i64 0] 88))) := by
    have h0 : Below w.heap.size w _ := (Below.refl _ _).alloc (Nat.le_refl _) (.cells #[.int .i64 0, .int .i64 0, .int .i64 0, .int .i64 0, .string ⟨#[]⟩] 23)
    have h1 := h0.trans (HB3.out.mono (by simp))
    exact h1.alloc h1.size _
  have HRw : Hid ((u3.alloc (.cells #[mv (w.heap.size + 1) n, .int .i64 host, .int .i64 0, .int .i64 0] 88)).heap[w.heap.size]? = some (.cells #[.int .i64 0, .int .i64 0, .int .i64 0, .int .i64 0, .string ⟨#[]⟩] 23 (0, 0))) := (Below.heap_alloc _ _ _ (by have := HLt.out; omega)).trans HRb.out
  have HZw : Hid ((u3.alloc (.cells #[mv (w.heap.size + 1) n, .int .i64 host, .int .i64 0, .int .i64 0] 88)).heap.size = u3.heap.size + 1) := by simp [Hid]
  clear HB3 HS3 HM3 HRb
  refine Calls.mono (HF.out HI.out) ?_
  rintro e u4 ⟨rfl, rv', x', hG, hx4⟩
  generalize u3.alloc (.cells #[mv (w.heap.size + 1) n, .int .i64 host, .int .i64 0, .int .i64 0] 88) = wA at hG HBw HRw HZw
  clear HI HF
  subst hf
  obtain ⟨ao, cap, hv⟩ := hG.sl
  subst hv
  have HK : Hid (u4.heap[w.heap.size]? = some (.cells #[.int .i64 0, .int .i64 0, .int .i64 0, .int .i64 0, .string ⟨#[]⟩] 23 (0, 0))) := (hG.grw.block _ (by have := HZw.out; have := HLt.out; omega) (by omega) (by have := HLt.out; omega)).trans HRw.out
  have HM4 : Hid (MemAt u4 (w.heap.size + 1) mem) := hG.mem
  have HM4b : Hid (MemAt (u4.alloc (.cells #[.int .i64 0, .int .i64 0, .int .i64 0, .int .i64 0, .string ⟨#[]⟩] 23)) (w.heap.size + 1) mem) := HM4.out.below ((Below.refl _ _).alloc (Nat.le_refl _) _) HM4.out.lt
  have HG4 : Hid (Below w.heap.size w u4) := by
    have hg := hG.grw
    have hb := HBw.out
    exact ⟨hg.os.trans hb.os, hg.tape.trans hb.tape, hg.output.trans hb.output, Nat.le_trans hb.size hg.size, fun k hk => (hg.block k (Nat.lt_of_lt_of_le hk hb.size) (by omega) (by have := HLt.out; omega)).trans (hb.block k hk)⟩
  have HL4 : Hid (w.heap.size + 1 < u3.heap.size ∧ u3.heap.size + 1 < u4.heap.size) := ⟨HLt.out, hG.box.lt⟩
  have HGx : Hid (GBx u4 u3.heap.size (w.heap.size + 1) n ⟨host, st, pl⟩) := hG.gbx
  have HC : Hid (∀ v, Below u4.heap.size u4 v → _) := fun v hv => (hG.below hv).gbx.cells
  have HD : Hid (∀ v, Below u4.heap.size u4 v → v.cell? ⟨u3.heap.size + 1, 7, none⟩ = some (.slice ao zs.length cap)) := fun v hv => (hG.below hv).box.cells.2.2.2.2.2.2.2.1
  obtain ⟨g0, g1, g2, g3, gf⟩ := hG.gbx.cells
  obtain ⟨c0, c1, c2, c3, c4, c5, c6, c7, c8, cf⟩ := hG.box.cells
  have HT : Hid _ := fun (w' : World) (hM : MemAt w' (w.heap.size + 1) mem) => memText_any (w.heap.size + 1) mem n w' hM (by have := HN.out; omega) (by have := HN.out; omega)
  have hw9 : IntKind.i64.wrap (st + (zs.length : Int)) = st + (zs.length : Int) := by rw [IntKind.wrap_i64]; omega
  simp only at g1 g2 g3 c1 c2 c3 c4 c5 c6 c8
  clear hG
  go_wp2
  go_region_held (fun w' => w'.cell? ⟨u3.heap.size, 2, none⟩ = some (.int .i64 (st)) ∧ w'.cell? ⟨u3.heap.size + 1, 7, none⟩ = some (.slice ao zs.length cap) ∧ w'.cell? ⟨u3.heap.size, 0, none⟩ = some (.slice (some ⟨w.heap.size + 1, 0, none⟩) n n)) (go_keep) ((first | (go_at_call 51; refine Calls.mono (HT.out u4.drew (by exact HM4.out)) ?_; rintro e u5 ⟨rfl, hu5⟩; have hb5 : Below u4.heap.size u4 u5 := ⟨hu5.os, hu5.tape, hu5.output, hu5.size, hu5.block⟩; have HB5 : Hid (Below u4.heap.size u4 u5) := hb5; obtain ⟨f0, f1, f2, f3, ff⟩ := HC.out u5 hb5; have k7 := HD.out u5 hb5; (try simp only at f0 f1 f2 f3); clear hu5 hb5) | (go_at_call 51; refine Calls.mono (HT.out (u4.alloc (.cells #[.int .i64 0, .int .i64 0, .int .i64 0, .int .i64 0, .string ⟨#[]⟩] 23)).drew (by exact HM4b.out)) ?_; rintro e u5 ⟨rfl, hu5⟩; have hb2 : Below (u4.alloc (.cells #[.int .i64 0, .int .i64 0, .int .i64 0, .int .i64 0, .string ⟨#[]⟩] 23)).heap.size (u4.alloc (.cells #[.int .i64 0, .int .i64 0, .int .i64 0, .int .i64 0, .string ⟨#[]⟩] 23)) u5 := ⟨hu5.os, hu5.tape, hu5.output, hu5.size, hu5.block⟩; have hb5 : Below u4.heap.size u4 u5 := ((Below.refl _ _).alloc (Nat.le_refl _) _).trans (hb2.mono (by simp)); have HB5 : Hid (Below u4.heap.size u4 u5) := hb5; obtain ⟨f0, f1, f2, f3, ff⟩ := HC.out u5 hb5; have k7 := HD.out u5 hb5; (try simp only at f0 f1 f2 f3); have hx5 := (hb2.block u4.heap.size (by simp)).trans (heap_new _ _); have HX5 : Hid _ := hx5; obtain ⟨t0, t1, t2, t3, t4, tf⟩ := cel5 hx5; have hn1 : ¬ u3.heap.size = u4.heap.size := (by have := HL4.out; omega); have hn4 : ¬ u4.heap.size = u3.heap.size := (fun e => hn1 e.symm); have hn5 : ¬ u3.heap.size + 1 = u4.heap.size := (by have := HL4.out; omega); have hn6 : ¬ u4.heap.size = u3.heap.size + 1 := (fun e => hn5 e.symm); clear hu5 hb5 hb2 hx5)))
  · have HX0 : Hid ((u5.alloc (.cells #[.int .i64 3, .int .i64 0, .int .i64 0, .int .i64 (st + (zs.length : Int)), .string mem] 23)).heap[u5.heap.size]? = some (.cells #[.int .i64 3, .int .i64 0, .int .i64 0, .int .i64 (st + (zs.length : Int)), .string mem] 23 (0, 0))) := heap_new _ _
    have hbV : Below u5.heap.size u5 (u5.alloc (.cells #[.int .i64 3, .int .i64 0, .int .i64 0, .int .i64 (st + (zs.length : Int)), .string mem] 23)) := (Below.refl _ _).alloc (Nat.le_refl _) _
    have hz5 := HB5.out.size
    have HV0 : Hid (GBx (u5.alloc (.cells #[.int .i64 3, .int .i64 0, .int .i64 0, .int .i64 (st + (zs.length : Int)), .string mem] 23)) u3.heap.size (w.heap.size + 1) n ⟨host, st, pl⟩) := HGx.out.block ((hbV.block _ (by have := HL4.out; omega)).trans (HB5.out.block _ (by have := HL4.out; omega)))
    have HR0 : Hid ((u5.alloc (.cells #[.int .i64 3, .int .i64 0, .int .i64 0, .int .i64 (st + (zs.length : Int)), .string mem] 23)).heap[w.heap.size]? = some (.cells #[.int .i64 0, .int .i64 0, .int .i64 0, .int .i64 0, .string ⟨#[]⟩] 23 (0, 0))) := ((hbV.block _ (by have := HL4.out; omega)).trans (HB5.out.block _ (by have := HL4.out; omega))).trans HK.out
    have HB0 : Hid (Below w.heap.size w (u5.alloc (.cells #[.int .i64 3, .int .i64 0, .int .i64 0, .int .i64 (st + (zs.length : Int)), .string mem] 23))) := (HG4.out.trans (HB5.out.mono HG4.out.size)).trans (hbV.mono (Nat.le_trans HG4.out.size HB5.out.size))
    have HN0 : Hid (¬ u5.heap.size = w.heap.size ∧ ¬ u5.heap.size = u3.heap.size ∧ w.heap.size ≤ u5.heap.size) := ⟨by have := HL4.out; omega, by have := HL4.out; omega, by have := HL4.out; omega⟩
    clear hbV hz5 f0 f1 f2 f3 ff k7
    generalize (u5.alloc (.cells #[.int .i64 3, .int .i64 0, .int .i64 0, .int .i64 (st + (zs.length : Int)), .string mem] 23)) = V at HX0 HV0 HR0 HB0 ⊢
    generalize u5.heap.size = BX at HX0 HN0 ⊢
    have HX : Hid (V.heap[BX]? = some (.cells #[.int .i64 3, .int .i64 0, .int .i64 0, .int .i64 (st + (zs.length : Int)), .string mem] 23 (0, 0))) := HX0.out
    obtain ⟨x0, x1, x2, x3, x4, xf⟩ := cel5 HX.out
    obtain ⟨y0, y1, y2, y3, yf⟩ := HV0.out.cells
    obtain ⟨z0, z1, z2, z3, z4, zf⟩ := cel5 HR0.out
    simp only at y1 y2 y3
    have hq1 : ¬ BX = w.heap.size := HN0.out.1
    have hq2 : ¬ w.heap.size = BX := fun e => hq1 e.symm
    have hq3 : ¬ BX = u3.heap.size := HN0.out.2.1
    have hq4 : ¬ u3.heap.size = BX := fun e => hq3 e.symm
    clear HX HX0 HV0 HR0 HB5 HGx HC HD HT HM4 HM4b HK HG4 g0 g1 g2 g3 gf c0 c1 c2 c3 c4 c5 c6 c7 c8 cf
    go_wp2
    refine bodyPost_ret (v := twA ⟨3, pl, 0, st + (zs.length : Int), mem⟩) (by simp [results, Try.results9, go_sem, twA, z0, z1, z2, z3, z4]) rfl ⟨rfl, ?_⟩
    have hl : w.heap.size ≤ w.heap.size := Nat.le_refl _
    exact ((((((HB0.out.setCell HN0.out.2.2 _).setCell hl _).setCell hl _).setCell hl _).setCell hl _).setCell hl _)
  · have HX0 : Hid ((((((u5.setCell ⟨u4.heap.size, 0, none⟩ (.int .i64 3)).setCell ⟨u4.heap.size, 1, none⟩ (.int .i64 0)).setCell ⟨u4.heap.size, 2, none⟩ (.int .i64 0)).setCell ⟨u4.heap.size, 3, none⟩ (.int .i64 (st + (zs.length : Int)))).setCell ⟨u4.heap.size, 4, none⟩ (.string mem)).heap[u4.heap.size]? = some (.cells #[.int .i64 3, .int .i64 0, .int .i64 0, .int .i64 (st + (zs.length : Int)), .string mem] 23 (0, 0))) := by
      have h0 := HX5.out
      show _ = _
      simp [World.setCell, Array.getElem?_modify, h0]
    have HV0 : Hid (GBx (((((u5.setCell ⟨u4.heap.size, 0, none⟩ (.int .i64 3)).setCell ⟨u4.heap.size, 1, none⟩ (.int .i64 0)).setCell ⟨u4.heap.size, 2, none⟩ (.int .i64 0)).setCell ⟨u4.heap.size, 3, none⟩ (.int .i64 (st + (zs.length : Int)))).setCell ⟨u4.heap.size, 4, none⟩ (.string mem)) u3.heap.size (w.heap.size + 1) n ⟨host, st, pl⟩) := HGx.out.block (by
      rw [Below.heap_setCell _ _ _ _ hn1, Below.heap_setCell _ _ _ _ hn1, Below.heap_setCell _ _ _ _ hn1, Below.heap_setCell _ _ _ _ hn1, Below.heap_setCell _ _ _ _ hn1]
      exact HB5.out.block _ (by have := HL4.out; omega))
    have hnw : ¬ w.heap.size = u4.heap.size := by have := HL4.out; omega
    have HR0 : Hid ((((((u5.setCell ⟨u4.heap.size, 0, none⟩ (.int .i64 3)).setCell ⟨u4.heap.size, 1, none⟩ (.int .i64 0)).setCell ⟨u4.heap.size, 2, none⟩ (.int .i64 0)).setCell ⟨u4.heap.size, 3, none⟩ (.int .i64 (st + (zs.length : Int)))).setCell ⟨u4.heap.size, 4, none⟩ (.string mem)).heap[w.heap.size]? = some (.cells #[.int .i64 0, .int .i64 0, .int .i64 0, .int .i64 0, .string ⟨#[]⟩] 23 (0, 0))) := by
      show _ = _
      rw [Below.heap_setCell _ _ _ _ hnw, Below.heap_setCell _ _ _ _ hnw, Below.heap_setCell _ _ _ _ hnw, Below.heap_setCell _ _ _ _ hnw, Below.heap_setCell _ _ _ _ hnw]
      exact (HB5.out.block _ (by have := HL4.out; omega)).trans HK.out
    have HB0 : Hid (Below w.heap.size w (((((u5.setCell ⟨u4.heap.size, 0, none⟩ (.int .i64 3)).setCell ⟨u4.heap.size, 1, none⟩ (.int .i64 0)).setCell ⟨u4.heap.size, 2, none⟩ (.int .i64 0)).setCell ⟨u4.heap.size, 3, none⟩ (.int .i64 (st + (zs.length : Int)))).setCell ⟨u4.heap.size, 4, none⟩ (.string mem))) := by
      have h6 : Below w.heap.size w u5 := HG4.out.trans (HB5.out.mono HG4.out.size)
      have hl : w.heap.size ≤ u4.heap.size := HG4.out.size
      exact ((((h6.setCell hl _).setCell hl _).setCell hl _).setCell hl _).setCell hl _
    have HN0 : Hid (¬ u4.heap.size = w.heap.size ∧ ¬ u4.heap.size = u3.heap.size ∧ w.heap.size ≤ u4.heap.size) := ⟨by have := HL4.out; omega, by have := HL4.out; omega, by have := HL4.out; omega⟩
    clear f0 f1 f2 f3 ff k7 t0 t1 t2 t3 t4 tf hn1 hn4 hn5 hn6 hnw HX5
    generalize (((((u5.setCell ⟨u4.heap.size, 0, none⟩ (.int .i64 3)).setCell ⟨u4.heap.size, 1, none⟩ (.int .i64 0)).setCell ⟨u4.heap.size, 2, none⟩ (.int .i64 0)).setCell ⟨u4.heap.size, 3, none⟩ (.int .i64 (st + (zs.length : Int)))).setCell ⟨u4.heap.size, 4, none⟩ (.string mem)) = V at HX0 HV0 HR0 HB0 ⊢
    generalize u4.heap.size = BX at HX0 HN0 ⊢
    have HX : Hid (V.heap[BX]? = some (.cells #[.int .i64 3, .int .i64 0, .int .i64 0, .int .i64 (st + (zs.length : Int)), .string mem] 23 (0, 0))) := HX0.out
    obtain ⟨x0, x1, x2, x3, x4, xf⟩ := cel5 HX.out
    obtain ⟨y0, y1, y2, y3, yf⟩ := HV0.out.cells
    obtain ⟨z0, z1, z2, z3, z4, zf⟩ := cel5 HR0.out
    simp only at y1 y2 y3
    have hq1 : ¬ BX = w.heap.size := HN0.out.1
    have hq2 : ¬ w.heap.size = BX := fun e => hq1 e.symm
    have hq3 : ¬ BX = u3.heap.size := HN0.out.2.1
    have hq4 : ¬ u3.heap.size = BX := fun e => hq3 e.symm
    clear HX HX0 HV0 HR0 HB5 HGx HC HD HT HM4 HM4b HK HG4 g0 g1 g2 g3 gf c0 c1 c2 c3 c4 c5 c6 c7 c8 cf
    go_wp2
    refine bodyPost_ret (v := twA ⟨3, pl, 0, st + (zs.length : Int), mem⟩) (by simp [results, Try.results9, go_sem, twA, z0, z1, z2, z3, z4]) rfl ⟨rfl, ?_⟩
    have hl : w.heap.size ≤ w.heap.size := Nat.le_refl _
    exact ((((((HB0.out.setCell HN0.out.2.2 _).setCell hl _).setCell hl _).setCell hl _).setCell hl _).setCell hl _)

set_option maxRecDepth 100000 in
set_option maxHeartbeats 4000000 in
theorem implTwo_ok (s : ByteArray) (host root va : Nat) (acc : Int) (user : Bool) (w : World) (hm : memOk s = true) (r0 : host ≤ 255) (r1 : root ≤ 255) (v1 : va ≤ 262143) (a1 : 1 ≤ acc) (a2 : acc ≤ 3) (hf : (finG (feG s host root va 0) host va acc user).code = 0) (p : Nat) (hpp : (finG (feG s host root va 0) host va acc user).pa = (p : Int)) (hp1 : p ≤ 262143) (hfr : (walkV (finG (feG s host root va 0) host va acc user).mem host p (lacc acc) false).fault = 0) :
    Calls Try.prog 9 #[.string s, .int .i64 host, .int .i64 root, .int .i64 va, .int .i64 acc, .bool user] w fun e w' => e = .returned (twA ⟨0, (p : Int), (walkV (finG (feG s host root va 0) host va acc user).mem host p (lacc acc) false).pa, (finG (feG s host root va 0) host va acc user).steps + ((walkV (finG (feG s host root va 0) host va acc user).mem host p (lacc acc) false).reads.length : Int) + ((finG (feG s host root va 0) host va acc user).zs.length : Int), (walkV (finG (feG s host root va 0) host va acc user).mem host p (lacc acc) false).mem⟩) ∧ Below w.heap.size w w' := by
  have hc : Hid _ := memC_ok hm
  obtain ⟨hs0, hs1, hs2⟩ := memOk_b hm
  obtain ⟨n, hn⟩ : ∃ n, s.size = n * 256 := ⟨s.size / 256, by omega⟩
  have hRt := fun w => isRoot_any (root : Int) w
  have hRh := fun w => isRoot_any (host : Int) w
  have hVt := fun w => isVirtual_any (va : Int) w
  rw [show (decide (0 ≤ (root : Int)) && decide ((root : Int) ≤ 255)) = true by simp; omega] at hRt
  rw [show (decide (0 ≤ (host : Int)) && decide ((host : Int) ≤ 255)) = true by simp; omega] at hRh
  rw [show (decide (0 ≤ (va : Int)) && decide ((va : Int) < 262144)) = true by simp; omega] at hVt
  have HRM : Hid _ := fun w => readMemory_any s n w hn (by omega)
  have V : Hid (va ≤ 262143) := v1
  have HF : Hid (∀ {w0 wr : World} {b G B : Nat} {rv : Value} (h : GW w0 b G B n s ⟨host, 0, 0⟩ wr rv [] ⟨va, acc, user, 0, 0, false, 0⟩), _) := fun {w0 wr b G B rv} h => findG h hn (by omega) root (by omega) v1 r0 (Int.le_refl 0) (show (0 : Int) ≤ 100 by decide) a1 a2
  simp only at HF
  have hO := finG_ok s 0 (feG s host root va 0) host va acc user (feG_ok s host root va 0 r1 v1)
  obtain ⟨d, hd⟩ : ∃ d, finG (feG s host root va 0) host va acc user = d := ⟨_, rfl⟩
  rw [hd] at HF hO hf hpp hfr ⊢
  obtain ⟨cd, pa, zs, mem, st, pl⟩ := d
  have hzl := hO.zl
  have hsz := hO.size
  have hst0 := hO.s0
  have hst1 := hO.s1
  have HPa : Hid _ := hO.pa
  simp only at *
  have HN : Hid (s.size = n * 256) := hn
  have hn1 : n ≤ 256 := by omega
  clear hd v1 hm hn hs0 hs1 hs2 hO
  have hrz := walkV_size mem host p (lacc acc) false hp1
  have hrl := walkV_len mem host p (lacc acc) false
  obtain ⟨r, hr⟩ : ∃ r, walkV mem host p (lacc acc) false = r := ⟨_, rfl⟩
  rw [hr] at hfr hrz hrl ⊢
  have HRr : Hid (walkV mem host p (lacc acc) false = r) := hr
  clear hr
  go_enter Try.func9, Try.ntmps9
  go_wp2_with (first | (go_at_call 43; refine (implMemFault_any _ _ (by have := HN.out; omega)).mono ?_; rintro e u1 ⟨rfl, hu1⟩; rw [hu1, hc.out]; clear hu1) | (go_at_call 44; refine Calls.mono (hRh _) ?_; rintro e u2 ⟨rfl, hu2⟩; rw [hu2]; clear hu2 hRh) | (go_at_call 44; refine Calls.mono (hRt _) ?_; rintro e u2 ⟨rfl, hu2⟩; rw [hu2]; clear hu2) | (go_at_call 45; refine Calls.mono (hVt _) ?_; rintro e u2 ⟨rfl, hu2⟩; rw [hu2]; clear hu2) | (go_at_call 46; refine (isAccess_yes _ _ a1 a2).mono ?_; rintro e u2 ⟨rfl, hu2⟩; rw [hu2]; clear hu2) | (go_at_call 47; refine Calls.mono (HRM.out _) ?_; rintro e u3 ⟨rfl, hM3, hB3, hS3⟩; unfold mv; have HM3 : Hid _ := hM3; have HB3 : Hid _ := hB3; have HS3 : Hid _ := hS3; clear hM3 hB3 hS3) | fail)
  have HI : Hid (GW (u3.alloc (.cells #[mv (w.heap.size + 1) n, .int .i64 host, .int .i64 0, .int .i64 0] 88)) (w.heap.size + 1) u3.heap.size (u3.heap.size + 1) n s ⟨host, 0, 0⟩ ((u3.alloc (.cells #[mv (w.heap.size + 1) n, .int .i64 host, .int .i64 0, .int .i64 0] 88)).alloc (.cells #[.iface 83 (.pointer (some ⟨u3.heap.size, 0, none⟩)), .int .i64 va, .int .i64 acc, .bool user, .int .i64 0, .int .i64 0, .bool false, .slice none 0 0, .int .i64 0, .bool false] 92)) (.slice none 0 0) [] ⟨va, acc, user, 0, 0, false, 0⟩) := by
    have h1 : MemAt u3 (w.heap.size + 1) s := by
      have h0 := HM3.out
      simp only [World.size_alloc] at h0
      exact h0
    have h2 := h1.lt
    have hb1 : Below u3.heap.size u3 (u3.alloc (.cells #[mv (w.heap.size + 1) n, .int .i64 host, .int .i64 0, .int .i64 0] 88)) := (Below.refl _ _).alloc (Nat.le_refl _) _
    have hb2 : Below (u3.alloc (.cells #[mv (w.heap.size + 1) n, .int .i64 host, .int .i64 0, .int .i64 0] 88)).heap.size (u3.alloc (.cells #[mv (w.heap.size + 1) n, .int .i64 host, .int .i64 0, .int .i64 0] 88)) ((u3.alloc (.cells #[mv (w.heap.size + 1) n, .int .i64 host, .int .i64 0, .int .i64 0] 88)).alloc (.cells #[.iface 83 (.pointer (some ⟨u3.heap.size, 0, none⟩)), .int .i64 va, .int .i64 acc, .bool user, .int .i64 0, .int .i64 0, .bool false, .slice none 0 0, .int .i64 0, .bool false] 92)) := (Below.refl _ _).alloc (Nat.le_refl _) _
    have hz : (u3.alloc (.cells #[mv (w.heap.size + 1) n, .int .i64 host, .int .i64 0, .int .i64 0] 88)).heap.size = u3.heap.size + 1 := by simp
    have hx := heap_new (u3.alloc (.cells #[mv (w.heap.size + 1) n, .int .i64 host, .int .i64 0, .int .i64 0] 88)) (.cells #[.iface 83 (.pointer (some ⟨u3.heap.size, 0, none⟩)), .int .i64 va, .int .i64 acc, .bool user, .int .i64 0, .int .i64 0, .bool false, .slice none 0 0, .int .i64 0, .bool false] 92)
    rw [hz] at hx
    refine ⟨g2_below ⟨rfl, rfl, rfl, Nat.le_refl _, fun _ _ _ _ => rfl⟩ hb2, (h1.below hb1 h1.lt).below hb2 (by rw [hz]; omega), ?_, ⟨false, hx⟩, World.ownsRow_nil _ _ _ _, by rw [hz]; exact Nat.le_refl _, h2, by omega⟩
    exact (hb2.block _ (by rw [hz]; omega)).trans (heap_new _ _)
  have HRb : Hid (u3.heap[w.heap.size]? = some (.cells #[.int .i64 0, .int .i64 0, .int .i64 0, .int .i64 0, .string ⟨#[]⟩] 23 (0, 0))) := (HB3.out.block _ (by simp)).trans (heap_new _ _)
  have HLt : Hid (w.heap.size + 1 < u3.heap.size) := by
    have h2 := HS3.out
    simp only [World.size_alloc] at h2
    show w.heap.size + 1 < u3.heap.size
    omega
  have HBw : Hid (Below w.heap.size w (u3.alloc (.cells #[mv (w.heap.size + 1) n, .int .i64 host, .int .i64 0, .int .i64 0] 88))) := by
    have h0 : Below w.heap.size w _ := (Below.refl _ _).alloc (Nat.le_refl _) (.cells #[.int .i64 0, .int .i64 0, .int .i64 0, .int .i64 0, .string ⟨#[]⟩] 23)
    have h1 := h0.trans (HB3.out.mono (by simp))
    exact h1.alloc h1.size _
  have HRw : Hid ((u3.alloc (.cells #[mv (w.heap.size + 1) n, .int .i64 host, .int .i64 0, .int .i64 0] 88)).heap[w.heap.size]? = some (.cells #[.int .i64 0, .int .i64 0, .int .i64 0, .int .i64 0, .string ⟨#[]⟩] 23 (0, 0))) := (Below.heap_alloc _ _ _ (by have := HLt.out; omega)).trans HRb.out
  have HZw : Hid ((u3.alloc (.cells #[mv (w.heap.size + 1) n, .int .i64 host, .int .i64 0, .int .i64 0] 88)).heap.size = u3.heap.size + 1) := by simp [Hid]
  clear HB3 HS3 HM3 HRb
  refine Calls.mono (HF.out HI.out) ?_
  rintro e u4 ⟨rfl, rv', x', hG, hx4⟩
  generalize u3.alloc (.cells #[mv (w.heap.size + 1) n, .int .i64 host, .int .i64 0, .int .i64 0] 88) = wA at hG HBw HRw HZw
  clear HI HF
  subst hf
  have hx8 : x'.pa = (p : Int) := (hx4 rfl).trans hpp
  have hl1 : 1 ≤ lacc acc := by unfold lacc; split <;> omega
  have hl3 : lacc acc ≤ 3 := by unfold lacc; split <;> omega
  have HLk : Hid (∀ v, Below u4.heap.size u4 v → _) := fun v hv => lookup_ok (hG.below hv).mem (hG.below hv).gbx hG.bG p (lacc acc) (by have := HN.out; omega) (by have := HN.out; omega) r0 hp1 hl1 hl3 hst0 (by simp only; omega)
  have HV4 : Hid (∀ v, Below u4.heap.size u4 v → GW wA (w.heap.size + 1) u3.heap.size (u3.heap.size + 1) n mem ⟨host, st, pl⟩ v rv' zs x') := fun v hv => hG.below hv
  obtain ⟨c0, c1, c2, c3, c4, c5, c6, c7, c8, cf⟩ := hG.box.cells
  rw [hx8] at c8
  have HAc : Hid _ := fun w' => hostAccess_any acc w'
  simp only at HLk
  rw [HRr.out] at HLk
  clear hG HPa hpp HRr
  go_wp2
  go_region_held (fun w' => w'.cell? ⟨u3.heap.size + 1, 8, none⟩ = some (.int .i64 (p : Int))) (go_keep) ((first | (go_at_call 50; refine Calls.mono (HAc.out _) ?_; rintro e u6 ⟨rfl, hu6⟩; rw [hu6]; clear hu6 u6) | (go_at_call 49; refine Calls.mono (HLk.out _ (by exact ⟨rfl, rfl, rfl, Nat.le_refl _, fun _ _ => rfl⟩)) ?_; rintro e u6 ⟨hg6, hm6, hb6, hy6, _⟩; obtain rfl := hy6 hfr; have HG6 : Hid (GW wA (w.heap.size + 1) u3.heap.size (u3.heap.size + 1) n r.mem ⟨host, st + (r.reads.length : Int), (p : Int)⟩ u6 rv' zs x') := (HV4.out _ (by exact ⟨rfl, rfl, rfl, Nat.le_refl _, fun _ _ => rfl⟩)).look hg6 hm6 hb6; have k8 := HG6.out.box.cells.2.2.2.2.2.2.2.2.1; rw [hx8] at k8; clear hg6 hm6 hb6 hy6)))
  all_goals
    have hG := HG6.out
    clear HG6 HLk HV4 c0 c1 c2 c3 c4 c5 c6 c7 c8 cf
    obtain ⟨ao, cap, hv⟩ := hG.sl
    subst hv
    have HK : Hid (u6.heap[w.heap.size]? = some (.cells #[.int .i64 0, .int .i64 0, .int .i64 0, .int .i64 0, .string ⟨#[]⟩] 23 (0, 0))) := (hG.grw.block _ (by have := HZw.out; have := HLt.out; omega) (by omega) (by have := HLt.out; omega)).trans HRw.out
    have HM4 : Hid (MemAt u6 (w.heap.size + 1) r.mem) := hG.mem
    have HM4b : Hid (MemAt (u6.alloc (.cells #[.int .i64 0, .int .i64 0, .int .i64 0, .int .i64 0, .string ⟨#[]⟩] 23)) (w.heap.size + 1) r.mem) := HM4.out.below ((Below.refl _ _).alloc (Nat.le_refl _) _) HM4.out.lt
    have HG4 : Hid (Below w.heap.size w u6) := by
      have hg := hG.grw
      have hb := HBw.out
      exact ⟨hg.os.trans hb.os, hg.tape.trans hb.tape, hg.output.trans hb.output, Nat.le_trans hb.size hg.size, fun k hk => (hg.block k (Nat.lt_of_lt_of_le hk hb.size) (by omega) (by have := HLt.out; omega)).trans (hb.block k hk)⟩
    have HL4 : Hid (w.heap.size + 1 < u3.heap.size ∧ u3.heap.size + 1 < u6.heap.size) := ⟨HLt.out, hG.box.lt⟩
    have HGx : Hid (GBx u6 u3.heap.size (w.heap.size + 1) n ⟨host, st + (r.reads.length : Int), (p : Int)⟩) := hG.gbx
    have HC : Hid (∀ v, Below u6.heap.size u6 v → _) := fun v hv => (hG.below hv).gbx.cells
    have HD : Hid (∀ v, Below u6.heap.size u6 v → v.cell? ⟨u3.heap.size + 1, 7, none⟩ = some (.slice ao zs.length cap)) := fun v hv => (hG.below hv).box.cells.2.2.2.2.2.2.2.1
    obtain ⟨g0, g1, g2, g3, gf⟩ := hG.gbx.cells
    obtain ⟨c0, c1, c2, c3, c4, c5, c6, c7, c8, cf⟩ := hG.box.cells
    have HT : Hid _ := fun (w' : World) (hM : MemAt w' (w.heap.size + 1) r.mem) => memText_any (w.heap.size + 1) r.mem n w' hM (by have := HN.out; omega) (by have := HN.out; omega)
    have hw9 : IntKind.i64.wrap (st + (r.reads.length : Int) + (zs.length : Int)) = st + (r.reads.length : Int) + (zs.length : Int) := by rw [IntKind.wrap_i64]; omega
    simp only at g1 g2 g3 c1 c2 c3 c4 c5 c6 c8
    clear hG
    go_wp2
    go_region_held (fun w' => w'.cell? ⟨u3.heap.size, 2, none⟩ = some (.int .i64 (st + (r.reads.length : Int))) ∧ w'.cell? ⟨u3.heap.size + 1, 7, none⟩ = some (.slice ao zs.length cap) ∧ w'.cell? ⟨u3.heap.size, 0, none⟩ = some (.slice (some ⟨w.heap.size + 1, 0, none⟩) n n)) (go_keep) ((first | (go_at_call 51; refine Calls.mono (HT.out u6.drew (by exact HM4.out)) ?_; rintro e u5 ⟨rfl, hu5⟩; have hb5 : Below u6.heap.size u6 u5 := ⟨hu5.os, hu5.tape, hu5.output, hu5.size, hu5.block⟩; have HB5 : Hid (Below u6.heap.size u6 u5) := hb5; obtain ⟨f0, f1, f2, f3, ff⟩ := HC.out u5 hb5; have k7 := HD.out u5 hb5; (try simp only at f0 f1 f2 f3); clear hu5 hb5) | (go_at_call 51; refine Calls.mono (HT.out (u6.alloc (.cells #[.int .i64 0, .int .i64 0, .int .i64 0, .int .i64 0, .string ⟨#[]⟩] 23)).drew (by exact HM4b.out)) ?_; rintro e u5 ⟨rfl, hu5⟩; have hb2 : Below (u6.alloc (.cells #[.int .i64 0, .int .i64 0, .int .i64 0, .int .i64 0, .string ⟨#[]⟩] 23)).heap.size (u6.alloc (.cells #[.int .i64 0, .int .i64 0, .int .i64 0, .int .i64 0, .string ⟨#[]⟩] 23)) u5 := ⟨hu5.os, hu5.tape, hu5.output, hu5.size, hu5.block⟩; have hb5 : Below u6.heap.size u6 u5 := ((Below.refl _ _).alloc (Nat.le_refl _) _).trans (hb2.mono (by simp)); have HB5 : Hid (Below u6.heap.size u6 u5) := hb5; obtain ⟨f0, f1, f2, f3, ff⟩ := HC.out u5 hb5; have k7 := HD.out u5 hb5; (try simp only at f0 f1 f2 f3); have hx5 := (hb2.block u6.heap.size (by simp)).trans (heap_new _ _); have HX5 : Hid _ := hx5; obtain ⟨t0, t1, t2, t3, t4, tf⟩ := cel5 hx5; have hn1 : ¬ u3.heap.size = u6.heap.size := (by have := HL4.out; omega); have hn4 : ¬ u6.heap.size = u3.heap.size := (fun e => hn1 e.symm); have hn5 : ¬ u3.heap.size + 1 = u6.heap.size := (by have := HL4.out; omega); have hn6 : ¬ u6.heap.size = u3.heap.size + 1 := (fun e => hn5 e.symm); clear hu5 hb5 hb2 hx5)))
    · have HX0 : Hid ((u5.alloc (.cells #[.int .i64 0, .int .i64 0, .int .i64 r.pa, .int .i64 (st + (r.reads.length : Int) + (zs.length : Int)), .string r.mem] 23)).heap[u5.heap.size]? = some (.cells #[.int .i64 0, .int .i64 0, .int .i64 r.pa, .int .i64 (st + (r.reads.length : Int) + (zs.length : Int)), .string r.mem] 23 (0, 0))) := heap_new _ _
      have hbV : Below u5.heap.size u5 (u5.alloc (.cells #[.int .i64 0, .int .i64 0, .int .i64 r.pa, .int .i64 (st + (r.reads.length : Int) + (zs.length : Int)), .string r.mem] 23)) := (Below.refl _ _).alloc (Nat.le_refl _) _
      have hz5 := HB5.out.size
      have HV0 : Hid (GBx (u5.alloc (.cells #[.int .i64 0, .int .i64 0, .int .i64 r.pa, .int .i64 (st + (r.reads.length : Int) + (zs.length : Int)), .string r.mem] 23)) u3.heap.size (w.heap.size + 1) n ⟨host, st + (r.reads.length : Int), (p : Int)⟩) := HGx.out.block ((hbV.block _ (by have := HL4.out; omega)).trans (HB5.out.block _ (by have := HL4.out; omega)))
      have HR0 : Hid ((u5.alloc (.cells #[.int .i64 0, .int .i64 0, .int .i64 r.pa, .int .i64 (st + (r.reads.length : Int) + (zs.length : Int)), .string r.mem] 23)).heap[w.heap.size]? = some (.cells #[.int .i64 0, .int .i64 0, .int .i64 0, .int .i64 0, .string ⟨#[]⟩] 23 (0, 0))) := ((hbV.block _ (by have := HL4.out; omega)).trans (HB5.out.block _ (by have := HL4.out; omega))).trans HK.out
      have HB0 : Hid (Below w.heap.size w (u5.alloc (.cells #[.int .i64 0, .int .i64 0, .int .i64 r.pa, .int .i64 (st + (r.reads.length : Int) + (zs.length : Int)), .string r.mem] 23))) := (HG4.out.trans (HB5.out.mono HG4.out.size)).trans (hbV.mono (Nat.le_trans HG4.out.size HB5.out.size))
      have HN0 : Hid (¬ u5.heap.size = w.heap.size ∧ ¬ u5.heap.size = u3.heap.size ∧ w.heap.size ≤ u5.heap.size) := ⟨by have := HL4.out; omega, by have := HL4.out; omega, by have := HL4.out; omega⟩
      clear hbV hz5 f0 f1 f2 f3 ff k7
      generalize (u5.alloc (.cells #[.int .i64 0, .int .i64 0, .int .i64 r.pa, .int .i64 (st + (r.reads.length : Int) + (zs.length : Int)), .string r.mem] 23)) = V at HX0 HV0 HR0 HB0 ⊢
      generalize u5.heap.size = BX at HX0 HN0 ⊢
      have HX : Hid (V.heap[BX]? = some (.cells #[.int .i64 0, .int .i64 0, .int .i64 r.pa, .int .i64 (st + (r.reads.length : Int) + (zs.length : Int)), .string r.mem] 23 (0, 0))) := HX0.out
      obtain ⟨x0, x1, x2, x3, x4, xf⟩ := cel5 HX.out
      obtain ⟨y0, y1, y2, y3, yf⟩ := HV0.out.cells
      obtain ⟨z0, z1, z2, z3, z4, zf⟩ := cel5 HR0.out
      simp only at y1 y2 y3
      have hq1 : ¬ BX = w.heap.size := HN0.out.1
      have hq2 : ¬ w.heap.size = BX := fun e => hq1 e.symm
      have hq3 : ¬ BX = u3.heap.size := HN0.out.2.1
      have hq4 : ¬ u3.heap.size = BX := fun e => hq3 e.symm
      clear HX HX0 HV0 HR0 HB5 HGx HC HD HT HM4 HM4b HK HG4 g0 g1 g2 g3 gf c0 c1 c2 c3 c4 c5 c6 c7 c8 cf
      go_wp2
      refine bodyPost_ret (v := twA ⟨0, (p : Int), r.pa, st + (r.reads.length : Int) + (zs.length : Int), r.mem⟩) (by simp [results, Try.results9, go_sem, twA, z0, z1, z2, z3, z4]) rfl ⟨rfl, ?_⟩
      have hl : w.heap.size ≤ w.heap.size := Nat.le_refl _
      exact ((((((HB0.out.setCell HN0.out.2.2 _).setCell hl _).setCell hl _).setCell hl _).setCell hl _).setCell hl _)
    · have HX0 : Hid ((((((u5.setCell ⟨u6.heap.size, 0, none⟩ (.int .i64 0)).setCell ⟨u6.heap.size, 1, none⟩ (.int .i64 0)).setCell ⟨u6.heap.size, 2, none⟩ (.int .i64 r.pa)).setCell ⟨u6.heap.size, 3, none⟩ (.int .i64 (st + (r.reads.length : Int) + (zs.length : Int)))).setCell ⟨u6.heap.size, 4, none⟩ (.string r.mem)).heap[u6.heap.size]? = some (.cells #[.int .i64 0, .int .i64 0, .int .i64 r.pa, .int .i64 (st + (r.reads.length : Int) + (zs.length : Int)), .string r.mem] 23 (0, 0))) := by
        have h0 := HX5.out
        show _ = _
        simp [World.setCell, Array.getElem?_modify, h0]
      have HV0 : Hid (GBx (((((u5.setCell ⟨u6.heap.size, 0, none⟩ (.int .i64 0)).setCell ⟨u6.heap.size, 1, none⟩ (.int .i64 0)).setCell ⟨u6.heap.size, 2, none⟩ (.int .i64 r.pa)).setCell ⟨u6.heap.size, 3, none⟩ (.int .i64 (st + (r.reads.length : Int) + (zs.length : Int)))).setCell ⟨u6.heap.size, 4, none⟩ (.string r.mem)) u3.heap.size (w.heap.size + 1) n ⟨host, st + (r.reads.length : Int), (p : Int)⟩) := HGx.out.block (by
        rw [Below.heap_setCell _ _ _ _ hn1, Below.heap_setCell _ _ _ _ hn1, Below.heap_setCell _ _ _ _ hn1, Below.heap_setCell _ _ _ _ hn1, Below.heap_setCell _ _ _ _ hn1]
        exact HB5.out.block _ (by have := HL4.out; omega))
      have hnw : ¬ w.heap.size = u6.heap.size := by have := HL4.out; omega
      have HR0 : Hid ((((((u5.setCell ⟨u6.heap.size, 0, none⟩ (.int .i64 0)).setCell ⟨u6.heap.size, 1, none⟩ (.int .i64 0)).setCell ⟨u6.heap.size, 2, none⟩ (.int .i64 r.pa)).setCell ⟨u6.heap.size, 3, none⟩ (.int .i64 (st + (r.reads.length : Int) + (zs.length : Int)))).setCell ⟨u6.heap.size, 4, none⟩ (.string r.mem)).heap[w.heap.size]? = some (.cells #[.int .i64 0, .int .i64 0, .int .i64 0, .int .i64 0, .string ⟨#[]⟩] 23 (0, 0))) := by
        show _ = _
        rw [Below.heap_setCell _ _ _ _ hnw, Below.heap_setCell _ _ _ _ hnw, Below.heap_setCell _ _ _ _ hnw, Below.heap_setCell _ _ _ _ hnw, Below.heap_setCell _ _ _ _ hnw]
        exact (HB5.out.block _ (by have := HL4.out; omega)).trans HK.out
      have HB0 : Hid (Below w.heap.size w (((((u5.setCell ⟨u6.heap.size, 0, none⟩ (.int .i64 0)).setCell ⟨u6.heap.size, 1, none⟩ (.int .i64 0)).setCell ⟨u6.heap.size, 2, none⟩ (.int .i64 r.pa)).setCell ⟨u6.heap.size, 3, none⟩ (.int .i64 (st + (r.reads.length : Int) + (zs.length : Int)))).setCell ⟨u6.heap.size, 4, none⟩ (.string r.mem))) := by
        have h6 : Below w.heap.size w u5 := HG4.out.trans (HB5.out.mono HG4.out.size)
        have hl : w.heap.size ≤ u6.heap.size := HG4.out.size
        exact ((((h6.setCell hl _).setCell hl _).setCell hl _).setCell hl _).setCell hl _
      have HN0 : Hid (¬ u6.heap.size = w.heap.size ∧ ¬ u6.heap.size = u3.heap.size ∧ w.heap.size ≤ u6.heap.size) := ⟨by have := HL4.out; omega, by have := HL4.out; omega, by have := HL4.out; omega⟩
      clear f0 f1 f2 f3 ff k7 t0 t1 t2 t3 t4 tf hn1 hn4 hn5 hn6 hnw HX5
      generalize (((((u5.setCell ⟨u6.heap.size, 0, none⟩ (.int .i64 0)).setCell ⟨u6.heap.size, 1, none⟩ (.int .i64 0)).setCell ⟨u6.heap.size, 2, none⟩ (.int .i64 r.pa)).setCell ⟨u6.heap.size, 3, none⟩ (.int .i64 (st + (r.reads.length : Int) + (zs.length : Int)))).setCell ⟨u6.heap.size, 4, none⟩ (.string r.mem)) = V at HX0 HV0 HR0 HB0 ⊢
      generalize u6.heap.size = BX at HX0 HN0 ⊢
      have HX : Hid (V.heap[BX]? = some (.cells #[.int .i64 0, .int .i64 0, .int .i64 r.pa, .int .i64 (st + (r.reads.length : Int) + (zs.length : Int)), .string r.mem] 23 (0, 0))) := HX0.out
      obtain ⟨x0, x1, x2, x3, x4, xf⟩ := cel5 HX.out
      obtain ⟨y0, y1, y2, y3, yf⟩ := HV0.out.cells
      obtain ⟨z0, z1, z2, z3, z4, zf⟩ := cel5 HR0.out
      simp only at y1 y2 y3
      have hq1 : ¬ BX = w.heap.size := HN0.out.1
      have hq2 : ¬ w.heap.size = BX := fun e => hq1 e.symm
      have hq3 : ¬ BX = u3.heap.size := HN0.out.2.1
      have hq4 : ¬ u3.heap.size = BX := fun e => hq3 e.symm
      clear HX HX0 HV0 HR0 HB5 HGx HC HD HT HM4 HM4b HK HG4 g0 g1 g2 g3 gf c0 c1 c2 c3 c4 c5 c6 c7 c8 cf
      go_wp2
      refine bodyPost_ret (v := twA ⟨0, (p : Int), r.pa, st + (r.reads.length : Int) + (zs.length : Int), r.mem⟩) (by simp [results, Try.results9, go_sem, twA, z0, z1, z2, z3, z4]) rfl ⟨rfl, ?_⟩
      have hl : w.heap.size ≤ w.heap.size := Nat.le_refl _
      exact ((((((HB0.out.setCell HN0.out.2.2 _).setCell hl _).setCell hl _).setCell hl _).setCell hl _).setCell hl _)

set_option maxRecDepth 100000 in
set_option maxHeartbeats 4000000 in
theorem implTwo_host (s : ByteArray) (host root va : Nat) (acc : Int) (user : Bool) (w : World) (hm : memOk s = true) (r0 : host ≤ 255) (r1 : root ≤ 255) (v1 : va ≤ 262143) (a1 : 1 ≤ acc) (a2 : acc ≤ 3) (hf : (finG (feG s host root va 0) host va acc user).code = 0) (p : Nat) (hpp : (finG (feG s host root va 0) host va acc user).pa = (p : Int)) (hp1 : p ≤ 262143) (hfr : ¬ (walkV (finG (feG s host root va 0) host va acc user).mem host p (lacc acc) false).fault = 0) :
    Calls Try.prog 9 #[.string s, .int .i64 host, .int .i64 root, .int .i64 va, .int .i64 acc, .bool user] w fun e w' => e = .returned (twA ⟨3, (p : Int), 0, (finG (feG s host root va 0) host va acc user).steps + ((walkV (finG (feG s host root va 0) host va acc user).mem host p (lacc acc) false).reads.length : Int) + ((finG (feG s host root va 0) host va acc user).zs.length : Int), (walkV (finG (feG s host root va 0) host va acc user).mem host p (lacc acc) false).mem⟩) ∧ Below w.heap.size w w' := by
  have hc : Hid _ := memC_ok hm
  obtain ⟨hs0, hs1, hs2⟩ := memOk_b hm
  obtain ⟨n, hn⟩ : ∃ n, s.size = n * 256 := ⟨s.size / 256, by omega⟩
  have hRt := fun w => isRoot_any (root : Int) w
  have hRh := fun w => isRoot_any (host : Int) w
  have hVt := fun w => isVirtual_any (va : Int) w
  rw [show (decide (0 ≤ (root : Int)) && decide ((root : Int) ≤ 255)) = true by simp; omega] at hRt
  rw [show (decide (0 ≤ (host : Int)) && decide ((host : Int) ≤ 255)) = true by simp; omega] at hRh
  rw [show (decide (0 ≤ (va : Int)) && decide ((va : Int) < 262144)) = true by simp; omega] at hVt
  have HRM : Hid _ := fun w => readMemory_any s n w hn (by omega)
  have V : Hid (va ≤ 262143) := v1
  have HF : Hid (∀ {w0 wr : World} {b G B : Nat} {rv : Value} (h : GW w0 b G B n s ⟨host, 0, 0⟩ wr rv [] ⟨va, acc, user, 0, 0, false, 0⟩), _) := fun {w0 wr b G B rv} h => findG h hn (by omega) root (by omega) v1 r0 (Int.le_refl 0) (show (0 : Int) ≤ 100 by decide) a1 a2
  simp only at HF
  have hO := finG_ok s 0 (feG s host root va 0) host va acc user (feG_ok s host root va 0 r1 v1)
  obtain ⟨d, hd⟩ : ∃ d, finG (feG s host root va 0) host va acc user = d := ⟨_, rfl⟩
  rw [hd] at HF hO hf hpp hfr ⊢
  obtain ⟨cd, pa, zs, mem, st, pl⟩ := d
  have hzl := hO.zl
  have hsz := hO.size
  have hst0 := hO.s0
  have hst1 := hO.s1
  have HPa : Hid _ := hO.pa
  simp only at *
  have HN : Hid (s.size = n * 256) := hn
  have hn1 : n ≤ 256 := by omega
  clear hd v1 hm hn hs0 hs1 hs2 hO
  have hrz := walkV_size mem host p (lacc acc) false hp1
  have hrl := walkV_len mem host p (lacc acc) false
  obtain ⟨r, hr⟩ : ∃ r, walkV mem host p (lacc acc) false = r := ⟨_, rfl⟩
  rw [hr] at hfr hrz hrl ⊢
  have HRr : Hid (walkV mem host p (lacc acc) false = r) := hr
  clear hr
  go_enter Try.func9, Try.ntmps9
  go_wp2_with (first | (go_at_call 43; refine (implMemFault_any _ _ (by have := HN.out; omega)).mono ?_; rintro e u1 ⟨rfl, hu1⟩; rw [hu1, hc.out]; clear hu1) | (go_at_call 44; refine Calls.mono (hRh _) ?_; rintro e u2 ⟨rfl, hu2⟩; rw [hu2]; clear hu2 hRh) | (go_at_call 44; refine Calls.mono (hRt _) ?_; rintro e u2 ⟨rfl, hu2⟩; rw [hu2]; clear hu2) | (go_at_call 45; refine Calls.mono (hVt _) ?_; rintro e u2 ⟨rfl, hu2⟩; rw [hu2]; clear hu2) | (go_at_call 46; refine (isAccess_yes _ _ a1 a2).mono ?_; rintro e u2 ⟨rfl, hu2⟩; rw [hu2]; clear hu2) | (go_at_call 47; refine Calls.mono (HRM.out _) ?_; rintro e u3 ⟨rfl, hM3, hB3, hS3⟩; unfold mv; have HM3 : Hid _ := hM3; have HB3 : Hid _ := hB3; have HS3 : Hid _ := hS3; clear hM3 hB3 hS3) | fail)
  have HI : Hid (GW (u3.alloc (.cells #[mv (w.heap.size + 1) n, .int .i64 host, .int .i64 0, .int .i64 0] 88)) (w.heap.size + 1) u3.heap.size (u3.heap.size + 1) n s ⟨host, 0, 0⟩ ((u3.alloc (.cells #[mv (w.heap.size + 1) n, .int .i64 host, .int .i64 0, .int .i64 0] 88)).alloc (.cells #[.iface 83 (.pointer (some ⟨u3.heap.size, 0, none⟩)), .int .i64 va, .int .i64 acc, .bool user, .int .i64 0, .int .i64 0, .bool false, .slice none 0 0, .int .i64 0, .bool false] 92)) (.slice none 0 0) [] ⟨va, acc, user, 0, 0, false, 0⟩) := by
    have h1 : MemAt u3 (w.heap.size + 1) s := by
      have h0 := HM3.out
      simp only [World.size_alloc] at h0
      exact h0
    have h2 := h1.lt
    have hb1 : Below u3.heap.size u3 (u3.alloc (.cells #[mv (w.heap.size + 1) n, .int .i64 host, .int .i64 0, .int .i64 0] 88)) := (Below.refl _ _).alloc (Nat.le_refl _) _
    have hb2 : Below (u3.alloc (.cells #[mv (w.heap.size + 1) n, .int .i64 host, .int .i64 0, .int .i64 0] 88)).heap.size (u3.alloc (.cells #[mv (w.heap.size + 1) n, .int .i64 host, .int .i64 0, .int .i64 0] 88)) ((u3.alloc (.cells #[mv (w.heap.size + 1) n, .int .i64 host, .int .i64 0, .int .i64 0] 88)).alloc (.cells #[.iface 83 (.pointer (some ⟨u3.heap.size, 0, none⟩)), .int .i64 va, .int .i64 acc, .bool user, .int .i64 0, .int .i64 0, .bool false, .slice none 0 0, .int .i64 0, .bool false] 92)) := (Below.refl _ _).alloc (Nat.le_refl _) _
    have hz : (u3.alloc (.cells #[mv (w.heap.size + 1) n, .int .i64 host, .int .i64 0, .int .i64 0] 88)).heap.size = u3.heap.size + 1 := by simp
    have hx := heap_new (u3.alloc (.cells #[mv (w.heap.size + 1) n, .int .i64 host, .int .i64 0, .int .i64 0] 88)) (.cells #[.iface 83 (.pointer (some ⟨u3.heap.size, 0, none⟩)), .int .i64 va, .int .i64 acc, .bool user, .int .i64 0, .int .i64 0, .bool false, .slice none 0 0, .int .i64 0, .bool false] 92)
    rw [hz] at hx
    refine ⟨g2_below ⟨rfl, rfl, rfl, Nat.le_refl _, fun _ _ _ _ => rfl⟩ hb2, (h1.below hb1 h1.lt).below hb2 (by rw [hz]; omega), ?_, ⟨false, hx⟩, World.ownsRow_nil _ _ _ _, by rw [hz]; exact Nat.le_refl _, h2, by omega⟩
    exact (hb2.block _ (by rw [hz]; omega)).trans (heap_new _ _)
  have HRb : Hid (u3.heap[w.heap.size]? = some (.cells #[.int .i64 0, .int .i64 0, .int .i64 0, .int .i64 0, .string ⟨#[]⟩] 23 (0, 0))) := (HB3.out.block _ (by simp)).trans (heap_new _ _)
  have HLt : Hid (w.heap.size + 1 < u3.heap.size) := by
    have h2 := HS3.out
    simp only [World.size_alloc] at h2
    show w.heap.size + 1 < u3.heap.size
    omega
  have HBw : Hid (Below w.heap.size w (u3.alloc (.cells #[mv (w.heap.size + 1) n, .int .i64 host, .int .i64 0, .int .i64 0] 88))) := by
    have h0 : Below w.heap.size w _ := (Below.refl _ _).alloc (Nat.le_refl _) (.cells #[.int .i64 0, .int .i64 0, .int .i64 0, .int .i64 0, .string ⟨#[]⟩] 23)
    have h1 := h0.trans (HB3.out.mono (by simp))
    exact h1.alloc h1.size _
  have HRw : Hid ((u3.alloc (.cells #[mv (w.heap.size + 1) n, .int .i64 host, .int .i64 0, .int .i64 0] 88)).heap[w.heap.size]? = some (.cells #[.int .i64 0, .int .i64 0, .int .i64 0, .int .i64 0, .string ⟨#[]⟩] 23 (0, 0))) := (Below.heap_alloc _ _ _ (by have := HLt.out; omega)).trans HRb.out
  have HZw : Hid ((u3.alloc (.cells #[mv (w.heap.size + 1) n, .int .i64 host, .int .i64 0, .int .i64 0] 88)).heap.size = u3.heap.size + 1) := by simp [Hid]
  clear HB3 HS3 HM3 HRb
  refine Calls.mono (HF.out HI.out) ?_
  rintro e u4 ⟨rfl, rv', x', hG, hx4⟩
  generalize u3.alloc (.cells #[mv (w.heap.size + 1) n, .int .i64 host, .int .i64 0, .int .i64 0] 88) = wA at hG HBw HRw HZw
  clear HI HF
  subst hf
  have hx8 : x'.pa = (p : Int) := (hx4 rfl).trans hpp
  have hl1 : 1 ≤ lacc acc := by unfold lacc; split <;> omega
  have hl3 : lacc acc ≤ 3 := by unfold lacc; split <;> omega
  have HLk : Hid (∀ v, Below u4.heap.size u4 v → _) := fun v hv => lookup_ok (hG.below hv).mem (hG.below hv).gbx hG.bG p (lacc acc) (by have := HN.out; omega) (by have := HN.out; omega) r0 hp1 hl1 hl3 hst0 (by simp only; omega)
  have HV4 : Hid (∀ v, Below u4.heap.size u4 v → GW wA (w.heap.size + 1) u3.heap.size (u3.heap.size + 1) n mem ⟨host, st, pl⟩ v rv' zs x') := fun v hv => hG.below hv
  obtain ⟨c0, c1, c2, c3, c4, c5, c6, c7, c8, cf⟩ := hG.box.cells
  rw [hx8] at c8
  have HAc : Hid _ := fun w' => hostAccess_any acc w'
  simp only at HLk
  rw [HRr.out] at HLk
  clear hG HPa hpp HRr
  go_wp2
  go_region_held (fun w' => w'.cell? ⟨u3.heap.size + 1, 8, none⟩ = some (.int .i64 (p : Int))) (go_keep) ((first | (go_at_call 50; refine Calls.mono (HAc.out _) ?_; rintro e u6 ⟨rfl, hu6⟩; rw [hu6]; clear hu6 u6) | (go_at_call 49; refine Calls.mono (HLk.out _ (by exact ⟨rfl, rfl, rfl, Nat.le_refl _, fun _ _ => rfl⟩)) ?_; rintro e u6 ⟨hg6, hm6, hb6, _, hy6⟩; obtain rfl := hy6 hfr; have HG6 : Hid (GW wA (w.heap.size + 1) u3.heap.size (u3.heap.size + 1) n r.mem ⟨host, st + (r.reads.length : Int), (p : Int)⟩ u6 rv' zs x') := (HV4.out _ (by exact ⟨rfl, rfl, rfl, Nat.le_refl _, fun _ _ => rfl⟩)).look hg6 hm6 hb6; have k8 := HG6.out.box.cells.2.2.2.2.2.2.2.2.1; rw [hx8] at k8; clear hg6 hm6 hb6 hy6)))
  all_goals
    have hG := HG6.out
    clear HG6 HLk HV4 c0 c1 c2 c3 c4 c5 c6 c7 c8 cf
    obtain ⟨ao, cap, hv⟩ := hG.sl
    subst hv
    have HK : Hid (u6.heap[w.heap.size]? = some (.cells #[.int .i64 0, .int .i64 0, .int .i64 0, .int .i64 0, .string ⟨#[]⟩] 23 (0, 0))) := (hG.grw.block _ (by have := HZw.out; have := HLt.out; omega) (by omega) (by have := HLt.out; omega)).trans HRw.out
    have HM4 : Hid (MemAt u6 (w.heap.size + 1) r.mem) := hG.mem
    have HM4b : Hid (MemAt (u6.alloc (.cells #[.int .i64 0, .int .i64 0, .int .i64 0, .int .i64 0, .string ⟨#[]⟩] 23)) (w.heap.size + 1) r.mem) := HM4.out.below ((Below.refl _ _).alloc (Nat.le_refl _) _) HM4.out.lt
    have HG4 : Hid (Below w.heap.size w u6) := by
      have hg := hG.grw
      have hb := HBw.out
      exact ⟨hg.os.trans hb.os, hg.tape.trans hb.tape, hg.output.trans hb.output, Nat.le_trans hb.size hg.size, fun k hk => (hg.block k (Nat.lt_of_lt_of_le hk hb.size) (by omega) (by have := HLt.out; omega)).trans (hb.block k hk)⟩
    have HL4 : Hid (w.heap.size + 1 < u3.heap.size ∧ u3.heap.size + 1 < u6.heap.size) := ⟨HLt.out, hG.box.lt⟩
    have HGx : Hid (GBx u6 u3.heap.size (w.heap.size + 1) n ⟨host, st + (r.reads.length : Int), (p : Int)⟩) := hG.gbx
    have HC : Hid (∀ v, Below u6.heap.size u6 v → _) := fun v hv => (hG.below hv).gbx.cells
    have HD : Hid (∀ v, Below u6.heap.size u6 v → v.cell? ⟨u3.heap.size + 1, 7, none⟩ = some (.slice ao zs.length cap)) := fun v hv => (hG.below hv).box.cells.2.2.2.2.2.2.2.1
    obtain ⟨g0, g1, g2, g3, gf⟩ := hG.gbx.cells
    obtain ⟨c0, c1, c2, c3, c4, c5, c6, c7, c8, cf⟩ := hG.box.cells
    have HT : Hid _ := fun (w' : World) (hM : MemAt w' (w.heap.size + 1) r.mem) => memText_any (w.heap.size + 1) r.mem n w' hM (by have := HN.out; omega) (by have := HN.out; omega)
    have hw9 : IntKind.i64.wrap (st + (r.reads.length : Int) + (zs.length : Int)) = st + (r.reads.length : Int) + (zs.length : Int) := by rw [IntKind.wrap_i64]; omega
    simp only at g1 g2 g3 c1 c2 c3 c4 c5 c6 c8
    clear hG
    go_wp2
    go_region_held (fun w' => w'.cell? ⟨u3.heap.size, 2, none⟩ = some (.int .i64 (st + (r.reads.length : Int))) ∧ w'.cell? ⟨u3.heap.size + 1, 7, none⟩ = some (.slice ao zs.length cap) ∧ w'.cell? ⟨u3.heap.size, 0, none⟩ = some (.slice (some ⟨w.heap.size + 1, 0, none⟩) n n)) (go_keep) ((first | (go_at_call 51; refine Calls.mono (HT.out u6.drew (by exact HM4.out)) ?_; rintro e u5 ⟨rfl, hu5⟩; have hb5 : Below u6.heap.size u6 u5 := ⟨hu5.os, hu5.tape, hu5.output, hu5.size, hu5.block⟩; have HB5 : Hid (Below u6.heap.size u6 u5) := hb5; obtain ⟨f0, f1, f2, f3, ff⟩ := HC.out u5 hb5; have k7 := HD.out u5 hb5; (try simp only at f0 f1 f2 f3); clear hu5 hb5) | (go_at_call 51; refine Calls.mono (HT.out (u6.alloc (.cells #[.int .i64 0, .int .i64 0, .int .i64 0, .int .i64 0, .string ⟨#[]⟩] 23)).drew (by exact HM4b.out)) ?_; rintro e u5 ⟨rfl, hu5⟩; have hb2 : Below (u6.alloc (.cells #[.int .i64 0, .int .i64 0, .int .i64 0, .int .i64 0, .string ⟨#[]⟩] 23)).heap.size (u6.alloc (.cells #[.int .i64 0, .int .i64 0, .int .i64 0, .int .i64 0, .string ⟨#[]⟩] 23)) u5 := ⟨hu5.os, hu5.tape, hu5.output, hu5.size, hu5.block⟩; have hb5 : Below u6.heap.size u6 u5 := ((Below.refl _ _).alloc (Nat.le_refl _) _).trans (hb2.mono (by simp)); have HB5 : Hid (Below u6.heap.size u6 u5) := hb5; obtain ⟨f0, f1, f2, f3, ff⟩ := HC.out u5 hb5; have k7 := HD.out u5 hb5; (try simp only at f0 f1 f2 f3); have hx5 := (hb2.block u6.heap.size (by simp)).trans (heap_new _ _); have HX5 : Hid _ := hx5; obtain ⟨t0, t1, t2, t3, t4, tf⟩ := cel5 hx5; have hn1 : ¬ u3.heap.size = u6.heap.size := (by have := HL4.out; omega); have hn4 : ¬ u6.heap.size = u3.heap.size := (fun e => hn1 e.symm); have hn5 : ¬ u3.heap.size + 1 = u6.heap.size := (by have := HL4.out; omega); have hn6 : ¬ u6.heap.size = u3.heap.size + 1 := (fun e => hn5 e.symm); clear hu5 hb5 hb2 hx5)))
    · have HX0 : Hid ((u5.alloc (.cells #[.int .i64 3, .int .i64 0, .int .i64 0, .int .i64 (st + (r.reads.length : Int) + (zs.length : Int)), .string r.mem] 23)).heap[u5.heap.size]? = some (.cells #[.int .i64 3, .int .i64 0, .int .i64 0, .int .i64 (st + (r.reads.length : Int) + (zs.length : Int)), .string r.mem] 23 (0, 0))) := heap_new _ _
      have hbV : Below u5.heap.size u5 (u5.alloc (.cells #[.int .i64 3, .int .i64 0, .int .i64 0, .int .i64 (st + (r.reads.length : Int) + (zs.length : Int)), .string r.mem] 23)) := (Below.refl _ _).alloc (Nat.le_refl _) _
      have hz5 := HB5.out.size
      have HV0 : Hid (GBx (u5.alloc (.cells #[.int .i64 3, .int .i64 0, .int .i64 0, .int .i64 (st + (r.reads.length : Int) + (zs.length : Int)), .string r.mem] 23)) u3.heap.size (w.heap.size + 1) n ⟨host, st + (r.reads.length : Int), (p : Int)⟩) := HGx.out.block ((hbV.block _ (by have := HL4.out; omega)).trans (HB5.out.block _ (by have := HL4.out; omega)))
      have HR0 : Hid ((u5.alloc (.cells #[.int .i64 3, .int .i64 0, .int .i64 0, .int .i64 (st + (r.reads.length : Int) + (zs.length : Int)), .string r.mem] 23)).heap[w.heap.size]? = some (.cells #[.int .i64 0, .int .i64 0, .int .i64 0, .int .i64 0, .string ⟨#[]⟩] 23 (0, 0))) := ((hbV.block _ (by have := HL4.out; omega)).trans (HB5.out.block _ (by have := HL4.out; omega))).trans HK.out
      have HB0 : Hid (Below w.heap.size w (u5.alloc (.cells #[.int .i64 3, .int .i64 0, .int .i64 0, .int .i64 (st + (r.reads.length : Int) + (zs.length : Int)), .string r.mem] 23))) := (HG4.out.trans (HB5.out.mono HG4.out.size)).trans (hbV.mono (Nat.le_trans HG4.out.size HB5.out.size))
      have HN0 : Hid (¬ u5.heap.size = w.heap.size ∧ ¬ u5.heap.size = u3.heap.size ∧ w.heap.size ≤ u5.heap.size) := ⟨by have := HL4.out; omega, by have := HL4.out; omega, by have := HL4.out; omega⟩
      clear hbV hz5 f0 f1 f2 f3 ff k7
      generalize (u5.alloc (.cells #[.int .i64 3, .int .i64 0, .int .i64 0, .int .i64 (st + (r.reads.length : Int) + (zs.length : Int)), .string r.mem] 23)) = V at HX0 HV0 HR0 HB0 ⊢
      generalize u5.heap.size = BX at HX0 HN0 ⊢
      have HX : Hid (V.heap[BX]? = some (.cells #[.int .i64 3, .int .i64 0, .int .i64 0, .int .i64 (st + (r.reads.length : Int) + (zs.length : Int)), .string r.mem] 23 (0, 0))) := HX0.out
      obtain ⟨x0, x1, x2, x3, x4, xf⟩ := cel5 HX.out
      obtain ⟨y0, y1, y2, y3, yf⟩ := HV0.out.cells
      obtain ⟨z0, z1, z2, z3, z4, zf⟩ := cel5 HR0.out
      simp only at y1 y2 y3
      have hq1 : ¬ BX = w.heap.size := HN0.out.1
      have hq2 : ¬ w.heap.size = BX := fun e => hq1 e.symm
      have hq3 : ¬ BX = u3.heap.size := HN0.out.2.1
      have hq4 : ¬ u3.heap.size = BX := fun e => hq3 e.symm
      clear HX HX0 HV0 HR0 HB5 HGx HC HD HT HM4 HM4b HK HG4 g0 g1 g2 g3 gf c0 c1 c2 c3 c4 c5 c6 c7 c8 cf
      go_wp2
      refine bodyPost_ret (v := twA ⟨3, (p : Int), 0, st + (r.reads.length : Int) + (zs.length : Int), r.mem⟩) (by simp [results, Try.results9, go_sem, twA, z0, z1, z2, z3, z4]) rfl ⟨rfl, ?_⟩
      have hl : w.heap.size ≤ w.heap.size := Nat.le_refl _
      exact ((((((HB0.out.setCell HN0.out.2.2 _).setCell hl _).setCell hl _).setCell hl _).setCell hl _).setCell hl _)
    · have HX0 : Hid ((((((u5.setCell ⟨u6.heap.size, 0, none⟩ (.int .i64 3)).setCell ⟨u6.heap.size, 1, none⟩ (.int .i64 0)).setCell ⟨u6.heap.size, 2, none⟩ (.int .i64 0)).setCell ⟨u6.heap.size, 3, none⟩ (.int .i64 (st + (r.reads.length : Int) + (zs.length : Int)))).setCell ⟨u6.heap.size, 4, none⟩ (.string r.mem)).heap[u6.heap.size]? = some (.cells #[.int .i64 3, .int .i64 0, .int .i64 0, .int .i64 (st + (r.reads.length : Int) + (zs.length : Int)), .string r.mem] 23 (0, 0))) := by
        have h0 := HX5.out
        show _ = _
        simp [World.setCell, Array.getElem?_modify, h0]
      have HV0 : Hid (GBx (((((u5.setCell ⟨u6.heap.size, 0, none⟩ (.int .i64 3)).setCell ⟨u6.heap.size, 1, none⟩ (.int .i64 0)).setCell ⟨u6.heap.size, 2, none⟩ (.int .i64 0)).setCell ⟨u6.heap.size, 3, none⟩ (.int .i64 (st + (r.reads.length : Int) + (zs.length : Int)))).setCell ⟨u6.heap.size, 4, none⟩ (.string r.mem)) u3.heap.size (w.heap.size + 1) n ⟨host, st + (r.reads.length : Int), (p : Int)⟩) := HGx.out.block (by
        rw [Below.heap_setCell _ _ _ _ hn1, Below.heap_setCell _ _ _ _ hn1, Below.heap_setCell _ _ _ _ hn1, Below.heap_setCell _ _ _ _ hn1, Below.heap_setCell _ _ _ _ hn1]
        exact HB5.out.block _ (by have := HL4.out; omega))
      have hnw : ¬ w.heap.size = u6.heap.size := by have := HL4.out; omega
      have HR0 : Hid ((((((u5.setCell ⟨u6.heap.size, 0, none⟩ (.int .i64 3)).setCell ⟨u6.heap.size, 1, none⟩ (.int .i64 0)).setCell ⟨u6.heap.size, 2, none⟩ (.int .i64 0)).setCell ⟨u6.heap.size, 3, none⟩ (.int .i64 (st + (r.reads.length : Int) + (zs.length : Int)))).setCell ⟨u6.heap.size, 4, none⟩ (.string r.mem)).heap[w.heap.size]? = some (.cells #[.int .i64 0, .int .i64 0, .int .i64 0, .int .i64 0, .string ⟨#[]⟩] 23 (0, 0))) := by
        show _ = _
        rw [Below.heap_setCell _ _ _ _ hnw, Below.heap_setCell _ _ _ _ hnw, Below.heap_setCell _ _ _ _ hnw, Below.heap_setCell _ _ _ _ hnw, Below.heap_setCell _ _ _ _ hnw]
        exact (HB5.out.block _ (by have := HL4.out; omega)).trans HK.out
      have HB0 : Hid (Below w.heap.size w (((((u5.setCell ⟨u6.heap.size, 0, none⟩ (.int .i64 3)).setCell ⟨u6.heap.size, 1, none⟩ (.int .i64 0)).setCell ⟨u6.heap.size, 2, none⟩ (.int .i64 0)).setCell ⟨u6.heap.size, 3, none⟩ (.int .i64 (st + (r.reads.length : Int) + (zs.length : Int)))).setCell ⟨u6.heap.size, 4, none⟩ (.string r.mem))) := by
        have h6 : Below w.heap.size w u5 := HG4.out.trans (HB5.out.mono HG4.out.size)
        have hl : w.heap.size ≤ u6.heap.size := HG4.out.size
        exact ((((h6.setCell hl _).setCell hl _).setCell hl _).setCell hl _).setCell hl _
      have HN0 : Hid (¬ u6.heap.size = w.heap.size ∧ ¬ u6.heap.size = u3.heap.size ∧ w.heap.size ≤ u6.heap.size) := ⟨by have := HL4.out; omega, by have := HL4.out; omega, by have := HL4.out; omega⟩
      clear f0 f1 f2 f3 ff k7 t0 t1 t2 t3 t4 tf hn1 hn4 hn5 hn6 hnw HX5
      generalize (((((u5.setCell ⟨u6.heap.size, 0, none⟩ (.int .i64 3)).setCell ⟨u6.heap.size, 1, none⟩ (.int .i64 0)).setCell ⟨u6.heap.size, 2, none⟩ (.int .i64 0)).setCell ⟨u6.heap.size, 3, none⟩ (.int .i64 (st + (r.reads.length : Int) + (zs.length : Int)))).setCell ⟨u6.heap.size, 4, none⟩ (.string r.mem)) = V at HX0 HV0 HR0 HB0 ⊢
      generalize u6.heap.size = BX at HX0 HN0 ⊢
      have HX : Hid (V.heap[BX]? = some (.cells #[.int .i64 3, .int .i64 0, .int .i64 0, .int .i64 (st + (r.reads.length : Int) + (zs.length : Int)), .string r.mem] 23 (0, 0))) := HX0.out
      obtain ⟨x0, x1, x2, x3, x4, xf⟩ := cel5 HX.out
      obtain ⟨y0, y1, y2, y3, yf⟩ := HV0.out.cells
      obtain ⟨z0, z1, z2, z3, z4, zf⟩ := cel5 HR0.out
      simp only at y1 y2 y3
      have hq1 : ¬ BX = w.heap.size := HN0.out.1
      have hq2 : ¬ w.heap.size = BX := fun e => hq1 e.symm
      have hq3 : ¬ BX = u3.heap.size := HN0.out.2.1
      have hq4 : ¬ u3.heap.size = BX := fun e => hq3 e.symm
      clear HX HX0 HV0 HR0 HB5 HGx HC HD HT HM4 HM4b HK HG4 g0 g1 g2 g3 gf c0 c1 c2 c3 c4 c5 c6 c7 c8 cf
      go_wp2
      refine bodyPost_ret (v := twA ⟨3, (p : Int), 0, st + (r.reads.length : Int) + (zs.length : Int), r.mem⟩) (by simp [results, Try.results9, go_sem, twA, z0, z1, z2, z3, z4]) rfl ⟨rfl, ?_⟩
      have hl : w.heap.size ≤ w.heap.size := Nat.le_refl _
      exact ((((((HB0.out.setCell HN0.out.2.2 _).setCell hl _).setCell hl _).setCell hl _).setCell hl _).setCell hl _)

theorem implTwo_yes (s : ByteArray) (host root va : Nat) (acc : Int) (user : Bool) (w : World) (hm : memOk s = true) (r0 : host ≤ 255) (r1 : root ≤ 255) (v1 : va ≤ 262143) (a1 : 1 ≤ acc) (a2 : acc ≤ 3) :
    Calls Try.prog 9 #[.string s, .int .i64 host, .int .i64 root, .int .i64 va, .int .i64 acc, .bool user] w fun e w' => e = .returned (twA (twoV s host root va acc user)) ∧ Below w.heap.size w w' := by
  have hO := finG_ok s 0 (feG s host root va 0) host va acc user (feG_ok s host root va 0 r1 v1)
  unfold twoV
  by_cases h0 : (finG (feG s host root va 0) host va acc user).code = 0
  · obtain ⟨p, hp, hp1⟩ := hO.pa h0
    have E : twoF (finG (feG s host root va 0) host va acc user) host acc = lastT (finG (feG s host root va 0) host va acc user).mem host p acc ((finG (feG s host root va 0) host va acc user).steps + (finG (feG s host root va 0) host va acc user).zs.length) := by
      unfold twoF
      rw [if_pos h0, hp]
      rfl
    rw [E]
    unfold lastT
    by_cases hf : (walkV (finG (feG s host root va 0) host va acc user).mem host p (lacc acc) false).fault = 0
    · rw [if_pos hf]
      have h := implTwo_ok s host root va acc user w hm r0 r1 v1 a1 a2 h0 p hp hp1 hf
      rw [show (finG (feG s host root va 0) host va acc user).steps + ((finG (feG s host root va 0) host va acc user).zs.length : Int) + ((walkV (finG (feG s host root va 0) host va acc user).mem host p (lacc acc) false).reads.length : Int) = (finG (feG s host root va 0) host va acc user).steps + ((walkV (finG (feG s host root va 0) host va acc user).mem host p (lacc acc) false).reads.length : Int) + ((finG (feG s host root va 0) host va acc user).zs.length : Int) by omega]
      exact h
    · rw [if_neg hf]
      have h := implTwo_host s host root va acc user w hm r0 r1 v1 a1 a2 h0 p hp hp1 hf
      rw [walkV_same _ _ _ _ _ hf] at h
      rw [show (finG (feG s host root va 0) host va acc user).steps + ((finG (feG s host root va 0) host va acc user).zs.length : Int) + ((walkV (finG (feG s host root va 0) host va acc user).mem host p (lacc acc) false).reads.length : Int) = (finG (feG s host root va 0) host va acc user).steps + ((walkV (finG (feG s host root va 0) host va acc user).mem host p (lacc acc) false).reads.length : Int) + ((finG (feG s host root va 0) host va acc user).zs.length : Int) by omega]
      exact h
  · unfold twoF
    rw [if_neg h0]
    by_cases h3 : (finG (feG s host root va 0) host va acc user).code = 3
    · rw [if_pos h3, h3]
      exact implTwo_f3 s host root va acc user w hm r0 r1 v1 a1 a2 h3
    · rw [if_neg h3]
      exact implTwo_f12 s host root va acc user w hm r0 r1 v1 a1 a2 ⟨h0, h3⟩

def t00 : TV := ⟨0, 0, 0, 0, ⟨#[]⟩⟩
set_option maxRecDepth 100000 in
set_option maxHeartbeats 4000000 in
theorem specTwo_no (s : ByteArray) (host root va acc : Int) (user : Bool) (w : World) (hs : s.size ≤ 1099511627776) (h : ¬ (memOk s = true ∧ 0 ≤ host ∧ host ≤ 255 ∧ 0 ≤ root ∧ root ≤ 255 ∧ 0 ≤ va ∧ va ≤ 262143 ∧ 1 ≤ acc ∧ acc ≤ 3)) :
    Calls Try.prog 8 #[.string s, .int .i64 host, .int .i64 root, .int .i64 va, .int .i64 acc, .bool user] w fun e w' => e = .returned (twA t00) ∧ Below w.heap.size w w' := by
  have HS : Hid _ := hs
  by_cases h1 : memOk s = false
  · have hc : Hid _ := memC_no h1
    clear h h1 hs
    go_enter Try.func8, Try.ntmps8
    go_wp2_with (first | (go_at_call 36; refine (specMemFault_any _ _ HS.out).mono ?_; rintro e u1 ⟨rfl, hu1⟩; rw [hu1, hc.out]; clear hu1))
    exact bodyPost_ret (v := twA t00) (by simp [results, Try.results8, go_sem, twA, t00]) rfl ⟨rfl, (Below.refl _ _).alloc (Nat.le_refl _) _⟩
  have h1b : memOk s = true := by simpa using h1
  have hc : Hid _ := memC_ok h1b
  have H2 : Hid (¬ (0 ≤ host ∧ host ≤ 255 ∧ 0 ≤ root ∧ root ≤ 255 ∧ 0 ≤ va ∧ va ≤ 262143 ∧ 1 ≤ acc ∧ acc ≤ 3)) := fun h3 => h ⟨h1b, h3⟩
  clear h h1 h1b hs
  by_cases g0 : host < 0
  · go_enter Try.func8, Try.ntmps8
    go_wp2_with (first | (go_at_call 36; refine (specMemFault_any _ _ HS.out).mono ?_; rintro e u1 ⟨rfl, hu1⟩; rw [hu1, hc.out]; clear hu1))
    exact bodyPost_ret (v := twA t00) (by simp [results, Try.results8, go_sem, twA, t00]) rfl ⟨rfl, (Below.refl _ _).alloc (Nat.le_refl _) _⟩
  by_cases g1 : 255 < host
  · go_enter Try.func8, Try.ntmps8
    go_wp2_with (first | (go_at_call 36; refine (specMemFault_any _ _ HS.out).mono ?_; rintro e u1 ⟨rfl, hu1⟩; rw [hu1, hc.out]; clear hu1))
    exact bodyPost_ret (v := twA t00) (by simp [results, Try.results8, go_sem, twA, t00]) rfl ⟨rfl, (Below.refl _ _).alloc (Nat.le_refl _) _⟩
  by_cases g2 : root < 0
  · go_enter Try.func8, Try.ntmps8
    go_wp2_with (first | (go_at_call 36; refine (specMemFault_any _ _ HS.out).mono ?_; rintro e u1 ⟨rfl, hu1⟩; rw [hu1, hc.out]; clear hu1))
    exact bodyPost_ret (v := twA t00) (by simp [results, Try.results8, go_sem, twA, t00]) rfl ⟨rfl, (Below.refl _ _).alloc (Nat.le_refl _) _⟩
  by_cases g3 : 255 < root
  · go_enter Try.func8, Try.ntmps8
    go_wp2_with (first | (go_at_call 36; refine (specMemFault_any _ _ HS.out).mono ?_; rintro e u1 ⟨rfl, hu1⟩; rw [hu1, hc.out]; clear hu1))
    exact bodyPost_ret (v := twA t00) (by simp [results, Try.results8, go_sem, twA, t00]) rfl ⟨rfl, (Below.refl _ _).alloc (Nat.le_refl _) _⟩
  by_cases g4 : va < 0
  · go_enter Try.func8, Try.ntmps8
    go_wp2_with (first | (go_at_call 36; refine (specMemFault_any _ _ HS.out).mono ?_; rintro e u1 ⟨rfl, hu1⟩; rw [hu1, hc.out]; clear hu1))
    exact bodyPost_ret (v := twA t00) (by simp [results, Try.results8, go_sem, twA, t00]) rfl ⟨rfl, (Below.refl _ _).alloc (Nat.le_refl _) _⟩
  by_cases h5 : 262144 ≤ va
  · have hd : decide (262144 ≤ va) = true := decide_eq_true h5
    clear h5
    go_enter Try.func8, Try.ntmps8
    go_wp2_with (first | (go_at_call 36; refine (specMemFault_any _ _ HS.out).mono ?_; rintro e u1 ⟨rfl, hu1⟩; rw [hu1, hc.out]; clear hu1))
    exact bodyPost_ret (v := twA t00) (by simp [results, Try.results8, go_sem, twA, t00]) rfl ⟨rfl, (Below.refl _ _).alloc (Nat.le_refl _) _⟩
  · have hd : decide (262144 ≤ va) = false := decide_eq_false h5
    have H5 : Hid _ := h5
    have HA : Hid _ := l03Acc_no acc (w.alloc (.cells #[.int .i64 0, .int .i64 0, .int .i64 0, .int .i64 0, .string ⟨#[]⟩] 23)) (fun h6 => H2.out ⟨by omega, by omega, by omega, by omega, by omega, by omega, h6.1, h6.2⟩)
    clear h5
    go_enter Try.func8, Try.ntmps8
    go_wp2_with (first | (go_at_call 36; refine (specMemFault_any _ _ HS.out).mono ?_; rintro e u1 ⟨rfl, hu1⟩; rw [hu1, hc.out]; clear hu1) | (go_at_call 37; refine Calls.mono HA.out ?_; rintro e u2 ⟨rfl, hu2⟩; rw [hu2]; clear hu2))
    exact bodyPost_ret (v := twA t00) (by simp [results, Try.results8, go_sem, twA, t00]) rfl ⟨rfl, (Below.refl _ _).alloc (Nat.le_refl _) _⟩

set_option maxRecDepth 100000 in
set_option maxHeartbeats 4000000 in
theorem implTwo_no (s : ByteArray) (host root va acc : Int) (user : Bool) (w : World) (hs : s.size ≤ 1099511627776) (h : ¬ (memOk s = true ∧ 0 ≤ host ∧ host ≤ 255 ∧ 0 ≤ root ∧ root ≤ 255 ∧ 0 ≤ va ∧ va ≤ 262143 ∧ 1 ≤ acc ∧ acc ≤ 3)) :
    Calls Try.prog 9 #[.string s, .int .i64 host, .int .i64 root, .int .i64 va, .int .i64 acc, .bool user] w fun e w' => e = .returned (twA t00) ∧ Below w.heap.size w w' := by
  have HS : Hid _ := hs
  have hRh := fun w => isRoot_any host w
  have hRt := fun w => isRoot_any root w
  have hVt := fun w => isVirtual_any va w
  by_cases h1 : memOk s = false
  · have hc : Hid _ := memC_no h1
    clear h h1 hs
    go_enter Try.func9, Try.ntmps9
    go_wp2_with (first | (go_at_call 43; refine (implMemFault_any _ _ HS.out).mono ?_; rintro e u1 ⟨rfl, hu1⟩; rw [hu1, hc.out]; clear hu1))
    exact bodyPost_ret (v := twA t00) (by simp [results, Try.results9, go_sem, twA, t00]) rfl ⟨rfl, (Below.refl _ _).alloc (Nat.le_refl _) _⟩
  have h1b : memOk s = true := by simpa using h1
  have hc : Hid _ := memC_ok h1b
  have H2 : Hid (¬ (0 ≤ host ∧ host ≤ 255 ∧ 0 ≤ root ∧ root ≤ 255 ∧ 0 ≤ va ∧ va ≤ 262143 ∧ 1 ≤ acc ∧ acc ≤ 3)) := fun h3 => h ⟨h1b, h3⟩
  clear h h1 h1b hs
  by_cases h2 : 0 ≤ host ∧ host ≤ 255
  case neg =>
    have e2 : (decide (0 ≤ host) && decide (host ≤ 255)) = false := by simp; omega
    rw [e2] at hRh
    clear e2 h2
    go_enter Try.func9, Try.ntmps9
    go_wp2_with (first | (go_at_call 43; refine (implMemFault_any _ _ HS.out).mono ?_; rintro e u1 ⟨rfl, hu1⟩; rw [hu1, hc.out]; clear hu1) | (go_at_call 44; refine Calls.mono (hRh _) ?_; rintro e u2 ⟨rfl, hu2⟩; rw [hu2]; clear hu2 hRh))
    exact bodyPost_ret (v := twA t00) (by simp [results, Try.results9, go_sem, twA, t00]) rfl ⟨rfl, (Below.refl _ _).alloc (Nat.le_refl _) _⟩
  have e2 : (decide (0 ≤ host) && decide (host ≤ 255)) = true := by simp; omega
  rw [e2] at hRh
  by_cases h3 : 0 ≤ root ∧ root ≤ 255
  case neg =>
    have e3 : (decide (0 ≤ root) && decide (root ≤ 255)) = false := by simp; omega
    rw [e3] at hRt
    clear e2 h2 e3 h3
    go_enter Try.func9, Try.ntmps9
    go_wp2_with (first | (go_at_call 43; refine (implMemFault_any _ _ HS.out).mono ?_; rintro e u1 ⟨rfl, hu1⟩; rw [hu1, hc.out]; clear hu1) | (go_at_call 44; refine Calls.mono (hRh _) ?_; rintro e u2 ⟨rfl, hu2⟩; rw [hu2]; clear hu2 hRh) | (go_at_call 44; refine Calls.mono (hRt _) ?_; rintro e u2 ⟨rfl, hu2⟩; rw [hu2]; clear hu2))
    exact bodyPost_ret (v := twA t00) (by simp [results, Try.results9, go_sem, twA, t00]) rfl ⟨rfl, (Below.refl _ _).alloc (Nat.le_refl _) _⟩
  have e3 : (decide (0 ≤ root) && decide (root ≤ 255)) = true := by simp; omega
  rw [e3] at hRt
  by_cases h4 : 0 ≤ va ∧ va ≤ 262143
  case neg =>
    have e4 : (decide (0 ≤ va) && decide (va < 262144)) = false := by simp; omega
    rw [e4] at hVt
    clear e2 h2 e3 h3 h4 e4
    go_enter Try.func9, Try.ntmps9
    go_wp2_with (first | (go_at_call 43; refine (implMemFault_any _ _ HS.out).mono ?_; rintro e u1 ⟨rfl, hu1⟩; rw [hu1, hc.out]; clear hu1) | (go_at_call 44; refine Calls.mono (hRh _) ?_; rintro e u2 ⟨rfl, hu2⟩; rw [hu2]; clear hu2 hRh) | (go_at_call 44; refine Calls.mono (hRt _) ?_; rintro e u2 ⟨rfl, hu2⟩; rw [hu2]; clear hu2) | (go_at_call 45; refine Calls.mono (hVt _) ?_; rintro e u2 ⟨rfl, hu2⟩; rw [hu2]; clear hu2))
    exact bodyPost_ret (v := twA t00) (by simp [results, Try.results9, go_sem, twA, t00]) rfl ⟨rfl, (Below.refl _ _).alloc (Nat.le_refl _) _⟩
  have e4 : (decide (0 ≤ va) && decide (va < 262144)) = true := by simp; omega
  rw [e4] at hVt
  have HA : Hid _ := isAccess_no acc (w.alloc (.cells #[.int .i64 0, .int .i64 0, .int .i64 0, .int .i64 0, .string ⟨#[]⟩] 23)) (fun h6 => H2.out ⟨by omega, by omega, by omega, by omega, by omega, by omega, h6.1, h6.2⟩)
  clear e2 h2 e3 h3 h4 e4
  go_enter Try.func9, Try.ntmps9
  go_wp2_with (first | (go_at_call 43; refine (implMemFault_any _ _ HS.out).mono ?_; rintro e u1 ⟨rfl, hu1⟩; rw [hu1, hc.out]; clear hu1) | (go_at_call 44; refine Calls.mono (hRh _) ?_; rintro e u2 ⟨rfl, hu2⟩; rw [hu2]; clear hu2 hRh) | (go_at_call 44; refine Calls.mono (hRt _) ?_; rintro e u2 ⟨rfl, hu2⟩; rw [hu2]; clear hu2) | (go_at_call 45; refine Calls.mono (hVt _) ?_; rintro e u2 ⟨rfl, hu2⟩; rw [hu2]; clear hu2) | (go_at_call 46; refine Calls.mono HA.out ?_; rintro e u2 ⟨rfl, hu2⟩; rw [hu2]; clear hu2))
  exact bodyPost_ret (v := twA t00) (by simp [results, Try.results9, go_sem, twA, t00]) rfl ⟨rfl, (Below.refl _ _).alloc (Nat.le_refl _) _⟩

/-- What both sides answer. -/
def AnsT (f : Nat) (args : Array Value) (r : TV) : Prop := ∀ w : World, Calls Try.prog f args w fun e w' => e = .returned (twA r) ∧ Below w.heap.size w w'
set_option maxRecDepth 100000 in
set_option maxHeartbeats 4000000 in
theorem eqTwo_ok (r : TV) (w : World) : Calls Try.prog 10 #[twA r, twA r] w fun e w' => e = .returned (.bool true) ∧ Below w.heap.size w w' := by
  unfold twA
  go_enter Try.func10, Try.ntmps10
  go_wp2
  go_ret
  exact ⟨rfl, ((Below.refl _ _).alloc (Nat.le_refl _) _).alloc (by simp) _⟩
set_option maxRecDepth 100000 in
set_option maxHeartbeats 4000000 in
theorem lawT (s : ByteArray) (host root va acc : Int) (user : Bool) (r : TV) (w : World) (hs : s.size ≤ 1048576)
    (hS : AnsT 8 #[.string s, .int .i64 host, .int .i64 root, .int .i64 va, .int .i64 acc, .bool user] r) (hI : AnsT 9 #[.string s, .int .i64 host, .int .i64 root, .int .i64 va, .int .i64 acc, .bool user] r) :
    Calls Try.prog 3 #[.string s, .int .i64 host, .int .i64 root, .int .i64 va, .int .i64 acc, .bool user] w fun e w' => e = .returned (.bool true) ∧ Below w.heap.size w w' := by
  have HS : Hid (AnsT 8 #[.string s, .int .i64 host, .int .i64 root, .int .i64 va, .int .i64 acc, .bool user] r) := hS
  have HI : Hid (AnsT 9 #[.string s, .int .i64 host, .int .i64 root, .int .i64 va, .int .i64 acc, .bool user] r) := hI
  have hd : decide (1048576 < (s.size : Int)) = false := by
    apply decide_eq_false
    omega
  have HE : Hid _ := fun w' => eqTwo_ok r w'
  unfold twA at HE
  clear hS hI hs
  go_enter Try.func3, Try.ntmps3
  go_wp2_with (first
    | (go_at_call 8; refine Calls.mono (HS.out _) ?_; rintro e u1 ⟨rfl, hb1⟩; have HB1 : Hid (Below w.heap.size w u1) := hb1; clear hb1; simp only [twA])
    | (go_at_call 9; refine Calls.mono (HI.out _) ?_; rintro e u2 ⟨rfl, hb2⟩; have hx1 := (hb2.block u1.heap.size (by simp)).trans (heap_new _ _); obtain ⟨d0, d1, d2, d3, d4, df⟩ := cel5 hx1; have hl12 : u1.heap.size < u2.heap.size := (Array.getElem?_eq_some_iff.1 hx1).1; have HB2 : Hid (Below w.heap.size w u2) := (HB1.out.alloc HB1.out.size _).trans (hb2.mono (by simp; have := HB1.out.size; omega)); clear hb2 hx1; simp only [twA])
    | (go_at_call 10; refine Calls.mono (HE.out _) ?_; rintro e u3 ⟨rfl, hu3⟩; have HB3 : Hid (Below w.heap.size w u3) := (HB2.out.alloc HB2.out.size _).trans (hu3.mono (by simp; have := HB2.out.size; omega)); clear hu3))
  go_ret
  exact ⟨rfl, HB3.out⟩
end Go.Proofs.Ytfagohdmepnkkaa
