import Derived.Test.YtjaelkagacmpkaaPTwoM
namespace Go.Proofs.Ytjaelkagacmpkaa
open Go.ChangeShapes Go.WideShapes Go.ChangeAt Go.RowKit

set_option maxRecDepth 100000 in
set_option maxHeartbeats 4000000 in
theorem implTwo_f12 (s : ByteArray) (host root va : Nat) (acc : Int) (user : Bool) (w : World) (hm : memOk s = true) (r0 : host ≤ 255) (r1 : root ≤ 255) (v1 : va ≤ 262143) (a1 : 1 ≤ acc) (a2 : acc ≤ 3) (hf : ¬ (finG (feG s host root va 0) host va acc user).code = 0 ∧ ¬ (finG (feG s host root va 0) host va acc user).code = 3) :
    Calls Try.prog 15 #[.string s, .int .i64 host, .int .i64 root, .int .i64 va, .int .i64 acc, .bool user] w fun e w' => e = .returned (twA ⟨(finG (feG s host root va 0) host va acc user).code, 0, 0, (finG (feG s host root va 0) host va acc user).steps + ((finG (feG s host root va 0) host va acc user).zs.length : Int), (finG (feG s host root va 0) host va acc user).mem⟩) ∧ Below w.heap.size w w' := by
  have hc : Hid _ := memC_ok hm
  obtain ⟨hs0, hs1, hs2⟩ := memOk_b hm
  obtain ⟨n, hn⟩ : ∃ n, s.size = n * 256 := ⟨s.size / 256, by omega⟩
  have hRt := fun w => isRoot_any (root : Int) w
  have hRh := fun w => isRoot_any (host : Int) w
  have hVt := fun w => isVirtual_any (va : Int) w
  rw [show (decide (0 ≤ (root : Int)) && decide ((root : Int) ≤ 255)) = true by simp; omega] at hRt
  rw [show (decide (0 ≤ (host : Int)) && decide ((host : Int) ≤ 255)) = true by simp; omega] at hRh
  rw [show (decide (0 ≤ (va : Int)) && decide ((va : Int) < 262144)) = true by simp; omega] at hVt
  have HRM : Hid _ := fun w => readMemory_any s n w hn (by omega)
  have V : Hid (va ≤ 262143) := v1
  have HF : Hid (∀ {w0 wr : World} {b G B : Nat} {rv : Value} (h : GW w0 b G B n s ⟨host, 0, 0⟩ wr rv [] ⟨va, acc, user, 0, 0, false, 0⟩), _) := fun {w0 wr b G B rv} h => findG h hn (by omega) root (by omega) v1 r0 (Int.le_refl 0) (show (0 : Int) ≤ 100 by decide) a1 a2
  simp only at HF
  have hO := finG_ok s 0 (feG s host root va 0) host va acc user (feG_ok s host root va 0 r1 v1)
  obtain ⟨d, hd⟩ : ∃ d, finG (feG s host root va 0) host va acc user = d := ⟨_, rfl⟩
  rw [hd] at HF hO hf ⊢
  obtain ⟨cd, pa, zs, mem, st, pl⟩ := d
  have hzl := hO.zl
  have hsz := hO.size
  have hst0 := hO.s0
  have hst1 := hO.s1
  have HPa : Hid _ := hO.pa
  simp only at *
  have HN : Hid (s.size = n * 256) := hn
  have hn1 : n ≤ 256 := by omega
  clear hd v1 hm hn hs0 hs1 hs2 hO
  go_enter Try.func15, Try.ntmps15
  go_wp2_with (first | (go_at_call 51; refine (implMemFault_any _ _ (by have := HN.out; omega)).mono ?_; rintro e u1 ⟨rfl, hu1⟩; rw [hu1, hc.out]; clear hu1) | (go_at_call 52; refine Calls.mono (hRh _) ?_; rintro e u2 ⟨rfl, hu2⟩; rw [hu2]; clear hu2 hRh) | (go_at_call 52; refine Calls.mono (hRt _) ?_; rintro e u2 ⟨rfl, hu2⟩; rw [hu2]; clear hu2) | (go_at_call 53; refine Calls.mono (hVt _) ?_; rintro e u2 ⟨rfl, hu2⟩; rw [hu2]; clear hu2) | (go_at_call 54; refine (isAccess_yes _ _ a1 a2).mono ?_; rintro e u2 ⟨rfl, hu2⟩; rw [hu2]; clear hu2) | (go_at_call 55; refine Calls.mono (HRM.out _) ?_; rintro e u3 ⟨rfl, hM3, hB3, hS3⟩; unfold mv; have HM3 : Hid _ := hM3; have HB3 : Hid _ := hB3; have HS3 : Hid _ := hS3; clear hM3 hB3 hS3) | fail)
  have HI : Hid (GW (u3.alloc (.cells #[mv (w.heap.size + 1) n, .int .i64 host, .int .i64 0, .int .i64 0] 103)) (w.heap.size + 1) u3.heap.size (u3.heap.size + 1) n s ⟨host, 0, 0⟩ ((u3.alloc (.cells #[mv (w.heap.size + 1) n, .int .i64 host, .int .i64 0, .int .i64 0] 103)).alloc (.cells #[.iface 101 (.pointer (some ⟨u3.heap.size, 0, none⟩)), .int .i64 va, .int .i64 acc, .bool user, .int .i64 0, .int .i64 0, .bool false, .slice none 0 0, .int .i64 0, .bool false] 92)) (.slice none 0 0) [] ⟨va, acc, user, 0, 0, false, 0⟩) := by
    have h1 : MemAt u3 (w.heap.size + 1) s := by
      have h0 := HM3.out
      simp only [World.size_alloc] at h0
      exact h0
    have h2 := h1.lt
    have hb1 : Below u3.heap.size u3 (u3.alloc (.cells #[mv (w.heap.size + 1) n, .int .i64 host, .int .i64 0, .int .i64 0] 103)) := (Below.refl _ _).alloc (Nat.le_refl _) _
    have hb2 : Below (u3.alloc (.cells #[mv (w.heap.size + 1) n, .int .i64 host, .int .i64 0, .int .i64 0] 103)).heap.size (u3.alloc (.cells #[mv (w.heap.size + 1) n, .int .i64 host, .int .i64 0, .int .i64 0] 103)) ((u3.alloc (.cells #[mv (w.heap.size + 1) n, .int .i64 host, .int .i64 0, .int .i64 0] 103)).alloc (.cells #[.iface 101 (.pointer (some ⟨u3.heap.size, 0, none⟩)), .int .i64 va, .int .i64 acc, .bool user, .int .i64 0, .int .i64 0, .bool false, .slice none 0 0, .int .i64 0, .bool false] 92)) := (Below.refl _ _).alloc (Nat.le_refl _) _
    have hz : (u3.alloc (.cells #[mv (w.heap.size + 1) n, .int .i64 host, .int .i64 0, .int .i64 0] 103)).heap.size = u3.heap.size + 1 := by simp
    have hx := heap_new (u3.alloc (.cells #[mv (w.heap.size + 1) n, .int .i64 host, .int .i64 0, .int .i64 0] 103)) (.cells #[.iface 101 (.pointer (some ⟨u3.heap.size, 0, none⟩)), .int .i64 va, .int .i64 acc, .bool user, .int .i64 0, .int .i64 0, .bool false, .slice none 0 0, .int .i64 0, .bool false] 92)
    rw [hz] at hx
    refine ⟨g2_below ⟨rfl, rfl, rfl, Nat.le_refl _, fun _ _ _ _ => rfl⟩ hb2, (h1.below hb1 h1.lt).below hb2 (by rw [hz]; omega), ?_, ⟨false, hx⟩, World.ownsRow_nil _ _ _ _, by rw [hz]; exact Nat.le_refl _, h2, by omega⟩
    exact (hb2.block _ (by rw [hz]; omega)).trans (heap_new _ _)
  have HRb : Hid (u3.heap[w.heap.size]? = some (.cells #[.int .i64 0, .int .i64 0, .int .i64 0, .int .i64 0, .string ⟨#[]⟩] 30 (0, 0))) := (HB3.out.block _ (by simp)).trans (heap_new _ _)
  have HLt : Hid (w.heap.size + 1 < u3.heap.size) := by
    have h2 := HS3.out
    simp only [World.size_alloc] at h2
    show w.heap.size + 1 < u3.heap.size
    omega
  have HBw : Hid (Below w.heap.size w (u3.alloc (.cells #[mv (w.heap.size + 1) n, .int .i64 host, .int .i64 0, .int .i64 0] 103))) := by
    have h0 : Below w.heap.size w _ := (Below.refl _ _).alloc (Nat.le_refl _) (.cells #[.int .i64 0, .int .i64 0, .int .i64 0, .int .i64 0, .string ⟨#[]⟩] 30)
    have h1 := h0.trans (HB3.out.mono (by simp))
    exact h1.alloc h1.size _
  have HRw : Hid ((u3.alloc (.cells #[mv (w.heap.size + 1) n, .int .i64 host, .int .i64 0, .int .i64 0] 103)).heap[w.heap.size]? = some (.cells #[.int .i64 0, .int .i64 0, .int .i64 0, .int .i64 0, .string ⟨#[]⟩] 30 (0, 0))) := (Below.heap_alloc _ _ _ (by have := HLt.out; omega)).trans HRb.out
  have HZw : Hid ((u3.alloc (.cells #[mv (w.heap.size + 1) n, .int .i64 host, .int .i64 0, .int .i64 0] 103)).heap.size = u3.heap.size + 1) := by simp [Hid]
  clear HB3 HS3 HM3 HRb
  refine Calls.mono (HF.out HI.out) ?_
  rintro e u4 ⟨rfl, rv', x', hG, hx4⟩
  generalize u3.alloc (.cells #[mv (w.heap.size + 1) n, .int .i64 host, .int .i64 0, .int .i64 0] 103) = wA at hG HBw HRw HZw
  clear HI HF
  obtain ⟨hf1, hf2⟩ := hf
  have hf3 : (cd == 0) = false := by simpa using hf1
  have hf4 : (cd == 3) = false := by simpa using hf2
  obtain ⟨ao, cap, hv⟩ := hG.sl
  subst hv
  have HK : Hid (u4.heap[w.heap.size]? = some (.cells #[.int .i64 0, .int .i64 0, .int .i64 0, .int .i64 0, .string ⟨#[]⟩] 30 (0, 0))) := (hG.grw.block _ (by have := HZw.out; have := HLt.out; omega) (by omega) (by have := HLt.out; omega)).trans HRw.out
  have HM4 : Hid (MemAt u4 (w.heap.size + 1) mem) := hG.mem
  have HM4b : Hid (MemAt (u4.alloc (.cells #[.int .i64 0, .int .i64 0, .int .i64 0, .int .i64 0, .string ⟨#[]⟩] 30)) (w.heap.size + 1) mem) := HM4.out.below ((Below.refl _ _).alloc (Nat.le_refl _) _) HM4.out.lt
  have HG4 : Hid (Below w.heap.size w u4) := by
    have hg := hG.grw
    have hb := HBw.out
    exact ⟨hg.os.trans hb.os, hg.tape.trans hb.tape, hg.output.trans hb.output, Nat.le_trans hb.size hg.size, fun k hk => (hg.block k (Nat.lt_of_lt_of_le hk hb.size) (by omega) (by have := HLt.out; omega)).trans (hb.block k hk)⟩
  have HL4 : Hid (w.heap.size + 1 < u3.heap.size ∧ u3.heap.size + 1 < u4.heap.size) := ⟨HLt.out, hG.box.lt⟩
  have HGx : Hid (GBx u4 u3.heap.size (w.heap.size + 1) n ⟨host, st, pl⟩) := hG.gbx
  have HC : Hid (∀ v, Below u4.heap.size u4 v → _) := fun v hv => (hG.below hv).gbx.cells
  have HD : Hid (∀ v, Below u4.heap.size u4 v → v.cell? ⟨u3.heap.size + 1, 7, none⟩ = some (.slice ao zs.length cap)) := fun v hv => (hG.below hv).box.cells.2.2.2.2.2.2.2.1
  obtain ⟨g0, g1, g2, g3, gf⟩ := hG.gbx.cells
  obtain ⟨c0, c1, c2, c3, c4, c5, c6, c7, c8, cf⟩ := hG.box.cells
  have HT : Hid _ := fun (w' : World) (hM : MemAt w' (w.heap.size + 1) mem) => memText_any (w.heap.size + 1) mem n w' hM (by have := HN.out; omega) (by have := HN.out; omega)
  have hw9 : IntKind.i64.wrap (st + (zs.length : Int)) = st + (zs.length : Int) := by rw [IntKind.wrap_i64]; omega
  simp only at g1 g2 g3 c1 c2 c3 c4 c5 c6 c8
  clear hG
  go_wp2
  go_region_held (fun w' => w'.cell? ⟨u3.heap.size, 2, none⟩ = some (.int .i64 (st)) ∧ w'.cell? ⟨u3.heap.size + 1, 7, none⟩ = some (.slice ao zs.length cap) ∧ w'.cell? ⟨u3.heap.size, 0, none⟩ = some (.slice (some ⟨w.heap.size + 1, 0, none⟩) n n)) (go_keep) ((first | (go_at_call 57; refine Calls.mono (HT.out u4.drew (by exact HM4.out)) ?_; rintro e u5 ⟨rfl, hu5⟩; have hb5 : Below u4.heap.size u4 u5 := ⟨hu5.os, hu5.tape, hu5.output, hu5.size, hu5.block⟩; have HB5 : Hid (Below u4.heap.size u4 u5) := hb5; obtain ⟨f0, f1, f2, f3, ff⟩ := HC.out u5 hb5; have k7 := HD.out u5 hb5; (try simp only at f0 f1 f2 f3); clear hu5 hb5) | (go_at_call 57; refine Calls.mono (HT.out (u4.alloc (.cells #[.int .i64 0, .int .i64 0, .int .i64 0, .int .i64 0, .string ⟨#[]⟩] 30)).drew (by exact HM4b.out)) ?_; rintro e u5 ⟨rfl, hu5⟩; have hb2 : Below (u4.alloc (.cells #[.int .i64 0, .int .i64 0, .int .i64 0, .int .i64 0, .string ⟨#[]⟩] 30)).heap.size (u4.alloc (.cells #[.int .i64 0, .int .i64 0, .int .i64 0, .int .i64 0, .string ⟨#[]⟩] 30)) u5 := ⟨hu5.os, hu5.tape, hu5.output, hu5.size, hu5.block⟩; have hb5 : Below u4.heap.size u4 u5 := ((Below.refl _ _).alloc (Nat.le_refl _) _).trans (hb2.mono (by simp)); have HB5 : Hid (Below u4.heap.size u4 u5) := hb5; obtain ⟨f0, f1, f2, f3, ff⟩ := HC.out u5 hb5; have k7 := HD.out u5 hb5; (try simp only at f0 f1 f2 f3); have hx5 := (hb2.block u4.heap.size (by simp)).trans (heap_new _ _); have HX5 : Hid _ := hx5; obtain ⟨t0, t1, t2, t3, t4, tf⟩ := cel5 hx5; have hn1 : ¬ u3.heap.size = u4.heap.size := (by have := HL4.out; omega); have hn4 : ¬ u4.heap.size = u3.heap.size := (fun e => hn1 e.symm); have hn5 : ¬ u3.heap.size + 1 = u4.heap.size := (by have := HL4.out; omega); have hn6 : ¬ u4.heap.size = u3.heap.size + 1 := (fun e => hn5 e.symm); clear hu5 hb5 hb2 hx5)))
  · have HX0 : Hid ((u5.alloc (.cells #[.int .i64 cd, .int .i64 0, .int .i64 0, .int .i64 (st + (zs.length : Int)), .string mem] 30)).heap[u5.heap.size]? = some (.cells #[.int .i64 cd, .int .i64 0, .int .i64 0, .int .i64 (st + (zs.length : Int)), .string mem] 30 (0, 0))) := heap_new _ _
    have hbV : Below u5.heap.size u5 (u5.alloc (.cells #[.int .i64 cd, .int .i64 0, .int .i64 0, .int .i64 (st + (zs.length : Int)), .string mem] 30)) := (Below.refl _ _).alloc (Nat.le_refl _) _
    have hz5 := HB5.out.size
    have HV0 : Hid (GBx (u5.alloc (.cells #[.int .i64 cd, .int .i64 0, .int .i64 0, .int .i64 (st + (zs.length : Int)), .string mem] 30)) u3.heap.size (w.heap.size + 1) n ⟨host, st, pl⟩) := HGx.out.block ((hbV.block _ (by have := HL4.out; omega)).trans (HB5.out.block _ (by have := HL4.out; omega)))
    have HR0 : Hid ((u5.alloc (.cells #[.int .i64 cd, .int .i64 0, .int .i64 0, .int .i64 (st + (zs.length : Int)), .string mem] 30)).heap[w.heap.size]? = some (.cells #[.int .i64 0, .int .i64 0, .int .i64 0, .int .i64 0, .string ⟨#[]⟩] 30 (0, 0))) := ((hbV.block _ (by have := HL4.out; omega)).trans (HB5.out.block _ (by have := HL4.out; omega))).trans HK.out
    have HB0 : Hid (Below w.heap.size w (u5.alloc (.cells #[.int .i64 cd, .int .i64 0, .int .i64 0, .int .i64 (st + (zs.length : Int)), .string mem] 30))) := (HG4.out.trans (HB5.out.mono HG4.out.size)).trans (hbV.mono (Nat.le_trans HG4.out.size HB5.out.size))
    have HN0 : Hid (¬ u5.heap.size = w.heap.size ∧ ¬ u5.heap.size = u3.heap.size ∧ w.heap.size ≤ u5.heap.size) := ⟨by have := HL4.out; omega, by have := HL4.out; omega, by have := HL4.out; omega⟩
    clear hbV hz5 f0 f1 f2 f3 ff k7
    generalize (u5.alloc (.cells #[.int .i64 cd, .int .i64 0, .int .i64 0, .int .i64 (st + (zs.length : Int)), .string mem] 30)) = V at HX0 HV0 HR0 HB0 ⊢
    generalize u5.heap.size = BX at HX0 HN0 ⊢
    have HX : Hid (V.heap[BX]? = some (.cells #[.int .i64 cd, .int .i64 0, .int .i64 0, .int .i64 (st + (zs.length : Int)), .string mem] 30 (0, 0))) := HX0.out
    obtain ⟨x0, x1, x2, x3, x4, xf⟩ := cel5 HX.out
    obtain ⟨y0, y1, y2, y3, yf⟩ := HV0.out.cells
    obtain ⟨z0, z1, z2, z3, z4, zf⟩ := cel5 HR0.out
    simp only at y1 y2 y3
    have hq1 : ¬ BX = w.heap.size := HN0.out.1
    have hq2 : ¬ w.heap.size = BX := fun e => hq1 e.symm
    have hq3 : ¬ BX = u3.heap.size := HN0.out.2.1
    have hq4 : ¬ u3.heap.size = BX := fun e => hq3 e.symm
    clear HX HX0 HV0 HR0 HB5 HGx HC HD HT HM4 HM4b HK HG4 g0 g1 g2 g3 gf c0 c1 c2 c3 c4 c5 c6 c7 c8 cf
    go_wp2
    refine bodyPost_ret (v := twA ⟨cd, 0, 0, st + (zs.length : Int), mem⟩) (by simp [results, Try.results15, go_sem, twA, z0, z1, z2, z3, z4]) rfl ⟨rfl, ?_⟩
    have hl : w.heap.size ≤ w.heap.size := Nat.le_refl _
    exact (((((HB0.out.setCell hl _).setCell hl _).setCell hl _).setCell hl _).setCell hl _)
  · have HX0 : Hid ((((((u5.setCell ⟨u4.heap.size, 0, none⟩ (.int .i64 cd)).setCell ⟨u4.heap.size, 1, none⟩ (.int .i64 0)).setCell ⟨u4.heap.size, 2, none⟩ (.int .i64 0)).setCell ⟨u4.heap.size, 3, none⟩ (.int .i64 (st + (zs.length : Int)))).setCell ⟨u4.heap.size, 4, none⟩ (.string mem)).heap[u4.heap.size]? = some (.cells #[.int .i64 cd, .int .i64 0, .int .i64 0, .int .i64 (st + (zs.length : Int)), .string mem] 30 (0, 0))) := by
      have h0 := HX5.out
      show _ = _
      simp [World.setCell, Array.getElem?_modify, h0]
    have HV0 : Hid (GBx (((((u5.setCell ⟨u4.heap.size, 0, none⟩ (.int .i64 cd)).setCell ⟨u4.heap.size, 1, none⟩ (.int .i64 0)).setCell ⟨u4.heap.size, 2, none⟩ (.int .i64 0)).setCell ⟨u4.heap.size, 3, none⟩ (.int .i64 (st + (zs.length : Int)))).setCell ⟨u4.heap.size, 4, none⟩ (.string mem)) u3.heap.size (w.heap.size + 1) n ⟨host, st, pl⟩) := HGx.out.block (by
      rw [Below.heap_setCell _ _ _ _ hn1, Below.heap_setCell _ _ _ _ hn1, Below.heap_setCell _ _ _ _ hn1, Below.heap_setCell _ _ _ _ hn1, Below.heap_setCell _ _ _ _ hn1]
      exact HB5.out.block _ (by have := HL4.out; omega))
    have hnw : ¬ w.heap.size = u4.heap.size := by have := HL4.out; omega
    have HR0 : Hid ((((((u5.setCell ⟨u4.heap.size, 0, none⟩ (.int .i64 cd)).setCell ⟨u4.heap.size, 1, none⟩ (.int .i64 0)).setCell ⟨u4.heap.size, 2, none⟩ (.int .i64 0)).setCell ⟨u4.heap.size, 3, none⟩ (.int .i64 (st + (zs.length : Int)))).setCell ⟨u4.heap.size, 4, none⟩ (.string mem)).heap[w.heap.size]? = some (.cells #[.int .i64 0, .int .i64 0, .int .i64 0, .int .i64 0, .string ⟨#[]⟩] 30 (0, 0))) := by
      show _ = _
      rw [Below.heap_setCell _ _ _ _ hnw, Below.heap_setCell _ _ _ _ hnw, Below.heap_setCell _ _ _ _ hnw, Below.heap_setCell _ _ _ _ hnw, Below.heap_setCell _ _ _ _ hnw]
      exact (HB5.out.block _ (by have := HL4.out; omega)).trans HK.out
    have HB0 : Hid (Below w.heap.size w (((((u5.setCell ⟨u4.heap.size, 0, none⟩ (.int .i64 cd)).setCell ⟨u4.heap.size, 1, none⟩ (.int .i64 0)).setCell ⟨u4.heap.size, 2, none⟩ (.int .i64 0)).setCell ⟨u4.heap.size, 3, none⟩ (.int .i64 (st + (zs.length : Int)))).setCell ⟨u4.heap.size, 4, none⟩ (.string mem))) := by
      have h6 : Below w.heap.size w u5 := HG4.out.trans (HB5.out.mono HG4.out.size)
      have hl : w.heap.size ≤ u4.heap.size := HG4.out.size
      exact ((((h6.setCell hl _).setCell hl _).setCell hl _).setCell hl _).setCell hl _
    have HN0 : Hid (¬ u4.heap.size = w.heap.size ∧ ¬ u4.heap.size = u3.heap.size ∧ w.heap.size ≤ u4.heap.size) := ⟨by have := HL4.out; omega, by have := HL4.out; omega, by have := HL4.out; omega⟩
    clear f0 f1 f2 f3 ff k7 t0 t1 t2 t3 t4 tf hn1 hn4 hn5 hn6 hnw HX5
    generalize (((((u5.setCell ⟨u4.heap.size, 0, none⟩ (.int .i64 cd)).setCell ⟨u4.heap.size, 1, none⟩ (.int .i64 0)).setCell ⟨u4.heap.size, 2, none⟩ (.int .i64 0)).setCell ⟨u4.heap.size, 3, none⟩ (.int .i64 (st + (zs.length : Int)))).setCell ⟨u4.heap.size, 4, none⟩ (.string mem)) = V at HX0 HV0 HR0 HB0 ⊢
    generalize u4.heap.size = BX at HX0 HN0 ⊢
    have HX : Hid (V.heap[BX]? = some (.cells #[.int .i64 cd, .int .i64 0, .int .i64 0, .int .i64 (st + (zs.length : Int)), .string mem] 30 (0, 0))) := HX0.out
    obtain ⟨x0, x1, x2, x3, x4, xf⟩ := cel5 HX.out
    obtain ⟨y0, y1, y2, y3, yf⟩ := HV0.out.cells
    obtain ⟨z0, z1, z2, z3, z4, zf⟩ := cel5 HR0.out
    simp only at y1 y2 y3
    have hq1 : ¬ BX = w.heap.size := HN0.out.1
    have hq2 : ¬ w.heap.size = BX := fun e => hq1 e.symm
    have hq3 : ¬ BX = u3.heap.size := HN0.out.2.1
    have hq4 : ¬ u3.heap.size = BX := fun e => hq3 e.symm
    clear HX HX0 HV0 HR0 HB5 HGx HC HD HT HM4 HM4b HK HG4 g0 g1 g2 g3 gf c0 c1 c2 c3 c4 c5 c6 c7 c8 cf
    go_wp2
    refine bodyPost_ret (v := twA ⟨cd, 0, 0, st + (zs.length : Int), mem⟩) (by simp [results, Try.results15, go_sem, twA, z0, z1, z2, z3, z4]) rfl ⟨rfl, ?_⟩
    have hl : w.heap.size ≤ w.heap.size := Nat.le_refl _
    exact (((((HB0.out.setCell hl _).setCell hl _).setCell hl _).setCell hl _).setCell hl _)

set_option maxRecDepth 100000 in
set_option maxHeartbeats 4000000 in
theorem implTwo_f3 (s : ByteArray) (host root va : Nat) (acc : Int) (user : Bool) (w : World) (hm : memOk s = true) (r0 : host ≤ 255) (r1 : root ≤ 255) (v1 : va ≤ 262143) (a1 : 1 ≤ acc) (a2 : acc ≤ 3) (hf : (finG (feG s host root va 0) host va acc user).code = 3) :
    Calls Try.prog 15 #[.string s, .int .i64 host, .int .i64 root, .int .i64 va, .int .i64 acc, .bool user] w fun e w' => e = .returned (twA ⟨3, (finG (feG s host root va 0) host va acc user).place, 0, (finG (feG s host root va 0) host va acc user).steps + ((finG (feG s host root va 0) host va acc user).zs.length : Int), (finG (feG s host root va 0) host va acc user).mem⟩) ∧ Below w.heap.size w w' := by
  have hc : Hid _ := memC_ok hm
  obtain ⟨hs0, hs1, hs2⟩ := memOk_b hm
  obtain ⟨n, hn⟩ : ∃ n, s.size = n * 256 := ⟨s.size / 256, by omega⟩
  have hRt := fun w => isRoot_any (root : Int) w
  have hRh := fun w => isRoot_any (host : Int) w
  have hVt := fun w => isVirtual_any (va : Int) w
  rw [show (decide (0 ≤ (root : Int)) && decide ((root : Int) ≤ 255)) = true by simp; omega] at hRt
  rw [show (decide (0 ≤ (host : Int)) && decide ((host : Int) ≤ 255)) = true by simp; omega] at hRh
  rw [show (decide (0 ≤ (va : Int)) && decide ((va : Int) < 262144)) = true by simp; omega] at hVt
  have HRM : Hid _ := fun w => readMemory_any s n w hn (by omega)
  have V : Hid (va ≤ 262143) := v1
  have HF : Hid (∀ {w0 wr : World} {b G B : Nat} {rv : Value} (h : GW w0 b G B n s ⟨host, 0, 0⟩ wr rv [] ⟨va, acc, user, 0, 0, false, 0⟩), _) := fun {w0 wr b G B rv} h => findG h hn (by omega) root (by omega) v1 r0 (Int.le_refl 0) (show (0 : Int) ≤ 100 by decide) a1 a2
  simp only at HF
  have hO := finG_ok s 0 (feG s host root va 0) host va acc user (feG_ok s host root va 0 r1 v1)
  obtain ⟨d, hd⟩ : ∃ d, finG (feG s host root va 0) host va acc user = d := ⟨_, rfl⟩
  rw [hd] at HF hO hf ⊢
  obtain ⟨cd, pa, zs, mem, st, pl⟩ := d
  have hzl := hO.zl
  have hsz := hO.size
  have hst0 := hO.s0
  have hst1 := hO.s1
  have HPa : Hid _ := hO.pa
  simp only at *
  have HN : Hid (s.size = n * 256) := hn
  have hn1 : n ≤ 256 := by omega
  clear hd v1 hm hn hs0 hs1 hs2 hO
  go_enter Try.func15, Try.ntmps15
  go_wp2_with (first | (go_at_call 51; refine (implMemFault_any _ _ (by have := HN.out; omega)).mono ?_; rintro e u1 ⟨rfl, hu1⟩; rw [hu1, hc.out]; clear hu1) | (go_at_call 52; refine Calls.mono (hRh _) ?_; rintro e u2 ⟨rfl, hu2⟩; rw [hu2]; clear hu2 hRh) | (go_at_call 52; refine Calls.mono (hRt _) ?_; rintro e u2 ⟨rfl, hu2⟩; rw [hu2]; clear hu2) | (go_at_call 53; refine Calls.mono (hVt _) ?_; rintro e u2 ⟨rfl, hu2⟩; rw [hu2]; clear hu2) | (go_at_call 54; refine (isAccess_yes _ _ a1 a2).mono ?_; rintro e u2 ⟨rfl, hu2⟩; rw [hu2]; clear hu2) | (go_at_call 55; refine Calls.mono (HRM.out _) ?_; rintro e u3 ⟨rfl, hM3, hB3, hS3⟩; unfold mv; have HM3 : Hid _ := hM3; have HB3 : Hid _ := hB3; have HS3 : Hid _ := hS3; clear hM3 hB3 hS3) | fail)
  have HI : Hid (GW (u3.alloc (.cells #[mv (w.heap.size + 1) n, .int .i64 host, .int .i64 0, .int .i64 0] 103)) (w.heap.size + 1) u3.heap.size (u3.heap.size + 1) n s ⟨host, 0, 0⟩ ((u3.alloc (.cells #[mv (w.heap.size + 1) n, .int .i64 host, .int .i64 0, .int .i64 0] 103)).alloc (.cells #[.iface 101 (.pointer (some ⟨u3.heap.size, 0, none⟩)), .int .i64 va, .int .i64 acc, .bool user, .int .i64 0, .int .i64 0, .bool false, .slice none 0 0, .int .i64 0, .bool false] 92)) (.slice none 0 0) [] ⟨va, acc, user, 0, 0, false, 0⟩) := by
    have h1 : MemAt u3 (w.heap.size + 1) s := by
      have h0 := HM3.out
      simp only [World.size_alloc] at h0
      exact h0
    have h2 := h1.lt
    have hb1 : Below u3.heap.size u3 (u3.alloc (.cells #[mv (w.heap.size + 1) n, .int .i64 host, .int .i64 0, .int .i64 0] 103)) := (Below.refl _ _).alloc (Nat.le_refl _) _
    have hb2 : Below (u3.alloc (.cells #[mv (w.heap.size + 1) n, .int .i64 host, .int .i64 0, .int .i64 0] 103)).heap.size (u3.alloc (.cells #[mv (w.heap.size + 1) n, .int .i64 host, .int .i64 0, .int .i64 0] 103)) ((u3.alloc (.cells #[mv (w.heap.size + 1) n, .int .i64 host, .int .i64 0, .int .i64 0] 103)).alloc (.cells #[.iface 101 (.pointer (some ⟨u3.heap.size, 0, none⟩)), .int .i64 va, .int .i64 acc, .bool user, .int .i64 0, .int .i64 0, .bool false, .slice none 0 0, .int .i64 0, .bool false] 92)) := (Below.refl _ _).alloc (Nat.le_refl _) _
    have hz : (u3.alloc (.cells #[mv (w.heap.size + 1) n, .int .i64 host, .int .i64 0, .int .i64 0] 103)).heap.size = u3.heap.size + 1 := by simp
    have hx := heap_new (u3.alloc (.cells #[mv (w.heap.size + 1) n, .int .i64 host, .int .i64 0, .int .i64 0] 103)) (.cells #[.iface 101 (.pointer (some ⟨u3.heap.size, 0, none⟩)), .int .i64 va, .int .i64 acc, .bool user, .int .i64 0, .int .i64 0, .bool false, .slice none 0 0, .int .i64 0, .bool false] 92)
    rw [hz] at hx
    refine ⟨g2_below ⟨rfl, rfl, rfl, Nat.le_refl _, fun _ _ _ _ => rfl⟩ hb2, (h1.below hb1 h1.lt).below hb2 (by rw [hz]; omega), ?_, ⟨false, hx⟩, World.ownsRow_nil _ _ _ _, by rw [hz]; exact Nat.le_refl _, h2, by omega⟩
    exact (hb2.block _ (by rw [hz]; omega)).trans (heap_new _ _)
  have HRb : Hid (u3.heap[w.heap.size]? = some (.cells #[.int .i64 0, .int .i64 0, .int .i64 0, .int .i64 0, .string ⟨#[]⟩] 30 (0, 0))) := (HB3.out.block _ (by simp)).trans (heap_new _ _)
  have HLt : Hid (w.heap.size + 1 < u3.heap.size) := by
    have h2 := HS3.out
    simp only [World.size_alloc] at h2
    show w.heap.size + 1 < u3.heap.size
    omega
  have HBw : Hid (Below w.heap.size w (u3.alloc (.cells #[mv (w.heap.size + 1) n, .int .i64 host, .int .i64 0, .int .i64 0] 103))) := by
    have h0 : Below w.heap.size w _ := (Below.refl _ _).alloc (Nat.le_refl _) (.cells #[.int .i64 0, .int .i64 0, .int .i64 0, .int .i64 0, .string ⟨#[]⟩] 30)
    have h1 := h0.trans (HB3.out.mono (by simp))
    exact h1.alloc h1.size _
  have HRw : Hid ((u3.alloc (.cells #[mv (w.heap.size + 1) n, .int .i64 host, .int .i64 0, .int .i64 0] 103)).heap[w.heap.size]? = some (.cells #[.int .i64 0, .int .i64 0, .int .i64 0, .int .i64 0, .string ⟨#[]⟩] 30 (0, 0))) := (Below.heap_alloc _ _ _ (by have := HLt.out; omega)).trans HRb.out
  have HZw : Hid ((u3.alloc (.cells #[mv (w.heap.size + 1) n, .int .i64 host, .int .i64 0, .int .i64 0] 103)).heap.size = u3.heap.size + 1) := by simp [Hid]
  clear HB3 HS3 HM3 HRb
  refine Calls.mono (HF.out HI.out) ?_
  rintro e u4 ⟨rfl, rv', x', hG, hx4⟩
  generalize u3.alloc (.cells #[mv (w.heap.size + 1) n, .int .i64 host, .int .i64 0, .int .i64 0] 103) = wA at hG HBw HRw HZw
  clear HI HF
  subst hf
  obtain ⟨ao, cap, hv⟩ := hG.sl
  subst hv
  have HK : Hid (u4.heap[w.heap.size]? = some (.cells #[.int .i64 0, .int .i64 0, .int .i64 0, .int .i64 0, .string ⟨#[]⟩] 30 (0, 0))) := (hG.grw.block _ (by have := HZw.out; have := HLt.out; omega) (by omega) (by have := HLt.out; omega)).trans HRw.out
  have HM4 : Hid (MemAt u4 (w.heap.size + 1) mem) := hG.mem
  have HM4b : Hid (MemAt (u4.alloc (.cells #[.int .i64 0, .int .i64 0, .int .i64 0, .int .i64 0, .string ⟨#[]⟩] 30)) (w.heap.size + 1) mem) := HM4.out.below ((Below.refl _ _).alloc (Nat.le_refl _) _) HM4.out.lt
  have HG4 : Hid (Below w.heap.size w u4) := by
    have hg := hG.grw
    have hb := HBw.out
    exact ⟨hg.os.trans hb.os, hg.tape.trans hb.tape, hg.output.trans hb.output, Nat.le_trans hb.size hg.size, fun k hk => (hg.block k (Nat.lt_of_lt_of_le hk hb.size) (by omega) (by have := HLt.out; omega)).trans (hb.block k hk)⟩
  have HL4 : Hid (w.heap.size + 1 < u3.heap.size ∧ u3.heap.size + 1 < u4.heap.size) := ⟨HLt.out, hG.box.lt⟩
  have HGx : Hid (GBx u4 u3.heap.size (w.heap.size + 1) n ⟨host, st, pl⟩) := hG.gbx
  have HC : Hid (∀ v, Below u4.heap.size u4 v → _) := fun v hv => (hG.below hv).gbx.cells
  have HD : Hid (∀ v, Below u4.heap.size u4 v → v.cell? ⟨u3.heap.size + 1, 7, none⟩ = some (.slice ao zs.length cap)) := fun v hv => (hG.below hv).box.cells.2.2.2.2.2.2.2.1
  obtain ⟨g0, g1, g2, g3, gf⟩ := hG.gbx.cells
  obtain ⟨c0, c1, c2, c3, c4, c5, c6, c7, c8, cf⟩ := hG.box.cells
  have HT : Hid _ := fun (w' : World) (hM : MemAt w' (w.heap.size + 1) mem) => memText_any (w.heap.size + 1) mem n w' hM (by have := HN.out; omega) (by have := HN.out; omega)
  have hw9 : IntKind.i64.wrap (st + (zs.length : Int)) = st + (zs.length : Int) := by rw [IntKind.wrap_i64]; omega
  simp only at g1 g2 g3 c1 c2 c3 c4 c5 c6 c8
  clear hG
  go_wp2
  go_region_held (fun w' => w'.cell? ⟨u3.heap.size, 2, none⟩ = some (.int .i64 (st)) ∧ w'.cell? ⟨u3.heap.size + 1, 7, none⟩ = some (.slice ao zs.length cap) ∧ w'.cell? ⟨u3.heap.size, 0, none⟩ = some (.slice (some ⟨w.heap.size + 1, 0, none⟩) n n)) (go_keep) ((first | (go_at_call 57; refine Calls.mono (HT.out u4.drew (by exact HM4.out)) ?_; rintro e u5 ⟨rfl, hu5⟩; have hb5 : Below u4.heap.size u4 u5 := ⟨hu5.os, hu5.tape, hu5.output, hu5.size, hu5.block⟩; have HB5 : Hid (Below u4.heap.size u4 u5) := hb5; obtain ⟨f0, f1, f2, f3, ff⟩ := HC.out u5 hb5; have k7 := HD.out u5 hb5; (try simp only at f0 f1 f2 f3); clear hu5 hb5) | (go_at_call 57; refine Calls.mono (HT.out (u4.alloc (.cells #[.int .i64 0, .int .i64 0, .int .i64 0, .int .i64 0, .string ⟨#[]⟩] 30)).drew (by exact HM4b.out)) ?_; rintro e u5 ⟨rfl, hu5⟩; have hb2 : Below (u4.alloc (.cells #[.int .i64 0, .int .i64 0, .int .i64 0, .int .i64 0, .string ⟨#[]⟩] 30)).heap.size (u4.alloc (.cells #[.int .i64 0, .int .i64 0, .int .i64 0, .int .i64 0, .string ⟨#[]⟩] 30)) u5 := ⟨hu5.os, hu5.tape, hu5.output, hu5.size, hu5.block⟩; have hb5 : Below u4.heap.size u4 u5 := ((Below.refl _ _).alloc (Nat.le_refl _) _).trans (hb2.mono (by simp)); have HB5 : Hid (Below u4.heap.size u4 u5) := hb5; obtain ⟨f0, f1, f2, f3, ff⟩ := HC.out u5 hb5; have k7 := HD.out u5 hb5; (try simp only at f0 f1 f2 f3); have hx5 := (hb2.block u4.heap.size (by simp)).trans (heap_new _ _); have HX5 : Hid _ := hx5; obtain ⟨t0, t1, t2, t3, t4, tf⟩ := cel5 hx5; have hn1 : ¬ u3.heap.size = u4.heap.size := (by have := HL4.out; omega); have hn4 : ¬ u4.heap.size = u3.heap.size := (fun e => hn1 e.symm); have hn5 : ¬ u3.heap.size + 1 = u4.heap.size := (by have := HL4.out; omega); have hn6 : ¬ u4.heap.size = u3.heap.size + 1 := (fun e => hn5 e.symm); clear hu5 hb5 hb2 hx5)))
  · have HX0 : Hid ((u5.alloc (.cells #[.int .i64 3, .int .i64 0, .int .i64 0, .int .i64 (st + (zs.length : Int)), .string mem] 30)).heap[u5.heap.size]? = some (.cells #[.int .i64 3, .int .i64 0, .int .i64 0, .int .i64 (st + (zs.length : Int)), .string mem] 30 (0, 0))) := heap_new _ _
    have hbV : Below u5.heap.size u5 (u5.alloc (.cells #[.int .i64 3, .int .i64 0, .int .i64 0, .int .i64 (st + (zs.length : Int)), .string mem] 30)) := (Below.refl _ _).alloc (Nat.le_refl _) _
    have hz5 := HB5.out.size
    have HV0 : Hid (GBx (u5.alloc (.cells #[.int .i64 3, .int .i64 0, .int .i64 0, .int .i64 (st + (zs.length : Int)), .string mem] 30)) u3.heap.size (w.heap.size + 1) n ⟨host, st, pl⟩) := HGx.out.block ((hbV.block _ (by have := HL4.out; omega)).trans (HB5.out.block _ (by have := HL4.out; omega)))
    have HR0 : Hid ((u5.alloc (.cells #[.int .i64 3, .int .i64 0, .int .i64 0, .int .i64 (st + (zs.length : Int)), .string mem] 30)).heap[w.heap.size]? = some (.cells #[.int .i64 0, .int .i64 0, .int .i64 0, .int .i64 0, .string ⟨#[]⟩] 30 (0, 0))) := ((hbV.block _ (by have := HL4.out; omega)).trans (HB5.out.block _ (by have := HL4.out; omega))).trans HK.out
    have HB0 : Hid (Below w.heap.size w (u5.alloc (.cells #[.int .i64 3, .int .i64 0, .int .i64 0, .int .i64 (st + (zs.length : Int)), .string mem] 30))) := (HG4.out.trans (HB5.out.mono HG4.out.size)).trans (hbV.mono (Nat.le_trans HG4.out.size HB5.out.size))
    have HN0 : Hid (¬ u5.heap.size = w.heap.size ∧ ¬ u5.heap.size = u3.heap.size ∧ w.heap.size ≤ u5.heap.size) := ⟨by have := HL4.out; omega, by have := HL4.out; omega, by have := HL4.out; omega⟩
    clear hbV hz5 f0 f1 f2 f3 ff k7
    generalize (u5.alloc (.cells #[.int .i64 3, .int .i64 0, .int .i64 0, .int .i64 (st + (zs.length : Int)), .string mem] 30)) = V at HX0 HV0 HR0 HB0 ⊢
    generalize u5.heap.size = BX at HX0 HN0 ⊢
    have HX : Hid (V.heap[BX]? = some (.cells #[.int .i64 3, .int .i64 0, .int .i64 0, .int .i64 (st + (zs.length : Int)), .string mem] 30 (0, 0))) := HX0.out
    obtain ⟨x0, x1, x2, x3, x4, xf⟩ := cel5 HX.out
    obtain ⟨y0, y1, y2, y3, yf⟩ := HV0.out.cells
    obtain ⟨z0, z1, z2, z3, z4, zf⟩ := cel5 HR0.out
    simp only at y1 y2 y3
    have hq1 : ¬ BX = w.heap.size := HN0.out.1
    have hq2 : ¬ w.heap.size = BX := fun e => hq1 e.symm
    have hq3 : ¬ BX = u3.heap.size := HN0.out.2.1
    have hq4 : ¬ u3.heap.size = BX := fun e => hq3 e.symm
    clear HX HX0 HV0 HR0 HB5 HGx HC HD HT HM4 HM4b HK HG4 g0 g1 g2 g3 gf c0 c1 c2 c3 c4 c5 c6 c7 c8 cf
    go_wp2
    refine bodyPost_ret (v := twA ⟨3, pl, 0, st + (zs.length : Int), mem⟩) (by simp [results, Try.results15, go_sem, twA, z0, z1, z2, z3, z4]) rfl ⟨rfl, ?_⟩
    have hl : w.heap.size ≤ w.heap.size := Nat.le_refl _
    exact ((((((HB0.out.setCell HN0.out.2.2 _).setCell hl _).setCell hl _).setCell hl _).setCell hl _).setCell hl _)
  · have HX0 : Hid ((((((u5.setCell ⟨u4.heap.size, 0, none⟩ (.int .i64 3)).setCell ⟨u4.heap.size, 1, none⟩ (.int .i64 0)).setCell ⟨u4.heap.size, 2, none⟩ (.int .i64 0)).setCell ⟨u4.heap.size, 3, none⟩ (.int .i64 (st + (zs.length : Int)))).setCell ⟨u4.heap.size, 4, none⟩ (.string mem)).heap[u4.heap.size]? = some (.cells #[.int .i64 3, .int .i64 0, .int .i64 0, .int .i64 (st + (zs.length : Int)), .string mem] 30 (0, 0))) := by
      have h0 := HX5.out
      show _ = _
      simp [World.setCell, Array.getElem?_modify, h0]
    have HV0 : Hid (GBx (((((u5.setCell ⟨u4.heap.size, 0, none⟩ (.int .i64 3)).setCell ⟨u4.heap.size, 1, none⟩ (.int .i64 0)).setCell ⟨u4.heap.size, 2, none⟩ (.int .i64 0)).setCell ⟨u4.heap.size, 3, none⟩ (.int .i64 (st + (zs.length : Int)))).setCell ⟨u4.heap.size, 4, none⟩ (.string mem)) u3.heap.size (w.heap.size + 1) n ⟨host, st, pl⟩) := HGx.out.block (by
      rw [Below.heap_setCell _ _ _ _ hn1, Below.heap_setCell _ _ _ _ hn1, Below.heap_setCell _ _ _ _ hn1, Below.heap_setCell _ _ _ _ hn1, Below.heap_setCell _ _ _ _ hn1]
      exact HB5.out.block _ (by have := HL4.out; omega))
    have hnw : ¬ w.heap.size = u4.heap.size := by have := HL4.out; omega
    have HR0 : Hid ((((((u5.setCell ⟨u4.heap.size, 0, none⟩ (.int .i64 3)).setCell ⟨u4.heap.size, 1, none⟩ (.int .i64 0)).setCell ⟨u4.heap.size, 2, none⟩ (.int .i64 0)).setCell ⟨u4.heap.size, 3, none⟩ (.int .i64 (st + (zs.length : Int)))).setCell ⟨u4.heap.size, 4, none⟩ (.string mem)).heap[w.heap.size]? = some (.cells #[.int .i64 0, .int .i64 0, .int .i64 0, .int .i64 0, .string ⟨#[]⟩] 30 (0, 0))) := by
      show _ = _
      rw [Below.heap_setCell _ _ _ _ hnw, Below.heap_setCell _ _ _ _ hnw, Below.heap_setCell _ _ _ _ hnw, Below.heap_setCell _ _ _ _ hnw, Below.heap_setCell _ _ _ _ hnw]
      exact (HB5.out.block _ (by have := HL4.out; omega)).trans HK.out
    have HB0 : Hid (Below w.heap.size w (((((u5.setCell ⟨u4.heap.size, 0, none⟩ (.int .i64 3)).setCell ⟨u4.heap.size, 1, none⟩ (.int .i64 0)).setCell ⟨u4.heap.size, 2, none⟩ (.int .i64 0)).setCell ⟨u4.heap.size, 3, none⟩ (.int .i64 (st + (zs.length : Int)))).setCell ⟨u4.heap.size, 4, none⟩ (.string mem))) := by
      have h6 : Below w.heap.size w u5 := HG4.out.trans (HB5.out.mono HG4.out.size)
      have hl : w.heap.size ≤ u4.heap.size := HG4.out.size
      exact ((((h6.setCell hl _).setCell hl _).setCell hl _).setCell hl _).setCell hl _
    have HN0 : Hid (¬ u4.heap.size = w.heap.size ∧ ¬ u4.heap.size = u3.heap.size ∧ w.heap.size ≤ u4.heap.size) := ⟨by have := HL4.out; omega, by have := HL4.out; omega, by have := HL4.out; omega⟩
    clear f0 f1 f2 f3 ff k7 t0 t1 t2 t3 t4 tf hn1 hn4 hn5 hn6 hnw HX5
    generalize (((((u5.setCell ⟨u4.heap.size, 0, none⟩ (.int .i64 3)).setCell ⟨u4.heap.size, 1, none⟩ (.int .i64 0)).setCell ⟨u4.heap.size, 2, none⟩ (.int .i64 0)).setCell ⟨u4.heap.size, 3, none⟩ (.int .i64 (st + (zs.length : Int)))).setCell ⟨u4.heap.size, 4, none⟩ (.string mem)) = V at HX0 HV0 HR0 HB0 ⊢
    generalize u4.heap.size = BX at HX0 HN0 ⊢
    have HX : Hid (V.heap[BX]? = some (.cells #[.int .i64 3, .int .i64 0, .int .i64 0, .int .i64 (st + (zs.length : Int)), .string mem] 30 (0, 0))) := HX0.out
    obtain ⟨x0, x1, x2, x3, x4, xf⟩ := cel5 HX.out
    obtain ⟨y0, y1, y2, y3, yf⟩ := HV0.out.cells
    obtain ⟨z0, z1, z2, z3, z4, zf⟩ := cel5 HR0.out
    simp only at y1 y2 y3
    have hq1 : ¬ BX = w.heap.size := HN0.out.1
    have hq2 : ¬ w.heap.size = BX := fun e => hq1 e.symm
    have hq3 : ¬ BX = u3.heap.size := HN0.out.2.1
    have hq4 : ¬ u3.heap.size = BX := fun e => hq3 e.symm
    clear HX HX0 HV0 HR0 HB5 HGx HC HD HT HM4 HM4b HK HG4 g0 g1 g2 g3 gf c0 c1 c2 c3 c4 c5 c6 c7 c8 cf
    go_wp2
    refine bodyPost_ret (v := twA ⟨3, pl, 0, st + (zs.length : Int), mem⟩) (by simp [results, Try.results15, go_sem, twA, z0, z1, z2, z3, z4]) rfl ⟨rfl, ?_⟩
    have hl : w.heap.size ≤ w.heap.size := Nat.le_refl _
    exact ((((((HB0.out.setCell HN0.out.2.2 _).setCell hl _).setCell hl _).setCell hl _).setCell hl _).setCell hl _)
end Go.Proofs.Ytjaelkagacmpkaa
