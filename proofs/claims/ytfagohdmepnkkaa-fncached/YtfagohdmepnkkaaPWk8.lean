import Derived.Test.YtfagohdmepnkkaaPWk7
import Derived.Deep.RegionHeld
namespace Go.Proofs.Ytfagohdmepnkkaa
open Go.ChangeShapes Go.WideShapes Go.ChangeAt Go.RowKit

set_option maxRecDepth 100000 in
set_option maxHeartbeats 4000000 in
theorem implWalk_good (s : ByteArray) (root va : Nat) (acc : Int) (user : Bool) (w : World) (hm : memOk s = true) (r1 : root ≤ 255) (v1 : va ≤ 262143) (a1 : 1 ≤ acc) (a2 : acc ≤ 3) (hf : (walkV s root va acc user).fault = 0) :
    Calls Try.prog 28 #[.string s, .int .i64 root, .int .i64 va, .int .i64 acc, .bool user] w fun e w' => ∃ v, e = .returned (wkA (walkV s root va acc user) v) ∧ w'.ownsRow w.heap.size 2 1 v (walkV s root va acc user).reads.length ((walkV s root va acc user).reads.map (Value.int .i64)) ∧ Below w.heap.size w w' := by
  have hc : Hid _ := memC_ok hm
  obtain ⟨hs0, hs1, hs2⟩ := memOk_b hm
  obtain ⟨n, hn⟩ : ∃ n, s.size = n * 256 := ⟨s.size / 256, by omega⟩
  have hRt := fun w => isRoot_any (root : Int) w
  have hVt := fun w => isVirtual_any (va : Int) w
  rw [show (decide (0 ≤ (root : Int)) && decide ((root : Int) ≤ 255)) = true by simp; omega] at hRt
  rw [show (decide (0 ≤ (va : Int)) && decide ((va : Int) < 262144)) = true by simp; omega] at hVt
  have HRM : Hid _ := fun w => readMemory_any s n w hn (by omega)
  have hsz := walkV_size s root va acc user v1
  have V : Hid (va ≤ 262143) := v1
  obtain ⟨r, hr⟩ : ∃ r, walkV s root va acc user = r := ⟨_, rfl⟩
  have HF : Hid (∀ {w0 wr : World} {b B : Nat} {rv : Value} (h : WSt w0 b B n s wr rv [] ⟨va, acc, user, 0, 0, false, 0⟩), _) := fun {w0 wr b B rv} h => findM h hn (by omega) root (by omega) v1 a1 a2
  simp only at HF
  have hbad := walkV_bad s root va acc user
  have hcode := walkV_f s root va acc user
  rw [hr] at hsz HF hbad hcode hf ⊢
  obtain ⟨flt, pa, en, lg, zs, mem⟩ := r
  simp only at *
  have HT : Hid _ := fun (b : Nat) (w : World) (hM : MemAt w b mem) => memText_any b mem n w hM (by omega) (by omega)
  have HN : Hid (s.size = n * 256) := hn
  have hn1 : n ≤ 256 := by omega
  clear hr v1 hm hn hs0 hs1 hs2
  go_enter Try.func28, Try.ntmps28
  go_wp2_with (first | (go_at_call 43; refine (implMemFault_any _ _ (by have := HN.out; omega)).mono ?_; rintro e u1 ⟨rfl, hu1⟩; rw [hu1, hc.out]; clear hu1) | (go_at_call 44; refine Calls.mono (hRt _) ?_; rintro e u2 ⟨rfl, hu2⟩; rw [hu2]; clear hu2) | (go_at_call 45; refine Calls.mono (hVt _) ?_; rintro e u2 ⟨rfl, hu2⟩; rw [hu2]; clear hu2) | (go_at_call 46; refine (isAccess_yes _ _ a1 a2).mono ?_; rintro e u2 ⟨rfl, hu2⟩; rw [hu2]; clear hu2) | (go_at_call 47; refine Calls.mono (HRM.out _) ?_; rintro e u3 ⟨rfl, hM3, hB3, hS3⟩; unfold mv; have HM3 : Hid _ := hM3; have HB3 : Hid _ := hB3; have HS3 : Hid _ := hS3; clear hM3 hB3 hS3) | fail)
  have HI : Hid (WSt u3 (w.heap.size + 1) u3.heap.size n s (u3.alloc (.cells #[.iface 85 (mv (w.heap.size + 1) n), .int .i64 va, .int .i64 acc, .bool user, .int .i64 0, .int .i64 0, .bool false, .slice none 0 0, .int .i64 0, .bool false] 92)) (.slice none 0 0) [] ⟨va, acc, user, 0, 0, false, 0⟩) := by
    have h1 : MemAt u3 (w.heap.size + 1) s := by
      have h0 := HM3.out
      simp only [World.size_alloc] at h0
      exact h0
    exact ⟨gb_below (gb_refl _ _) ((Below.refl _ _).alloc (Nat.le_refl _) _), h1.below ((Below.refl _ _).alloc (Nat.le_refl _) _) h1.lt, ⟨false, heap_new _ _⟩, World.ownsRow_nil _ _ _ _, Nat.le_refl _, h1.lt⟩
  have HRb : Hid (u3.heap[w.heap.size]? = some (.cells #[.int .i64 0, .int .i64 0, .int .i64 0, .bool false, .slice none 0 0, .string ⟨#[]⟩] 56 (0, 0))) := (HB3.out.block _ (by simp)).trans (heap_new _ _)
  have HLt : Hid (w.heap.size + 1 < u3.heap.size) := by
    have h2 := HS3.out
    simp only [World.size_alloc] at h2
    show w.heap.size + 1 < u3.heap.size
    omega
  have HBw : Hid (Below w.heap.size w u3) := by
    have h0 : Below w.heap.size w _ := (Below.refl _ _).alloc (Nat.le_refl _) (.cells #[.int .i64 0, .int .i64 0, .int .i64 0, .bool false, .slice none 0 0, .string ⟨#[]⟩] 56)
    exact h0.trans (HB3.out.mono (by simp))
  clear HB3 HS3 HM3
  refine Calls.mono (HF.out HI.out) ?_
  rintro e u4 ⟨rfl, rv', x', hst, hx1, hx2, hx3, hx4⟩
  have bR : u4.heap[w.heap.size]? = _ := (hst.grw.block _ (by have := HLt.out; omega) (fun e => by have := Option.some.inj e; omega)).trans HRb.out
  have HM4 : Hid (MemAt u4 (w.heap.size + 1) mem) := hst.mem
  have HO4 : Hid (u4.ownsRow (u3.heap.size + 1) 2 1 rv' zs.length (zs.map (Value.int .i64))) := hst.own
  have HG4 : Hid (Below w.heap.size w u4) := by
    have hg := hst.grw
    have hb := HBw.out
    exact ⟨hg.os.trans hb.os, hg.tape.trans hb.tape, hg.output.trans hb.output, Nat.le_trans hb.size hg.size, fun k hk => (hg.block k (Nat.lt_of_lt_of_le hk hb.size) (fun e => by have := Option.some.inj e; omega)).trans (hb.block k hk)⟩
  have HX4 : Hid (WBx u4 u3.heap.size (.iface 85 (mv (w.heap.size + 1) n)) rv' x') := hst.box
  have HL4 : Hid (w.heap.size + 1 < u3.heap.size ∧ u3.heap.size < u4.heap.size) := ⟨HLt.out, hst.box.lt⟩
  obtain ⟨ao, cap, hv⟩ := hst.sl
  subst hv
  obtain ⟨xva, xacc, xuser, xat, xe, xlg, xpa⟩ := x'
  simp only at hx1 hx2 hx3 hx4
  subst hx1 hx2 hx3
  have HK : Hid (∀ v, Below u4.heap.size u4 v → _) := fun v hv => cel6 ((hv.block w.heap.size (by have := HL4.out; omega)).trans bR)
  have HC : Hid (∀ v, Below u4.heap.size u4 v → _) := fun v hv => (HX4.out.block (hv.block u3.heap.size HL4.out.2)).cells
  obtain ⟨c0, c1, c2, c3, c4, c5, c6, c7, c8, cf⟩ := HX4.out.cells
  simp only at c0 c1 c2 c3 c4 c5 c6 c8
  clear hst HI HF
  subst hf
  obtain ⟨rfl, rfl, rfl⟩ := hx4 rfl
  clear hbad
  go_wp2
  have hneB : ¬ u3.heap.size = w.heap.size := by have := HL4.out; omega
  have hneB2 : ¬ w.heap.size = u3.heap.size := by have := HL4.out; omega
  go_region_held (fun w' => w'.cell? ⟨u3.heap.size, 8, none⟩ = some (.int .i64 xpa) ∧ w'.cell? ⟨u3.heap.size, 5, none⟩ = some (.int .i64 xe) ∧ w'.cell? ⟨u3.heap.size, 6, none⟩ = some (.bool xlg) ∧ w'.cell? ⟨u3.heap.size, 7, none⟩ = some (.slice ao zs.length cap)) (go_keep) ((go_at_call 51; refine Calls.mono (HT.out _ _ (by exact HM4.out)) ?_; rintro e u5 ⟨rfl, hu5⟩; have hb5 : Below u4.heap.size u4 u5 := ⟨hu5.os, hu5.tape, hu5.output, hu5.size, hu5.block⟩; have HB5 : Hid _ := hb5; obtain ⟨d0, d1, d2, d3, d4, d5, df⟩ := HK.out u5 hb5; obtain ⟨f0, f1, f2, f3, f4, f5, f6, f7, f8, ff⟩ := HC.out u5 hb5; (try simp only at f0 f1 f2 f3 f4 f5 f6 f8); clear hu5 hb5))
  all_goals
    go_wp2
    refine bodyPost_ret (v := wkA ⟨0, xpa, xe, xlg, zs, mem⟩ (.slice ao zs.length cap)) (by simp [results, Try.results28, go_sem, wkA, d0, d1, d2, d3, d4, d5]) rfl ⟨_, rfl, ?_, ?_⟩
    · have h5 := own_weak1 (own_below HO4.out HB5.out) (B' := w.heap.size) (by have := HL4.out; omega)
      refine own_set (own_set (own_set (own_set (own_set (own_set h5 ?_) ?_) ?_) ?_) ?_) ?_
      all_goals exact rowNe HO4.out _ (by have := HL4.out; simp; omega)
    · have hl : w.heap.size ≤ w.heap.size := Nat.le_refl _
      have h6 : Below w.heap.size w u5 := HG4.out.trans (HB5.out.mono HG4.out.size)
      exact (((((h6.setCell hl _).setCell hl _).setCell hl _).setCell hl _).setCell hl _).setCell hl _
end Go.Proofs.Ytfagohdmepnkkaa
