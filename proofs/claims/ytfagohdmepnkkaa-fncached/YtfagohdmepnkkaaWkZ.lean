import Derived.Test.YtfagohdmepnkkaaSWalkB
import Derived.Test.YtfagohdmepnkkaaSWalkC
import Derived.Test.YtfagohdmepnkkaaPWk7M
import Derived.Deep.RegionHeld
import Derived.Test.YtfagohdmepnkkaaPWk1
import Derived.Test.YtfagohdmepnkkaaSWalk
import Derived.Test.YtfagohdmepnkkaaWkM
import Derived.Test.YtfagohdmepnkkaaDr6
import Derived.BigQuiet
namespace Go.Proofs.Ytfagohdmepnkkaa
open Go.ChangeShapes Go.WideShapes Go.ChangeAt Go.RowKit

theorem finV_reads (s : ByteArray) (zs : List Int) (k : Nat) (lg : Bool) (va acc : Int) (user : Bool) : (finV s zs k lg va acc user).reads = zs := by
  unfold finV
  split <;> (try split) <;> rfl
set_option maxRecDepth 100000 in
theorem specWalk_yes (s : ByteArray) (root va : Nat) (acc : Int) (user : Bool) (w : World) (hm : memOk s = true) (r1 : root ≤ 255) (v1 : va ≤ 262143) (a1 : 1 ≤ acc) (a2 : acc ≤ 3) :
    Calls Try.prog 29 #[.string s, .int .i64 root, .int .i64 va, .int .i64 acc, .bool user] w fun e w' => ∃ v, e = .returned (wkA (walkV s root va acc user) v) ∧ w'.ownsRow w.heap.size 2 1 v (walkV s root va acc user).reads.length ((walkV s root va acc user).reads.map (Value.int .i64)) ∧ Below w.heap.size w w' := by
  have e1 : at1 root va = root * 256 + 4 * (va / 8192) := by unfold at1; omega
  have hb := wv_b s (root * 256 + 4 * (va / 8192))
  by_cases hr : (root + 1) * 256 ≤ s.size
  · by_cases h16 : wv s (root * 256 + 4 * (va / 8192)) % 16 = 1
    · by_cases ht : (wv s (root * 256 + 4 * (va / 8192)) / 256 + 1) * 256 ≤ (s.size : Int)
      · obtain ⟨T, hT⟩ := Int.eq_ofNat_of_zero_le (show 0 ≤ wv s (root * 256 + 4 * (va / 8192)) / 256 by omega)
        have E : walkV s root va acc user = finV s [(root : Int), (T : Int)] (T * 256 + 4 * (va / 256 % 32)) false va acc user := by
          unfold walkV
          rw [e1, if_pos (by omega), if_pos h16, if_pos ht]
          have e2 : at2 (wv s (root * 256 + 4 * (va / 8192))) va = T * 256 + 4 * (va / 256 % 32) := by
            unfold at2
            omega
          rw [e2, hT]
        rw [E, finV_reads]
        exact specWalk_B2 s root va acc user w hm r1 v1 a1 a2 hr h16 T hT (by omega)
      · have E : walkV s root va acc user = ⟨2, 0, 0, false, [(root : Int)], s⟩ := by
          unfold walkV
          rw [e1, if_pos (by omega), if_pos h16, if_neg ht]
        rw [E]
        exact specWalk_B1 s root va acc user w hm r1 v1 a1 a2 hr h16 (by omega)
    · have E : walkV s root va acc user = finV s [(root : Int)] (root * 256 + 4 * (va / 8192)) true va acc user := by
        unfold walkV
        rw [e1, if_pos (by omega), if_neg h16]
      rw [E, finV_reads]
      exact specWalk_C s root va acc user w hm r1 v1 a1 a2 hr h16
  · have E : walkV s root va acc user = ⟨2, 0, 0, false, [], s⟩ := by
      unfold walkV
      rw [if_neg (by omega)]
    rw [E]
    exact specWalk_A s root va acc user w hm r1 v1 a1 a2 (by omega)
theorem walkV_len (s : ByteArray) (root va acc : Int) (user : Bool) : (walkV s root va acc user).reads.length ≤ 2 := by
  unfold walkV
  split <;> (try split) <;> (try split) <;> simp [finV_reads]

set_option maxRecDepth 100000 in
set_option maxHeartbeats 4000000 in
theorem implWalk_bad (s : ByteArray) (root va : Nat) (acc : Int) (user : Bool) (w : World) (hm : memOk s = true) (r1 : root ≤ 255) (v1 : va ≤ 262143) (a1 : 1 ≤ acc) (a2 : acc ≤ 3) (hf : ¬ (walkV s root va acc user).fault = 0) :
    Calls Try.prog 28 #[.string s, .int .i64 root, .int .i64 va, .int .i64 acc, .bool user] w fun e w' => ∃ v, e = .returned (wkA (walkV s root va acc user) v) ∧ w'.ownsRow w.heap.size 2 1 v (walkV s root va acc user).reads.length ((walkV s root va acc user).reads.map (Value.int .i64)) ∧ Below w.heap.size w w' := by
  have hc : Hid _ := memC_ok hm
  obtain ⟨hs0, hs1, hs2⟩ := memOk_b hm
  obtain ⟨n, hn⟩ : ∃ n, s.size = n * 256 := ⟨s.size / 256, by omega⟩
  have hRt := fun w => isRoot_any (root : Int) w
  have hVt := fun w => isVirtual_any (va : Int) w
  rw [show (decide (0 ≤ (root : Int)) && decide ((root : Int) ≤ 255)) = true by simp; omega] at hRt
  rw [show (decide (0 ≤ (va : Int)) && decide ((va : Int) < 262144)) = true by simp; omega] at hVt
  have HRM : Hid _ := fun w => readMemory_any s n w hn (by omega)
  have hsz := walkV_size s root va acc user v1
  have V : Hid (va ≤ 262143) := v1
  obtain ⟨r, hr⟩ : ∃ r, walkV s root va acc user = r := ⟨_, rfl⟩
  have HF : Hid (∀ {w0 wr : World} {b B : Nat} {rv : Value} (h : WSt w0 b B n s wr rv [] ⟨va, acc, user, 0, 0, false, 0⟩), _) := fun {w0 wr b B rv} h => findM h hn (by omega) root (by omega) v1 a1 a2
  simp only at HF
  have hbad := walkV_bad s root va acc user
  have hcode := walkV_f s root va acc user
  rw [hr] at hsz HF hbad hcode hf ⊢
  obtain ⟨flt, pa, en, lg, zs, mem⟩ := r
  simp only at *
  have HT : Hid _ := fun (b : Nat) (w : World) (hM : MemAt w b mem) => memText_any b mem n w hM (by omega) (by omega)
  have HN : Hid (s.size = n * 256) := hn
  have hn1 : n ≤ 256 := by omega
  clear hr v1 hm hn hs0 hs1 hs2
  go_enter Try.func28, Try.ntmps28
  go_wp2_with (first | (go_at_call 43; refine (implMemFault_any _ _ (by have := HN.out; omega)).mono ?_; rintro e u1 ⟨rfl, hu1⟩; rw [hu1, hc.out]; clear hu1) | (go_at_call 44; refine Calls.mono (hRt _) ?_; rintro e u2 ⟨rfl, hu2⟩; rw [hu2]; clear hu2) | (go_at_call 45; refine Calls.mono (hVt _) ?_; rintro e u2 ⟨rfl, hu2⟩; rw [hu2]; clear hu2) | (go_at_call 46; refine (isAccess_yes _ _ a1 a2).mono ?_; rintro e u2 ⟨rfl, hu2⟩; rw [hu2]; clear hu2) | (go_at_call 47; refine Calls.mono (HRM.out _) ?_; rintro e u3 ⟨rfl, hM3, hB3, hS3⟩; unfold mv; have HM3 : Hid _ := hM3; have HB3 : Hid _ := hB3; have HS3 : Hid _ := hS3; clear hM3 hB3 hS3) | fail)
  have HI : Hid (WSt u3 (w.heap.size + 1) u3.heap.size n s (u3.alloc (.cells #[.iface 85 (mv (w.heap.size + 1) n), .int .i64 va, .int .i64 acc, .bool user, .int .i64 0, .int .i64 0, .bool false, .slice none 0 0, .int .i64 0, .bool false] 92)) (.slice none 0 0) [] ⟨va, acc, user, 0, 0, false, 0⟩) := by
    have h1 : MemAt u3 (w.heap.size + 1) s := by
      have h0 := HM3.out
      simp only [World.size_alloc] at h0
      exact h0
    exact ⟨gb_below (gb_refl _ _) ((Below.refl _ _).alloc (Nat.le_refl _) _), h1.below ((Below.refl _ _).alloc (Nat.le_refl _) _) h1.lt, ⟨false, heap_new _ _⟩, World.ownsRow_nil _ _ _ _, Nat.le_refl _, h1.lt⟩
  have HRb : Hid (u3.heap[w.heap.size]? = some (.cells #[.int .i64 0, .int .i64 0, .int .i64 0, .bool false, .slice none 0 0, .string ⟨#[]⟩] 56 (0, 0))) := (HB3.out.block _ (by simp)).trans (heap_new _ _)
  have HLt : Hid (w.heap.size + 1 < u3.heap.size) := by
    have h2 := HS3.out
    simp only [World.size_alloc] at h2
    show w.heap.size + 1 < u3.heap.size
    omega
  have HBw : Hid (Below w.heap.size w u3) := by
    have h0 : Below w.heap.size w _ := (Below.refl _ _).alloc (Nat.le_refl _) (.cells #[.int .i64 0, .int .i64 0, .int .i64 0, .bool false, .slice none 0 0, .string ⟨#[]⟩] 56)
    exact h0.trans (HB3.out.mono (by simp))
  clear HB3 HS3 HM3
  refine Calls.mono (HF.out HI.out) ?_
  rintro e u4 ⟨rfl, rv', x', hst, hx1, hx2, hx3, hx4⟩
  have bR : u4.heap[w.heap.size]? = _ := (hst.grw.block _ (by have := HLt.out; omega) (fun e => by have := Option.some.inj e; omega)).trans HRb.out
  have HM4 : Hid (MemAt u4 (w.heap.size + 1) mem) := hst.mem
  have HO4 : Hid (u4.ownsRow (u3.heap.size + 1) 2 1 rv' zs.length (zs.map (Value.int .i64))) := hst.own
  have HG4 : Hid (Below w.heap.size w u4) := by
    have hg := hst.grw
    have hb := HBw.out
    exact ⟨hg.os.trans hb.os, hg.tape.trans hb.tape, hg.output.trans hb.output, Nat.le_trans hb.size hg.size, fun k hk => (hg.block k (Nat.lt_of_lt_of_le hk hb.size) (fun e => by have := Option.some.inj e; omega)).trans (hb.block k hk)⟩
  have HX4 : Hid (WBx u4 u3.heap.size (.iface 85 (mv (w.heap.size + 1) n)) rv' x') := hst.box
  have HL4 : Hid (w.heap.size + 1 < u3.heap.size ∧ u3.heap.size < u4.heap.size) := ⟨HLt.out, hst.box.lt⟩
  obtain ⟨ao, cap, hv⟩ := hst.sl
  subst hv
  obtain ⟨xva, xacc, xuser, xat, xe, xlg, xpa⟩ := x'
  simp only at hx1 hx2 hx3 hx4
  subst hx1 hx2 hx3
  have HK : Hid (∀ v, Below u4.heap.size u4 v → _) := fun v hv => cel6 ((hv.block w.heap.size (by have := HL4.out; omega)).trans bR)
  have HC : Hid (∀ v, Below u4.heap.size u4 v → _) := fun v hv => (HX4.out.block (hv.block u3.heap.size HL4.out.2)).cells
  obtain ⟨c0, c1, c2, c3, c4, c5, c6, c7, c8, cf⟩ := HX4.out.cells
  simp only at c0 c1 c2 c3 c4 c5 c6 c8
  clear hst HI HF
  have hf2 : (flt != 0) = true := by simpa using hf
  obtain ⟨rfl, rfl, rfl⟩ : pa = 0 ∧ en = 0 ∧ lg = false := by simpa using hbad hf
  clear hbad hx4 hcode hf
  go_wp2
  go_region_with (go_at_call 51; refine Calls.mono (HT.out _ _ (by exact HM4.out)) ?_; rintro e u5 ⟨rfl, hu5⟩; have hb5 : Below u4.heap.size u4 u5 := ⟨hu5.os, hu5.tape, hu5.output, hu5.size, hu5.block⟩; have HB5 : Hid _ := hb5; obtain ⟨d0, d1, d2, d3, d4, d5, df⟩ := HK.out u5 hb5; obtain ⟨f0, f1, f2, f3, f4, f5, f6, f7, f8, ff⟩ := HC.out u5 hb5; (try simp only at f0 f1 f2 f3 f4 f5 f6 f8); clear hu5 hb5)
  all_goals
    go_wp2
    refine bodyPost_ret (v := wkA ⟨flt, 0, 0, false, zs, mem⟩ (.slice ao zs.length cap)) (by simp [results, Try.results28, go_sem, wkA, d0, d1, d2, d3, d4, d5]) rfl ⟨_, rfl, ?_, ?_⟩
    · have h5 := own_weak1 (own_below HO4.out HB5.out) (B' := w.heap.size) (by have := HL4.out; omega)
      refine own_set (own_set (own_set (own_set (own_set (own_set h5 ?_) ?_) ?_) ?_) ?_) ?_
      all_goals exact rowNe HO4.out _ (by have := HL4.out; simp; omega)
    · have hl : w.heap.size ≤ w.heap.size := Nat.le_refl _
      have h6 : Below w.heap.size w u5 := HG4.out.trans (HB5.out.mono HG4.out.size)
      exact (((((h6.setCell hl _).setCell hl _).setCell hl _).setCell hl _).setCell hl _).setCell hl _

set_option maxRecDepth 100000 in
set_option maxHeartbeats 4000000 in
theorem implWalk_good (s : ByteArray) (root va : Nat) (acc : Int) (user : Bool) (w : World) (hm : memOk s = true) (r1 : root ≤ 255) (v1 : va ≤ 262143) (a1 : 1 ≤ acc) (a2 : acc ≤ 3) (hf : (walkV s root va acc user).fault = 0) :
    Calls Try.prog 28 #[.string s, .int .i64 root, .int .i64 va, .int .i64 acc, .bool user] w fun e w' => ∃ v, e = .returned (wkA (walkV s root va acc user) v) ∧ w'.ownsRow w.heap.size 2 1 v (walkV s root va acc user).reads.length ((walkV s root va acc user).reads.map (Value.int .i64)) ∧ Below w.heap.size w w' := by
  have hc : Hid _ := memC_ok hm
  obtain ⟨hs0, hs1, hs2⟩ := memOk_b hm
  obtain ⟨n, hn⟩ : ∃ n, s.size = n * 256 := ⟨s.size / 256, by omega⟩
  have hRt := fun w => isRoot_any (root : Int) w
  have hVt := fun w => isVirtual_any (va : Int) w
  rw [show (decide (0 ≤ (root : Int)) && decide ((root : Int) ≤ 255)) = true by simp; omega] at hRt
  rw [show (decide (0 ≤ (va : Int)) && decide ((va : Int) < 262144)) = true by simp; omega] at hVt
  have HRM : Hid _ := fun w => readMemory_any s n w hn (by omega)
  have hsz := walkV_size s root va acc user v1
  have V : Hid (va ≤ 262143) := v1
  obtain ⟨r, hr⟩ : ∃ r, walkV s root va acc user = r := ⟨_, rfl⟩
  have HF : Hid (∀ {w0 wr : World} {b B : Nat} {rv : Value} (h : WSt w0 b B n s wr rv [] ⟨va, acc, user, 0, 0, false, 0⟩), _) := fun {w0 wr b B rv} h => findM h hn (by omega) root (by omega) v1 a1 a2
  simp only at HF
  have hbad := walkV_bad s root va acc user
  have hcode := walkV_f s root va acc user
  rw [hr] at hsz HF hbad hcode hf ⊢
  obtain ⟨flt, pa, en, lg, zs, mem⟩ := r
  simp only at *
  have HT : Hid _ := fun (b : Nat) (w : World) (hM : MemAt w b mem) => memText_any b mem n w hM (by omega) (by omega)
  have HN : Hid (s.size = n * 256) := hn
  have hn1 : n ≤ 256 := by omega
  clear hr v1 hm hn hs0 hs1 hs2
  go_enter Try.func28, Try.ntmps28
  go_wp2_with (first | (go_at_call 43; refine (implMemFault_any _ _ (by have := HN.out; omega)).mono ?_; rintro e u1 ⟨rfl, hu1⟩; rw [hu1, hc.out]; clear hu1) | (go_at_call 44; refine Calls.mono (hRt _) ?_; rintro e u2 ⟨rfl, hu2⟩; rw [hu2]; clear hu2) | (go_at_call 45; refine Calls.mono (hVt _) ?_; rintro e u2 ⟨rfl, hu2⟩; rw [hu2]; clear hu2) | (go_at_call 46; refine (isAccess_yes _ _ a1 a2).mono ?_; rintro e u2 ⟨rfl, hu2⟩; rw [hu2]; clear hu2) | (go_at_call 47; refine Calls.mono (HRM.out _) ?_; rintro e u3 ⟨rfl, hM3, hB3, hS3⟩; unfold mv; have HM3 : Hid _ := hM3; have HB3 : Hid _ := hB3; have HS3 : Hid _ := hS3; clear hM3 hB3 hS3) | fail)
  have HI : Hid (WSt u3 (w.heap.size + 1) u3.heap.size n s (u3.alloc (.cells #[.iface 85 (mv (w.heap.size + 1) n), .int .i64 va, .int .i64 acc, .bool user, .int .i64 0, .int .i64 0, .bool false, .slice none 0 0, .int .i64 0, .bool false] 92)) (.slice none 0 0) [] ⟨va, acc, user, 0, 0, false, 0⟩) := by
    have h1 : MemAt u3 (w.heap.size + 1) s := by
      have h0 := HM3.out
      simp only [World.size_alloc] at h0
      exact h0
    exact ⟨gb_below (gb_refl _ _) ((Below.refl _ _).alloc (Nat.le_refl _) _), h1.below ((Below.refl _ _).alloc (Nat.le_refl _) _) h1.lt, ⟨false, heap_new _ _⟩, World.ownsRow_nil _ _ _ _, Nat.le_refl _, h1.lt⟩
  have HRb : Hid (u3.heap[w.heap.size]? = some (.cells #[.int .i64 0, .int .i64 0, .int .i64 0, .bool false, .slice none 0 0, .string ⟨#[]⟩] 56 (0, 0))) := (HB3.out.block _ (by simp)).trans (heap_new _ _)
  have HLt : Hid (w.heap.size + 1 < u3.heap.size) := by
    have h2 := HS3.out
    simp only [World.size_alloc] at h2
    show w.heap.size + 1 < u3.heap.size
    omega
  have HBw : Hid (Below w.heap.size w u3) := by
    have h0 : Below w.heap.size w _ := (Below.refl _ _).alloc (Nat.le_refl _) (.cells #[.int .i64 0, .int .i64 0, .int .i64 0, .bool false, .slice none 0 0, .string ⟨#[]⟩] 56)
    exact h0.trans (HB3.out.mono (by simp))
  clear HB3 HS3 HM3
  refine Calls.mono (HF.out HI.out) ?_
  rintro e u4 ⟨rfl, rv', x', hst, hx1, hx2, hx3, hx4⟩
  have bR : u4.heap[w.heap.size]? = _ := (hst.grw.block _ (by have := HLt.out; omega) (fun e => by have := Option.some.inj e; omega)).trans HRb.out
  have HM4 : Hid (MemAt u4 (w.heap.size + 1) mem) := hst.mem
  have HO4 : Hid (u4.ownsRow (u3.heap.size + 1) 2 1 rv' zs.length (zs.map (Value.int .i64))) := hst.own
  have HG4 : Hid (Below w.heap.size w u4) := by
    have hg := hst.grw
    have hb := HBw.out
    exact ⟨hg.os.trans hb.os, hg.tape.trans hb.tape, hg.output.trans hb.output, Nat.le_trans hb.size hg.size, fun k hk => (hg.block k (Nat.lt_of_lt_of_le hk hb.size) (fun e => by have := Option.some.inj e; omega)).trans (hb.block k hk)⟩
  have HX4 : Hid (WBx u4 u3.heap.size (.iface 85 (mv (w.heap.size + 1) n)) rv' x') := hst.box
  have HL4 : Hid (w.heap.size + 1 < u3.heap.size ∧ u3.heap.size < u4.heap.size) := ⟨HLt.out, hst.box.lt⟩
  obtain ⟨ao, cap, hv⟩ := hst.sl
  subst hv
  obtain ⟨xva, xacc, xuser, xat, xe, xlg, xpa⟩ := x'
  simp only at hx1 hx2 hx3 hx4
  subst hx1 hx2 hx3
  have HK : Hid (∀ v, Below u4.heap.size u4 v → _) := fun v hv => cel6 ((hv.block w.heap.size (by have := HL4.out; omega)).trans bR)
  have HC : Hid (∀ v, Below u4.heap.size u4 v → _) := fun v hv => (HX4.out.block (hv.block u3.heap.size HL4.out.2)).cells
  obtain ⟨c0, c1, c2, c3, c4, c5, c6, c7, c8, cf⟩ := HX4.out.cells
  simp only at c0 c1 c2 c3 c4 c5 c6 c8
  clear hst HI HF
  subst hf
  obtain ⟨rfl, rfl, rfl⟩ := hx4 rfl
  clear hbad
  go_wp2
  have hneB : ¬ u3.heap.size = w.heap.size := by have := HL4.out; omega
  have hneB2 : ¬ w.heap.size = u3.heap.size := by have := HL4.out; omega
  go_region_held (fun w' => w'.cell? ⟨u3.heap.size, 8, none⟩ = some (.int .i64 xpa) ∧ w'.cell? ⟨u3.heap.size, 5, none⟩ = some (.int .i64 xe) ∧ w'.cell? ⟨u3.heap.size, 6, none⟩ = some (.bool xlg) ∧ w'.cell? ⟨u3.heap.size, 7, none⟩ = some (.slice ao zs.length cap)) (go_keep) ((go_at_call 51; refine Calls.mono (HT.out _ _ (by exact HM4.out)) ?_; rintro e u5 ⟨rfl, hu5⟩; have hb5 : Below u4.heap.size u4 u5 := ⟨hu5.os, hu5.tape, hu5.output, hu5.size, hu5.block⟩; have HB5 : Hid _ := hb5; obtain ⟨d0, d1, d2, d3, d4, d5, df⟩ := HK.out u5 hb5; obtain ⟨f0, f1, f2, f3, f4, f5, f6, f7, f8, ff⟩ := HC.out u5 hb5; (try simp only at f0 f1 f2 f3 f4 f5 f6 f8); clear hu5 hb5))
  all_goals
    go_wp2
    refine bodyPost_ret (v := wkA ⟨0, xpa, xe, xlg, zs, mem⟩ (.slice ao zs.length cap)) (by simp [results, Try.results28, go_sem, wkA, d0, d1, d2, d3, d4, d5]) rfl ⟨_, rfl, ?_, ?_⟩
    · have h5 := own_weak1 (own_below HO4.out HB5.out) (B' := w.heap.size) (by have := HL4.out; omega)
      refine own_set (own_set (own_set (own_set (own_set (own_set h5 ?_) ?_) ?_) ?_) ?_) ?_
      all_goals exact rowNe HO4.out _ (by have := HL4.out; simp; omega)
    · have hl : w.heap.size ≤ w.heap.size := Nat.le_refl _
      have h6 : Below w.heap.size w u5 := HG4.out.trans (HB5.out.mono HG4.out.size)
      exact (((((h6.setCell hl _).setCell hl _).setCell hl _).setCell hl _).setCell hl _).setCell hl _

def w00 : WV := ⟨0, 0, 0, false, [], ⟨#[]⟩⟩
set_option maxRecDepth 100000 in
set_option maxHeartbeats 4000000 in
theorem specWalk_no (s : ByteArray) (root va acc : Int) (user : Bool) (w : World) (hs : s.size ≤ 1099511627776) (h : ¬ (memOk s = true ∧ 0 ≤ root ∧ root ≤ 255 ∧ 0 ≤ va ∧ va ≤ 262143 ∧ 1 ≤ acc ∧ acc ≤ 3)) :
    Calls Try.prog 29 #[.string s, .int .i64 root, .int .i64 va, .int .i64 acc, .bool user] w fun e w' => ∃ v, e = .returned (wkA w00 v) ∧ w'.ownsRow w.heap.size 2 1 v 0 [] ∧ Below w.heap.size w w' := by
  have HS : Hid _ := hs
  by_cases h1 : memOk s = false
  · have hc : Hid _ := memC_no h1
    clear h h1 hs
    go_enter Try.func29, Try.ntmps29
    go_wp2_with (first | (go_at_call 36; refine (specMemFault_any _ _ HS.out).mono ?_; rintro e u1 ⟨rfl, hu1⟩; rw [hu1, hc.out]; clear hu1))
    exact bodyPost_ret (v := wkA w00 (.slice none 0 0)) (by simp [results, Try.results29, go_sem, wkA, w00]) rfl ⟨_, rfl, World.ownsRow_nil _ _ _ _, (Below.refl _ _).alloc (Nat.le_refl _) _⟩
  have h1b : memOk s = true := by simpa using h1
  have hc : Hid _ := memC_ok h1b
  have H2 : Hid (¬ (0 ≤ root ∧ root ≤ 255 ∧ 0 ≤ va ∧ va ≤ 262143 ∧ 1 ≤ acc ∧ acc ≤ 3)) := fun h3 => h ⟨h1b, h3⟩
  clear h h1 h1b hs
  by_cases h2 : root < 0
  · go_enter Try.func29, Try.ntmps29
    go_wp2_with (first | (go_at_call 36; refine (specMemFault_any _ _ HS.out).mono ?_; rintro e u1 ⟨rfl, hu1⟩; rw [hu1, hc.out]; clear hu1))
    exact bodyPost_ret (v := wkA w00 (.slice none 0 0)) (by simp [results, Try.results29, go_sem, wkA, w00]) rfl ⟨_, rfl, World.ownsRow_nil _ _ _ _, (Below.refl _ _).alloc (Nat.le_refl _) _⟩
  by_cases h3 : 255 < root
  · go_enter Try.func29, Try.ntmps29
    go_wp2_with (first | (go_at_call 36; refine (specMemFault_any _ _ HS.out).mono ?_; rintro e u1 ⟨rfl, hu1⟩; rw [hu1, hc.out]; clear hu1))
    exact bodyPost_ret (v := wkA w00 (.slice none 0 0)) (by simp [results, Try.results29, go_sem, wkA, w00]) rfl ⟨_, rfl, World.ownsRow_nil _ _ _ _, (Below.refl _ _).alloc (Nat.le_refl _) _⟩
  by_cases h4 : va < 0
  · go_enter Try.func29, Try.ntmps29
    go_wp2_with (first | (go_at_call 36; refine (specMemFault_any _ _ HS.out).mono ?_; rintro e u1 ⟨rfl, hu1⟩; rw [hu1, hc.out]; clear hu1))
    exact bodyPost_ret (v := wkA w00 (.slice none 0 0)) (by simp [results, Try.results29, go_sem, wkA, w00]) rfl ⟨_, rfl, World.ownsRow_nil _ _ _ _, (Below.refl _ _).alloc (Nat.le_refl _) _⟩
  by_cases h5 : 262144 ≤ va
  · have hd : decide (262144 ≤ va) = true := decide_eq_true h5
    clear h5
    go_enter Try.func29, Try.ntmps29
    go_wp2_with (first | (go_at_call 36; refine (specMemFault_any _ _ HS.out).mono ?_; rintro e u1 ⟨rfl, hu1⟩; rw [hu1, hc.out]; clear hu1))
    exact bodyPost_ret (v := wkA w00 (.slice none 0 0)) (by simp [results, Try.results29, go_sem, wkA, w00]) rfl ⟨_, rfl, World.ownsRow_nil _ _ _ _, (Below.refl _ _).alloc (Nat.le_refl _) _⟩
  · have hd : decide (262144 ≤ va) = false := decide_eq_false h5
    have H5 : Hid _ := h5
    have HA : Hid _ := l03Acc_no acc (w.alloc (.cells #[.int .i64 0, .int .i64 0, .int .i64 0, .bool false, .slice none 0 0, .string ⟨#[]⟩] 56)) (fun h6 => H2.out ⟨by omega, by omega, by omega, by omega, h6.1, h6.2⟩)
    clear h5
    go_enter Try.func29, Try.ntmps29
    go_wp2_with (first | (go_at_call 36; refine (specMemFault_any _ _ HS.out).mono ?_; rintro e u1 ⟨rfl, hu1⟩; rw [hu1, hc.out]; clear hu1) | (go_at_call 37; refine Calls.mono HA.out ?_; rintro e u2 ⟨rfl, hu2⟩; rw [hu2]; clear hu2))
    exact bodyPost_ret (v := wkA w00 (.slice none 0 0)) (by simp [results, Try.results29, go_sem, wkA, w00]) rfl ⟨_, rfl, World.ownsRow_nil _ _ _ _, (Below.refl _ _).alloc (Nat.le_refl _) _⟩
set_option maxRecDepth 100000 in
set_option maxHeartbeats 4000000 in
theorem implWalk_no (s : ByteArray) (root va acc : Int) (user : Bool) (w : World) (hs : s.size ≤ 1099511627776) (h : ¬ (memOk s = true ∧ 0 ≤ root ∧ root ≤ 255 ∧ 0 ≤ va ∧ va ≤ 262143 ∧ 1 ≤ acc ∧ acc ≤ 3)) :
    Calls Try.prog 28 #[.string s, .int .i64 root, .int .i64 va, .int .i64 acc, .bool user] w fun e w' => ∃ v, e = .returned (wkA w00 v) ∧ w'.ownsRow w.heap.size 2 1 v 0 [] ∧ Below w.heap.size w w' := by
  have HS : Hid _ := hs
  have hRt := fun w => isRoot_any root w
  have hVt := fun w => isVirtual_any va w
  by_cases h1 : memOk s = false
  · have hc : Hid _ := memC_no h1
    clear h h1 hs
    go_enter Try.func28, Try.ntmps28
    go_wp2_with (first | (go_at_call 43; refine (implMemFault_any _ _ HS.out).mono ?_; rintro e u1 ⟨rfl, hu1⟩; rw [hu1, hc.out]; clear hu1))
    exact bodyPost_ret (v := wkA w00 (.slice none 0 0)) (by simp [results, Try.results28, go_sem, wkA, w00]) rfl ⟨_, rfl, World.ownsRow_nil _ _ _ _, (Below.refl _ _).alloc (Nat.le_refl _) _⟩
  have h1b : memOk s = true := by simpa using h1
  have hc : Hid _ := memC_ok h1b
  have H2 : Hid (¬ (0 ≤ root ∧ root ≤ 255 ∧ 0 ≤ va ∧ va ≤ 262143 ∧ 1 ≤ acc ∧ acc ≤ 3)) := fun h3 => h ⟨h1b, h3⟩
  clear h h1 h1b hs
  by_cases h2 : 0 ≤ root ∧ root ≤ 255
  · have e2 : (decide (0 ≤ root) && decide (root ≤ 255)) = true := by simp; omega
    rw [e2] at hRt
    by_cases h4 : 0 ≤ va ∧ va ≤ 262143
    · have e4 : (decide (0 ≤ va) && decide (va < 262144)) = true := by simp; omega
      rw [e4] at hVt
      have HA : Hid _ := isAccess_no acc (w.alloc (.cells #[.int .i64 0, .int .i64 0, .int .i64 0, .bool false, .slice none 0 0, .string ⟨#[]⟩] 56)) (fun h6 => H2.out ⟨by omega, by omega, by omega, by omega, h6.1, h6.2⟩)
      clear h4 e4 e2 h2
      go_enter Try.func28, Try.ntmps28
      go_wp2_with (first | (go_at_call 43; refine (implMemFault_any _ _ HS.out).mono ?_; rintro e u1 ⟨rfl, hu1⟩; rw [hu1, hc.out]; clear hu1) | (go_at_call 44; refine Calls.mono (hRt _) ?_; rintro e u2 ⟨rfl, hu2⟩; rw [hu2]; clear hu2) | (go_at_call 45; refine Calls.mono (hVt _) ?_; rintro e u2 ⟨rfl, hu2⟩; rw [hu2]; clear hu2) | (go_at_call 46; refine Calls.mono HA.out ?_; rintro e u2 ⟨rfl, hu2⟩; rw [hu2]; clear hu2))
      exact bodyPost_ret (v := wkA w00 (.slice none 0 0)) (by simp [results, Try.results28, go_sem, wkA, w00]) rfl ⟨_, rfl, World.ownsRow_nil _ _ _ _, (Below.refl _ _).alloc (Nat.le_refl _) _⟩
    · have e4 : (decide (0 ≤ va) && decide (va < 262144)) = false := by simp; omega
      rw [e4] at hVt
      clear h4 e4 e2 h2
      go_enter Try.func28, Try.ntmps28
      go_wp2_with (first | (go_at_call 43; refine (implMemFault_any _ _ HS.out).mono ?_; rintro e u1 ⟨rfl, hu1⟩; rw [hu1, hc.out]; clear hu1) | (go_at_call 44; refine Calls.mono (hRt _) ?_; rintro e u2 ⟨rfl, hu2⟩; rw [hu2]; clear hu2) | (go_at_call 45; refine Calls.mono (hVt _) ?_; rintro e u2 ⟨rfl, hu2⟩; rw [hu2]; clear hu2))
      exact bodyPost_ret (v := wkA w00 (.slice none 0 0)) (by simp [results, Try.results28, go_sem, wkA, w00]) rfl ⟨_, rfl, World.ownsRow_nil _ _ _ _, (Below.refl _ _).alloc (Nat.le_refl _) _⟩
  · have e2 : (decide (0 ≤ root) && decide (root ≤ 255)) = false := by simp; omega
    rw [e2] at hRt
    clear e2 h2
    go_enter Try.func28, Try.ntmps28
    go_wp2_with (first | (go_at_call 43; refine (implMemFault_any _ _ HS.out).mono ?_; rintro e u1 ⟨rfl, hu1⟩; rw [hu1, hc.out]; clear hu1) | (go_at_call 44; refine Calls.mono (hRt _) ?_; rintro e u2 ⟨rfl, hu2⟩; rw [hu2]; clear hu2))
    exact bodyPost_ret (v := wkA w00 (.slice none 0 0)) (by simp [results, Try.results28, go_sem, wkA, w00]) rfl ⟨_, rfl, World.ownsRow_nil _ _ _ _, (Below.refl _ _).alloc (Nat.le_refl _) _⟩

theorem implWalk_yes (s : ByteArray) (root va : Nat) (acc : Int) (user : Bool) (w : World) (hm : memOk s = true) (r1 : root ≤ 255) (v1 : va ≤ 262143) (a1 : 1 ≤ acc) (a2 : acc ≤ 3) :
    Calls Try.prog 28 #[.string s, .int .i64 root, .int .i64 va, .int .i64 acc, .bool user] w fun e w' => ∃ v, e = .returned (wkA (walkV s root va acc user) v) ∧ w'.ownsRow w.heap.size 2 1 v (walkV s root va acc user).reads.length ((walkV s root va acc user).reads.map (Value.int .i64)) ∧ Below w.heap.size w w' := by
  by_cases hf : (walkV s root va acc user).fault = 0
  · exact implWalk_good s root va acc user w hm r1 v1 a1 a2 hf
  · exact implWalk_bad s root va acc user w hm r1 v1 a1 a2 hf

/-- What Walk may be asked. -/
def wkOk (s : ByteArray) (root va acc : Int) : Prop := memOk s = true ∧ 0 ≤ root ∧ root ≤ 255 ∧ 0 ≤ va ∧ va ≤ 262143 ∧ 1 ≤ acc ∧ acc ≤ 3
/-- What both sides answer. -/
structure AnsWk (F : Nat) (s : ByteArray) (root va acc : Int) (user : Bool) (r : WV) : Prop where
  ans : ∀ U : World, Calls Try.prog F #[.string s, .int .i64 root, .int .i64 va, .int .i64 acc, .bool user] U fun e w' => ∃ ao n cap, e = .returned (.agg #[.int .i64 r.fault, .int .i64 r.pa, .int .i64 r.entry, .bool r.large, .slice ao n cap, .string r.mem]) ∧ Below U.heap.size U w'
theorem own_slI {w : World} {B n : Nat} {v : Value} {xs : List Value} (h : w.ownsRow B 2 1 v n xs) : ∃ ao cap, v = .slice ao n cap := by
  rcases h.2 with ⟨rfl, e⟩ | ⟨g, cap, cur, rfl, _⟩
  · exact ⟨none, 0, by rw [e]⟩
  · exact ⟨_, cap, rfl⟩
theorem ansWk_yes (s : ByteArray) (root va acc : Int) (user : Bool) (h : wkOk s root va acc) : AnsWk 28 s root va acc user (walkV s root va acc user) ∧ AnsWk 29 s root va acc user (walkV s root va acc user) := by
  obtain ⟨hm, r0, r1, v0, v1, a1, a2⟩ := h
  obtain ⟨R, rfl⟩ := Int.eq_ofNat_of_zero_le r0
  obtain ⟨V, rfl⟩ := Int.eq_ofNat_of_zero_le v0
  refine ⟨⟨fun U => (implWalk_yes s R V acc user U hm (by omega) (by omega) a1 a2).mono ?_⟩, ⟨fun U => (specWalk_yes s R V acc user U hm (by omega) (by omega) a1 a2).mono ?_⟩⟩
  all_goals
    rintro e w' ⟨v, rfl, ho, hb⟩
    obtain ⟨ao, cap, rfl⟩ := own_slI ho
    exact ⟨_, _, _, rfl, hb⟩
theorem ansWk_no (s : ByteArray) (root va acc : Int) (user : Bool) (hs : s.size ≤ 10240) (h : ¬ wkOk s root va acc) : AnsWk 28 s root va acc user w00 ∧ AnsWk 29 s root va acc user w00 := by
  refine ⟨⟨fun U => (implWalk_no s root va acc user U (by omega) h).mono ?_⟩, ⟨fun U => (specWalk_no s root va acc user U (by omega) h).mono ?_⟩⟩
  all_goals
    rintro e w' ⟨v, rfl, ho, hb⟩
    obtain ⟨ao, cap, rfl⟩ := own_slI ho
    exact ⟨_, _, _, rfl, hb⟩
theorem isE_no {s : ByteArray} (h : 2047 ≤ s.size) : s.toList.isEmpty = false := by
  rw [ByteArray.toList_eq]
  obtain ⟨⟨l⟩⟩ := s
  cases l with
  | nil => exact absurd h (by decide)
  | cons x l => rfl
/-- What the law knows of an answer. -/
structure WkF (s : ByteArray) (root va acc : Int) (user : Bool) (r : WV) : Prop where
  im : AnsWk 28 s root va acc user r
  sp : AnsWk 29 s root va acc user r
  how : (r.fault = 0 ∧ r.mem = ⟨#[]⟩) ∨ (¬ r.fault = 0 ∧ r.mem = s) ∨ (r.fault = 0 ∧ (∃ k, OneB s r.mem k) ∧ ∃ r2 : WV, AnsWk 28 r.mem root va acc user r2 ∧ r2.fault = 0 ∧ r2.pa = r.pa ∧ r2.mem = r.mem)
theorem wkF (s : ByteArray) (root va acc : Int) (user : Bool) (hs : s.size ≤ 10240) : ∃ r, WkF s root va acc user r := by
  by_cases h : wkOk s root va acc
  · obtain ⟨h1, h2⟩ := ansWk_yes s root va acc user h
    refine ⟨_, h1, h2, ?_⟩
    by_cases hf : (walkV s root va acc user).fault = 0
    · obtain ⟨hm, r0, r1, v0, v1, a1, a2⟩ := h
      obtain ⟨R, rfl⟩ := Int.eq_ofNat_of_zero_le r0
      obtain ⟨V, rfl⟩ := Int.eq_ofNat_of_zero_le v0
      obtain ⟨⟨k, hk⟩, f1, f2, f3⟩ := walk_again s R V acc user (by omega) hf
      have hm2 : memOk (walkV s R V acc user).mem = true := by
        unfold memOk at hm ⊢
        rw [hk.sz]
        exact hm
      exact .inr (.inr ⟨hf, ⟨k, hk⟩, _, (ansWk_yes _ R V acc user ⟨hm2, r0, r1, v0, v1, a1, a2⟩).1, f1, f2, f3⟩)
    · exact .inr (.inl ⟨hf, walk_fault s root va acc user hf⟩)
  · obtain ⟨h1, h2⟩ := ansWk_no s root va acc user hs h
    exact ⟨_, h1, h2, .inl ⟨rfl, rfl⟩⟩
set_option maxRecDepth 100000 in
set_option maxHeartbeats 8000000 in
theorem walkWk (a : Option Addr) (len cap : Nat) (w : World) (hcode : CodeAt w w.heap.size a len) (hl : len ≤ 1048576) :
    Calls Try.prog 6 #[.slice a len cap] w fun r w' => r = .returned (.bool true) ∧ Below w.heap.size w w' := by
  have HD : Hid _ := drawWalk_any a len cap w hcode hl
  have hd1 : ¬ 1048576 < (len : Int) := by omega
  clear hcode hl
  go_enter Try.func6, Try.ntmps6
  go_upto_region 4 with (go_at_call 27; refine Calls.mono HD.out ?_; rintro e u0 ⟨s, root, va, acc, user, rfl, s1, s0, _, _, _, _, _, _, hb0⟩; have HB0 : Hid (Below w.heap.size w u0) := hb0; clear hb0 HD)
  obtain ⟨r, hr⟩ := wkF s root va acc user s1
  have HW : Hid (WkF s root va acc user r) := hr
  clear hr
  go_upto_region 5 with (go_at_call 28; refine Calls.mono (HW.out.im.ans _) ?_; rintro e u1 ⟨a1, n1, c1, rfl, hb⟩; have HB1 : Hid (Below w.heap.size w (u1.alloc (.cells #[.int .i64 r.fault, .int .i64 r.pa, .int .i64 r.entry, .bool r.large, .slice a1 n1 c1, .string r.mem] 56))) := (HB0.out.trans (hb.mono HB0.out.size)).alloc (Nat.le_trans HB0.out.size hb.size) _; have HX1 : Hid ((u1.alloc (.cells #[.int .i64 r.fault, .int .i64 r.pa, .int .i64 r.entry, .bool r.large, .slice a1 n1 c1, .string r.mem] 56)).heap[u1.heap.size]? = some (.cells #[.int .i64 r.fault, .int .i64 r.pa, .int .i64 r.entry, .bool r.large, .slice a1 n1 c1, .string r.mem] 56 (0, 0))) := (MapKept.heap_alloc u1 _).1; clear hb HB0)
  generalize u1.alloc (.cells #[.int .i64 r.fault, .int .i64 r.pa, .int .i64 r.entry, .bool r.large, .slice a1 n1 c1, .string r.mem] 56) = U1 at *
  generalize u1.heap.size = p1 at *
  go_upto_region 6 with (go_at_call 29; refine Calls.mono (HW.out.sp.ans _) ?_; rintro e u2 ⟨a2, n2, c2, rfl, hb⟩; have HB2 : Hid (Below w.heap.size w (u2.alloc (.cells #[.int .i64 r.fault, .int .i64 r.pa, .int .i64 r.entry, .bool r.large, .slice a2 n2 c2, .string r.mem] 56))) := (HB1.out.trans (hb.mono HB1.out.size)).alloc (Nat.le_trans HB1.out.size hb.size) _; have HX2 : Hid ((u2.alloc (.cells #[.int .i64 r.fault, .int .i64 r.pa, .int .i64 r.entry, .bool r.large, .slice a2 n2 c2, .string r.mem] 56)).heap[u2.heap.size]? = some (.cells #[.int .i64 r.fault, .int .i64 r.pa, .int .i64 r.entry, .bool r.large, .slice a2 n2 c2, .string r.mem] 56 (0, 0))) := (MapKept.heap_alloc u2 _).1; have HX3 : Hid ((u2.alloc (.cells #[.int .i64 r.fault, .int .i64 r.pa, .int .i64 r.entry, .bool r.large, .slice a2 n2 c2, .string r.mem] 56)).heap[p1]? = some (.cells #[.int .i64 r.fault, .int .i64 r.pa, .int .i64 r.entry, .bool r.large, .slice a1 n1 c1, .string r.mem] 56 (0, 0))) := (Below.heap_alloc _ _ _ (Nat.lt_of_lt_of_le (Array.getElem?_eq_some_iff.1 HX1.out).1 hb.size)).trans ((hb.block _ (Array.getElem?_eq_some_iff.1 HX1.out).1).trans HX1.out); clear hb HB1 HX1)
  generalize u2.alloc (.cells #[.int .i64 r.fault, .int .i64 r.pa, .int .i64 r.entry, .bool r.large, .slice a2 n2 c2, .string r.mem] 56) = U2 at *
  generalize u2.heap.size = p2 at *
  have HOW : Hid _ := HW.out.how
  clear HW
  obtain ⟨x0, x1, x2, x3, x4, x5, _⟩ := cel6 HX3.out
  obtain ⟨y0, y1, y2, y3, y4, y5, _⟩ := cel6 HX2.out
  obtain ⟨f, pa, en, lg, rd, M⟩ := r
  simp only at x0 x1 x2 x3 x4 x5 y0 y1 y2 y3 y4 y5 HX3 HX2 HOW
  rcases HOW.out with ⟨hf, hM⟩ | ⟨hf, hM⟩ | ⟨hf, ⟨k, hk⟩, r2, hr2, g0, g1, g2⟩
  · subst hf hM
    clear HOW
    go_wp2
    go_ret
    exact ⟨rfl, HB2.out⟩
  · subst hM
    have hne := isE_no s0
    clear HOW
    go_wp2
    go_ret
    exact ⟨rfl, HB2.out⟩
  · subst hf
    have HR2 : Hid (AnsWk 28 M root va acc user r2) := hr2
    have HG : Hid (r2.fault = 0 ∧ r2.pa = pa ∧ r2.mem = M) := ⟨g0, g1, g2⟩
    have HK : Hid (OneB s M k) := hk
    have HZM : Hid (M.size = s.size) := hk.sz
    have hne : M.toList.isEmpty = false := isE_no (by rw [hk.sz]; exact s0)
    clear HOW hr2 g0 g1 g2 hk
    go_wp2
    clear hne x0 x1 x2 x3 x4 x5 y0 y1 y2 y3 y4 y5
    go_loopw [10, 11] (fun c i wr => ∃ n j : Nat, c = .int .i64 n ∧ i = .int .i64 j ∧ j ≤ s.size ∧ n ≤ 1 ∧ (j ≤ k → n = 0) ∧ wr.heap = U2.heap ∧ Below w.heap.size w wr) (fun _ i _ => s.size - (intOf i).toNat)
    case atStart => exact ⟨0, 0, rfl, rfl, Nat.zero_le _, Nat.zero_le _, fun _ => rfl, rfl, HB2.out⟩
    case round =>
      obtain ⟨n, j, rfl, rfl, hj, hn1, hnk, hh, hb⟩ := hrel
      have HBB : Hid (Below w.heap.size w wr) := hb
      have HX : Hid (wr.heap[p1]? = some (.cells #[.int .i64 0, .int .i64 pa, .int .i64 en, .bool lg, .slice a1 n1 c1, .string M] 56 (0, 0))) := (show _ = _ by rw [hh]; exact HX3.out)
      have HH : Hid (wr.heap = U2.heap) := hh
      have HNK : Hid (j ≤ k → n = 0) := hnk
      obtain ⟨x0, x1, x2, x3, x4, x5, xf⟩ := cel6 HX.out
      clear hb hh hnk
      by_cases hlt : j < s.size
      · have hj0 : (0 : Int) ≤ (j : Int) := by omega
        have hj1 : (j : Int) < (s.size : Int) := by omega
        have ix1 := fun w => idx_str s j hlt w j rfl
        have ix2 := fun w => idx_str M j (by rw [HZM.out]; exact hlt) w j rfl
        by_cases hjk : j = k
        · subst hjk
          have h4 := HK.out.k4
          have horr := HK.out.orr
          have hn0 : n = 0 := HNK.out (Nat.le_refl _)
          subst hn0
          obtain ⟨bs, hbs⟩ : ∃ x, bt s j = x := ⟨_, rfl⟩
          obtain ⟨bm, hbm⟩ : ∃ x, bt M j = x := ⟨_, rfl⟩
          rw [hbs] at ix1 horr
          rw [hbm] at ix2 horr
          clear hbs hbm
          by_cases hd : bs = bm
          · subst hd
            go_wp2_with fail
            go_quiet (fail)
            go_wp2
            refine ⟨⟨0, j + 1, rfl, by go_num, hlt, by omega, fun q => by omega, HH.out, bdn HBB.out nq⟩, by simp [intOf]; omega⟩
          · have hrem : ((j : Int)).tmod 4 = 0 := by rw [Int.tmod_eq_emod_of_nonneg (by omega)]; omega
            go_wp2_with fail
            go_quiet (fail)
            go_wp2_with fail
            go_quiet (fail)
            go_wp2
            refine ⟨⟨1, j + 1, rfl, by go_num, hlt, by omega, fun q => by omega, HH.out, bdn HBB.out _⟩, by simp [intOf]; omega⟩
        · have hsame := HK.out.oth j hlt hjk
          rw [hsame] at ix2
          obtain ⟨bs, hbs⟩ : ∃ x, bt s j = x := ⟨_, rfl⟩
          rw [hbs] at ix1 ix2
          clear hbs hsame
          go_wp2_with fail
          go_quiet (fail)
          go_wp2
          refine ⟨⟨n, j + 1, rfl, by go_num, hlt, hn1, fun q => HNK.out (by omega), HH.out, bdn HBB.out nq⟩, by simp [intOf]; omega⟩
      · obtain rfl : j = s.size := by omega
        have hn2 : (n : Int) ≤ 1 := by omega
        go_upto_region 19 with (go_at_call 28; refine Calls.mono (HR2.out.ans _) ?_; rintro e u3 ⟨a3, n3, c3, rfl, hb⟩; have HB3 : Hid (Below w.heap.size w (u3.alloc (.cells #[.int .i64 r2.fault, .int .i64 r2.pa, .int .i64 r2.entry, .bool r2.large, .slice a3 n3 c3, .string r2.mem] 56))) := (HBB.out.trans (hb.mono HBB.out.size)).alloc (Nat.le_trans HBB.out.size hb.size) _; have HY3 : Hid ((u3.alloc (.cells #[.int .i64 r2.fault, .int .i64 r2.pa, .int .i64 r2.entry, .bool r2.large, .slice a3 n3 c3, .string r2.mem] 56)).heap[u3.heap.size]? = some (.cells #[.int .i64 r2.fault, .int .i64 r2.pa, .int .i64 r2.entry, .bool r2.large, .slice a3 n3 c3, .string r2.mem] 56)) := (MapKept.heap_alloc u3 _).1; have HX5 : Hid ((u3.alloc (.cells #[.int .i64 r2.fault, .int .i64 r2.pa, .int .i64 r2.entry, .bool r2.large, .slice a3 n3 c3, .string r2.mem] 56)).heap[p1]? = some (.cells #[.int .i64 0, .int .i64 pa, .int .i64 en, .bool lg, .slice a1 n1 c1, .string M] 56 (0, 0))) := (Below.heap_alloc _ _ _ (Nat.lt_of_lt_of_le (Array.getElem?_eq_some_iff.1 HX.out).1 hb.size)).trans ((hb.block _ (Array.getElem?_eq_some_iff.1 HX.out).1).trans HX.out); clear hb x0 x1 x2 x3 x4 x5 xf)
        generalize u3.alloc (.cells #[.int .i64 r2.fault, .int .i64 r2.pa, .int .i64 r2.entry, .bool r2.large, .slice a3 n3 c3, .string r2.mem] 56) = U4 at *
        generalize u3.heap.size = p3 at *
        obtain ⟨x0, x1, x2, x3, x4, x5, _⟩ := cel6 HX5.out
        obtain ⟨y0, y1, y2, y3, y4, y5, _⟩ := cel6 HY3.out
        obtain ⟨g0, g1, g2⟩ := HG.out
        rw [g0] at y0
        rw [g1] at y1
        rw [g2] at y5
        clear g0 g1 g2
        go_wp2
        go_ret
        exact ⟨rfl, HB3.out⟩
end Go.Proofs.Ytfagohdmepnkkaa
