import Derived.Test.YtoihmaefdchicaaPWk6
import Derived.Test.YtoihmaefdchicaaSWalkB
import Derived.Test.YtoihmaefdchicaaSWalkC
import Derived.Deep.RegionHeld
import Derived.Test.YtoihmaefdchicaaPWk1
import Derived.Test.YtoihmaefdchicaaSWalk
namespace Go.Proofs.Ytoihmaefdchicaa
open Go.ChangeShapes Go.WideShapes Go.ChangeAt Go.RowKit

theorem own_weak1 {w : World} {B B' : Nat} {e : TypeId} {v : Value} {n : Nat} {xs : List Value} (h : w.ownsRow B e 1 v n xs) (hb : B' ≤ B) : w.ownsRow B' e 1 v n xs := by
  obtain ⟨hl, h | ⟨g, cap, cur, hv, hg, h1, h2, h3, h4, h5⟩⟩ := h
  · exact ⟨hl, .inl h⟩
  · exact ⟨hl, .inr ⟨g, cap, cur, hv, Nat.le_trans hb hg, h1, h2, h3, h4, h5⟩⟩
theorem setv_size (s : ByteArray) (k : Nat) (n : Int) (h : k + 4 ≤ s.size) : (setv s k n).size = s.size := by
  unfold setv
  rw [ByteArray.size_append', ByteArray.size_append', ByteArray.size_extract, ByteArray.size_extract, pw_size]
  omega
theorem finV_size (s : ByteArray) (zs : List Int) (k : Nat) (lg : Bool) (va acc : Int) (user : Bool) (h : k + 4 ≤ s.size) : (finV s zs k lg va acc user).mem.size = s.size := by
  unfold finV
  split
  · split
    · exact setv_size s k _ h
    · rfl
  · rfl
theorem feV_in (s : ByteArray) (root va : Nat) (hv : va ≤ 262143) (h0 : (feV s root va).1 = 0) : (feV s root va).2.2.1 + 4 ≤ s.size := by
  revert h0
  have hb := wv_b s (root * 256 + 4 * (va / 8192))
  unfold feV
  split
  · split
    · split
      · intro _
        show (wv s (root * 256 + 4 * (va / 8192)) / 256).toNat * 256 + 4 * (va / 256 % 32) + 4 ≤ s.size
        omega
      · intro h
        cases h
    · intro _
      show root * 256 + 4 * (va / 8192) + 4 ≤ s.size
      omega
  · intro h
    cases h
theorem walkV_size (s : ByteArray) (root va : Nat) (acc : Int) (user : Bool) (hv : va ≤ 262143) : (walkV s root va acc user).mem.size = s.size := by
  rw [walk_fe]
  split
  · rename_i h
    exact finV_size _ _ _ _ _ _ _ (feV_in s root va hv h)
  · rfl
theorem walkV_bad (s : ByteArray) (root va : Nat) (acc : Int) (user : Bool) (h : (walkV s root va acc user).fault ≠ 0) : walkV s root va acc user = ⟨(walkV s root va acc user).fault, 0, 0, false, (walkV s root va acc user).reads, (walkV s root va acc user).mem⟩ := by
  revert h
  rw [walk_fe]
  split
  · unfold finV
    split
    · split
      · intro h
        exact absurd rfl h
      · intro _
        rfl
    · intro _
      rfl
  · intro _
    rfl
theorem walkV_f (s : ByteArray) (root va : Nat) (acc : Int) (user : Bool) : (walkV s root va acc user).fault = 0 ∨ (walkV s root va acc user).fault = 1 ∨ (walkV s root va acc user).fault = 2 := by
  rw [walk_fe]
  split
  · unfold finV
    split <;> (try split) <;> simp
  · simp

theorem finV_reads (s : ByteArray) (zs : List Int) (k : Nat) (lg : Bool) (va acc : Int) (user : Bool) : (finV s zs k lg va acc user).reads = zs := by
  unfold finV
  split <;> (try split) <;> rfl
set_option maxRecDepth 100000 in
theorem specWalk_yes (s : ByteArray) (root va : Nat) (acc : Int) (user : Bool) (w : World) (hm : memOk s = true) (r1 : root ≤ 255) (v1 : va ≤ 262143) (a1 : 1 ≤ acc) (a2 : acc ≤ 3) :
    Calls Try.prog 14 #[.string s, .int .i64 root, .int .i64 va, .int .i64 acc, .bool user] w fun e w' => ∃ v, e = .returned (wkA (walkV s root va acc user) v) ∧ w'.ownsRow w.heap.size 2 1 v (walkV s root va acc user).reads.length ((walkV s root va acc user).reads.map (Value.int .i64)) ∧ Below w.heap.size w w' := by
  have e1 : at1 root va = root * 256 + 4 * (va / 8192) := by unfold at1; omega
  have hb := wv_b s (root * 256 + 4 * (va / 8192))
  by_cases hr : (root + 1) * 256 ≤ s.size
  · by_cases h16 : wv s (root * 256 + 4 * (va / 8192)) % 16 = 1
    · by_cases ht : (wv s (root * 256 + 4 * (va / 8192)) / 256 + 1) * 256 ≤ (s.size : Int)
      · obtain ⟨T, hT⟩ := Int.eq_ofNat_of_zero_le (show 0 ≤ wv s (root * 256 + 4 * (va / 8192)) / 256 by omega)
        have E : walkV s root va acc user = finV s [(root : Int), (T : Int)] (T * 256 + 4 * (va / 256 % 32)) false va acc user := by
          unfold walkV
          rw [e1, if_pos (by omega), if_pos h16, if_pos ht]
          have e2 : at2 (wv s (root * 256 + 4 * (va / 8192))) va = T * 256 + 4 * (va / 256 % 32) := by
            unfold at2
            omega
          rw [e2, hT]
        rw [E, finV_reads]
        exact specWalk_B2 s root va acc user w hm r1 v1 a1 a2 hr h16 T hT (by omega)
      · have E : walkV s root va acc user = ⟨2, 0, 0, false, [(root : Int)], s⟩ := by
          unfold walkV
          rw [e1, if_pos (by omega), if_pos h16, if_neg ht]
        rw [E]
        exact specWalk_B1 s root va acc user w hm r1 v1 a1 a2 hr h16 (by omega)
    · have E : walkV s root va acc user = finV s [(root : Int)] (root * 256 + 4 * (va / 8192)) true va acc user := by
        unfold walkV
        rw [e1, if_pos (by omega), if_neg h16]
      rw [E, finV_reads]
      exact specWalk_C s root va acc user w hm r1 v1 a1 a2 hr h16
  · have E : walkV s root va acc user = ⟨2, 0, 0, false, [], s⟩ := by
      unfold walkV
      rw [if_neg (by omega)]
    rw [E]
    exact specWalk_A s root va acc user w hm r1 v1 a1 a2 (by omega)
theorem walkV_len (s : ByteArray) (root va acc : Int) (user : Bool) : (walkV s root va acc user).reads.length ≤ 2 := by
  unfold walkV
  split <;> (try split) <;> (try split) <;> simp [finV_reads]

set_option maxRecDepth 100000 in
set_option maxHeartbeats 4000000 in
theorem implWalk_bad (s : ByteArray) (root va : Nat) (acc : Int) (user : Bool) (w : World) (hm : memOk s = true) (r1 : root ≤ 255) (v1 : va ≤ 262143) (a1 : 1 ≤ acc) (a2 : acc ≤ 3) (hf : ¬ (walkV s root va acc user).fault = 0) :
    Calls Try.prog 11 #[.string s, .int .i64 root, .int .i64 va, .int .i64 acc, .bool user] w fun e w' => ∃ v, e = .returned (wkA (walkV s root va acc user) v) ∧ w'.ownsRow w.heap.size 2 1 v (walkV s root va acc user).reads.length ((walkV s root va acc user).reads.map (Value.int .i64)) ∧ Below w.heap.size w w' := by
  have hc : Hid _ := memC_ok hm
  obtain ⟨hs0, hs1, hs2⟩ := memOk_b hm
  obtain ⟨n, hn⟩ : ∃ n, s.size = n * 256 := ⟨s.size / 256, by omega⟩
  have hRt := fun w => isRoot_any (root : Int) w
  have hVt := fun w => isVirtual_any (va : Int) w
  rw [show (decide (0 ≤ (root : Int)) && decide ((root : Int) ≤ 255)) = true by simp; omega] at hRt
  rw [show (decide (0 ≤ (va : Int)) && decide ((va : Int) < 262144)) = true by simp; omega] at hVt
  have HRM : Hid _ := fun w => readMemory_any s n w hn (by omega)
  have hsz := walkV_size s root va acc user v1
  have V : Hid (va ≤ 262143) := v1
  obtain ⟨r, hr⟩ : ∃ r, walkV s root va acc user = r := ⟨_, rfl⟩
  have HF : Hid (∀ {w0 wr : World} {b B : Nat} {rv : Value} (h : WSt w0 b B n s wr rv [] ⟨va, acc, user, 0, 0, false, 0⟩), _) := fun {w0 wr b B rv} h => findM h hn (by omega) root (by omega) v1 a1 a2
  simp only at HF
  have hbad := walkV_bad s root va acc user
  have hcode := walkV_f s root va acc user
  rw [hr] at hsz HF hbad hcode hf ⊢
  obtain ⟨flt, pa, en, lg, zs, mem⟩ := r
  simp only at *
  have HT : Hid _ := fun (b : Nat) (w : World) (hM : MemAt w b mem) => memText_any b mem n w hM (by omega) (by omega)
  have HN : Hid (s.size = n * 256) := hn
  have hn1 : n ≤ 256 := by omega
  clear hr v1 hm hn hs0 hs1 hs2
  go_enter Try.func11, Try.ntmps11
  go_wp2_with (first | (go_at_call 34; refine (implMemFault_any _ _ (by have := HN.out; omega)).mono ?_; rintro e u1 ⟨rfl, hu1⟩; rw [hu1, hc.out]; clear hu1) | (go_at_call 44; refine Calls.mono (hRt _) ?_; rintro e u2 ⟨rfl, hu2⟩; rw [hu2]; clear hu2) | (go_at_call 45; refine Calls.mono (hVt _) ?_; rintro e u2 ⟨rfl, hu2⟩; rw [hu2]; clear hu2) | (go_at_call 46; refine (isAccess_yes _ _ a1 a2).mono ?_; rintro e u2 ⟨rfl, hu2⟩; rw [hu2]; clear hu2) | (go_at_call 35; refine Calls.mono (HRM.out _) ?_; rintro e u3 ⟨rfl, hM3, hB3, hS3⟩; unfold mv; have HM3 : Hid _ := hM3; have HB3 : Hid _ := hB3; have HS3 : Hid _ := hS3; clear hM3 hB3 hS3) | fail)
  have HI : Hid (WSt u3 (w.heap.size + 1) u3.heap.size n s (u3.alloc (.cells #[.iface 71 (mv (w.heap.size + 1) n), .int .i64 va, .int .i64 acc, .bool user, .int .i64 0, .int .i64 0, .bool false, .slice none 0 0, .int .i64 0, .bool false] 84)) (.slice none 0 0) [] ⟨va, acc, user, 0, 0, false, 0⟩) := by
    have h1 : MemAt u3 (w.heap.size + 1) s := by
      have h0 := HM3.out
      simp only [World.size_alloc] at h0
      exact h0
    exact ⟨gb_below (gb_refl _ _) ((Below.refl _ _).alloc (Nat.le_refl _) _), h1.below ((Below.refl _ _).alloc (Nat.le_refl _) _) h1.lt, ⟨false, heap_new _ _⟩, World.ownsRow_nil _ _ _ _, Nat.le_refl _, h1.lt⟩
  have HRb : Hid (u3.heap[w.heap.size]? = some (.cells #[.int .i64 0, .int .i64 0, .int .i64 0, .bool false, .slice none 0 0, .string ⟨#[]⟩] 34 (0, 0))) := (HB3.out.block _ (by simp)).trans (heap_new _ _)
  have HLt : Hid (w.heap.size + 1 < u3.heap.size) := by
    have h2 := HS3.out
    simp only [World.size_alloc] at h2
    show w.heap.size + 1 < u3.heap.size
    omega
  have HBw : Hid (Below w.heap.size w u3) := by
    have h0 : Below w.heap.size w _ := (Below.refl _ _).alloc (Nat.le_refl _) (.cells #[.int .i64 0, .int .i64 0, .int .i64 0, .bool false, .slice none 0 0, .string ⟨#[]⟩] 34)
    exact h0.trans (HB3.out.mono (by simp))
  clear HB3 HS3 HM3
  refine Calls.mono (HF.out HI.out) ?_
  rintro e u4 ⟨rfl, rv', x', hst, hx1, hx2, hx3, hx4⟩
  have bR : u4.heap[w.heap.size]? = _ := (hst.grw.block _ (by have := HLt.out; omega) (fun e => by have := Option.some.inj e; omega)).trans HRb.out
  have HM4 : Hid (MemAt u4 (w.heap.size + 1) mem) := hst.mem
  have HO4 : Hid (u4.ownsRow (u3.heap.size + 1) 2 1 rv' zs.length (zs.map (Value.int .i64))) := hst.own
  have HG4 : Hid (Below w.heap.size w u4) := by
    have hg := hst.grw
    have hb := HBw.out
    exact ⟨hg.os.trans hb.os, hg.tape.trans hb.tape, hg.output.trans hb.output, Nat.le_trans hb.size hg.size, fun k hk => (hg.block k (Nat.lt_of_lt_of_le hk hb.size) (fun e => by have := Option.some.inj e; omega)).trans (hb.block k hk)⟩
  have HX4 : Hid (WBx u4 u3.heap.size (.iface 71 (mv (w.heap.size + 1) n)) rv' x') := hst.box
  have HL4 : Hid (w.heap.size + 1 < u3.heap.size ∧ u3.heap.size < u4.heap.size) := ⟨HLt.out, hst.box.lt⟩
  obtain ⟨ao, cap, hv⟩ := hst.sl
  subst hv
  obtain ⟨xva, xacc, xuser, xat, xe, xlg, xpa⟩ := x'
  simp only at hx1 hx2 hx3 hx4
  subst hx1 hx2 hx3
  have HK : Hid (∀ v, Below u4.heap.size u4 v → _) := fun v hv => cel6 ((hv.block w.heap.size (by have := HL4.out; omega)).trans bR)
  have HC : Hid (∀ v, Below u4.heap.size u4 v → _) := fun v hv => (HX4.out.block (hv.block u3.heap.size HL4.out.2)).cells
  obtain ⟨c0, c1, c2, c3, c4, c5, c6, c7, c8, cf⟩ := HX4.out.cells
  simp only at c0 c1 c2 c3 c4 c5 c6 c8
  clear hst HI HF
  have hf2 : (flt != 0) = true := by simpa using hf
  obtain ⟨rfl, rfl, rfl⟩ : pa = 0 ∧ en = 0 ∧ lg = false := by simpa using hbad hf
  clear hbad hx4 hcode hf
  go_wp2
  go_region_with (go_at_call 41; refine Calls.mono (HT.out _ _ (by exact HM4.out)) ?_; rintro e u5 ⟨rfl, hu5⟩; have hb5 : Below u4.heap.size u4 u5 := ⟨hu5.os, hu5.tape, hu5.output, hu5.size, hu5.block⟩; have HB5 : Hid _ := hb5; obtain ⟨d0, d1, d2, d3, d4, d5, df⟩ := HK.out u5 hb5; obtain ⟨f0, f1, f2, f3, f4, f5, f6, f7, f8, ff⟩ := HC.out u5 hb5; (try simp only at f0 f1 f2 f3 f4 f5 f6 f8); clear hu5 hb5)
  all_goals
    go_wp2
    refine bodyPost_ret (v := wkA ⟨flt, 0, 0, false, zs, mem⟩ (.slice ao zs.length cap)) (by simp [results, Try.results11, go_sem, wkA, d0, d1, d2, d3, d4, d5]) rfl ⟨_, rfl, ?_, ?_⟩
    · have h5 := own_weak1 (own_below HO4.out HB5.out) (B' := w.heap.size) (by have := HL4.out; omega)
      refine own_set (own_set (own_set (own_set (own_set (own_set h5 ?_) ?_) ?_) ?_) ?_) ?_
      all_goals exact rowNe HO4.out _ (by have := HL4.out; simp; omega)
    · have hl : w.heap.size ≤ w.heap.size := Nat.le_refl _
      have h6 : Below w.heap.size w u5 := HG4.out.trans (HB5.out.mono HG4.out.size)
      exact (((((h6.setCell hl _).setCell hl _).setCell hl _).setCell hl _).setCell hl _).setCell hl _

set_option maxRecDepth 100000 in
set_option maxHeartbeats 4000000 in
theorem implWalk_good (s : ByteArray) (root va : Nat) (acc : Int) (user : Bool) (w : World) (hm : memOk s = true) (r1 : root ≤ 255) (v1 : va ≤ 262143) (a1 : 1 ≤ acc) (a2 : acc ≤ 3) (hf : (walkV s root va acc user).fault = 0) :
    Calls Try.prog 11 #[.string s, .int .i64 root, .int .i64 va, .int .i64 acc, .bool user] w fun e w' => ∃ v, e = .returned (wkA (walkV s root va acc user) v) ∧ w'.ownsRow w.heap.size 2 1 v (walkV s root va acc user).reads.length ((walkV s root va acc user).reads.map (Value.int .i64)) ∧ Below w.heap.size w w' := by
  have hc : Hid _ := memC_ok hm
  obtain ⟨hs0, hs1, hs2⟩ := memOk_b hm
  obtain ⟨n, hn⟩ : ∃ n, s.size = n * 256 := ⟨s.size / 256, by omega⟩
  have hRt := fun w => isRoot_any (root : Int) w
  have hVt := fun w => isVirtual_any (va : Int) w
  rw [show (decide (0 ≤ (root : Int)) && decide ((root : Int) ≤ 255)) = true by simp; omega] at hRt
  rw [show (decide (0 ≤ (va : Int)) && decide ((va : Int) < 262144)) = true by simp; omega] at hVt
  have HRM : Hid _ := fun w => readMemory_any s n w hn (by omega)
  have hsz := walkV_size s root va acc user v1
  have V : Hid (va ≤ 262143) := v1
  obtain ⟨r, hr⟩ : ∃ r, walkV s root va acc user = r := ⟨_, rfl⟩
  have HF : Hid (∀ {w0 wr : World} {b B : Nat} {rv : Value} (h : WSt w0 b B n s wr rv [] ⟨va, acc, user, 0, 0, false, 0⟩), _) := fun {w0 wr b B rv} h => findM h hn (by omega) root (by omega) v1 a1 a2
  simp only at HF
  have hbad := walkV_bad s root va acc user
  have hcode := walkV_f s root va acc user
  rw [hr] at hsz HF hbad hcode hf ⊢
  obtain ⟨flt, pa, en, lg, zs, mem⟩ := r
  simp only at *
  have HT : Hid _ := fun (b : Nat) (w : World) (hM : MemAt w b mem) => memText_any b mem n w hM (by omega) (by omega)
  have HN : Hid (s.size = n * 256) := hn
  have hn1 : n ≤ 256 := by omega
  clear hr v1 hm hn hs0 hs1 hs2
  go_enter Try.func11, Try.ntmps11
  go_wp2_with (first | (go_at_call 34; refine (implMemFault_any _ _ (by have := HN.out; omega)).mono ?_; rintro e u1 ⟨rfl, hu1⟩; rw [hu1, hc.out]; clear hu1) | (go_at_call 44; refine Calls.mono (hRt _) ?_; rintro e u2 ⟨rfl, hu2⟩; rw [hu2]; clear hu2) | (go_at_call 45; refine Calls.mono (hVt _) ?_; rintro e u2 ⟨rfl, hu2⟩; rw [hu2]; clear hu2) | (go_at_call 46; refine (isAccess_yes _ _ a1 a2).mono ?_; rintro e u2 ⟨rfl, hu2⟩; rw [hu2]; clear hu2) | (go_at_call 35; refine Calls.mono (HRM.out _) ?_; rintro e u3 ⟨rfl, hM3, hB3, hS3⟩; unfold mv; have HM3 : Hid _ := hM3; have HB3 : Hid _ := hB3; have HS3 : Hid _ := hS3; clear hM3 hB3 hS3) | fail)
  have HI : Hid (WSt u3 (w.heap.size + 1) u3.heap.size n s (u3.alloc (.cells #[.iface 71 (mv (w.heap.size + 1) n), .int .i64 va, .int .i64 acc, .bool user, .int .i64 0, .int .i64 0, .bool false, .slice none 0 0, .int .i64 0, .bool false] 84)) (.slice none 0 0) [] ⟨va, acc, user, 0, 0, false, 0⟩) := by
    have h1 : MemAt u3 (w.heap.size + 1) s := by
      have h0 := HM3.out
      simp only [World.size_alloc] at h0
      exact h0
    exact ⟨gb_below (gb_refl _ _) ((Below.refl _ _).alloc (Nat.le_refl _) _), h1.below ((Below.refl _ _).alloc (Nat.le_refl _) _) h1.lt, ⟨false, heap_new _ _⟩, World.ownsRow_nil _ _ _ _, Nat.le_refl _, h1.lt⟩
  have HRb : Hid (u3.heap[w.heap.size]? = some (.cells #[.int .i64 0, .int .i64 0, .int .i64 0, .bool false, .slice none 0 0, .string ⟨#[]⟩] 34 (0, 0))) := (HB3.out.block _ (by simp)).trans (heap_new _ _)
  have HLt : Hid (w.heap.size + 1 < u3.heap.size) := by
    have h2 := HS3.out
    simp only [World.size_alloc] at h2
    show w.heap.size + 1 < u3.heap.size
    omega
  have HBw : Hid (Below w.heap.size w u3) := by
    have h0 : Below w.heap.size w _ := (Below.refl _ _).alloc (Nat.le_refl _) (.cells #[.int .i64 0, .int .i64 0, .int .i64 0, .bool false, .slice none 0 0, .string ⟨#[]⟩] 34)
    exact h0.trans (HB3.out.mono (by simp))
  clear HB3 HS3 HM3
  refine Calls.mono (HF.out HI.out) ?_
  rintro e u4 ⟨rfl, rv', x', hst, hx1, hx2, hx3, hx4⟩
  have bR : u4.heap[w.heap.size]? = _ := (hst.grw.block _ (by have := HLt.out; omega) (fun e => by have := Option.some.inj e; omega)).trans HRb.out
  have HM4 : Hid (MemAt u4 (w.heap.size + 1) mem) := hst.mem
  have HO4 : Hid (u4.ownsRow (u3.heap.size + 1) 2 1 rv' zs.length (zs.map (Value.int .i64))) := hst.own
  have HG4 : Hid (Below w.heap.size w u4) := by
    have hg := hst.grw
    have hb := HBw.out
    exact ⟨hg.os.trans hb.os, hg.tape.trans hb.tape, hg.output.trans hb.output, Nat.le_trans hb.size hg.size, fun k hk => (hg.block k (Nat.lt_of_lt_of_le hk hb.size) (fun e => by have := Option.some.inj e; omega)).trans (hb.block k hk)⟩
  have HX4 : Hid (WBx u4 u3.heap.size (.iface 71 (mv (w.heap.size + 1) n)) rv' x') := hst.box
  have HL4 : Hid (w.heap.size + 1 < u3.heap.size ∧ u3.heap.size < u4.heap.size) := ⟨HLt.out, hst.box.lt⟩
  obtain ⟨ao, cap, hv⟩ := hst.sl
  subst hv
  obtain ⟨xva, xacc, xuser, xat, xe, xlg, xpa⟩ := x'
  simp only at hx1 hx2 hx3 hx4
  subst hx1 hx2 hx3
  have HK : Hid (∀ v, Below u4.heap.size u4 v → _) := fun v hv => cel6 ((hv.block w.heap.size (by have := HL4.out; omega)).trans bR)
  have HC : Hid (∀ v, Below u4.heap.size u4 v → _) := fun v hv => (HX4.out.block (hv.block u3.heap.size HL4.out.2)).cells
  obtain ⟨c0, c1, c2, c3, c4, c5, c6, c7, c8, cf⟩ := HX4.out.cells
  simp only at c0 c1 c2 c3 c4 c5 c6 c8
  clear hst HI HF
  subst hf
  obtain ⟨rfl, rfl, rfl⟩ := hx4 rfl
  clear hbad
  go_wp2
  have hneB : ¬ u3.heap.size = w.heap.size := by have := HL4.out; omega
  have hneB2 : ¬ w.heap.size = u3.heap.size := by have := HL4.out; omega
  go_region_held (fun w' => w'.cell? ⟨u3.heap.size, 8, none⟩ = some (.int .i64 xpa) ∧ w'.cell? ⟨u3.heap.size, 5, none⟩ = some (.int .i64 xe) ∧ w'.cell? ⟨u3.heap.size, 6, none⟩ = some (.bool xlg) ∧ w'.cell? ⟨u3.heap.size, 7, none⟩ = some (.slice ao zs.length cap)) (go_keep) ((go_at_call 41; refine Calls.mono (HT.out _ _ (by exact HM4.out)) ?_; rintro e u5 ⟨rfl, hu5⟩; have hb5 : Below u4.heap.size u4 u5 := ⟨hu5.os, hu5.tape, hu5.output, hu5.size, hu5.block⟩; have HB5 : Hid _ := hb5; obtain ⟨d0, d1, d2, d3, d4, d5, df⟩ := HK.out u5 hb5; obtain ⟨f0, f1, f2, f3, f4, f5, f6, f7, f8, ff⟩ := HC.out u5 hb5; (try simp only at f0 f1 f2 f3 f4 f5 f6 f8); clear hu5 hb5))
  all_goals
    go_wp2
    refine bodyPost_ret (v := wkA ⟨0, xpa, xe, xlg, zs, mem⟩ (.slice ao zs.length cap)) (by simp [results, Try.results11, go_sem, wkA, d0, d1, d2, d3, d4, d5]) rfl ⟨_, rfl, ?_, ?_⟩
    · have h5 := own_weak1 (own_below HO4.out HB5.out) (B' := w.heap.size) (by have := HL4.out; omega)
      refine own_set (own_set (own_set (own_set (own_set (own_set h5 ?_) ?_) ?_) ?_) ?_) ?_
      all_goals exact rowNe HO4.out _ (by have := HL4.out; simp; omega)
    · have hl : w.heap.size ≤ w.heap.size := Nat.le_refl _
      have h6 : Below w.heap.size w u5 := HG4.out.trans (HB5.out.mono HG4.out.size)
      exact (((((h6.setCell hl _).setCell hl _).setCell hl _).setCell hl _).setCell hl _).setCell hl _

def w00 : WV := ⟨0, 0, 0, false, [], ⟨#[]⟩⟩
set_option maxRecDepth 100000 in
set_option maxHeartbeats 4000000 in
theorem specWalk_no (s : ByteArray) (root va acc : Int) (user : Bool) (w : World) (hs : s.size ≤ 1099511627776) (h : ¬ (memOk s = true ∧ 0 ≤ root ∧ root ≤ 255 ∧ 0 ≤ va ∧ va ≤ 262143 ∧ 1 ≤ acc ∧ acc ≤ 3)) :
    Calls Try.prog 14 #[.string s, .int .i64 root, .int .i64 va, .int .i64 acc, .bool user] w fun e w' => ∃ v, e = .returned (wkA w00 v) ∧ w'.ownsRow w.heap.size 2 1 v 0 [] ∧ Below w.heap.size w w' := by
  have HS : Hid _ := hs
  by_cases h1 : memOk s = false
  · have hc : Hid _ := memC_no h1
    clear h h1 hs
    go_enter Try.func14, Try.ntmps14
    go_wp2_with (first | (go_at_call 15; refine (specMemFault_any _ _ HS.out).mono ?_; rintro e u1 ⟨rfl, hu1⟩; rw [hu1, hc.out]; clear hu1))
    exact bodyPost_ret (v := wkA w00 (.slice none 0 0)) (by simp [results, Try.results14, go_sem, wkA, w00]) rfl ⟨_, rfl, World.ownsRow_nil _ _ _ _, (Below.refl _ _).alloc (Nat.le_refl _) _⟩
  have h1b : memOk s = true := by simpa using h1
  have hc : Hid _ := memC_ok h1b
  have H2 : Hid (¬ (0 ≤ root ∧ root ≤ 255 ∧ 0 ≤ va ∧ va ≤ 262143 ∧ 1 ≤ acc ∧ acc ≤ 3)) := fun h3 => h ⟨h1b, h3⟩
  clear h h1 h1b hs
  by_cases h2 : root < 0
  · go_enter Try.func14, Try.ntmps14
    go_wp2_with (first | (go_at_call 15; refine (specMemFault_any _ _ HS.out).mono ?_; rintro e u1 ⟨rfl, hu1⟩; rw [hu1, hc.out]; clear hu1))
    exact bodyPost_ret (v := wkA w00 (.slice none 0 0)) (by simp [results, Try.results14, go_sem, wkA, w00]) rfl ⟨_, rfl, World.ownsRow_nil _ _ _ _, (Below.refl _ _).alloc (Nat.le_refl _) _⟩
  by_cases h3 : 255 < root
  · go_enter Try.func14, Try.ntmps14
    go_wp2_with (first | (go_at_call 15; refine (specMemFault_any _ _ HS.out).mono ?_; rintro e u1 ⟨rfl, hu1⟩; rw [hu1, hc.out]; clear hu1))
    exact bodyPost_ret (v := wkA w00 (.slice none 0 0)) (by simp [results, Try.results14, go_sem, wkA, w00]) rfl ⟨_, rfl, World.ownsRow_nil _ _ _ _, (Below.refl _ _).alloc (Nat.le_refl _) _⟩
  by_cases h4 : va < 0
  · go_enter Try.func14, Try.ntmps14
    go_wp2_with (first | (go_at_call 15; refine (specMemFault_any _ _ HS.out).mono ?_; rintro e u1 ⟨rfl, hu1⟩; rw [hu1, hc.out]; clear hu1))
    exact bodyPost_ret (v := wkA w00 (.slice none 0 0)) (by simp [results, Try.results14, go_sem, wkA, w00]) rfl ⟨_, rfl, World.ownsRow_nil _ _ _ _, (Below.refl _ _).alloc (Nat.le_refl _) _⟩
  by_cases h5 : 262144 ≤ va
  · have hd : decide (262144 ≤ va) = true := decide_eq_true h5
    clear h5
    go_enter Try.func14, Try.ntmps14
    go_wp2_with (first | (go_at_call 15; refine (specMemFault_any _ _ HS.out).mono ?_; rintro e u1 ⟨rfl, hu1⟩; rw [hu1, hc.out]; clear hu1))
    exact bodyPost_ret (v := wkA w00 (.slice none 0 0)) (by simp [results, Try.results14, go_sem, wkA, w00]) rfl ⟨_, rfl, World.ownsRow_nil _ _ _ _, (Below.refl _ _).alloc (Nat.le_refl _) _⟩
  · have hd : decide (262144 ≤ va) = false := decide_eq_false h5
    have H5 : Hid _ := h5
    have HA : Hid _ := l03Acc_no acc (w.alloc (.cells #[.int .i64 0, .int .i64 0, .int .i64 0, .bool false, .slice none 0 0, .string ⟨#[]⟩] 34)) (fun h6 => H2.out ⟨by omega, by omega, by omega, by omega, h6.1, h6.2⟩)
    clear h5
    go_enter Try.func14, Try.ntmps14
    go_wp2_with (first | (go_at_call 15; refine (specMemFault_any _ _ HS.out).mono ?_; rintro e u1 ⟨rfl, hu1⟩; rw [hu1, hc.out]; clear hu1) | (go_at_call 55; refine Calls.mono HA.out ?_; rintro e u2 ⟨rfl, hu2⟩; rw [hu2]; clear hu2))
    exact bodyPost_ret (v := wkA w00 (.slice none 0 0)) (by simp [results, Try.results14, go_sem, wkA, w00]) rfl ⟨_, rfl, World.ownsRow_nil _ _ _ _, (Below.refl _ _).alloc (Nat.le_refl _) _⟩
set_option maxRecDepth 100000 in
set_option maxHeartbeats 4000000 in
theorem implWalk_no (s : ByteArray) (root va acc : Int) (user : Bool) (w : World) (hs : s.size ≤ 1099511627776) (h : ¬ (memOk s = true ∧ 0 ≤ root ∧ root ≤ 255 ∧ 0 ≤ va ∧ va ≤ 262143 ∧ 1 ≤ acc ∧ acc ≤ 3)) :
    Calls Try.prog 11 #[.string s, .int .i64 root, .int .i64 va, .int .i64 acc, .bool user] w fun e w' => ∃ v, e = .returned (wkA w00 v) ∧ w'.ownsRow w.heap.size 2 1 v 0 [] ∧ Below w.heap.size w w' := by
  have HS : Hid _ := hs
  have hRt := fun w => isRoot_any root w
  have hVt := fun w => isVirtual_any va w
  by_cases h1 : memOk s = false
  · have hc : Hid _ := memC_no h1
    clear h h1 hs
    go_enter Try.func11, Try.ntmps11
    go_wp2_with (first | (go_at_call 34; refine (implMemFault_any _ _ HS.out).mono ?_; rintro e u1 ⟨rfl, hu1⟩; rw [hu1, hc.out]; clear hu1))
    exact bodyPost_ret (v := wkA w00 (.slice none 0 0)) (by simp [results, Try.results11, go_sem, wkA, w00]) rfl ⟨_, rfl, World.ownsRow_nil _ _ _ _, (Below.refl _ _).alloc (Nat.le_refl _) _⟩
  have h1b : memOk s = true := by simpa using h1
  have hc : Hid _ := memC_ok h1b
  have H2 : Hid (¬ (0 ≤ root ∧ root ≤ 255 ∧ 0 ≤ va ∧ va ≤ 262143 ∧ 1 ≤ acc ∧ acc ≤ 3)) := fun h3 => h ⟨h1b, h3⟩
  clear h h1 h1b hs
  by_cases h2 : 0 ≤ root ∧ root ≤ 255
  · have e2 : (decide (0 ≤ root) && decide (root ≤ 255)) = true := by simp; omega
    rw [e2] at hRt
    by_cases h4 : 0 ≤ va ∧ va ≤ 262143
    · have e4 : (decide (0 ≤ va) && decide (va < 262144)) = true := by simp; omega
      rw [e4] at hVt
      have HA : Hid _ := isAccess_no acc (w.alloc (.cells #[.int .i64 0, .int .i64 0, .int .i64 0, .bool false, .slice none 0 0, .string ⟨#[]⟩] 34)) (fun h6 => H2.out ⟨by omega, by omega, by omega, by omega, h6.1, h6.2⟩)
      clear h4 e4 e2 h2
      go_enter Try.func11, Try.ntmps11
      go_wp2_with (first | (go_at_call 34; refine (implMemFault_any _ _ HS.out).mono ?_; rintro e u1 ⟨rfl, hu1⟩; rw [hu1, hc.out]; clear hu1) | (go_at_call 44; refine Calls.mono (hRt _) ?_; rintro e u2 ⟨rfl, hu2⟩; rw [hu2]; clear hu2) | (go_at_call 45; refine Calls.mono (hVt _) ?_; rintro e u2 ⟨rfl, hu2⟩; rw [hu2]; clear hu2) | (go_at_call 46; refine Calls.mono HA.out ?_; rintro e u2 ⟨rfl, hu2⟩; rw [hu2]; clear hu2))
      exact bodyPost_ret (v := wkA w00 (.slice none 0 0)) (by simp [results, Try.results11, go_sem, wkA, w00]) rfl ⟨_, rfl, World.ownsRow_nil _ _ _ _, (Below.refl _ _).alloc (Nat.le_refl _) _⟩
    · have e4 : (decide (0 ≤ va) && decide (va < 262144)) = false := by simp; omega
      rw [e4] at hVt
      clear h4 e4 e2 h2
      go_enter Try.func11, Try.ntmps11
      go_wp2_with (first | (go_at_call 34; refine (implMemFault_any _ _ HS.out).mono ?_; rintro e u1 ⟨rfl, hu1⟩; rw [hu1, hc.out]; clear hu1) | (go_at_call 44; refine Calls.mono (hRt _) ?_; rintro e u2 ⟨rfl, hu2⟩; rw [hu2]; clear hu2) | (go_at_call 45; refine Calls.mono (hVt _) ?_; rintro e u2 ⟨rfl, hu2⟩; rw [hu2]; clear hu2))
      exact bodyPost_ret (v := wkA w00 (.slice none 0 0)) (by simp [results, Try.results11, go_sem, wkA, w00]) rfl ⟨_, rfl, World.ownsRow_nil _ _ _ _, (Below.refl _ _).alloc (Nat.le_refl _) _⟩
  · have e2 : (decide (0 ≤ root) && decide (root ≤ 255)) = false := by simp; omega
    rw [e2] at hRt
    clear e2 h2
    go_enter Try.func11, Try.ntmps11
    go_wp2_with (first | (go_at_call 34; refine (implMemFault_any _ _ HS.out).mono ?_; rintro e u1 ⟨rfl, hu1⟩; rw [hu1, hc.out]; clear hu1) | (go_at_call 44; refine Calls.mono (hRt _) ?_; rintro e u2 ⟨rfl, hu2⟩; rw [hu2]; clear hu2))
    exact bodyPost_ret (v := wkA w00 (.slice none 0 0)) (by simp [results, Try.results11, go_sem, wkA, w00]) rfl ⟨_, rfl, World.ownsRow_nil _ _ _ _, (Below.refl _ _).alloc (Nat.le_refl _) _⟩

theorem implWalk_yes (s : ByteArray) (root va : Nat) (acc : Int) (user : Bool) (w : World) (hm : memOk s = true) (r1 : root ≤ 255) (v1 : va ≤ 262143) (a1 : 1 ≤ acc) (a2 : acc ≤ 3) :
    Calls Try.prog 11 #[.string s, .int .i64 root, .int .i64 va, .int .i64 acc, .bool user] w fun e w' => ∃ v, e = .returned (wkA (walkV s root va acc user) v) ∧ w'.ownsRow w.heap.size 2 1 v (walkV s root va acc user).reads.length ((walkV s root va acc user).reads.map (Value.int .i64)) ∧ Below w.heap.size w w' := by
  by_cases hf : (walkV s root va acc user).fault = 0
  · exact implWalk_good s root va acc user w hm r1 v1 a1 a2 hf
  · exact implWalk_bad s root va acc user w hm r1 v1 a1 a2 hf
end Go.Proofs.Ytoihmaefdchicaa
