import Derived.Test.YtdlodflinibaoaaSrc2
import Derived.Test.YtdlodflinibaoaaJoinedCore
import Derived.Test.YtdlodflinibaoaaPMem4
import Derived.OwnWalk
import Derived.Laws.OwnMore
namespace Go.Proofs.Ytdlodflinibaoaa
open Go.ChangeShapes Go.WideShapes Go.ChangeAt Go.RowKit

theorem SrcOk.keep {w w' : World} {b : Nat} {a : Option Addr} {len cap : Nat} (h : SrcOk w b a len cap) (hk : ∀ i, i ≤ b → w'.heap[i]? = w.heap[i]?) : SrcOk w' b a len cap := by
  obtain ⟨⟨p, m, z, hw, hr⟩, hc, hl⟩ := h
  refine ⟨⟨p, m, z, (hk b (Nat.le_refl _)).trans hw, hr⟩, ?_, hl⟩
  rcases hc with hc | ⟨cb, co, ha, hlt, hcc⟩
  · exact .inl hc
  · refine .inr ⟨cb, co, ha, hlt, fun i hi => ?_⟩
    obtain ⟨x, h0, h1, hx⟩ := hcc i hi
    exact ⟨x, h0, h1, (World.cell?_of_block (a := ⟨cb, co + i, none⟩) (hk cb (Nat.le_of_lt hlt))).trans hx⟩
theorem gfar {u w w' : World} {b : Nat} {row : Option Nat} (h : u.grownBy w (some b)) (hg : w.grownBy w' row) (hr : ∀ k, row = some k → u.heap.size ≤ k) : u.grownBy w' (some b) :=
  ⟨hg.os.trans h.os, hg.tape.trans h.tape, hg.output.trans h.output, Nat.le_trans h.size hg.size, fun k hk hne =>
    (hg.block k (Nat.lt_of_lt_of_le hk h.size) (fun e => by have := hr k e.symm; omega)).trans (h.block k hk hne)⟩
theorem gnone {u w w' : World} {b : Nat} (h : u.grownBy w (some b)) (hg : w.grownBy w' none) : u.grownBy w' (some b) := gfar h hg (fun k hk => by cases hk)
theorem gbel {u w w' : World} {b : Nat} (h : u.grownBy w (some b)) (hb : Below w.heap.size w w') : u.grownBy w' (some b) := gnone h ⟨hb.os, hb.tape, hb.output, hb.size, fun k hk _ => hb.block k hk⟩
theorem SrcOk.bel {w w' : World} {b : Nat} {a : Option Addr} {len cap : Nat} (h : SrcOk w b a len cap) (hb : Below w.heap.size w w') : SrcOk w' b a len cap := h.far ⟨hb.os, hb.tape, hb.output, hb.size, fun k hk _ => hb.block k hk⟩
theorem mcel_setE (s : ByteArray) (j : Nat) (x : Int) (h0 : 0 ≤ x) (h1 : x < 256) : ∃ s' : ByteArray, (mcel s).setIfInBounds j (.int .u8 x) = mcel s' ∧ s'.size = s.size := by
  refine ⟨⟨(s.data.toList.set j (UInt8.ofNat x.toNat)).toArray⟩, ?_, ?_⟩
  · have e : (((UInt8.ofNat x.toNat).toNat : Nat) : Int) = x := by rw [UInt8.toNat_ofNat']; omega
    unfold mcel cells8
    simp only [List.setIfInBounds_toArray, List.map_set, e]
  · show ((s.data.toList.set j (UInt8.ofNat x.toNat)).toArray).size = s.data.size
    simp
theorem zB_any (m : Nat) : ∃ s : ByteArray, (zrs m).toArray = mcel s ∧ s.size = m := by
  refine ⟨⟨(List.replicate m (0 : UInt8)).toArray⟩, ?_, ?_⟩
  · unfold mcel cells8 zrs
    simp
  · show ((List.replicate m (0 : UInt8)).toArray).size = m
    simp
set_option maxRecDepth 100000 in
set_option maxHeartbeats 2000000 in
theorem src_frames (b : Nat) (a : Option Addr) (len cap : Nat) (n : Nat) (w : World) (h : SrcOk w b a len cap) (hn0 : 1 ≤ n) (hn : n ≤ 40) :
    Calls Try.prog 56 #[.pointer (some ⟨b, 0, none⟩), .int .i64 n] w fun e w' => ∃ s : ByteArray, e = .returned (.string s) ∧ s.size = n * 256 ∧ SrcOk w' b a len cap ∧ w.grownBy w' (some b) := by
  have hlt := h.lt
  have hmk := mkBytes w (n * 256) (by omega)
  rw [show ((n * 256 : Nat) : Int) = (n : Int) * 256 from by omega] at hmk
  obtain ⟨s0, hs0, hz0⟩ := zB_any (n * 256)
  rw [hs0] at hmk
  have HS : Hid (SrcOk (w.alloc (.cells (mcel s0) 5)) b a len cap) := h.far (World.grownBy_alloc w _ none)
  have HG : Hid (w.grownBy (w.alloc (.cells (mcel s0) 5)) (some b)) := World.grownBy_alloc w _ _
  have HB : Hid ((w.alloc (.cells (mcel s0) 5)).heap[w.heap.size]? = some (.cells (mcel s0) 5 (0, 0))) := (MapKept.heap_alloc w _).1
  have HZ : Hid (s0.size = n * 256) := hz0
  clear h hs0 hz0
  go_enter Try.func56, Try.ntmps56
  go_wp2_with fail
  generalize w.alloc (.cells (mcel s0) 5) = W at *
  refine (src_n b a len cap 6 W HS.out (by omega)).mono ?_
  rintro e w1 ⟨r, rfl, r0, r1, hs1, hg1⟩
  have HS1 : Hid (SrcOk w1 b a len cap) := hs1
  have HG1 : Hid (w.grownBy w1 (some b)) := Lib.grownBy_trans HG.out hg1
  have HB1 : Hid (w1.heap[w.heap.size]? = some (.cells (mcel s0) 5 (0, 0))) := (hg1.block _ (Array.getElem?_eq_some_iff.1 HB.out).1 (by simp; omega)).trans HB.out
  clear hs1 hg1 HS HG HB hmk
  go_wp2
  go_loopw [6] (fun i wr => ∃ (k : Nat) (s : ByteArray), k ≤ 6 ∧ i = .int .i64 k ∧ s.size = n * 256 ∧ wr.heap[w.heap.size]? = some (.cells (mcel s) 5 (0, 0)) ∧ SrcOk wr b a len cap ∧ w.grownBy wr (some b)) (fun i _ => (intOf i).toNat)
  case atStart => exact ⟨r.toNat, s0, by omega, by rw [Int.toNat_of_nonneg r0], HZ.out, HB1.out, HS1.out, HG1.out⟩
  case round =>
    clear HS1 HG1 HB1 HZ
    obtain ⟨k, s, hk, rfl, hs, hb, hsr, hgr⟩ := hrel
    have HSZ : Hid (s.size = n * 256) := hs
    by_cases hk0 : k = 0
    · subst hk0
      have hcv := conv_own wr _ _ _ _ (own_block hb (by omega))
      rw [hs] at hcv
      have HQ : Hid (SrcOk wr b a len cap ∧ w.grownBy wr (some b)) := ⟨hsr, hgr⟩
      clear hsr hgr hb hs
      go_wp2
      go_ret
      exact ⟨_, rfl, by show s.data.toList.toArray.size = n * 256; rw [← HSZ.out]; simp, HQ.out.1, HQ.out.2⟩
    · have HSR : Hid (SrcOk wr b a len cap) := hsr
      have HGR : Hid (w.grownBy wr (some b)) := hgr
      have HBB : Hid (wr.heap[w.heap.size]? = some (.cells (mcel s) 5 (0, 0))) := hb
      have k1 : (0 : Int) < (k : Int) := by omega
      clear hsr hgr hb hs
      go_wp2_with fail
      refine (src_n b a len cap ((n : Int) * 256) wr HSR.out (by omega)).mono ?_
      rintro e w2 ⟨q, rfl, q0, q1, hs2, hg2⟩
      obtain ⟨Q, rfl⟩ := Int.eq_ofNat_of_zero_le q0
      have hQ : Q < n * 256 := by omega
      clear q0 q1
      go_wp2_with fail
      refine (src_n b a len cap 256 w2 hs2 (by omega)).mono ?_
      rintro e w3 ⟨x, rfl, x0, x1, hs3, hg3⟩
      have x2 : x < 256 := by omega
      have hb3 : w3.heap[w.heap.size]? = some (.cells (mcel s) 5 (0, 0)) := (hg3.block _ (Nat.lt_of_lt_of_le (Array.getElem?_eq_some_iff.1 HBB.out).1 hg2.size) (by simp; omega)).trans ((hg2.block _ (Array.getElem?_eq_some_iff.1 HBB.out).1 (by simp; omega)).trans HBB.out)
      obtain ⟨s', hs', hz'⟩ := mcel_setE s Q x x0 x2
      have hsame := heap_setCell_same w3 w.heap.size Q _ _ (.int .u8 x) hb3
      rw [hs'] at hsame
      have hms : Q < (mcel s).size := by rw [mcel_size, HSZ.out]; exact hQ
      have hcell : ∃ y, w3.cell? ⟨w.heap.size, Q, none⟩ = some y := ⟨(mcel s)[Q], by simp [World.cell?, hb3]⟩
      obtain ⟨y, hy⟩ := hcell
      have hfz : w3.frozen? ⟨w.heap.size, Q, none⟩ = false := by simp [World.frozen?, hb3]
      have HN : Hid ((w3.setCell ⟨w.heap.size, Q, none⟩ (.int .u8 x)).heap[w.heap.size]? = some (.cells (mcel s') 5 (0, 0))) := hsame
      have HZ2 : Hid (s'.size = n * 256) := hz'.trans HSZ.out
      have HG3 : Hid (w.grownBy (w3.setCell ⟨w.heap.size, Q, none⟩ (.int .u8 x)) (some b)) := gfar (Lib.grownBy_trans (Lib.grownBy_trans HGR.out hg2) hg3) (row := some w.heap.size) ⟨rfl, rfl, rfl, by simp [World.setCell], fun j _ hj => Below.heap_setCell _ _ _ _ (fun q => hj (by rw [q]))⟩ (fun j hj => by cases hj; exact Nat.le_refl _)
      have HS3 : Hid (SrcOk (w3.setCell ⟨w.heap.size, Q, none⟩ (.int .u8 x)) b a len cap) := hs3.keep (fun j hj => Below.heap_setCell _ _ _ _ (by simp only; omega))
      have hQ1 : (Q : Int) < (n : Int) * 256 := by omega
      have hQ2 : Q < n * 256 := hQ
      clear hs2 hg2 hs3 hg3 hb3 hs' hz' hsame hms HBB HGR HSR x1
      go_wp2
      refine ⟨⟨k - 1, s', by omega, by go_num, HZ2.out, HN.out, HS3.out, HG3.out⟩, by simp [intOf]; omega⟩
end Go.Proofs.Ytdlodflinibaoaa
