import Derived.Test.YtoihmaefdchicaaSrc2
import Derived.Test.YtoihmaefdchicaaJoinedCore
import Derived.Test.YtoihmaefdchicaaPMem4
import Derived.OwnWalk
import Derived.Laws.OwnMore
import Derived.Test.YtoihmaefdchicaaRegInv
import Derived.Test.YtoihmaefdchicaaRowPM1
namespace Go.Proofs.Ytoihmaefdchicaa
open Go.ChangeShapes Go.WideShapes Go.ChangeAt Go.RowKit

theorem SrcOk.keep {w w' : World} {b : Nat} {a : Option Addr} {len cap : Nat} (h : SrcOk w b a len cap) (hk : ∀ i, i ≤ b → w'.heap[i]? = w.heap[i]?) : SrcOk w' b a len cap := by
  obtain ⟨⟨p, m, z, hw, hr⟩, hc, hl⟩ := h
  refine ⟨⟨p, m, z, (hk b (Nat.le_refl _)).trans hw, hr⟩, ?_, hl⟩
  rcases hc with hc | ⟨cb, co, ha, hlt, hcc⟩
  · exact .inl hc
  · refine .inr ⟨cb, co, ha, hlt, fun i hi => ?_⟩
    obtain ⟨x, h0, h1, hx⟩ := hcc i hi
    exact ⟨x, h0, h1, (World.cell?_of_block (a := ⟨cb, co + i, none⟩) (hk cb (Nat.le_of_lt hlt))).trans hx⟩
theorem gfar {u w w' : World} {b : Nat} {row : Option Nat} (h : u.grownBy w (some b)) (hg : w.grownBy w' row) (hr : ∀ k, row = some k → u.heap.size ≤ k) : u.grownBy w' (some b) :=
  ⟨hg.os.trans h.os, hg.tape.trans h.tape, hg.output.trans h.output, Nat.le_trans h.size hg.size, fun k hk hne =>
    (hg.block k (Nat.lt_of_lt_of_le hk h.size) (fun e => by have := hr k e.symm; omega)).trans (h.block k hk hne)⟩
theorem gnone {u w w' : World} {b : Nat} (h : u.grownBy w (some b)) (hg : w.grownBy w' none) : u.grownBy w' (some b) := gfar h hg (fun k hk => by cases hk)
theorem gbel {u w w' : World} {b : Nat} (h : u.grownBy w (some b)) (hb : Below w.heap.size w w') : u.grownBy w' (some b) := gnone h ⟨hb.os, hb.tape, hb.output, hb.size, fun k hk _ => hb.block k hk⟩
theorem SrcOk.bel {w w' : World} {b : Nat} {a : Option Addr} {len cap : Nat} (h : SrcOk w b a len cap) (hb : Below w.heap.size w w') : SrcOk w' b a len cap := h.far ⟨hb.os, hb.tape, hb.output, hb.size, fun k hk _ => hb.block k hk⟩
theorem mcel_setE (s : ByteArray) (j : Nat) (x : Int) (h0 : 0 ≤ x) (h1 : x < 256) : ∃ s' : ByteArray, (mcel s).setIfInBounds j (.int .u8 x) = mcel s' ∧ s'.size = s.size := by
  refine ⟨⟨(s.data.toList.set j (UInt8.ofNat x.toNat)).toArray⟩, ?_, ?_⟩
  · have e : (((UInt8.ofNat x.toNat).toNat : Nat) : Int) = x := by rw [UInt8.toNat_ofNat']; omega
    unfold mcel cells8
    simp only [List.setIfInBounds_toArray, List.map_set, e]
  · show ((s.data.toList.set j (UInt8.ofNat x.toNat)).toArray).size = s.data.size
    simp
theorem zB_any (m : Nat) : ∃ s : ByteArray, (zrs m).toArray = mcel s ∧ s.size = m := by
  refine ⟨⟨(List.replicate m (0 : UInt8)).toArray⟩, ?_, ?_⟩
  · unfold mcel cells8 zrs
    simp
  · show ((List.replicate m (0 : UInt8)).toArray).size = m
    simp
set_option maxRecDepth 100000 in
set_option maxHeartbeats 2000000 in
theorem src_frames (b : Nat) (a : Option Addr) (len cap : Nat) (n : Nat) (w : World) (h : SrcOk w b a len cap) (hn0 : 1 ≤ n) (hn : n ≤ 40) :
    Calls Try.prog 75 #[.pointer (some ⟨b, 0, none⟩), .int .i64 n] w fun e w' => ∃ s : ByteArray, e = .returned (.string s) ∧ s.size = n * 256 ∧ SrcOk w' b a len cap ∧ w.grownBy w' (some b) := by
  have hlt := h.lt
  have hmk := mkBytes w (n * 256) (by omega)
  rw [show ((n * 256 : Nat) : Int) = (n : Int) * 256 from by omega] at hmk
  obtain ⟨s0, hs0, hz0⟩ := zB_any (n * 256)
  rw [hs0] at hmk
  have HS : Hid (SrcOk (w.alloc (.cells (mcel s0) 5)) b a len cap) := h.far (World.grownBy_alloc w _ none)
  have HG : Hid (w.grownBy (w.alloc (.cells (mcel s0) 5)) (some b)) := World.grownBy_alloc w _ _
  have HB : Hid ((w.alloc (.cells (mcel s0) 5)).heap[w.heap.size]? = some (.cells (mcel s0) 5 (0, 0))) := (MapKept.heap_alloc w _).1
  have HZ : Hid (s0.size = n * 256) := hz0
  clear h hs0 hz0
  go_enter Try.func75, Try.ntmps75
  go_wp2_with fail
  generalize w.alloc (.cells (mcel s0) 5) = W at *
  refine (src_n b a len cap 6 W HS.out (by omega)).mono ?_
  rintro e w1 ⟨r, rfl, r0, r1, hs1, hg1⟩
  have HS1 : Hid (SrcOk w1 b a len cap) := hs1
  have HG1 : Hid (w.grownBy w1 (some b)) := Lib.grownBy_trans HG.out hg1
  have HB1 : Hid (w1.heap[w.heap.size]? = some (.cells (mcel s0) 5 (0, 0))) := (hg1.block _ (Array.getElem?_eq_some_iff.1 HB.out).1 (by simp; omega)).trans HB.out
  clear hs1 hg1 HS HG HB hmk
  go_wp2
  go_loopw [6] (fun i wr => ∃ (k : Nat) (s : ByteArray), k ≤ 6 ∧ i = .int .i64 k ∧ s.size = n * 256 ∧ wr.heap[w.heap.size]? = some (.cells (mcel s) 5 (0, 0)) ∧ SrcOk wr b a len cap ∧ w.grownBy wr (some b)) (fun i _ => (intOf i).toNat)
  case atStart => exact ⟨r.toNat, s0, by omega, by rw [Int.toNat_of_nonneg r0], HZ.out, HB1.out, HS1.out, HG1.out⟩
  case round =>
    clear HS1 HG1 HB1 HZ
    obtain ⟨k, s, hk, rfl, hs, hb, hsr, hgr⟩ := hrel
    have HSZ : Hid (s.size = n * 256) := hs
    by_cases hk0 : k = 0
    · subst hk0
      have hcv := conv_own wr _ _ _ _ (own_block hb (by omega))
      rw [hs] at hcv
      have HQ : Hid (SrcOk wr b a len cap ∧ w.grownBy wr (some b)) := ⟨hsr, hgr⟩
      clear hsr hgr hb hs
      go_wp2
      go_ret
      exact ⟨_, rfl, by show s.data.toList.toArray.size = n * 256; rw [← HSZ.out]; simp, HQ.out.1, HQ.out.2⟩
    · have HSR : Hid (SrcOk wr b a len cap) := hsr
      have HGR : Hid (w.grownBy wr (some b)) := hgr
      have HBB : Hid (wr.heap[w.heap.size]? = some (.cells (mcel s) 5 (0, 0))) := hb
      have k1 : (0 : Int) < (k : Int) := by omega
      clear hsr hgr hb hs
      go_wp2_with fail
      refine (src_n b a len cap ((n : Int) * 256) wr HSR.out (by omega)).mono ?_
      rintro e w2 ⟨q, rfl, q0, q1, hs2, hg2⟩
      obtain ⟨Q, rfl⟩ := Int.eq_ofNat_of_zero_le q0
      have hQ : Q < n * 256 := by omega
      clear q0 q1
      go_wp2_with fail
      refine (src_n b a len cap 256 w2 hs2 (by omega)).mono ?_
      rintro e w3 ⟨x, rfl, x0, x1, hs3, hg3⟩
      have x2 : x < 256 := by omega
      have hb3 : w3.heap[w.heap.size]? = some (.cells (mcel s) 5 (0, 0)) := (hg3.block _ (Nat.lt_of_lt_of_le (Array.getElem?_eq_some_iff.1 HBB.out).1 hg2.size) (by simp; omega)).trans ((hg2.block _ (Array.getElem?_eq_some_iff.1 HBB.out).1 (by simp; omega)).trans HBB.out)
      obtain ⟨s', hs', hz'⟩ := mcel_setE s Q x x0 x2
      have hsame := heap_setCell_same w3 w.heap.size Q _ _ (.int .u8 x) hb3
      rw [hs'] at hsame
      have hms : Q < (mcel s).size := by rw [mcel_size, HSZ.out]; exact hQ
      have hcell : ∃ y, w3.cell? ⟨w.heap.size, Q, none⟩ = some y := ⟨(mcel s)[Q], by simp [World.cell?, hb3]⟩
      obtain ⟨y, hy⟩ := hcell
      have hfz : w3.frozen? ⟨w.heap.size, Q, none⟩ = false := by simp [World.frozen?, hb3]
      have HN : Hid ((w3.setCell ⟨w.heap.size, Q, none⟩ (.int .u8 x)).heap[w.heap.size]? = some (.cells (mcel s') 5 (0, 0))) := hsame
      have HZ2 : Hid (s'.size = n * 256) := hz'.trans HSZ.out
      have HG3 : Hid (w.grownBy (w3.setCell ⟨w.heap.size, Q, none⟩ (.int .u8 x)) (some b)) := gfar (Lib.grownBy_trans (Lib.grownBy_trans HGR.out hg2) hg3) (row := some w.heap.size) ⟨rfl, rfl, rfl, by simp [World.setCell], fun j _ hj => Below.heap_setCell _ _ _ _ (fun q => hj (by rw [q]))⟩ (fun j hj => by cases hj; exact Nat.le_refl _)
      have HS3 : Hid (SrcOk (w3.setCell ⟨w.heap.size, Q, none⟩ (.int .u8 x)) b a len cap) := hs3.keep (fun j hj => Below.heap_setCell _ _ _ _ (by simp only; omega))
      have hQ1 : (Q : Int) < (n : Int) * 256 := by omega
      have hQ2 : Q < n * 256 := hQ
      clear hs2 hg2 hs3 hg3 hb3 hs' hz' hsame hms HBB HGR HSR x1
      go_wp2
      refine ⟨⟨k - 1, s', by omega, by go_num, HZ2.out, HN.out, HS3.out, HG3.out⟩, by simp [intOf]; omega⟩

/-- Each waits for earlier ones alone. -/
def early (ops : Array Oper) : Bool := (List.range ops.size).all fun i => match ops[i]? with | some o => o.after.all (fun e => decide (e.on < i)) | none => true
theorem all_up {md : Region.Mode} {ops : Array Oper} {L : Array Bool} (he : early ops = true) (hL : L.size = ops.size) (h : Region.ready md ops L = []) : ∀ i, i < ops.size → L.getD i false = true := by
  intro i
  induction i using Nat.strongRecOn with
  | ind i ih =>
    intro hi
    apply Classical.byContradiction
    intro hn
    have hf : L.getD i true = false := by
      have hi2 : i < L.size := by omega
      simp only [Array.getD, hi2, dite_true] at hn ⊢
      simpa using hn
    have hm : i ∈ Region.ready md ops L := mem_ready.2 ⟨hf, ops[i], Array.getElem?_eq_getElem hi, fun e hee _ => by
      have h1 := List.all_eq_true.1 he i (List.mem_range.2 hi)
      rw [Array.getElem?_eq_getElem hi] at h1
      simp only [Array.all_eq_true] at h1
      obtain ⟨j, hj, rfl⟩ := Array.getElem_of_mem hee
      have h2 := of_decide_eq_true (h1 j hj)
      exact ih _ h2 (by omega)⟩
    rw [h] at hm
    exact (List.not_mem_nil hm).elim
def KSrc (b : Nat) (v : Value) : Prop := v = .pointer (some ⟨b, 0, none⟩)
def KNum (lo hi : Int) (v : Value) : Prop := ∃ y : Int, v = .int .i64 y ∧ lo ≤ y ∧ y ≤ hi
def KLit (B : Nat) (C : List Int) (v : Value) (u : World) : Prop := ∃ p, v = .slice (some ⟨p, 0, none⟩) C.length C.length ∧ B ≤ p ∧ u.heap[p]? = some (.cells (C.map (Value.int .i64)).toArray 2 (0, 0))
def KPtr (B : Nat) (C : List Int) (v : Value) (u : World) : Prop := ∃ p r : Nat, v = .pointer (some ⟨p, r, none⟩) ∧ r < C.length ∧ B ≤ p ∧ u.heap[p]? = some (.cells (C.map (Value.int .i64)).toArray 2 (0, 0))
theorem KLit.grow {B b : Nat} {C : List Int} {v : Value} {u u' : World} (h : KLit B C v u) (hb : b < B) (hg : u.grownBy u' (some b)) : KLit B C v u' := by
  obtain ⟨p, h1, h2, h3⟩ := h
  exact ⟨p, h1, h2, (hg.block p (Array.getElem?_eq_some_iff.1 h3).1 (by simp; omega)).trans h3⟩
theorem KPtr.grow {B b : Nat} {C : List Int} {v : Value} {u u' : World} (h : KPtr B C v u) (hb : b < B) (hg : u.grownBy u' (some b)) : KPtr B C v u' := by
  obtain ⟨p, r, h1, h0, h2, h3⟩ := h
  exact ⟨p, r, h1, h0, h2, (hg.block p (Array.getElem?_eq_some_iff.1 h3).1 (by simp; omega)).trans h3⟩
theorem lit_cell {u : World} {p r : Nat} {C : List Int} {t : TypeId} (h : u.heap[p]? = some (.cells (C.map (Value.int .i64)).toArray t (0, 0))) (hr : r < C.length) : u.cell? ⟨p, r, none⟩ = some (.int .i64 C[r]) := by
  simp [World.cell?, h, List.getElem?_map, List.getElem?_eq_getElem hr]
/-- All of a list of numbers are within bounds. -/
def inB (lo hi : Int) (C : List Int) : Prop := ∀ x ∈ C, lo ≤ x ∧ x ≤ hi
theorem inB.at {lo hi : Int} {C : List Int} (h : inB lo hi C) {r : Nat} (hr : r < C.length) : lo ≤ C[r] ∧ C[r] ≤ hi := h _ (List.getElem_mem hr)
theorem gAl {u : World} {b : Nat} {o : Obj} : u.grownBy (u.alloc o) (some b) := World.grownBy_alloc u o _

structure VaR (B0 B : Nat) (w : World) (a : Option Addr) (len cap : Nat) (b0 b1 b2 b3 b4 b5 b6 b7 b8 b9 b10 : Bool) (v4 v5 v6 v7 v8 v9 v10 v11 v12 v13 v3 : Value) (u : World) : Prop where
  lt : B0 < B
  le : B ≤ w.heap.size
  src : SrcOk u B0 a len cap
  gr : w.grownBy u (some B0)
  c0 : b0 = true → KLit B [0, 1, 2, 31, 32, 33, 64, 1023, 5, 96] v4 u
  c1 : b1 = true → KSrc B0 v5
  c2 : b2 = true → KNum 0 9 v6
  c3 : b3 = true → KPtr B [0, 1, 2, 31, 32, 33, 64, 1023, 5, 96] v7 u
  c4 : b4 = true → KNum 0 1023 v8
  c5 : b5 = true → KNum 0 261888 v9
  c6 : b6 = true → KSrc B0 v10
  c7 : b7 = true → KNum 0 63 v11
  c8 : b8 = true → KNum 0 252 v12
  c9 : b9 = true → KNum 0 262140 v13
  c10 : b10 = true → KNum 0 262140 v3
set_option maxRecDepth 100000 in
set_option maxHeartbeats 4000000 in
theorem src_va (B0 : Nat) (a : Option Addr) (len cap : Nat) (w : World) (h : SrcOk w B0 a len cap) :
    Calls Try.prog 54 #[.pointer (some ⟨B0, 0, none⟩)] w fun e w' => ∃ y : Int, e = .returned (.int .i64 y) ∧ -1 ≤ y ∧ y ≤ 262144 ∧ SrcOk w' B0 a len cap ∧ w.grownBy w' (some B0) := by
  have hlt := h.lt
  obtain ⟨B, hB⟩ : ∃ B, B = w.heap.size := ⟨_, rfl⟩
  have HS : Hid (SrcOk w.drew B0 a len cap) := h.bel (Below.refl _ _).drew
  clear h
  go_enter Try.func54, Try.ntmps54
  go_wp2_with fail
  refine wp_region_any (by kernel_rfl) ?_
  refine wpAny_inv (fun L a9 u => ∃ (b0 b1 b2 b3 b4 b5 b6 b7 b8 b9 b10 : Bool) (v4 v5 v6 v7 v8 v9 v10 v11 v12 v13 v3 : Value), L = #[b0, b1, b2, b3, b4, b5, b6, b7, b8, b9, b10] ∧ a9 = { tmps := #[.pointer (some ⟨B0, 0, none⟩), undef, .int .i64 0, v3, v4, v5, v6, v7, v8, v9, v10, v11, v12, v13, undef, undef, undef, undef, undef, undef, undef, undef], defers := [] } ∧ VaR B0 B w a len cap b0 b1 b2 b3 b4 b5 b6 b7 b8 b9 b10 v4 v5 v6 v7 v8 v9 v10 v11 v12 v13 v3 u) ?hs ?hd _ _ _ _ (by decide) ?st
  case st => exact ⟨false, false, false, false, false, false, false, false, false, false, false, undef, undef, undef, undef, undef, undef, undef, undef, undef, undef, undef, rfl, rfl, ⟨by omega, by omega, HS.out, ⟨rfl, rfl, rfl, Nat.le_refl _, fun _ _ _ => rfl⟩, (fun e => by cases e), (fun e => by cases e), (fun e => by cases e), (fun e => by cases e), (fun e => by cases e), (fun e => by cases e), (fun e => by cases e), (fun e => by cases e), (fun e => by cases e), (fun e => by cases e), (fun e => by cases e)⟩⟩
  case hd =>
    rintro L a9 u ⟨b0, b1, b2, b3, b4, b5, b6, b7, b8, b9, b10, v4, v5, v6, v7, v8, v9, v10, v11, v12, v13, v3, rfl, rfl, hI⟩ hr
    have hall := fun he hL => all_up (md := _) he hL hr
    have hall2 := hall (by kernel_rfl) rfl
    obtain rfl : b10 = true := hall2 10 (by decide)
    obtain ⟨y, rfl, y0, y1⟩ := hI.c10 rfl
    have HS1 : Hid (SrcOk u B0 a len cap) := hI.src
    have HG1 : Hid (w.grownBy u (some B0)) := hI.gr
    clear hI hr hall hall2
    go_wp2_with fail
    refine (src_one B0 a len cap 30 u HS1.out (by omega)).mono ?_
    rintro e u1 ⟨t, rfl, hs1, hg1⟩
    have HS2 : Hid (SrcOk u1 B0 a len cap) := hs1
    have HG2 : Hid (w.grownBy u1 (some B0)) := Lib.grownBy_trans HG1.out hg1
    clear hs1 hg1 HS1 HG1
    cases t
    · go_wp2
      go_ret
      exact ⟨y, rfl, by omega, by omega, HS2.out, HG2.out⟩
    · have HS3 : Hid (SrcOk (u1.alloc (.cells #[.int .i64 (-1), .int .i64 262144, .int .i64 262140] 2)) B0 a len cap) := HS2.out.far (World.grownBy_alloc _ _ none)
      have HG3 : Hid (w.grownBy (u1.alloc (.cells #[.int .i64 (-1), .int .i64 262144, .int .i64 262140] 2)) (some B0)) := Lib.grownBy_trans HG2.out gAl
      have HL3 : Hid ((u1.alloc (.cells #[.int .i64 (-1), .int .i64 262144, .int .i64 262140] 2)).heap[u1.heap.size]? = some (.cells ([-1, 262144, 262140].map (Value.int .i64)).toArray 2 (0, 0))) := (MapKept.heap_alloc u1 _).1
      have HP : Hid (B0 < u1.heap.size) := (show B0 < u1.heap.size by have := HG2.out.size; omega)
      clear HS2 HG2
      go_wp2_with fail
      generalize u1.alloc (.cells #[.int .i64 (-1), .int .i64 262144, .int .i64 262140] 2) = U at *
      refine (src_n B0 a len cap 3 U HS3.out (by omega)).mono ?_
      rintro e u2 ⟨q, rfl, q0, q1, hs2, hg2⟩
      obtain ⟨Q, rfl⟩ := Int.eq_ofNat_of_zero_le q0
      have hQ : Q < 3 := by omega
      have hQ1 : (Q : Int) < 3 := by omega
      have hl2 : u2.heap[u1.heap.size]? = some (.cells ([-1, 262144, 262140].map (Value.int .i64)).toArray 2 (0, 0)) := (hg2.block _ (Array.getElem?_eq_some_iff.1 HL3.out).1 (by have := HP.out; simp; omega)).trans HL3.out
      have hcl := lit_cell hl2 (show Q < [-1, 262144, 262140].length from hQ)
      have hbd := inB.at (lo := -1) (hi := 262144) (by unfold inB; decide) (show Q < [-1, 262144, 262140].length from hQ)
      generalize ([-1, 262144, 262140] : List Int)[Q] = z at hcl hbd
      have HE : Hid (SrcOk u2 B0 a len cap ∧ w.grownBy u2 (some B0)) := ⟨hs2, Lib.grownBy_trans HG3.out hg2⟩
      clear hs2 hg2 hl2 HL3 HS3 HG3 q1
      go_wp2
      go_ret
      exact ⟨z, rfl, hbd.1, hbd.2, HE.out.1, HE.out.2⟩
  case hs =>
    rintro L a9 u i ⟨b0, b1, b2, b3, b4, b5, b6, b7, b8, b9, b10, v4, v5, v6, v7, v8, v9, v10, v11, v12, v13, v3, rfl, rfl, hI⟩ hi
    obtain ⟨hf, o, ho, hall⟩ := mem_ready.1 hi
    have hi8 : i < 11 := (Array.getElem?_eq_some_iff.1 ho).1
    obtain rfl | rfl | rfl | rfl | rfl | rfl | rfl | rfl | rfl | rfl | rfl : i = 0 ∨ i = 1 ∨ i = 2 ∨ i = 3 ∨ i = 4 ∨ i = 5 ∨ i = 6 ∨ i = 7 ∨ i = 8 ∨ i = 9 ∨ i = 10 := by omega
    · obtain rfl : b0 = false := hf
      have HI : Hid _ := hI
      clear hI hall hi
      refine wpOp_step rfl (fun K hK => ?_)
      go_simp
      have h := HI.out
      exact hK _ _ ⟨true, b1, b2, b3, b4, b5, b6, b7, b8, b9, b10, _, v5, v6, v7, v8, v9, v10, v11, v12, v13, v3, rfl, rfl, ⟨h.lt, h.le, h.src.far (World.grownBy_alloc _ _ none), Lib.grownBy_trans h.gr gAl, fun _ => ⟨u.heap.size, rfl, Nat.le_trans h.le h.gr.size, (MapKept.heap_alloc u _).1⟩, h.c1, h.c2, fun e => (h.c3 e).grow h.lt gAl, h.c4, h.c5, h.c6, h.c7, h.c8, h.c9, h.c10⟩⟩
    · obtain rfl : b1 = false := hf
      have HI : Hid _ := hI
      clear hI hall hi
      refine wpOp_step rfl (fun K hK => ?_)
      go_simp
      have h := HI.out
      exact hK _ _ ⟨b0, true, b2, b3, b4, b5, b6, b7, b8, b9, b10, v4, _, v6, v7, v8, v9, v10, v11, v12, v13, v3, rfl, rfl, ⟨h.lt, h.le, h.src, h.gr, h.c0, fun _ => rfl, h.c2, h.c3, h.c4, h.c5, h.c6, h.c7, h.c8, h.c9, h.c10⟩⟩
    · obtain rfl : b2 = false := hf
      cases ho
      have hb1 : b1 = true := hall { on := 1, ground := .data } (by simp) rfl
      have e1 : v5 = .pointer (some ⟨B0, 0, none⟩) := hI.c1 hb1
      subst e1
      have HN : Hid _ := src_n B0 a len cap 10 u hI.src (by omega)
      have HI : Hid _ := hI
      clear hI hall hi
      refine wpOp_step rfl (fun K hK => ?_)
      go_simp
      refine Calls.mono HN.out ?_
      rintro e9 u5 ⟨r, rfl, r0, r1, hs5, hg5⟩
      have h := HI.out
      exact hK _ _ ⟨b0, b1, true, b3, b4, b5, b6, b7, b8, b9, b10, v4, _, _, v7, v8, v9, v10, v11, v12, v13, v3, rfl, rfl, ⟨h.lt, h.le, hs5, Lib.grownBy_trans h.gr hg5, fun e => (h.c0 e).grow h.lt hg5, h.c1, fun _ => ⟨r, rfl, r0, by omega⟩, fun e => (h.c3 e).grow h.lt hg5, h.c4, h.c5, h.c6, h.c7, h.c8, h.c9, h.c10⟩⟩
    · obtain rfl : b3 = false := hf
      cases ho
      have hb0 : b0 = true := hall { on := 0, ground := .data } (by simp) rfl
      have hb2 : b2 = true := hall { on := 2, ground := .data } (by simp) rfl
      obtain ⟨p0, e0, p0b, p0c⟩ := hI.c0 hb0
      replace e0 : v4 = .slice (some ⟨p0, 0, none⟩) 10 10 := e0
      subst e0
      obtain ⟨y2, rfl, y2b, y2c⟩ := hI.c2 hb2
      obtain ⟨R, rfl⟩ := Int.eq_ofNat_of_zero_le y2b
      have R1 : (R : Int) < 10 := by omega
      have R0 : R < 10 := by omega
      have HI : Hid _ := hI
      clear hI hall hi
      refine wpOp_step rfl (fun K hK => ?_)
      go_simp
      have h := HI.out
      exact hK _ _ ⟨b0, b1, b2, true, b4, b5, b6, b7, b8, b9, b10, _, v5, _, _, v8, v9, v10, v11, v12, v13, v3, rfl, rfl, ⟨h.lt, h.le, h.src, h.gr, h.c0, h.c1, h.c2, fun _ => ⟨p0, R, rfl, R0, p0b, p0c⟩, h.c4, h.c5, h.c6, h.c7, h.c8, h.c9, h.c10⟩⟩
    · obtain rfl : b4 = false := hf
      cases ho
      have hb3 : b3 = true := hall { on := 3, ground := .data } (by simp) rfl
      obtain ⟨p3, r3, rfl, r3b, p3b, p3c⟩ := hI.c3 hb3
      have hcl := lit_cell p3c r3b
      have hbd := inB.at (lo := 0) (hi := 1023) (by unfold inB; decide) r3b
      generalize ([0, 1, 2, 31, 32, 33, 64, 1023, 5, 96] : List Int)[r3] = y at hcl hbd
      have HI : Hid _ := hI
      clear hI hall hi
      refine wpOp_step rfl (fun K hK => ?_)
      go_simp
      have h := HI.out
      exact hK _ _ ⟨b0, b1, b2, b3, true, b5, b6, b7, b8, b9, b10, v4, v5, v6, _, _, v9, v10, v11, v12, v13, v3, rfl, rfl, ⟨h.lt, h.le, h.src, h.gr, h.c0, h.c1, h.c2, h.c3, fun _ => ⟨y, rfl, hbd.1, hbd.2⟩, h.c5, h.c6, h.c7, h.c8, h.c9, h.c10⟩⟩
    · obtain rfl : b5 = false := hf
      cases ho
      have hb4 : b4 = true := hall { on := 4, ground := .data } (by simp) rfl
      obtain ⟨y4, rfl, y4b, y4c⟩ := hI.c4 hb4
      have HI : Hid _ := hI
      clear hI hall hi
      refine wpOp_step rfl (fun K hK => ?_)
      go_simp
      have h := HI.out
      exact hK _ _ ⟨b0, b1, b2, b3, b4, true, b6, b7, b8, b9, b10, v4, v5, v6, v7, _, _, v10, v11, v12, v13, v3, rfl, rfl, ⟨h.lt, h.le, h.src, h.gr, h.c0, h.c1, h.c2, h.c3, h.c4, fun _ => ⟨_, rfl, by first | omega | (rw [IntKind.wrap_i64]; omega), by first | omega | (rw [IntKind.wrap_i64]; omega)⟩, h.c6, h.c7, h.c8, h.c9, h.c10⟩⟩
    · obtain rfl : b6 = false := hf
      have HI : Hid _ := hI
      clear hI hall hi
      refine wpOp_step rfl (fun K hK => ?_)
      go_simp
      have h := HI.out
      exact hK _ _ ⟨b0, b1, b2, b3, b4, b5, true, b7, b8, b9, b10, v4, v5, v6, v7, v8, v9, _, v11, v12, v13, v3, rfl, rfl, ⟨h.lt, h.le, h.src, h.gr, h.c0, h.c1, h.c2, h.c3, h.c4, h.c5, fun _ => rfl, h.c7, h.c8, h.c9, h.c10⟩⟩
    · obtain rfl : b7 = false := hf
      cases ho
      have hb6 : b6 = true := hall { on := 6, ground := .data } (by simp) rfl
      have e6 : v10 = .pointer (some ⟨B0, 0, none⟩) := hI.c6 hb6
      subst e6
      have HN : Hid _ := src_n B0 a len cap 64 u hI.src (by omega)
      have HI : Hid _ := hI
      clear hI hall hi
      refine wpOp_step rfl (fun K hK => ?_)
      go_simp
      refine Calls.mono HN.out ?_
      rintro e9 u5 ⟨r, rfl, r0, r1, hs5, hg5⟩
      have h := HI.out
      exact hK _ _ ⟨b0, b1, b2, b3, b4, b5, b6, true, b8, b9, b10, v4, v5, v6, v7, v8, v9, _, _, v12, v13, v3, rfl, rfl, ⟨h.lt, h.le, hs5, Lib.grownBy_trans h.gr hg5, fun e => (h.c0 e).grow h.lt hg5, h.c1, h.c2, fun e => (h.c3 e).grow h.lt hg5, h.c4, h.c5, h.c6, fun _ => ⟨r, rfl, r0, by omega⟩, h.c8, h.c9, h.c10⟩⟩
    · obtain rfl : b8 = false := hf
      cases ho
      have hb7 : b7 = true := hall { on := 7, ground := .data } (by simp) rfl
      obtain ⟨y7, rfl, y7b, y7c⟩ := hI.c7 hb7
      have HI : Hid _ := hI
      clear hI hall hi
      refine wpOp_step rfl (fun K hK => ?_)
      go_simp
      have h := HI.out
      exact hK _ _ ⟨b0, b1, b2, b3, b4, b5, b6, b7, true, b9, b10, v4, v5, v6, v7, v8, v9, v10, _, _, v13, v3, rfl, rfl, ⟨h.lt, h.le, h.src, h.gr, h.c0, h.c1, h.c2, h.c3, h.c4, h.c5, h.c6, h.c7, fun _ => ⟨_, rfl, by first | omega | (rw [IntKind.wrap_i64]; omega), by first | omega | (rw [IntKind.wrap_i64]; omega)⟩, h.c9, h.c10⟩⟩
    · obtain rfl : b9 = false := hf
      cases ho
      have hb5 : b5 = true := hall { on := 5, ground := .data } (by simp) rfl
      have hb8 : b8 = true := hall { on := 8, ground := .data } (by simp) rfl
      obtain ⟨y5, rfl, y5b, y5c⟩ := hI.c5 hb5
      obtain ⟨y8, rfl, y8b, y8c⟩ := hI.c8 hb8
      have HI : Hid _ := hI
      clear hI hall hi
      refine wpOp_step rfl (fun K hK => ?_)
      go_simp
      have h := HI.out
      exact hK _ _ ⟨b0, b1, b2, b3, b4, b5, b6, b7, b8, true, b10, v4, v5, v6, v7, v8, _, v10, v11, _, _, v3, rfl, rfl, ⟨h.lt, h.le, h.src, h.gr, h.c0, h.c1, h.c2, h.c3, h.c4, h.c5, h.c6, h.c7, h.c8, fun _ => ⟨_, rfl, by first | omega | (rw [IntKind.wrap_i64]; omega), by first | omega | (rw [IntKind.wrap_i64]; omega)⟩, h.c10⟩⟩
    · obtain rfl : b10 = false := hf
      cases ho
      have hb9 : b9 = true := hall { on := 9, ground := .data } (by simp) rfl
      obtain ⟨y9, rfl, y9b, y9c⟩ := hI.c9 hb9
      have HI : Hid _ := hI
      clear hI hall hi
      refine wpOp_step rfl (fun K hK => ?_)
      go_simp
      have h := HI.out
      exact hK _ _ ⟨b0, b1, b2, b3, b4, b5, b6, b7, b8, b9, true, v4, v5, v6, v7, v8, v9, v10, v11, v12, _, _, rfl, rfl, ⟨h.lt, h.le, h.src, h.gr, h.c0, h.c1, h.c2, h.c3, h.c4, h.c5, h.c6, h.c7, h.c8, h.c9, fun _ => ⟨_, rfl, by first | omega | (rw [IntKind.wrap_i64]; omega), by first | omega | (rw [IntKind.wrap_i64]; omega)⟩⟩⟩
end Go.Proofs.Ytoihmaefdchicaa
