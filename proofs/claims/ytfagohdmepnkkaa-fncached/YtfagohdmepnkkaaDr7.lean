import Derived.Test.YtfagohdmepnkkaaDr3
import Derived.Test.YtfagohdmepnkkaaTPut4
import Derived.Deep.DeepCutAuto
namespace Go.Proofs.Ytfagohdmepnkkaa
open Go.ChangeShapes Go.WideShapes Go.ChangeAt Go.RowKit

def KTE (v : Value) : Prop := ∃ m : TE, v = teA m
def KBoxT (B : Nat) (v : Value) (u : World) : Prop := ∃ p, v = .pointer (some ⟨p, 0, none⟩) ∧ B ≤ p ∧ u.heap[p]? = some (.cells #[.int .i64 0, .int .i64 0, .int .i64 0, .int .i64 0, .bool false] 66 (0, 0))
theorem KBoxT.grow {B b : Nat} {v : Value} {u u' : World} (h : KBoxT B v u) (hb : b < B) (hg : u.grownBy u' (some b)) : KBoxT B v u' := by
  obtain ⟨p, h1, h2, h3⟩ := h
  exact ⟨p, h1, h2, (hg.block p (Array.getElem?_eq_some_iff.1 h3).1 (by simp; omega)).trans h3⟩
/-- An entry under way, in its box. -/
structure EB (B0 : Nat) (a : Option Addr) (len cap : Nat) (w : World) (p : Nat) (m : TE) (u : World) : Prop where
  lt : B0 < w.heap.size
  src : SrcOk u B0 a len cap
  gr : w.grownBy u (some B0)
  lo : w.heap.size ≤ p
  box : u.heap[p]? = some (.cells #[.int .i64 m.asid, .int .i64 m.page, .int .i64 m.frame, .int .i64 m.flags, .bool m.large] 66 (0, 0))
theorem EB.step {B0 : Nat} {a : Option Addr} {len cap : Nat} {w : World} {p : Nat} {m : TE} {u u' : World} (h : EB B0 a len cap w p m u) (hs : SrcOk u' B0 a len cap) (hg : u.grownBy u' (some B0)) : EB B0 a len cap w p m u' := by
  have h1 := h.lt
  have h2 := h.lo
  exact ⟨h.lt, hs, Lib.grownBy_trans h.gr hg, h.lo, (hg.block p (Array.getElem?_eq_some_iff.1 h.box).1 (by simp; omega)).trans h.box⟩
theorem EB.set1 {B0 : Nat} {a : Option Addr} {len cap : Nat} {w : World} {p : Nat} {u : World} (lt : B0 < w.heap.size) (src : SrcOk u B0 a len cap) (gr : w.grownBy u (some B0)) (lo : w.heap.size ≤ p) (o : Nat) (x : Value) : SrcOk (u.setCell ⟨p, o, none⟩ x) B0 a len cap ∧ w.grownBy (u.setCell ⟨p, o, none⟩ x) (some B0) :=
  ⟨src.keep (fun j hj => Below.heap_setCell _ _ _ _ (by simp only; omega)), gfar gr (row := some p) ⟨rfl, rfl, rfl, by simp [World.setCell], fun j _ hj => Below.heap_setCell _ _ _ _ (fun q => hj (by rw [q]))⟩ (fun j hj => by cases hj; exact lo)⟩
theorem eb_put {B0 : Nat} {a : Option Addr} {len cap : Nat} {w : World} {p : Nat} {u : World} {x0 x1 x2 x3 x4 : Value} (lt : B0 < w.heap.size) (src : SrcOk u B0 a len cap) (gr : w.grownBy u (some B0)) (lo : w.heap.size ≤ p) (box : u.heap[p]? = some (.cells #[x0, x1, x2, x3, x4] 66 (0, 0))) (m : TE) {U : World} (hU : ((((u.setCell ⟨p, 0, none⟩ (.int .i64 m.asid)).setCell ⟨p, 1, none⟩ (.int .i64 m.page)).setCell ⟨p, 2, none⟩ (.int .i64 m.frame)).setCell ⟨p, 3, none⟩ (.int .i64 m.flags)).setCell ⟨p, 4, none⟩ (.bool m.large) = U) : EB B0 a len cap w p m U := by
  subst hU
  have s0 := EB.set1 lt src gr lo 0 (.int .i64 m.asid)
  have s1 := EB.set1 lt s0.1 s0.2 lo 1 (.int .i64 m.page)
  have s2 := EB.set1 lt s1.1 s1.2 lo 2 (.int .i64 m.frame)
  have s3 := EB.set1 lt s2.1 s2.2 lo 3 (.int .i64 m.flags)
  have s4 := EB.set1 lt s3.1 s3.2 lo 4 (.bool m.large)
  refine ⟨lt, s4.1, s4.2, lo, ?_⟩
  have h0 := heap_setCell_same u p 0 _ _ (.int .i64 m.asid) box
  have h1 := heap_setCell_same _ p 1 _ _ (.int .i64 m.page) h0
  have h2 := heap_setCell_same _ p 2 _ _ (.int .i64 m.frame) h1
  have h3 := heap_setCell_same _ p 3 _ _ (.int .i64 m.flags) h2
  have h4 := heap_setCell_same _ p 4 _ _ (.bool m.large) h3
  simpa using h4
theorem EB.put {B0 : Nat} {a : Option Addr} {len cap : Nat} {w : World} {p : Nat} {x0 x1 x2 x3 : Int} {x4 : Bool} {u : World} (h : EB B0 a len cap w p ⟨x0, x1, x2, x3, x4⟩ u) :
    (∀ y : Int, EB B0 a len cap w p ⟨x0, y, x2, x3, x4⟩ (u.setCell ⟨p, 1, none⟩ (.int .i64 y))) ∧ (∀ y : Int, EB B0 a len cap w p ⟨x0, x1, y, x3, x4⟩ (u.setCell ⟨p, 2, none⟩ (.int .i64 y))) ∧ (∀ y : Bool, EB B0 a len cap w p ⟨x0, x1, x2, x3, y⟩ (u.setCell ⟨p, 4, none⟩ (.bool y))) := by
  refine ⟨fun y => ?_, fun y => ?_, fun y => ?_⟩
  · have s0 := EB.set1 h.lt h.src h.gr h.lo 1 (.int .i64 y)
    exact ⟨h.lt, s0.1, s0.2, h.lo, by simpa using heap_setCell_same u p 1 _ _ (.int .i64 y) h.box⟩
  · have s0 := EB.set1 h.lt h.src h.gr h.lo 2 (.int .i64 y)
    exact ⟨h.lt, s0.1, s0.2, h.lo, by simpa using heap_setCell_same u p 2 _ _ (.int .i64 y) h.box⟩
  · have s0 := EB.set1 h.lt h.src h.gr h.lo 4 (.bool y)
    exact ⟨h.lt, s0.1, s0.2, h.lo, by simpa using heap_setCell_same u p 4 _ _ (.bool y) h.box⟩
theorem cel5F {u : World} {b t : Nat} {a0 a1 a2 a3 a4 : Value} (h : u.heap[b]? = some (.cells #[a0, a1, a2, a3, a4] t (0, 0))) : u.cell? ⟨b, 0, none⟩ = some a0 ∧ u.cell? ⟨b, 1, none⟩ = some a1 ∧ u.cell? ⟨b, 2, none⟩ = some a2 ∧ u.cell? ⟨b, 3, none⟩ = some a3 ∧ u.cell? ⟨b, 4, none⟩ = some a4 ∧ ∀ x, u.frozen? ⟨b, x, none⟩ = false := by
  refine ⟨?_, ?_, ?_, ?_, ?_, fun x => ?_⟩
  all_goals first | (simp [World.cell?, h]; done) | (simp [World.frozen?, h]; done)
theorem te_box {u : World} {b : Nat} {a0 a1 a2 a3 a4 : Value} (h : u.heap[b]? = some (.cells #[a0, a1, a2, a3, a4] 66 (0, 0))) (x0 x1 x2 x3 : Int) (x4 : Bool) : (((((u.setCell ⟨b, 0, none⟩ (.int .i64 x0)).setCell ⟨b, 1, none⟩ (.int .i64 x1)).setCell ⟨b, 2, none⟩ (.int .i64 x2)).setCell ⟨b, 3, none⟩ (.int .i64 x3)).setCell ⟨b, 4, none⟩ (.bool x4)).heap[b]? = some (.cells #[.int .i64 x0, .int .i64 x1, .int .i64 x2, .int .i64 x3, .bool x4] 66 (0, 0)) := by
  have h0 := heap_setCell_same u b 0 _ _ (.int .i64 x0) h
  have h1 := heap_setCell_same _ b 1 _ _ (.int .i64 x1) h0
  have h2 := heap_setCell_same _ b 2 _ _ (.int .i64 x2) h1
  have h3 := heap_setCell_same _ b 3 _ _ (.int .i64 x3) h2
  have h4 := heap_setCell_same _ b 4 _ _ (.bool x4) h3
  simpa using h4
theorem te_keep {u : World} {b j : Nat} {y0 y1 y2 y3 y4 : Value} (h : j ≠ b) : (((((u.setCell ⟨b, 0, none⟩ y0).setCell ⟨b, 1, none⟩ y1).setCell ⟨b, 2, none⟩ y2).setCell ⟨b, 3, none⟩ y3).setCell ⟨b, 4, none⟩ y4).heap[j]? = u.heap[j]? := by
  iterate 5 rw [Below.heap_setCell _ _ _ _ h]
theorem g_set {w u : World} {B0 b o : Nat} {y : Value} (h : w.grownBy u (some B0)) (hb : w.heap.size ≤ b) : w.grownBy (u.setCell ⟨b, o, none⟩ y) (some B0) :=
  gfar h (row := some b) ⟨rfl, rfl, rfl, by simp [World.setCell], fun j _ hj => Below.heap_setCell _ _ _ _ (fun q => hj (by rw [q]))⟩ (fun j hj => by cases hj; exact hb)
theorem te_gr {w W u : World} {B0 b : Nat} {y0 y1 y2 y3 y4 : Value} (h : w.grownBy W (some B0)) (h2 : W.grownBy u (some B0)) (hb : w.heap.size ≤ b) : w.grownBy (((((u.setCell ⟨b, 0, none⟩ y0).setCell ⟨b, 1, none⟩ y1).setCell ⟨b, 2, none⟩ y2).setCell ⟨b, 3, none⟩ y3).setCell ⟨b, 4, none⟩ y4) (some B0) :=
  g_set (g_set (g_set (g_set (g_set (Lib.grownBy_trans h h2) hb) hb) hb) hb) hb
structure TeR (B0 B : Nat) (w : World) (a : Option Addr) (len cap : Nat) (b0 b1 b2 b3 b4 b5 b6 b7 b8 b9 b10 b11 b12 b13 : Bool) (v4 v5 v6 v7 v8 v9 v10 v11 v12 v13 v14 v15 v3 : Value) (u : World) : Prop where
  lt : B0 < B
  le : B ≤ w.heap.size
  src : SrcOk u B0 a len cap
  gr : w.grownBy u (some B0)
  c0 : b0 = true → KSrc B0 v4
  c1 : b1 = true → KNum 0 2 v5
  c2 : b2 = true → KLit B [0, 1, 2, 31, 32, 33, 64, 1023] v6 u
  c3 : b3 = true → KSrc B0 v7
  c4 : b4 = true → KNum 0 7 v8
  c5 : b5 = true → KPtr B [0, 1, 2, 31, 32, 33, 64, 1023] v9 u
  c6 : b6 = true → KNum 0 1023 v10
  c7 : b7 = true → KSrc B0 v11
  c8 : b8 = true → KNum 0 39 v12
  c9 : b9 = true → KSrc B0 v13
  c10 : b10 = true → KNum 0 255 v14
  c11 : b11 = true → KTE v15
  c12 : b12 = true → KBoxT B v3 u
set_option maxRecDepth 100000 in
set_option maxHeartbeats 8000000 in
theorem src_tlbEntry (B0 : Nat) (a : Option Addr) (len cap : Nat) (w : World) (h : SrcOk w B0 a len cap) :
    Calls Try.prog 126 #[.pointer (some ⟨B0, 0, none⟩)] w fun e w' => ∃ m : TE, e = .returned (teA m) ∧ SrcOk w' B0 a len cap ∧ w.grownBy w' (some B0) := by
  have hlt := h.lt
  have HS : Hid (SrcOk (w.alloc (.cells #[.int .i64 0, .int .i64 0, .int .i64 0, .int .i64 0, .bool false] 66)) B0 a len cap) := h.far (World.grownBy_alloc _ _ none)
  have HGW : Hid (w.grownBy (w.alloc (.cells #[.int .i64 0, .int .i64 0, .int .i64 0, .int .i64 0, .bool false] 66)) (some B0)) := gAl
  have HR0 : Hid ((w.alloc (.cells #[.int .i64 0, .int .i64 0, .int .i64 0, .int .i64 0, .bool false] 66)).heap[w.heap.size]? = some (.cells #[.int .i64 0, .int .i64 0, .int .i64 0, .int .i64 0, .bool false] 66 (0, 0))) := (MapKept.heap_alloc w _).1
  have HSZ : Hid ((w.alloc (.cells #[.int .i64 0, .int .i64 0, .int .i64 0, .int .i64 0, .bool false] 66)).heap.size = w.heap.size + 1) := (show _ = _ by simp)
  clear h
  go_enter Try.func126, Try.ntmps126
  go_wp2_with fail
  generalize w.alloc (.cells #[.int .i64 0, .int .i64 0, .int .i64 0, .int .i64 0, .bool false] 66) = W at *
  refine wp_region_any (by kernel_rfl) ?_
  refine wpAny_inv (fun L a9 u => ∃ (b0 b1 b2 b3 b4 b5 b6 b7 b8 b9 b10 b11 b12 b13 : Bool) (v4 v5 v6 v7 v8 v9 v10 v11 v12 v13 v14 v15 v3 : Value), L = #[b0, b1, b2, b3, b4, b5, b6, b7, b8, b9, b10, b11, b12, b13] ∧ a9 = { tmps := #[.pointer (some ⟨B0, 0, none⟩), undef, .pointer (some ⟨w.heap.size, 0, none⟩), v3, v4, v5, v6, v7, v8, v9, v10, v11, v12, v13, v14, v15, undef, undef, undef, undef, undef, undef, undef, undef, undef, undef, undef, undef], defers := [] } ∧ ((b13 = false ∧ TeR B0 W.heap.size W a len cap b0 b1 b2 b3 b4 b5 b6 b7 b8 b9 b10 b11 b12 b13 v4 v5 v6 v7 v8 v9 v10 v11 v12 v13 v14 v15 v3 u) ∨ (b0 = true ∧ b1 = true ∧ b2 = true ∧ b3 = true ∧ b4 = true ∧ b5 = true ∧ b6 = true ∧ b7 = true ∧ b8 = true ∧ b9 = true ∧ b10 = true ∧ b11 = true ∧ b12 = true ∧ b13 = true ∧ ∃ (p : Nat) (m : TE), v3 = .pointer (some ⟨p, 0, none⟩) ∧ EB B0 a len cap W p m u))) ?hs ?hd _ _ _ _ (by decide) ?st
  case st => exact ⟨false, false, false, false, false, false, false, false, false, false, false, false, false, false, undef, undef, undef, undef, undef, undef, undef, undef, undef, undef, undef, undef, undef, rfl, rfl, .inl ⟨rfl, ⟨by have := HSZ.out; omega, Nat.le_refl _, HS.out.bel (Below.refl _ _).drew, ⟨rfl, rfl, rfl, Nat.le_refl _, fun _ _ _ => rfl⟩, (fun e => by cases e), (fun e => by cases e), (fun e => by cases e), (fun e => by cases e), (fun e => by cases e), (fun e => by cases e), (fun e => by cases e), (fun e => by cases e), (fun e => by cases e), (fun e => by cases e), (fun e => by cases e), (fun e => by cases e), (fun e => by cases e)⟩⟩⟩
  case hd =>
    rintro L a9 u ⟨b0, b1, b2, b3, b4, b5, b6, b7, b8, b9, b10, b11, b12, b13, v4, v5, v6, v7, v8, v9, v10, v11, v12, v13, v14, v15, v3, rfl, rfl, hI⟩ hr
    have hall := fun he hL => all_up (md := _) he hL hr
    have hall2 := hall (by kernel_rfl) rfl
    rcases hI with ⟨rfl, hI⟩ | ⟨rfl, rfl, rfl, rfl, rfl, rfl, rfl, rfl, rfl, rfl, rfl, rfl, rfl, rfl, p, ⟨x0, x1, x2, x3, x4⟩, rfl, hM⟩
    · exact Bool.noConfusion (show false = true from hall2 13 (by decide))
    have HM1 : Hid (EB B0 a len cap W p ⟨x0, x1, x2, x3, x4⟩ u) := hM
    clear hM hr hall hall2 HS
    go_wp2_with fail
    refine (src_one B0 a len cap 4 u HM1.out.src (by omega)).mono ?_
    rintro e U1 ⟨t1, rfl, hs1, hg1⟩
    have HM2 : Hid (EB B0 a len cap W p ⟨x0, x1, x2, x3, x4⟩ U1) := HM1.out.step hs1 hg1
    clear hs1 hg1 HM1
    cases t1
    · skip
      obtain ⟨d0, d1, d2, d3, d4, df⟩ := cel5F HM2.out.box
      have HRB : Hid (U1.heap[w.heap.size]? = some (.cells #[.int .i64 0, .int .i64 0, .int .i64 0, .int .i64 0, .bool false] 66 (0, 0))) := (HM2.out.gr.block _ (Array.getElem?_eq_some_iff.1 HR0.out).1 (by simp; omega)).trans HR0.out
      obtain ⟨r0, r1, r2, r3, r4, rf⟩ := cel5F HRB.out
      have hltR := (Array.getElem?_eq_some_iff.1 HRB.out).1
      have hltP := (Array.getElem?_eq_some_iff.1 HM2.out.box).1
      go_wp2
      have hfin := te_box HRB.out x0 x1 x2 x3 x4
      obtain ⟨f0, f1, f2, f3, f4, _⟩ := cel5F hfin
      refine bodyPost_ret (v := teA ⟨x0, x1, x2, x3, x4⟩) (by simp [results, Try.results126, go_sem, teA, f0, f1, f2, f3, f4]) rfl ?_
      have qA := fun y0 y1 y2 y3 y4 => HM2.out.src.keep (fun j hj => te_keep (b := w.heap.size) (y0 := y0) (y1 := y1) (y2 := y2) (y3 := y3) (y4 := y4) (by omega))
      first
        | exact ⟨_, rfl, qA _ _ _ _ _, te_gr HGW.out HM2.out.gr (Nat.le_refl _)⟩
        | exact ⟨⟨_, rfl⟩, qA _ _ _ _ _, te_gr HGW.out HM2.out.gr (Nat.le_refl _)⟩
    · go_wp2_with fail
      refine (src_n B0 a len cap 3 U1 HM2.out.src (by omega)).mono ?_
      rintro e U2 ⟨q2, rfl, q20, q21, hs2, hg2⟩
      have HM3 : Hid (EB B0 a len cap W p ⟨x0, x1, x2, x3, x4⟩ U2) := HM2.out.step hs2 hg2
      clear hs2 hg2 HM2
      obtain ⟨d0, d1, d2, d3, d4, df⟩ := cel5F HM3.out.box
      have HM4 : Hid (EB B0 a len cap W p ⟨x0, 32 * q2, x2, x3, x4⟩ (U2.setCell ⟨p, 1, none⟩ (.int .i64 (32 * q2)))) := HM3.out.put.1 (32 * q2)
      go_upto_region 4 with fail
      generalize U2.setCell ⟨p, 1, none⟩ (.int .i64 (32 * q2)) = U3 at *
      clear HM3 d0 d1 d2 d3 d4 df
      go_wp2_with fail
      refine (src_n B0 a len cap 2 U3 HM4.out.src (by omega)).mono ?_
      rintro e U4 ⟨q4, rfl, q40, q41, hs4, hg4⟩
      have HM5 : Hid (EB B0 a len cap W p ⟨x0, 32 * q2, x2, x3, x4⟩ U4) := HM4.out.step hs4 hg4
      clear hs4 hg4 HM4
      obtain ⟨d0, d1, d2, d3, d4, df⟩ := cel5F HM5.out.box
      have HM6 : Hid (EB B0 a len cap W p ⟨x0, 32 * q2, 32 * q4, x3, x4⟩ (U4.setCell ⟨p, 2, none⟩ (.int .i64 (32 * q4)))) := HM5.out.put.2.1 (32 * q4)
      go_upto_region 5 with fail
      generalize U4.setCell ⟨p, 2, none⟩ (.int .i64 (32 * q4)) = U5 at *
      clear HM5 d0 d1 d2 d3 d4 df
      obtain ⟨d0, d1, d2, d3, d4, df⟩ := cel5F HM6.out.box
      have HM7 : Hid (EB B0 a len cap W p ⟨x0, 32 * q2, 32 * q4, x3, true⟩ (U5.setCell ⟨p, 4, none⟩ (.bool true))) := HM6.out.put.2.2 true
      go_upto_region 6 with fail
      generalize U5.setCell ⟨p, 4, none⟩ (.bool true) = U6 at *
      clear HM6 d0 d1 d2 d3 d4 df
      obtain ⟨d0, d1, d2, d3, d4, df⟩ := cel5F HM7.out.box
      have HRB : Hid (U6.heap[w.heap.size]? = some (.cells #[.int .i64 0, .int .i64 0, .int .i64 0, .int .i64 0, .bool false] 66 (0, 0))) := (HM7.out.gr.block _ (Array.getElem?_eq_some_iff.1 HR0.out).1 (by simp; omega)).trans HR0.out
      obtain ⟨r0, r1, r2, r3, r4, rf⟩ := cel5F HRB.out
      have hltR := (Array.getElem?_eq_some_iff.1 HRB.out).1
      have hltP := (Array.getElem?_eq_some_iff.1 HM7.out.box).1
      go_wp2
      have hfin := te_box HRB.out x0 (32 * q2) (32 * q4) x3 true
      obtain ⟨f0, f1, f2, f3, f4, _⟩ := cel5F hfin
      refine bodyPost_ret (v := teA ⟨x0, (32 * q2), (32 * q4), x3, true⟩) (by simp [results, Try.results126, go_sem, teA, f0, f1, f2, f3, f4]) rfl ?_
      have qA := fun y0 y1 y2 y3 y4 => HM7.out.src.keep (fun j hj => te_keep (b := w.heap.size) (y0 := y0) (y1 := y1) (y2 := y2) (y3 := y3) (y4 := y4) (by omega))
      first
        | exact ⟨_, rfl, qA _ _ _ _ _, te_gr HGW.out HM7.out.gr (Nat.le_refl _)⟩
        | exact ⟨⟨_, rfl⟩, qA _ _ _ _ _, te_gr HGW.out HM7.out.gr (Nat.le_refl _)⟩
  case hs =>
    rintro L a9 u i ⟨b0, b1, b2, b3, b4, b5, b6, b7, b8, b9, b10, b11, b12, b13, v4, v5, v6, v7, v8, v9, v10, v11, v12, v13, v14, v15, v3, rfl, rfl, hI⟩ hi
    obtain ⟨hf, o, ho, hall⟩ := mem_ready.1 hi
    have hi8 : i < 14 := (Array.getElem?_eq_some_iff.1 ho).1
    rcases hI with ⟨rfl, hI⟩ | ⟨rfl, rfl, rfl, rfl, rfl, rfl, rfl, rfl, rfl, rfl, rfl, rfl, rfl, rfl, _⟩
    · obtain rfl | rfl | rfl | rfl | rfl | rfl | rfl | rfl | rfl | rfl | rfl | rfl | rfl | rfl : i = 0 ∨ i = 1 ∨ i = 2 ∨ i = 3 ∨ i = 4 ∨ i = 5 ∨ i = 6 ∨ i = 7 ∨ i = 8 ∨ i = 9 ∨ i = 10 ∨ i = 11 ∨ i = 12 ∨ i = 13 := by omega
      · obtain rfl : b0 = false := hf
        have HI : Hid _ := hI
        clear hI hall hi
        refine wpOp_step rfl (fun K hK => ?_)
        go_simp
        have h := HI.out
        exact hK _ _ ⟨true, b1, b2, b3, b4, b5, b6, b7, b8, b9, b10, b11, b12, false, _, v5, v6, v7, v8, v9, v10, v11, v12, v13, v14, v15, v3, rfl, rfl, .inl ⟨rfl, ⟨h.lt, h.le, h.src, h.gr, fun _ => rfl, h.c1, h.c2, h.c3, h.c4, h.c5, h.c6, h.c7, h.c8, h.c9, h.c10, h.c11, h.c12⟩⟩⟩
      · obtain rfl : b1 = false := hf
        cases ho
        have hb0 : b0 = true := hall { on := 0, ground := .data } (by simp) rfl
        have e0 : v4 = .pointer (some ⟨B0, 0, none⟩) := hI.c0 hb0
        subst e0
        have HN : Hid _ := src_n B0 a len cap 3 u hI.src (by omega)
        have HI : Hid _ := hI
        clear hI hall hi
        refine wpOp_step rfl (fun K hK => ?_)
        go_simp
        refine Calls.mono HN.out ?_
        rintro e9 u5 ⟨r, rfl, r0, r1, hs5, hg5⟩
        have h := HI.out
        exact hK _ _ ⟨b0, true, b2, b3, b4, b5, b6, b7, b8, b9, b10, b11, b12, false, _, _, v6, v7, v8, v9, v10, v11, v12, v13, v14, v15, v3, rfl, rfl, .inl ⟨rfl, ⟨h.lt, h.le, hs5, Lib.grownBy_trans h.gr hg5, h.c0, fun _ => ⟨r, rfl, r0, by omega⟩, fun e => (h.c2 e).grow h.lt hg5, h.c3, h.c4, fun e => (h.c5 e).grow h.lt hg5, h.c6, h.c7, h.c8, h.c9, h.c10, h.c11, fun e => (h.c12 e).grow h.lt hg5⟩⟩⟩
      · obtain rfl : b2 = false := hf
        have HI : Hid _ := hI
        clear hI hall hi
        refine wpOp_step rfl (fun K hK => ?_)
        go_simp
        have h := HI.out
        exact hK _ _ ⟨b0, b1, true, b3, b4, b5, b6, b7, b8, b9, b10, b11, b12, false, v4, v5, _, v7, v8, v9, v10, v11, v12, v13, v14, v15, v3, rfl, rfl, .inl ⟨rfl, ⟨h.lt, h.le, h.src.far (World.grownBy_alloc _ _ none), Lib.grownBy_trans h.gr gAl, h.c0, h.c1, fun _ => ⟨u.heap.size, rfl, Nat.le_trans h.le h.gr.size, (MapKept.heap_alloc u _).1⟩, h.c3, h.c4, fun e => (h.c5 e).grow h.lt gAl, h.c6, h.c7, h.c8, h.c9, h.c10, h.c11, fun e => (h.c12 e).grow h.lt gAl⟩⟩⟩
      · obtain rfl : b3 = false := hf
        have HI : Hid _ := hI
        clear hI hall hi
        refine wpOp_step rfl (fun K hK => ?_)
        go_simp
        have h := HI.out
        exact hK _ _ ⟨b0, b1, b2, true, b4, b5, b6, b7, b8, b9, b10, b11, b12, false, v4, v5, v6, _, v8, v9, v10, v11, v12, v13, v14, v15, v3, rfl, rfl, .inl ⟨rfl, ⟨h.lt, h.le, h.src, h.gr, h.c0, h.c1, h.c2, fun _ => rfl, h.c4, h.c5, h.c6, h.c7, h.c8, h.c9, h.c10, h.c11, h.c12⟩⟩⟩
      · obtain rfl : b4 = false := hf
        cases ho
        have hb3 : b3 = true := hall { on := 3, ground := .data } (by simp) rfl
        have e3 : v7 = .pointer (some ⟨B0, 0, none⟩) := hI.c3 hb3
        subst e3
        have HN : Hid _ := src_n B0 a len cap 8 u hI.src (by omega)
        have HI : Hid _ := hI
        clear hI hall hi
        refine wpOp_step rfl (fun K hK => ?_)
        go_simp
        refine Calls.mono HN.out ?_
        rintro e9 u5 ⟨r, rfl, r0, r1, hs5, hg5⟩
        have h := HI.out
        exact hK _ _ ⟨b0, b1, b2, b3, true, b5, b6, b7, b8, b9, b10, b11, b12, false, v4, v5, v6, _, _, v9, v10, v11, v12, v13, v14, v15, v3, rfl, rfl, .inl ⟨rfl, ⟨h.lt, h.le, hs5, Lib.grownBy_trans h.gr hg5, h.c0, h.c1, fun e => (h.c2 e).grow h.lt hg5, h.c3, fun _ => ⟨r, rfl, r0, by omega⟩, fun e => (h.c5 e).grow h.lt hg5, h.c6, h.c7, h.c8, h.c9, h.c10, h.c11, fun e => (h.c12 e).grow h.lt hg5⟩⟩⟩
      · obtain rfl : b5 = false := hf
        cases ho
        have hb2 : b2 = true := hall { on := 2, ground := .data } (by simp) rfl
        have hb4 : b4 = true := hall { on := 4, ground := .data } (by simp) rfl
        obtain ⟨p2, e2, p2b, p2c⟩ := hI.c2 hb2
        replace e2 : v6 = .slice (some ⟨p2, 0, none⟩) 8 8 := e2
        subst e2
        obtain ⟨y4, rfl, y4b, y4c⟩ := hI.c4 hb4
        obtain ⟨R, rfl⟩ := Int.eq_ofNat_of_zero_le y4b
        have R1 : (R : Int) < 8 := by omega
        have R0 : R < 8 := by omega
        have HI : Hid _ := hI
        clear hI hall hi
        refine wpOp_step rfl (fun K hK => ?_)
        go_simp
        have h := HI.out
        exact hK _ _ ⟨b0, b1, b2, b3, b4, true, b6, b7, b8, b9, b10, b11, b12, false, v4, v5, _, v7, _, _, v10, v11, v12, v13, v14, v15, v3, rfl, rfl, .inl ⟨rfl, ⟨h.lt, h.le, h.src, h.gr, h.c0, h.c1, h.c2, h.c3, h.c4, fun _ => ⟨p2, R, rfl, R0, p2b, p2c⟩, h.c6, h.c7, h.c8, h.c9, h.c10, h.c11, h.c12⟩⟩⟩
      · obtain rfl : b6 = false := hf
        cases ho
        have hb5 : b5 = true := hall { on := 5, ground := .data } (by simp) rfl
        obtain ⟨p5, r5, rfl, r5b, p5b, p5c⟩ := hI.c5 hb5
        have hcl := lit_cell p5c r5b
        have hbd := inB.at (lo := 0) (hi := 1023) (by unfold inB; decide) r5b
        generalize ([0, 1, 2, 31, 32, 33, 64, 1023] : List Int)[r5] = y at hcl hbd
        have HI : Hid _ := hI
        clear hI hall hi
        refine wpOp_step rfl (fun K hK => ?_)
        go_simp
        have h := HI.out
        exact hK _ _ ⟨b0, b1, b2, b3, b4, b5, true, b7, b8, b9, b10, b11, b12, false, v4, v5, v6, v7, v8, _, _, v11, v12, v13, v14, v15, v3, rfl, rfl, .inl ⟨rfl, ⟨h.lt, h.le, h.src, h.gr, h.c0, h.c1, h.c2, h.c3, h.c4, h.c5, fun _ => ⟨y, rfl, hbd.1, hbd.2⟩, h.c7, h.c8, h.c9, h.c10, h.c11, h.c12⟩⟩⟩
      · obtain rfl : b7 = false := hf
        have HI : Hid _ := hI
        clear hI hall hi
        refine wpOp_step rfl (fun K hK => ?_)
        go_simp
        have h := HI.out
        exact hK _ _ ⟨b0, b1, b2, b3, b4, b5, b6, true, b8, b9, b10, b11, b12, false, v4, v5, v6, v7, v8, v9, v10, _, v12, v13, v14, v15, v3, rfl, rfl, .inl ⟨rfl, ⟨h.lt, h.le, h.src, h.gr, h.c0, h.c1, h.c2, h.c3, h.c4, h.c5, h.c6, fun _ => rfl, h.c8, h.c9, h.c10, h.c11, h.c12⟩⟩⟩
      · obtain rfl : b8 = false := hf
        cases ho
        have hb7 : b7 = true := hall { on := 7, ground := .data } (by simp) rfl
        have e7 : v11 = .pointer (some ⟨B0, 0, none⟩) := hI.c7 hb7
        subst e7
        have HN : Hid _ := src_n B0 a len cap 40 u hI.src (by omega)
        have HI : Hid _ := hI
        clear hI hall hi
        refine wpOp_step rfl (fun K hK => ?_)
        go_simp
        refine Calls.mono HN.out ?_
        rintro e9 u5 ⟨r, rfl, r0, r1, hs5, hg5⟩
        have h := HI.out
        exact hK _ _ ⟨b0, b1, b2, b3, b4, b5, b6, b7, true, b9, b10, b11, b12, false, v4, v5, v6, v7, v8, v9, v10, _, _, v13, v14, v15, v3, rfl, rfl, .inl ⟨rfl, ⟨h.lt, h.le, hs5, Lib.grownBy_trans h.gr hg5, h.c0, h.c1, fun e => (h.c2 e).grow h.lt hg5, h.c3, h.c4, fun e => (h.c5 e).grow h.lt hg5, h.c6, h.c7, fun _ => ⟨r, rfl, r0, by omega⟩, h.c9, h.c10, h.c11, fun e => (h.c12 e).grow h.lt hg5⟩⟩⟩
      · obtain rfl : b9 = false := hf
        have HI : Hid _ := hI
        clear hI hall hi
        refine wpOp_step rfl (fun K hK => ?_)
        go_simp
        have h := HI.out
        exact hK _ _ ⟨b0, b1, b2, b3, b4, b5, b6, b7, b8, true, b10, b11, b12, false, v4, v5, v6, v7, v8, v9, v10, v11, v12, _, v14, v15, v3, rfl, rfl, .inl ⟨rfl, ⟨h.lt, h.le, h.src, h.gr, h.c0, h.c1, h.c2, h.c3, h.c4, h.c5, h.c6, h.c7, h.c8, fun _ => rfl, h.c10, h.c11, h.c12⟩⟩⟩
      · obtain rfl : b10 = false := hf
        cases ho
        have hb9 : b9 = true := hall { on := 9, ground := .data } (by simp) rfl
        have e9 : v13 = .pointer (some ⟨B0, 0, none⟩) := hI.c9 hb9
        subst e9
        have HN : Hid _ := src_n B0 a len cap 256 u hI.src (by omega)
        have HI : Hid _ := hI
        clear hI hall hi
        refine wpOp_step rfl (fun K hK => ?_)
        go_simp
        refine Calls.mono HN.out ?_
        rintro e9 u5 ⟨r, rfl, r0, r1, hs5, hg5⟩
        have h := HI.out
        exact hK _ _ ⟨b0, b1, b2, b3, b4, b5, b6, b7, b8, b9, true, b11, b12, false, v4, v5, v6, v7, v8, v9, v10, v11, v12, _, _, v15, v3, rfl, rfl, .inl ⟨rfl, ⟨h.lt, h.le, hs5, Lib.grownBy_trans h.gr hg5, h.c0, h.c1, fun e => (h.c2 e).grow h.lt hg5, h.c3, h.c4, fun e => (h.c5 e).grow h.lt hg5, h.c6, h.c7, h.c8, h.c9, fun _ => ⟨r, rfl, r0, by omega⟩, h.c11, fun e => (h.c12 e).grow h.lt hg5⟩⟩⟩
      · obtain rfl : b11 = false := hf
        cases ho
        have hb1 : b1 = true := hall { on := 1, ground := .data } (by simp) rfl
        have hb6 : b6 = true := hall { on := 6, ground := .data } (by simp) rfl
        have hb8 : b8 = true := hall { on := 8, ground := .data } (by simp) rfl
        have hb10 : b10 = true := hall { on := 10, ground := .data } (by simp) rfl
        obtain ⟨y1, rfl, y1b, y1c⟩ := hI.c1 hb1
        obtain ⟨y6, rfl, y6b, y6c⟩ := hI.c6 hb6
        obtain ⟨y8, rfl, y8b, y8c⟩ := hI.c8 hb8
        obtain ⟨y10, rfl, y10b, y10c⟩ := hI.c10 hb10
        have HI : Hid _ := hI
        clear hI hall hi
        refine wpOp_step rfl (fun K hK => ?_)
        go_simp
        have h := HI.out
        exact hK _ _ ⟨b0, b1, b2, b3, b4, b5, b6, b7, b8, b9, b10, true, b12, false, v4, _, v6, v7, v8, v9, _, v11, _, v13, _, _, v3, rfl, rfl, .inl ⟨rfl, ⟨h.lt, h.le, h.src, h.gr, h.c0, h.c1, h.c2, h.c3, h.c4, h.c5, h.c6, h.c7, h.c8, h.c9, h.c10, fun _ => ⟨⟨y1, y6, y8, y10, false⟩, rfl⟩, h.c12⟩⟩⟩
      · obtain rfl : b12 = false := hf
        have HI : Hid _ := hI
        clear hI hall hi
        refine wpOp_step rfl (fun K hK => ?_)
        go_simp
        have h := HI.out
        exact hK _ _ ⟨b0, b1, b2, b3, b4, b5, b6, b7, b8, b9, b10, b11, true, false, v4, v5, v6, v7, v8, v9, v10, v11, v12, v13, v14, v15, _, rfl, rfl, .inl ⟨rfl, ⟨h.lt, h.le, h.src.far (World.grownBy_alloc _ _ none), Lib.grownBy_trans h.gr gAl, h.c0, h.c1, fun e => (h.c2 e).grow h.lt gAl, h.c3, h.c4, fun e => (h.c5 e).grow h.lt gAl, h.c6, h.c7, h.c8, h.c9, h.c10, h.c11, fun _ => ⟨u.heap.size, rfl, Nat.le_trans h.le h.gr.size, (MapKept.heap_alloc u _).1⟩⟩⟩⟩
      · cases ho
        obtain rfl : b0 = true := hall { on := 0, ground := .phase } (by simp) rfl
        obtain rfl : b1 = true := hall { on := 1, ground := .phase } (by simp) rfl
        obtain rfl : b2 = true := hall { on := 2, ground := .phase } (by simp) rfl
        obtain rfl : b3 = true := hall { on := 3, ground := .phase } (by simp) rfl
        obtain rfl : b4 = true := hall { on := 4, ground := .phase } (by simp) rfl
        obtain rfl : b5 = true := hall { on := 5, ground := .phase } (by simp) rfl
        obtain rfl : b6 = true := hall { on := 6, ground := .phase } (by simp) rfl
        obtain rfl : b7 = true := hall { on := 7, ground := .phase } (by simp) rfl
        obtain rfl : b8 = true := hall { on := 8, ground := .phase } (by simp) rfl
        obtain rfl : b9 = true := hall { on := 9, ground := .phase } (by simp) rfl
        obtain rfl : b10 = true := hall { on := 10, ground := .phase } (by simp) rfl
        obtain rfl : b11 = true := hall { on := 11, ground := .phase } (by simp) rfl
        obtain rfl : b12 = true := hall { on := 12, ground := .phase } (by simp) rfl
        have hb12 : true = true := rfl
        have hb11 : true = true := rfl
        obtain ⟨p12, rfl, p12b, p12c⟩ := hI.c12 hb12
        obtain ⟨⟨m0, m1, m2, m3, m4⟩, hm9⟩ := hI.c11 hb11
        unfold teA at hm9
        simp only at hm9
        subst hm9
        have h := hI
        obtain ⟨c0, c1, c2, c3, c4, cf⟩ := cel5F p12c
        have HF : Hid (EB B0 a len cap W p12 ⟨m0, m1, m2, m3, m4⟩ (((((u.setCell ⟨p12, 0, none⟩ (.int .i64 m0)).setCell ⟨p12, 1, none⟩ (.int .i64 m1)).setCell ⟨p12, 2, none⟩ (.int .i64 m2)).setCell ⟨p12, 3, none⟩ (.int .i64 m3)).setCell ⟨p12, 4, none⟩ (.bool m4))) := eb_put h.lt h.src h.gr p12b p12c ⟨m0, m1, m2, m3, m4⟩ rfl
        clear hI h hall hi p12c
        refine wpOp_step rfl (fun K hK => ?_)
        go_simp
        exact hK _ _ ⟨true, true, true, true, true, true, true, true, true, true, true, true, true, true, v4, v5, v6, v7, v8, v9, v10, v11, v12, v13, v14, _, _, rfl, rfl, .inr ⟨rfl, rfl, rfl, rfl, rfl, rfl, rfl, rfl, rfl, rfl, rfl, rfl, rfl, rfl, p12, ⟨m0, m1, m2, m3, m4⟩, rfl, HF.out⟩⟩
    · exfalso
      obtain rfl | rfl | rfl | rfl | rfl | rfl | rfl | rfl | rfl | rfl | rfl | rfl | rfl | rfl : i = 0 ∨ i = 1 ∨ i = 2 ∨ i = 3 ∨ i = 4 ∨ i = 5 ∨ i = 6 ∨ i = 7 ∨ i = 8 ∨ i = 9 ∨ i = 10 ∨ i = 11 ∨ i = 12 ∨ i = 13 := by omega
      all_goals exact absurd hf (by decide)
end Go.Proofs.Ytfagohdmepnkkaa
