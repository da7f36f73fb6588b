import Derived.Test.YtmmodmanfoipiaaDoorSrc2
import Derived.Test.YtmmodmanfoipiaaDoorSrc3
import Derived.Test.YtmmodmanfoipiaaDoorDrc
import Derived.Test.YtmmodmanfoipiaaDoorFr1
import Derived.Deep.DeepCutAuto
import Derived.Deep.RegionLaw
namespace Go.Proofs.YtmmodmanfoipiaaDoor
open Go.ChangeShapes Go.WideShapes Go.ChangeAt Go.RowKit

theorem blkW {u : World} {b : Nat} {cs : Array Value} {t : TypeId} {z : Nat × Nat} (h : u.heap[b]? = some (.cells cs t z)) (o : Nat) (v : Value) : (u.setCell ⟨b, o, none⟩ v).heap[b]? = some (.cells (cs.setIfInBounds o v) t z) := by
  simp [World.setCell, Array.getElem?_modify, h]
theorem cel4W {u : World} {b t : Nat} {a0 a1 a2 a3 : Value} (h : u.heap[b]? = some (.cells #[a0, a1, a2, a3] t (0, 0))) : u.cell? ⟨b, 0, none⟩ = some a0 ∧ u.cell? ⟨b, 1, none⟩ = some a1 ∧ u.cell? ⟨b, 2, none⟩ = some a2 ∧ u.cell? ⟨b, 3, none⟩ = some a3 ∧ b < u.heap.size ∧ ∀ x, u.frozen? ⟨b, x, none⟩ = false := by
  have := (Array.getElem?_eq_some_iff.1 h).1
  refine ⟨?_, ?_, ?_, ?_, this, fun x => ?_⟩
  all_goals first | (simp [World.cell?, h]; done) | (simp [World.frozen?, h]; done)
theorem g_setW {w u : World} {B0 b o : Nat} {y : Value} (h : w.grownBy u (some B0)) (hb : w.heap.size ≤ b) : w.grownBy (u.setCell ⟨b, o, none⟩ y) (some B0) :=
  ⟨h.os, h.tape, h.output, Nat.le_trans h.size (by simp [World.setCell]), fun k hk hn => (Below.heap_setCell _ _ _ _ (by simp only; omega)).trans (h.block k hk hn)⟩
theorem s_setW {u : World} {B0 b o : Nat} {y : Value} {a : Option Addr} {len cap : Nat} (h : SrcOk u B0 a len cap) (hb : B0 < b) : SrcOk (u.setCell ⟨b, o, none⟩ y) B0 a len cap :=
  h.keep fun i hi => Below.heap_setCell _ _ _ _ (by simp only; omega)
/-- A frame under way, in its box. -/
structure FB (B0 : Nat) (a : Option Addr) (len cap : Nat) (w : World) (p : Nat) (s d n : Int) (t : ByteArray) (u : World) : Prop where
  lt : B0 < w.heap.size
  src : SrcOk u B0 a len cap
  gr : w.grownBy u (some B0)
  lo : w.heap.size ≤ p
  box : u.heap[p]? = some (.cells #[.int .i64 s, .int .i64 d, .int .i64 n, .string t] 24 (0, 0))
theorem FB.step {B0 : Nat} {a : Option Addr} {len cap : Nat} {w : World} {p : Nat} {s d n : Int} {t : ByteArray} {u u' : World} (h : FB B0 a len cap w p s d n t u) (hs : SrcOk u' B0 a len cap) (hg : u.grownBy u' (some B0)) : FB B0 a len cap w p s d n t u' := by
  have h1 := h.lt
  have h2 := h.lo
  exact ⟨h.lt, hs, Lib.grownBy_trans h.gr hg, h.lo, (hg.block p (Array.getElem?_eq_some_iff.1 h.box).1 (by simp; omega)).trans h.box⟩
theorem FB.alloc {B0 : Nat} {a : Option Addr} {len cap : Nat} {w : World} {p : Nat} {s d n : Int} {t : ByteArray} {u : World} (h : FB B0 a len cap w p s d n t u) (o : Obj) : FB B0 a len cap w p s d n t (u.alloc o) := h.step (h.src.far (World.grownBy_alloc _ o none)) gAl
theorem FB.put {B0 : Nat} {a : Option Addr} {len cap : Nat} {w : World} {p : Nat} {s d n : Int} {t : ByteArray} {u : World} (h : FB B0 a len cap w p s d n t u) :
    (∀ y : Int, FB B0 a len cap w p y d n t (u.setCell ⟨p, 0, none⟩ (.int .i64 y))) ∧ (∀ y : Int, FB B0 a len cap w p s y n t (u.setCell ⟨p, 1, none⟩ (.int .i64 y))) ∧ (∀ y : Int, FB B0 a len cap w p s d y t (u.setCell ⟨p, 2, none⟩ (.int .i64 y))) ∧ (∀ y : ByteArray, FB B0 a len cap w p s d n y (u.setCell ⟨p, 3, none⟩ (.string y))) := by
  have h1 := h.lt
  have h2 := h.lo
  refine ⟨fun y => ?_, fun y => ?_, fun y => ?_, fun y => ?_⟩
  all_goals exact ⟨h.lt, s_setW h.src (by omega), g_setW h.gr (by omega), h.lo, blkW h.box _ _⟩
theorem fr_box4 {u : World} {b t : Nat} {a0 a1 a2 a3 : Value} (h : u.heap[b]? = some (.cells #[a0, a1, a2, a3] t (0, 0))) (v0 v1 v2 v3 : Value) : ((((u.setCell ⟨b, 0, none⟩ v0).setCell ⟨b, 1, none⟩ v1).setCell ⟨b, 2, none⟩ v2).setCell ⟨b, 3, none⟩ v3).heap[b]? = some (.cells #[v0, v1, v2, v3] t (0, 0)) := blkW (blkW (blkW (blkW h 0 v0) 1 v1) 2 v2) 3 v3
theorem s_set4 {u : World} {B0 b : Nat} {v0 v1 v2 v3 : Value} {a : Option Addr} {len cap : Nat} (h : SrcOk u B0 a len cap) (hb : B0 < b) : SrcOk ((((u.setCell ⟨b, 0, none⟩ v0).setCell ⟨b, 1, none⟩ v1).setCell ⟨b, 2, none⟩ v2).setCell ⟨b, 3, none⟩ v3) B0 a len cap := s_setW (s_setW (s_setW (s_setW h hb) hb) hb) hb
theorem g_set4 {w u : World} {B0 b : Nat} {v0 v1 v2 v3 : Value} (h : w.grownBy u (some B0)) (hb : w.heap.size ≤ b) : w.grownBy ((((u.setCell ⟨b, 0, none⟩ v0).setCell ⟨b, 1, none⟩ v1).setCell ⟨b, 2, none⟩ v2).setCell ⟨b, 3, none⟩ v3) (some B0) := g_setW (g_setW (g_setW (g_setW h hb) hb) hb) hb
def KI (v : Value) : Prop := ∃ y : Int, v = .int .i64 y
def KS (v : Value) : Prop := ∃ y : ByteArray, v = .string y
def KFr (v : Value) : Prop := ∃ s d n t, v = .agg #[.int .i64 s, .int .i64 d, .int .i64 n, .string t]
def KBoxF (B : Nat) (v : Value) (u : World) : Prop := ∃ p, v = .pointer (some ⟨p, 0, none⟩) ∧ B ≤ p ∧ u.heap[p]? = some (.cells #[.int .i64 0, .int .i64 0, .int .i64 0, .string ⟨#[]⟩] 24 (0, 0))
theorem KBoxF.grow {B b : Nat} {v : Value} {u u' : World} (h : KBoxF B v u) (hb : b < B) (hg : u.grownBy u' (some b)) : KBoxF B v u' := by
  obtain ⟨p, h1, h2, h3⟩ := h
  exact ⟨p, h1, h2, (hg.block p (Array.getElem?_eq_some_iff.1 h3).1 (by simp; omega)).trans h3⟩
/-- A literal of three cells, and a place in it. -/
def KL3 (B : Nat) (t : TypeId) (P : Value → Prop) (v : Value) (u : World) : Prop := ∃ p x0 x1 x2, v = .slice (some ⟨p, 0, none⟩) 3 3 ∧ B ≤ p ∧ u.heap[p]? = some (.cells #[x0, x1, x2] t (0, 0)) ∧ P x0 ∧ P x1 ∧ P x2
def KP3 (B : Nat) (t : TypeId) (P : Value → Prop) (v : Value) (u : World) : Prop := ∃ p r x0 x1 x2, v = .pointer (some ⟨p, r, none⟩) ∧ r < 3 ∧ B ≤ p ∧ u.heap[p]? = some (.cells #[x0, x1, x2] t (0, 0)) ∧ P x0 ∧ P x1 ∧ P x2
theorem KL3.grow {B b : Nat} {t : TypeId} {P : Value → Prop} {v : Value} {u u' : World} (h : KL3 B t P v u) (hb : b < B) (hg : u.grownBy u' (some b)) : KL3 B t P v u' := by
  obtain ⟨p, x0, x1, x2, h1, h2, h3, h4⟩ := h
  exact ⟨p, x0, x1, x2, h1, h2, (hg.block p (Array.getElem?_eq_some_iff.1 h3).1 (by simp; omega)).trans h3, h4⟩
theorem KP3.grow {B b : Nat} {t : TypeId} {P : Value → Prop} {v : Value} {u u' : World} (h : KP3 B t P v u) (hb : b < B) (hg : u.grownBy u' (some b)) : KP3 B t P v u' := by
  obtain ⟨p, r, x0, x1, x2, h1, h0, h2, h3, h4⟩ := h
  exact ⟨p, r, x0, x1, x2, h1, h0, h2, (hg.block p (Array.getElem?_eq_some_iff.1 h3).1 (by simp; omega)).trans h3, h4⟩
theorem lit3_cell {u : World} {p r : Nat} {x0 x1 x2 : Value} {t : TypeId} {P : Value → Prop} (h : u.heap[p]? = some (.cells #[x0, x1, x2] t (0, 0))) (hr : r < 3) (h0 : P x0) (h1 : P x1) (h2 : P x2) : ∃ y, u.cell? ⟨p, r, none⟩ = some y ∧ P y := by
  have : r = 0 ∨ r = 1 ∨ r = 2 := by omega
  rcases this with rfl | rfl | rfl
  · exact ⟨x0, by simp [World.cell?, h], h0⟩
  · exact ⟨x1, by simp [World.cell?, h], h1⟩
  · exact ⟨x2, by simp [World.cell?, h], h2⟩
theorem lit_drawW {u u2 : World} {b t : Nat} {C : List Int} (hb : b < u.heap.size) (hg : (u.alloc (.cells (C.map (Value.int .i64)).toArray t)).grownBy u2 (some b)) (Q : Nat) (hQ : Q < C.length) : ∃ y : Int, u2.cell? ⟨u.heap.size, Q, none⟩ = some (.int .i64 y) := by
  have h1 : u2.heap[u.heap.size]? = some (.cells (C.map (Value.int .i64)).toArray t (0, 0)) := (hg.block _ (by simp) (by simp; omega)).trans (MapKept.heap_alloc u _).1
  exact ⟨C[Q], lit_cell h1 hQ⟩
structure FrR (B0 B : Nat) (w : World) (a : Option Addr) (len cap : Nat) (b0 b1 b2 b3 b4 b5 b6 b7 b8 b9 b10 b11 b12 b13 b14 b15 b16 b17 b18 b19 b20 b21 : Bool) (v4 v5 v6 v7 v8 v9 v10 v11 v12 v13 v14 v15 v16 v17 v18 v19 v20 v21 v22 v23 v3 : Value) (u : World) : Prop where
  lt : B0 < B
  le : B ≤ w.heap.size
  src : SrcOk u B0 a len cap
  gr : w.grownBy u (some B0)
  c0 : b0 = true → KSrc B0 v4
  c1 : b1 = true → KNum 0 4 v5
  c2 : b2 = true → KNum 1 5 v6
  c3 : b3 = true → KSrc B0 v7
  c4 : b4 = true → KNum 0 4 v8
  c5 : b5 = true → KNum 1 5 v9
  c6 : b6 = true → KSrc B0 v10
  c7 : b7 = true → KNum 0 4 v11
  c8 : b8 = true → KNum 1 5 v12
  c9 : b9 = true → KL3 B 2 KI v13 u
  c10 : b10 = true → KSrc B0 v14
  c11 : b11 = true → KNum 0 2 v15
  c12 : b12 = true → KP3 B 2 KI v16 u
  c13 : b13 = true → KI v17
  c14 : b14 = true → KL3 B 9 KS v18 u
  c15 : b15 = true → KSrc B0 v19
  c16 : b16 = true → KNum 0 2 v20
  c17 : b17 = true → KP3 B 9 KS v21 u
  c18 : b18 = true → KS v22
  c19 : b19 = true → KFr v23
  c20 : b20 = true → KBoxF B v3 u
set_option maxRecDepth 100000 in
set_option maxHeartbeats 8000000 in
theorem src_frame (B0 : Nat) (a : Option Addr) (len cap : Nat) (w : World) (h : SrcOk w B0 a len cap) :
    Calls Tryd.prog 30 #[.pointer (some ⟨B0, 0, none⟩)] w fun e w' => ∃ s d n t, e = .returned (.agg #[.int .i64 s, .int .i64 d, .int .i64 n, .string t]) ∧ SrcOk w' B0 a len cap ∧ w.grownBy w' (some B0) := by
  have hlt := h.lt
  have HLT : Hid (B0 < w.heap.size) := hlt
  have HS : Hid (SrcOk (w.alloc (.cells #[.int .i64 0, .int .i64 0, .int .i64 0, .string ⟨#[]⟩] 24)) B0 a len cap) := h.far (World.grownBy_alloc _ _ none)
  have HGW : Hid (w.grownBy (w.alloc (.cells #[.int .i64 0, .int .i64 0, .int .i64 0, .string ⟨#[]⟩] 24)) (some B0)) := gAl
  have HR0 : Hid ((w.alloc (.cells #[.int .i64 0, .int .i64 0, .int .i64 0, .string ⟨#[]⟩] 24)).heap[w.heap.size]? = some (.cells #[.int .i64 0, .int .i64 0, .int .i64 0, .string ⟨#[]⟩] 24 (0, 0))) := (MapKept.heap_alloc w _).1
  have HSZ : Hid ((w.alloc (.cells #[.int .i64 0, .int .i64 0, .int .i64 0, .string ⟨#[]⟩] 24)).heap.size = w.heap.size + 1) := (show _ = _ by simp)
  clear h
  go_enter Tryd.func30, Tryd.ntmps30
  go_wp2_with fail
  generalize w.alloc (.cells #[.int .i64 0, .int .i64 0, .int .i64 0, .string ⟨#[]⟩] 24) = W at *
  refine wp_region_any (by kernel_rfl) ?_
  refine wpAny_inv (fun L a9 u => ∃ (b0 b1 b2 b3 b4 b5 b6 b7 b8 b9 b10 b11 b12 b13 b14 b15 b16 b17 b18 b19 b20 b21 : Bool) (v4 v5 v6 v7 v8 v9 v10 v11 v12 v13 v14 v15 v16 v17 v18 v19 v20 v21 v22 v23 v3 : Value), L = #[b0, b1, b2, b3, b4, b5, b6, b7, b8, b9, b10, b11, b12, b13, b14, b15, b16, b17, b18, b19, b20, b21] ∧ a9 = { tmps := #[.pointer (some ⟨B0, 0, none⟩), undef, .pointer (some ⟨w.heap.size, 0, none⟩), v3, v4, v5, v6, v7, v8, v9, v10, v11, v12, v13, v14, v15, v16, v17, v18, v19, v20, v21, v22, v23, undef, undef, undef, undef, undef, undef, undef, undef, undef], defers := [] } ∧ ((b21 = false ∧ FrR B0 W.heap.size W a len cap b0 b1 b2 b3 b4 b5 b6 b7 b8 b9 b10 b11 b12 b13 b14 b15 b16 b17 b18 b19 b20 b21 v4 v5 v6 v7 v8 v9 v10 v11 v12 v13 v14 v15 v16 v17 v18 v19 v20 v21 v22 v23 v3 u) ∨ (b0 = true ∧ b1 = true ∧ b2 = true ∧ b3 = true ∧ b4 = true ∧ b5 = true ∧ b6 = true ∧ b7 = true ∧ b8 = true ∧ b9 = true ∧ b10 = true ∧ b11 = true ∧ b12 = true ∧ b13 = true ∧ b14 = true ∧ b15 = true ∧ b16 = true ∧ b17 = true ∧ b18 = true ∧ b19 = true ∧ b20 = true ∧ b21 = true ∧ ∃ (p : Nat) (s d n : Int) (t : ByteArray), v3 = .pointer (some ⟨p, 0, none⟩) ∧ FB B0 a len cap W p s d n t u))) ?hs ?hd _ _ _ _ (by decide) ?st
  case st => exact ⟨false, false, false, false, false, false, false, false, false, false, false, false, false, false, false, false, false, false, false, false, false, false, undef, undef, undef, undef, undef, undef, undef, undef, undef, undef, undef, undef, undef, undef, undef, undef, undef, undef, undef, undef, undef, rfl, rfl, .inl ⟨rfl, ⟨by have := HSZ.out; omega, Nat.le_refl _, HS.out.far ⟨rfl, rfl, rfl, Nat.le_refl _, fun _ _ _ => rfl⟩, ⟨rfl, rfl, rfl, Nat.le_refl _, fun _ _ _ => rfl⟩, (fun e => by cases e), (fun e => by cases e), (fun e => by cases e), (fun e => by cases e), (fun e => by cases e), (fun e => by cases e), (fun e => by cases e), (fun e => by cases e), (fun e => by cases e), (fun e => by cases e), (fun e => by cases e), (fun e => by cases e), (fun e => by cases e), (fun e => by cases e), (fun e => by cases e), (fun e => by cases e), (fun e => by cases e), (fun e => by cases e), (fun e => by cases e), (fun e => by cases e), (fun e => by cases e)⟩⟩⟩
  case hd =>
    rintro L a9 u ⟨b0, b1, b2, b3, b4, b5, b6, b7, b8, b9, b10, b11, b12, b13, b14, b15, b16, b17, b18, b19, b20, b21, v4, v5, v6, v7, v8, v9, v10, v11, v12, v13, v14, v15, v16, v17, v18, v19, v20, v21, v22, v23, v3, rfl, rfl, hI⟩ hr
    have hall := fun he hL => all_up (md := _) he hL hr
    have hall2 := hall (by kernel_rfl) rfl
    rcases hI with ⟨rfl, hI⟩ | ⟨rfl, rfl, rfl, rfl, rfl, rfl, rfl, rfl, rfl, rfl, rfl, rfl, rfl, rfl, rfl, rfl, rfl, rfl, rfl, rfl, rfl, rfl, p, s, d, n, t, rfl, hM⟩
    · exact Bool.noConfusion (show false = true from hall2 21 (by decide))
    have HM1 : Hid (FB B0 a len cap W p s d n t u) := hM
    clear hM hr hall hall2 HS
    go_wp2_with fail
    refine (src_one B0 a len cap 3 u HM1.out.src (by omega)).mono ?_
    rintro e U1 ⟨t1, rfl, hs1, hg1⟩
    have HM2 : Hid (FB B0 a len cap W p s d n t U1) := HM1.out.step hs1 hg1
    clear hs1 hg1 HM1
    cases t1
    · skip
      obtain ⟨d0, d1, d2, d3, dl, df⟩ := cel4W HM2.out.box
      have HRB : Hid (U1.heap[w.heap.size]? = some (.cells #[.int .i64 0, .int .i64 0, .int .i64 0, .string ⟨#[]⟩] 24 (0, 0))) := (HM2.out.gr.block _ (Array.getElem?_eq_some_iff.1 HR0.out).1 (by have := HLT.out; simp; omega)).trans HR0.out
      obtain ⟨r0, r1, r2, r3, rl, rf⟩ := cel4W HRB.out
      go_wp2
      have hfin := fr_box4 HRB.out (.int .i64 s) (.int .i64 d) (.int .i64 n) (.string t)
      obtain ⟨f0, f1, f2, f3, _, _⟩ := cel4W hfin
      refine bodyPost_ret (v := .agg #[.int .i64 s, .int .i64 d, .int .i64 n, .string t]) (by simp [results, Tryd.results30, go_sem, f0, f1, f2, f3]) rfl ?_
      exact ⟨s, d, n, t, rfl, s_set4 HM2.out.src HLT.out, g_set4 (Lib.grownBy_trans HGW.out HM2.out.gr) (Nat.le_refl _)⟩
    · skip
      have HAa : Hid (FB B0 a len cap W p s d n t (U1.alloc (.cells #[.int .i64 1, .int .i64 2, .int .i64 3] 2))) := HM2.out.alloc _
      have hba : B0 < U1.heap.size := HM2.out.src.lt
      go_wp2_with fail
      refine (src_n B0 a len cap 3 (U1.alloc (.cells #[.int .i64 1, .int .i64 2, .int .i64 3] 2)) HAa.out.src (by omega)).mono ?_
      rintro e Va ⟨qa, rfl, qa0, qa1, hsV, hgV⟩
      obtain ⟨Qa, rfl⟩ := Int.eq_ofNat_of_zero_le qa0
      have hQa : Qa < 3 := by omega
      have hQa1 : (Qa : Int) < 3 := by omega
      obtain ⟨ya, hya⟩ := lit_drawW (C := [1, 2, 3]) hba hgV Qa hQa
      have HBa : Hid (FB B0 a len cap W p s d n t Va) := HAa.out.step hsV hgV
      clear hsV hgV HAa qa0 qa1 hba
      obtain ⟨d0, d1, d2, d3, dl, df⟩ := cel4W HBa.out.box
      have HCa : Hid (FB B0 a len cap W p s d ya t (Va.setCell ⟨p, 2, none⟩ (.int .i64 ya))) := HBa.out.put.2.2.1 ya
      go_upto_region 4 with fail
      generalize Va.setCell ⟨p, 2, none⟩ (.int .i64 ya) = Za at *
      clear HBa d0 d1 d2 d3 dl df hya
      obtain ⟨d0, d1, d2, d3, dl, df⟩ := cel4W HCa.out.box
      have HRB : Hid (Za.heap[w.heap.size]? = some (.cells #[.int .i64 0, .int .i64 0, .int .i64 0, .string ⟨#[]⟩] 24 (0, 0))) := (HCa.out.gr.block _ (Array.getElem?_eq_some_iff.1 HR0.out).1 (by have := HLT.out; simp; omega)).trans HR0.out
      obtain ⟨r0, r1, r2, r3, rl, rf⟩ := cel4W HRB.out
      go_wp2
      have hfin := fr_box4 HRB.out (.int .i64 s) (.int .i64 d) (.int .i64 ya) (.string t)
      obtain ⟨f0, f1, f2, f3, _, _⟩ := cel4W hfin
      refine bodyPost_ret (v := .agg #[.int .i64 s, .int .i64 d, .int .i64 ya, .string t]) (by simp [results, Tryd.results30, go_sem, f0, f1, f2, f3]) rfl ?_
      exact ⟨s, d, ya, t, rfl, s_set4 HCa.out.src HLT.out, g_set4 (Lib.grownBy_trans HGW.out HCa.out.gr) (Nat.le_refl _)⟩
  case hs =>
    rintro L a9 u i ⟨b0, b1, b2, b3, b4, b5, b6, b7, b8, b9, b10, b11, b12, b13, b14, b15, b16, b17, b18, b19, b20, b21, v4, v5, v6, v7, v8, v9, v10, v11, v12, v13, v14, v15, v16, v17, v18, v19, v20, v21, v22, v23, v3, rfl, rfl, hI⟩ hi
    obtain ⟨hf, o, ho, hall⟩ := mem_ready.1 hi
    have hi8 : i < 22 := (Array.getElem?_eq_some_iff.1 ho).1
    rcases hI with ⟨rfl, hI⟩ | ⟨rfl, rfl, rfl, rfl, rfl, rfl, rfl, rfl, rfl, rfl, rfl, rfl, rfl, rfl, rfl, rfl, rfl, rfl, rfl, rfl, rfl, rfl, _⟩
    · obtain rfl | rfl | rfl | rfl | rfl | rfl | rfl | rfl | rfl | rfl | rfl | rfl | rfl | rfl | rfl | rfl | rfl | rfl | rfl | rfl | rfl | rfl : i = 0 ∨ i = 1 ∨ i = 2 ∨ i = 3 ∨ i = 4 ∨ i = 5 ∨ i = 6 ∨ i = 7 ∨ i = 8 ∨ i = 9 ∨ i = 10 ∨ i = 11 ∨ i = 12 ∨ i = 13 ∨ i = 14 ∨ i = 15 ∨ i = 16 ∨ i = 17 ∨ i = 18 ∨ i = 19 ∨ i = 20 ∨ i = 21 := by omega
      · obtain rfl : b0 = false := hf
        have HI : Hid _ := hI
        clear hI hall hi
        refine wpOp_step rfl (fun K hK => ?_)
        go_simp
        have h := HI.out
        exact hK _ _ ⟨true, b1, b2, b3, b4, b5, b6, b7, b8, b9, b10, b11, b12, b13, b14, b15, b16, b17, b18, b19, b20, false, _, v5, v6, v7, v8, v9, v10, v11, v12, v13, v14, v15, v16, v17, v18, v19, v20, v21, v22, v23, v3, rfl, rfl, .inl ⟨rfl, ⟨h.lt, h.le, h.src, h.gr, fun _ => rfl, h.c1, h.c2, h.c3, h.c4, h.c5, h.c6, h.c7, h.c8, h.c9, h.c10, h.c11, h.c12, h.c13, h.c14, h.c15, h.c16, h.c17, h.c18, h.c19, h.c20⟩⟩⟩
      · obtain rfl : b1 = false := hf
        cases ho
        have hb0 : b0 = true := hall { on := 0, ground := .data } (by simp) rfl
        have e0 : v4 = .pointer (some ⟨B0, 0, none⟩) := hI.c0 hb0
        subst e0
        have HN : Hid _ := src_n B0 a len cap 5 u hI.src (by omega)
        have HI : Hid _ := hI
        clear hI hall hi
        refine wpOp_step rfl (fun K hK => ?_)
        go_simp
        refine Calls.mono HN.out ?_
        rintro e9 u5 ⟨r, rfl, r0, r1, hs5, hg5⟩
        have h := HI.out
        exact hK _ _ ⟨b0, true, b2, b3, b4, b5, b6, b7, b8, b9, b10, b11, b12, b13, b14, b15, b16, b17, b18, b19, b20, false, _, _, v6, v7, v8, v9, v10, v11, v12, v13, v14, v15, v16, v17, v18, v19, v20, v21, v22, v23, v3, rfl, rfl, .inl ⟨rfl, ⟨h.lt, h.le, hs5, Lib.grownBy_trans h.gr hg5, h.c0, fun _ => ⟨r, rfl, r0, by omega⟩, h.c2, h.c3, h.c4, h.c5, h.c6, h.c7, h.c8, fun e => (h.c9 e).grow h.lt hg5, h.c10, h.c11, fun e => (h.c12 e).grow h.lt hg5, h.c13, fun e => (h.c14 e).grow h.lt hg5, h.c15, h.c16, fun e => (h.c17 e).grow h.lt hg5, h.c18, h.c19, fun e => (h.c20 e).grow h.lt hg5⟩⟩⟩
      · obtain rfl : b2 = false := hf
        cases ho
        have hb1 : b1 = true := hall { on := 1, ground := .data } (by simp) rfl
        obtain ⟨y1, rfl, y1b, y1c⟩ := hI.c1 hb1
        have HI : Hid _ := hI
        clear hI hall hi
        refine wpOp_step rfl (fun K hK => ?_)
        go_simp
        have h := HI.out
        exact hK _ _ ⟨b0, b1, true, b3, b4, b5, b6, b7, b8, b9, b10, b11, b12, b13, b14, b15, b16, b17, b18, b19, b20, false, v4, _, _, v7, v8, v9, v10, v11, v12, v13, v14, v15, v16, v17, v18, v19, v20, v21, v22, v23, v3, rfl, rfl, .inl ⟨rfl, ⟨h.lt, h.le, h.src, h.gr, h.c0, h.c1, fun _ => ⟨_, rfl, by first | omega | (rw [IntKind.wrap_i64]; omega), by first | omega | (rw [IntKind.wrap_i64]; omega)⟩, h.c3, h.c4, h.c5, h.c6, h.c7, h.c8, h.c9, h.c10, h.c11, h.c12, h.c13, h.c14, h.c15, h.c16, h.c17, h.c18, h.c19, h.c20⟩⟩⟩
      · obtain rfl : b3 = false := hf
        have HI : Hid _ := hI
        clear hI hall hi
        refine wpOp_step rfl (fun K hK => ?_)
        go_simp
        have h := HI.out
        exact hK _ _ ⟨b0, b1, b2, true, b4, b5, b6, b7, b8, b9, b10, b11, b12, b13, b14, b15, b16, b17, b18, b19, b20, false, v4, v5, v6, _, v8, v9, v10, v11, v12, v13, v14, v15, v16, v17, v18, v19, v20, v21, v22, v23, v3, rfl, rfl, .inl ⟨rfl, ⟨h.lt, h.le, h.src, h.gr, h.c0, h.c1, h.c2, fun _ => rfl, h.c4, h.c5, h.c6, h.c7, h.c8, h.c9, h.c10, h.c11, h.c12, h.c13, h.c14, h.c15, h.c16, h.c17, h.c18, h.c19, h.c20⟩⟩⟩
      · obtain rfl : b4 = false := hf
        cases ho
        have hb3 : b3 = true := hall { on := 3, ground := .data } (by simp) rfl
        have e3 : v7 = .pointer (some ⟨B0, 0, none⟩) := hI.c3 hb3
        subst e3
        have HN : Hid _ := src_n B0 a len cap 5 u hI.src (by omega)
        have HI : Hid _ := hI
        clear hI hall hi
        refine wpOp_step rfl (fun K hK => ?_)
        go_simp
        refine Calls.mono HN.out ?_
        rintro e9 u5 ⟨r, rfl, r0, r1, hs5, hg5⟩
        have h := HI.out
        exact hK _ _ ⟨b0, b1, b2, b3, true, b5, b6, b7, b8, b9, b10, b11, b12, b13, b14, b15, b16, b17, b18, b19, b20, false, v4, v5, v6, _, _, v9, v10, v11, v12, v13, v14, v15, v16, v17, v18, v19, v20, v21, v22, v23, v3, rfl, rfl, .inl ⟨rfl, ⟨h.lt, h.le, hs5, Lib.grownBy_trans h.gr hg5, h.c0, h.c1, h.c2, h.c3, fun _ => ⟨r, rfl, r0, by omega⟩, h.c5, h.c6, h.c7, h.c8, fun e => (h.c9 e).grow h.lt hg5, h.c10, h.c11, fun e => (h.c12 e).grow h.lt hg5, h.c13, fun e => (h.c14 e).grow h.lt hg5, h.c15, h.c16, fun e => (h.c17 e).grow h.lt hg5, h.c18, h.c19, fun e => (h.c20 e).grow h.lt hg5⟩⟩⟩
      · obtain rfl : b5 = false := hf
        cases ho
        have hb4 : b4 = true := hall { on := 4, ground := .data } (by simp) rfl
        obtain ⟨y4, rfl, y4b, y4c⟩ := hI.c4 hb4
        have HI : Hid _ := hI
        clear hI hall hi
        refine wpOp_step rfl (fun K hK => ?_)
        go_simp
        have h := HI.out
        exact hK _ _ ⟨b0, b1, b2, b3, b4, true, b6, b7, b8, b9, b10, b11, b12, b13, b14, b15, b16, b17, b18, b19, b20, false, v4, v5, v6, v7, _, _, v10, v11, v12, v13, v14, v15, v16, v17, v18, v19, v20, v21, v22, v23, v3, rfl, rfl, .inl ⟨rfl, ⟨h.lt, h.le, h.src, h.gr, h.c0, h.c1, h.c2, h.c3, h.c4, fun _ => ⟨_, rfl, by first | omega | (rw [IntKind.wrap_i64]; omega), by first | omega | (rw [IntKind.wrap_i64]; omega)⟩, h.c6, h.c7, h.c8, h.c9, h.c10, h.c11, h.c12, h.c13, h.c14, h.c15, h.c16, h.c17, h.c18, h.c19, h.c20⟩⟩⟩
      · obtain rfl : b6 = false := hf
        have HI : Hid _ := hI
        clear hI hall hi
        refine wpOp_step rfl (fun K hK => ?_)
        go_simp
        have h := HI.out
        exact hK _ _ ⟨b0, b1, b2, b3, b4, b5, true, b7, b8, b9, b10, b11, b12, b13, b14, b15, b16, b17, b18, b19, b20, false, v4, v5, v6, v7, v8, v9, _, v11, v12, v13, v14, v15, v16, v17, v18, v19, v20, v21, v22, v23, v3, rfl, rfl, .inl ⟨rfl, ⟨h.lt, h.le, h.src, h.gr, h.c0, h.c1, h.c2, h.c3, h.c4, h.c5, fun _ => rfl, h.c7, h.c8, h.c9, h.c10, h.c11, h.c12, h.c13, h.c14, h.c15, h.c16, h.c17, h.c18, h.c19, h.c20⟩⟩⟩
      · obtain rfl : b7 = false := hf
        cases ho
        have hb6 : b6 = true := hall { on := 6, ground := .data } (by simp) rfl
        have e6 : v10 = .pointer (some ⟨B0, 0, none⟩) := hI.c6 hb6
        subst e6
        have HN : Hid _ := src_n B0 a len cap 5 u hI.src (by omega)
        have HI : Hid _ := hI
        clear hI hall hi
        refine wpOp_step rfl (fun K hK => ?_)
        go_simp
        refine Calls.mono HN.out ?_
        rintro e9 u5 ⟨r, rfl, r0, r1, hs5, hg5⟩
        have h := HI.out
        exact hK _ _ ⟨b0, b1, b2, b3, b4, b5, b6, true, b8, b9, b10, b11, b12, b13, b14, b15, b16, b17, b18, b19, b20, false, v4, v5, v6, v7, v8, v9, _, _, v12, v13, v14, v15, v16, v17, v18, v19, v20, v21, v22, v23, v3, rfl, rfl, .inl ⟨rfl, ⟨h.lt, h.le, hs5, Lib.grownBy_trans h.gr hg5, h.c0, h.c1, h.c2, h.c3, h.c4, h.c5, h.c6, fun _ => ⟨r, rfl, r0, by omega⟩, h.c8, fun e => (h.c9 e).grow h.lt hg5, h.c10, h.c11, fun e => (h.c12 e).grow h.lt hg5, h.c13, fun e => (h.c14 e).grow h.lt hg5, h.c15, h.c16, fun e => (h.c17 e).grow h.lt hg5, h.c18, h.c19, fun e => (h.c20 e).grow h.lt hg5⟩⟩⟩
      · obtain rfl : b8 = false := hf
        cases ho
        have hb7 : b7 = true := hall { on := 7, ground := .data } (by simp) rfl
        obtain ⟨y7, rfl, y7b, y7c⟩ := hI.c7 hb7
        have HI : Hid _ := hI
        clear hI hall hi
        refine wpOp_step rfl (fun K hK => ?_)
        go_simp
        have h := HI.out
        exact hK _ _ ⟨b0, b1, b2, b3, b4, b5, b6, b7, true, b9, b10, b11, b12, b13, b14, b15, b16, b17, b18, b19, b20, false, v4, v5, v6, v7, v8, v9, v10, _, _, v13, v14, v15, v16, v17, v18, v19, v20, v21, v22, v23, v3, rfl, rfl, .inl ⟨rfl, ⟨h.lt, h.le, h.src, h.gr, h.c0, h.c1, h.c2, h.c3, h.c4, h.c5, h.c6, h.c7, fun _ => ⟨_, rfl, by first | omega | (rw [IntKind.wrap_i64]; omega), by first | omega | (rw [IntKind.wrap_i64]; omega)⟩, h.c9, h.c10, h.c11, h.c12, h.c13, h.c14, h.c15, h.c16, h.c17, h.c18, h.c19, h.c20⟩⟩⟩
      · obtain rfl : b9 = false := hf
        cases ho
        have hb5 : b5 = true := hall { on := 5, ground := .data } (by simp) rfl
        have hb8 : b8 = true := hall { on := 8, ground := .data } (by simp) rfl
        obtain ⟨y5, rfl, y5b, y5c⟩ := hI.c5 hb5
        obtain ⟨y8, rfl, y8b, y8c⟩ := hI.c8 hb8
        have HI : Hid _ := hI
        clear hI hall hi
        refine wpOp_step rfl (fun K hK => ?_)
        go_simp
        have h := HI.out
        exact hK _ _ ⟨b0, b1, b2, b3, b4, b5, b6, b7, b8, true, b10, b11, b12, b13, b14, b15, b16, b17, b18, b19, b20, false, v4, v5, v6, v7, v8, _, v10, v11, _, _, v14, v15, v16, v17, v18, v19, v20, v21, v22, v23, v3, rfl, rfl, .inl ⟨rfl, ⟨h.lt, h.le, h.src.far (World.grownBy_alloc _ _ none), Lib.grownBy_trans h.gr gAl, h.c0, h.c1, h.c2, h.c3, h.c4, h.c5, h.c6, h.c7, h.c8, fun _ => ⟨u.heap.size, _, _, _, rfl, Nat.le_trans h.le h.gr.size, (MapKept.heap_alloc u _).1, ⟨_, rfl⟩, ⟨_, rfl⟩, ⟨_, rfl⟩⟩, h.c10, h.c11, fun e => (h.c12 e).grow h.lt gAl, h.c13, fun e => (h.c14 e).grow h.lt gAl, h.c15, h.c16, fun e => (h.c17 e).grow h.lt gAl, h.c18, h.c19, fun e => (h.c20 e).grow h.lt gAl⟩⟩⟩
      · obtain rfl : b10 = false := hf
        have HI : Hid _ := hI
        clear hI hall hi
        refine wpOp_step rfl (fun K hK => ?_)
        go_simp
        have h := HI.out
        exact hK _ _ ⟨b0, b1, b2, b3, b4, b5, b6, b7, b8, b9, true, b11, b12, b13, b14, b15, b16, b17, b18, b19, b20, false, v4, v5, v6, v7, v8, v9, v10, v11, v12, v13, _, v15, v16, v17, v18, v19, v20, v21, v22, v23, v3, rfl, rfl, .inl ⟨rfl, ⟨h.lt, h.le, h.src, h.gr, h.c0, h.c1, h.c2, h.c3, h.c4, h.c5, h.c6, h.c7, h.c8, h.c9, fun _ => rfl, h.c11, h.c12, h.c13, h.c14, h.c15, h.c16, h.c17, h.c18, h.c19, h.c20⟩⟩⟩
      · obtain rfl : b11 = false := hf
        cases ho
        have hb10 : b10 = true := hall { on := 10, ground := .data } (by simp) rfl
        have e10 : v14 = .pointer (some ⟨B0, 0, none⟩) := hI.c10 hb10
        subst e10
        have HN : Hid _ := src_n B0 a len cap 3 u hI.src (by omega)
        have HI : Hid _ := hI
        clear hI hall hi
        refine wpOp_step rfl (fun K hK => ?_)
        go_simp
        refine Calls.mono HN.out ?_
        rintro e9 u5 ⟨r, rfl, r0, r1, hs5, hg5⟩
        have h := HI.out
        exact hK _ _ ⟨b0, b1, b2, b3, b4, b5, b6, b7, b8, b9, b10, true, b12, b13, b14, b15, b16, b17, b18, b19, b20, false, v4, v5, v6, v7, v8, v9, v10, v11, v12, v13, _, _, v16, v17, v18, v19, v20, v21, v22, v23, v3, rfl, rfl, .inl ⟨rfl, ⟨h.lt, h.le, hs5, Lib.grownBy_trans h.gr hg5, h.c0, h.c1, h.c2, h.c3, h.c4, h.c5, h.c6, h.c7, h.c8, fun e => (h.c9 e).grow h.lt hg5, h.c10, fun _ => ⟨r, rfl, r0, by omega⟩, fun e => (h.c12 e).grow h.lt hg5, h.c13, fun e => (h.c14 e).grow h.lt hg5, h.c15, h.c16, fun e => (h.c17 e).grow h.lt hg5, h.c18, h.c19, fun e => (h.c20 e).grow h.lt hg5⟩⟩⟩
      · obtain rfl : b12 = false := hf
        cases ho
        have hb9 : b9 = true := hall { on := 9, ground := .data } (by simp) rfl
        have hb11 : b11 = true := hall { on := 11, ground := .data } (by simp) rfl
        obtain ⟨p9, xa9, xb9, xc9, e9, p9b, p9c, qa9, qb9, qc9⟩ := hI.c9 hb9
        subst e9
        obtain ⟨y11, rfl, y11b, y11c⟩ := hI.c11 hb11
        have HI : Hid _ := hI
        obtain ⟨R, rfl⟩ := Int.eq_ofNat_of_zero_le y11b
        have R1 : (R : Int) < 3 := by omega
        have R0 : R < 3 := by omega
        clear hI hall hi
        refine wpOp_step rfl (fun K hK => ?_)
        go_simp
        have h := HI.out
        exact hK _ _ ⟨b0, b1, b2, b3, b4, b5, b6, b7, b8, b9, b10, b11, true, b13, b14, b15, b16, b17, b18, b19, b20, false, v4, v5, v6, v7, v8, v9, v10, v11, v12, _, v14, _, _, v17, v18, v19, v20, v21, v22, v23, v3, rfl, rfl, .inl ⟨rfl, ⟨h.lt, h.le, h.src, h.gr, h.c0, h.c1, h.c2, h.c3, h.c4, h.c5, h.c6, h.c7, h.c8, h.c9, h.c10, h.c11, fun _ => ⟨p9, R, _, _, _, rfl, R0, p9b, p9c, qa9, qb9, qc9⟩, h.c13, h.c14, h.c15, h.c16, h.c17, h.c18, h.c19, h.c20⟩⟩⟩
      · obtain rfl : b13 = false := hf
        cases ho
        have hb12 : b12 = true := hall { on := 12, ground := .data } (by simp) rfl
        obtain ⟨p12, r12, xa12, xb12, xc12, e12, r12b, p12b, p12c, qa12, qb12, qc12⟩ := hI.c12 hb12
        subst e12
        have HI : Hid _ := hI
        obtain ⟨yy, hyy, hyp⟩ := lit3_cell p12c r12b qa12 qb12 qc12
        clear hI hall hi
        refine wpOp_step rfl (fun K hK => ?_)
        go_simp
        have h := HI.out
        exact hK _ _ ⟨b0, b1, b2, b3, b4, b5, b6, b7, b8, b9, b10, b11, b12, true, b14, b15, b16, b17, b18, b19, b20, false, v4, v5, v6, v7, v8, v9, v10, v11, v12, v13, v14, v15, _, _, v18, v19, v20, v21, v22, v23, v3, rfl, rfl, .inl ⟨rfl, ⟨h.lt, h.le, h.src, h.gr, h.c0, h.c1, h.c2, h.c3, h.c4, h.c5, h.c6, h.c7, h.c8, h.c9, h.c10, h.c11, h.c12, fun _ => hyp, h.c14, h.c15, h.c16, h.c17, h.c18, h.c19, h.c20⟩⟩⟩
      · obtain rfl : b14 = false := hf
        have HI : Hid _ := hI
        clear hI hall hi
        refine wpOp_step rfl (fun K hK => ?_)
        go_simp
        have h := HI.out
        exact hK _ _ ⟨b0, b1, b2, b3, b4, b5, b6, b7, b8, b9, b10, b11, b12, b13, true, b15, b16, b17, b18, b19, b20, false, v4, v5, v6, v7, v8, v9, v10, v11, v12, v13, v14, v15, v16, v17, _, v19, v20, v21, v22, v23, v3, rfl, rfl, .inl ⟨rfl, ⟨h.lt, h.le, h.src.far (World.grownBy_alloc _ _ none), Lib.grownBy_trans h.gr gAl, h.c0, h.c1, h.c2, h.c3, h.c4, h.c5, h.c6, h.c7, h.c8, fun e => (h.c9 e).grow h.lt gAl, h.c10, h.c11, fun e => (h.c12 e).grow h.lt gAl, h.c13, fun _ => ⟨u.heap.size, _, _, _, rfl, Nat.le_trans h.le h.gr.size, (MapKept.heap_alloc u _).1, ⟨_, rfl⟩, ⟨_, rfl⟩, ⟨_, rfl⟩⟩, h.c15, h.c16, fun e => (h.c17 e).grow h.lt gAl, h.c18, h.c19, fun e => (h.c20 e).grow h.lt gAl⟩⟩⟩
      · obtain rfl : b15 = false := hf
        have HI : Hid _ := hI
        clear hI hall hi
        refine wpOp_step rfl (fun K hK => ?_)
        go_simp
        have h := HI.out
        exact hK _ _ ⟨b0, b1, b2, b3, b4, b5, b6, b7, b8, b9, b10, b11, b12, b13, b14, true, b16, b17, b18, b19, b20, false, v4, v5, v6, v7, v8, v9, v10, v11, v12, v13, v14, v15, v16, v17, v18, _, v20, v21, v22, v23, v3, rfl, rfl, .inl ⟨rfl, ⟨h.lt, h.le, h.src, h.gr, h.c0, h.c1, h.c2, h.c3, h.c4, h.c5, h.c6, h.c7, h.c8, h.c9, h.c10, h.c11, h.c12, h.c13, h.c14, fun _ => rfl, h.c16, h.c17, h.c18, h.c19, h.c20⟩⟩⟩
      · obtain rfl : b16 = false := hf
        cases ho
        have hb15 : b15 = true := hall { on := 15, ground := .data } (by simp) rfl
        have e15 : v19 = .pointer (some ⟨B0, 0, none⟩) := hI.c15 hb15
        subst e15
        have HN : Hid _ := src_n B0 a len cap 3 u hI.src (by omega)
        have HI : Hid _ := hI
        clear hI hall hi
        refine wpOp_step rfl (fun K hK => ?_)
        go_simp
        refine Calls.mono HN.out ?_
        rintro e9 u5 ⟨r, rfl, r0, r1, hs5, hg5⟩
        have h := HI.out
        exact hK _ _ ⟨b0, b1, b2, b3, b4, b5, b6, b7, b8, b9, b10, b11, b12, b13, b14, b15, true, b17, b18, b19, b20, false, v4, v5, v6, v7, v8, v9, v10, v11, v12, v13, v14, v15, v16, v17, v18, _, _, v21, v22, v23, v3, rfl, rfl, .inl ⟨rfl, ⟨h.lt, h.le, hs5, Lib.grownBy_trans h.gr hg5, h.c0, h.c1, h.c2, h.c3, h.c4, h.c5, h.c6, h.c7, h.c8, fun e => (h.c9 e).grow h.lt hg5, h.c10, h.c11, fun e => (h.c12 e).grow h.lt hg5, h.c13, fun e => (h.c14 e).grow h.lt hg5, h.c15, fun _ => ⟨r, rfl, r0, by omega⟩, fun e => (h.c17 e).grow h.lt hg5, h.c18, h.c19, fun e => (h.c20 e).grow h.lt hg5⟩⟩⟩
      · obtain rfl : b17 = false := hf
        cases ho
        have hb14 : b14 = true := hall { on := 14, ground := .data } (by simp) rfl
        have hb16 : b16 = true := hall { on := 16, ground := .data } (by simp) rfl
        obtain ⟨p14, xa14, xb14, xc14, e14, p14b, p14c, qa14, qb14, qc14⟩ := hI.c14 hb14
        subst e14
        obtain ⟨y16, rfl, y16b, y16c⟩ := hI.c16 hb16
        have HI : Hid _ := hI
        obtain ⟨R, rfl⟩ := Int.eq_ofNat_of_zero_le y16b
        have R1 : (R : Int) < 3 := by omega
        have R0 : R < 3 := by omega
        clear hI hall hi
        refine wpOp_step rfl (fun K hK => ?_)
        go_simp
        have h := HI.out
        exact hK _ _ ⟨b0, b1, b2, b3, b4, b5, b6, b7, b8, b9, b10, b11, b12, b13, b14, b15, b16, true, b18, b19, b20, false, v4, v5, v6, v7, v8, v9, v10, v11, v12, v13, v14, v15, v16, v17, _, v19, _, _, v22, v23, v3, rfl, rfl, .inl ⟨rfl, ⟨h.lt, h.le, h.src, h.gr, h.c0, h.c1, h.c2, h.c3, h.c4, h.c5, h.c6, h.c7, h.c8, h.c9, h.c10, h.c11, h.c12, h.c13, h.c14, h.c15, h.c16, fun _ => ⟨p14, R, _, _, _, rfl, R0, p14b, p14c, qa14, qb14, qc14⟩, h.c18, h.c19, h.c20⟩⟩⟩
      · obtain rfl : b18 = false := hf
        cases ho
        have hb17 : b17 = true := hall { on := 17, ground := .data } (by simp) rfl
        obtain ⟨p17, r17, xa17, xb17, xc17, e17, r17b, p17b, p17c, qa17, qb17, qc17⟩ := hI.c17 hb17
        subst e17
        have HI : Hid _ := hI
        obtain ⟨yy, hyy, hyp⟩ := lit3_cell p17c r17b qa17 qb17 qc17
        clear hI hall hi
        refine wpOp_step rfl (fun K hK => ?_)
        go_simp
        have h := HI.out
        exact hK _ _ ⟨b0, b1, b2, b3, b4, b5, b6, b7, b8, b9, b10, b11, b12, b13, b14, b15, b16, b17, true, b19, b20, false, v4, v5, v6, v7, v8, v9, v10, v11, v12, v13, v14, v15, v16, v17, v18, v19, v20, _, _, v23, v3, rfl, rfl, .inl ⟨rfl, ⟨h.lt, h.le, h.src, h.gr, h.c0, h.c1, h.c2, h.c3, h.c4, h.c5, h.c6, h.c7, h.c8, h.c9, h.c10, h.c11, h.c12, h.c13, h.c14, h.c15, h.c16, h.c17, fun _ => hyp, h.c19, h.c20⟩⟩⟩
      · obtain rfl : b19 = false := hf
        cases ho
        have hb2 : b2 = true := hall { on := 2, ground := .data } (by simp) rfl
        have hb13 : b13 = true := hall { on := 13, ground := .data } (by simp) rfl
        have hb18 : b18 = true := hall { on := 18, ground := .data } (by simp) rfl
        obtain ⟨y2, rfl, y2b, y2c⟩ := hI.c2 hb2
        obtain ⟨y13, e13⟩ := hI.c13 hb13
        subst e13
        obtain ⟨y18, e18⟩ := hI.c18 hb18
        subst e18
        have HI : Hid _ := hI
        clear hI hall hi
        refine wpOp_step rfl (fun K hK => ?_)
        go_simp
        have h := HI.out
        exact hK _ _ ⟨b0, b1, b2, b3, b4, b5, b6, b7, b8, b9, b10, b11, b12, b13, b14, b15, b16, b17, b18, true, b20, false, v4, v5, _, v7, v8, v9, v10, v11, v12, v13, v14, v15, v16, _, v18, v19, v20, v21, _, _, v3, rfl, rfl, .inl ⟨rfl, ⟨h.lt, h.le, h.src, h.gr, h.c0, h.c1, h.c2, h.c3, h.c4, h.c5, h.c6, h.c7, h.c8, h.c9, h.c10, h.c11, h.c12, h.c13, h.c14, h.c15, h.c16, h.c17, h.c18, fun _ => ⟨_, _, _, _, rfl⟩, h.c20⟩⟩⟩
      · obtain rfl : b20 = false := hf
        have HI : Hid _ := hI
        clear hI hall hi
        refine wpOp_step rfl (fun K hK => ?_)
        go_simp
        have h := HI.out
        exact hK _ _ ⟨b0, b1, b2, b3, b4, b5, b6, b7, b8, b9, b10, b11, b12, b13, b14, b15, b16, b17, b18, b19, true, false, v4, v5, v6, v7, v8, v9, v10, v11, v12, v13, v14, v15, v16, v17, v18, v19, v20, v21, v22, v23, _, rfl, rfl, .inl ⟨rfl, ⟨h.lt, h.le, h.src.far (World.grownBy_alloc _ _ none), Lib.grownBy_trans h.gr gAl, h.c0, h.c1, h.c2, h.c3, h.c4, h.c5, h.c6, h.c7, h.c8, fun e => (h.c9 e).grow h.lt gAl, h.c10, h.c11, fun e => (h.c12 e).grow h.lt gAl, h.c13, fun e => (h.c14 e).grow h.lt gAl, h.c15, h.c16, fun e => (h.c17 e).grow h.lt gAl, h.c18, h.c19, fun _ => ⟨u.heap.size, rfl, Nat.le_trans h.le h.gr.size, (MapKept.heap_alloc u _).1⟩⟩⟩⟩
      · cases ho
        obtain rfl : b0 = true := hall { on := 0, ground := .phase } (by simp) rfl
        obtain rfl : b1 = true := hall { on := 1, ground := .phase } (by simp) rfl
        obtain rfl : b2 = true := hall { on := 2, ground := .phase } (by simp) rfl
        obtain rfl : b3 = true := hall { on := 3, ground := .phase } (by simp) rfl
        obtain rfl : b4 = true := hall { on := 4, ground := .phase } (by simp) rfl
        obtain rfl : b5 = true := hall { on := 5, ground := .phase } (by simp) rfl
        obtain rfl : b6 = true := hall { on := 6, ground := .phase } (by simp) rfl
        obtain rfl : b7 = true := hall { on := 7, ground := .phase } (by simp) rfl
        obtain rfl : b8 = true := hall { on := 8, ground := .phase } (by simp) rfl
        obtain rfl : b9 = true := hall { on := 9, ground := .phase } (by simp) rfl
        obtain rfl : b10 = true := hall { on := 10, ground := .phase } (by simp) rfl
        obtain rfl : b11 = true := hall { on := 11, ground := .phase } (by simp) rfl
        obtain rfl : b12 = true := hall { on := 12, ground := .phase } (by simp) rfl
        obtain rfl : b13 = true := hall { on := 13, ground := .phase } (by simp) rfl
        obtain rfl : b14 = true := hall { on := 14, ground := .phase } (by simp) rfl
        obtain rfl : b15 = true := hall { on := 15, ground := .phase } (by simp) rfl
        obtain rfl : b16 = true := hall { on := 16, ground := .phase } (by simp) rfl
        obtain rfl : b17 = true := hall { on := 17, ground := .phase } (by simp) rfl
        obtain rfl : b18 = true := hall { on := 18, ground := .phase } (by simp) rfl
        obtain rfl : b19 = true := hall { on := 19, ground := .phase } (by simp) rfl
        obtain rfl : b20 = true := hall { on := 20, ground := .phase } (by simp) rfl
        have hb20 : true = true := rfl
        have hb19 : true = true := rfl
        obtain ⟨p20, rfl, p20b, p20c⟩ := hI.c20 hb20
        obtain ⟨m0, m1, m2, m3, hm9⟩ := hI.c19 hb19
        subst hm9
        have h := hI
        have hl0 := h.lt
        have hl1 := h.gr.size
        obtain ⟨c0, c1, c2, c3, cl, cf⟩ := cel4W p20c
        have HF : Hid (FB B0 a len cap W p20 m0 m1 m2 m3 ((((u.setCell ⟨p20, 0, none⟩ (.int .i64 m0)).setCell ⟨p20, 1, none⟩ (.int .i64 m1)).setCell ⟨p20, 2, none⟩ (.int .i64 m2)).setCell ⟨p20, 3, none⟩ (.string m3))) := ⟨h.lt, s_set4 h.src (by omega), g_set4 h.gr (by omega), p20b, fr_box4 p20c _ _ _ _⟩
        clear hI h hall hi p20c hl0 hl1
        refine wpOp_step rfl (fun K hK => ?_)
        go_simp
        exact hK _ _ ⟨true, true, true, true, true, true, true, true, true, true, true, true, true, true, true, true, true, true, true, true, true, true, v4, v5, v6, v7, v8, v9, v10, v11, v12, v13, v14, v15, v16, v17, v18, v19, v20, v21, v22, _, _, rfl, rfl, .inr ⟨rfl, rfl, rfl, rfl, rfl, rfl, rfl, rfl, rfl, rfl, rfl, rfl, rfl, rfl, rfl, rfl, rfl, rfl, rfl, rfl, rfl, rfl, p20, m0, m1, m2, m3, rfl, HF.out⟩⟩
    · exfalso
      obtain rfl | rfl | rfl | rfl | rfl | rfl | rfl | rfl | rfl | rfl | rfl | rfl | rfl | rfl | rfl | rfl | rfl | rfl | rfl | rfl | rfl | rfl : i = 0 ∨ i = 1 ∨ i = 2 ∨ i = 3 ∨ i = 4 ∨ i = 5 ∨ i = 6 ∨ i = 7 ∨ i = 8 ∨ i = 9 ∨ i = 10 ∨ i = 11 ∨ i = 12 ∨ i = 13 ∨ i = 14 ∨ i = 15 ∨ i = 16 ∨ i = 17 ∨ i = 18 ∨ i = 19 ∨ i = 20 ∨ i = 21 := by omega
      all_goals exact absurd hf (by decide)
set_option maxRecDepth 100000 in
set_option maxHeartbeats 8000000 in
theorem src_anyFrame (B0 : Nat) (a : Option Addr) (len cap : Nat) (w : World) (h : SrcOk w B0 a len cap) :
    Calls Tryd.prog 13 #[.pointer (some ⟨B0, 0, none⟩)] w fun e w' => ∃ s d n t, e = .returned (.agg #[.int .i64 s, .int .i64 d, .int .i64 n, .string t]) ∧ SrcOk w' B0 a len cap ∧ w.grownBy w' (some B0) := by
  have hlt := h.lt
  have HLT : Hid (B0 < w.heap.size) := hlt
  have HS : Hid (SrcOk (w.alloc (.cells #[.int .i64 0, .int .i64 0, .int .i64 0, .string ⟨#[]⟩] 24)) B0 a len cap) := h.far (World.grownBy_alloc _ _ none)
  have HGW : Hid (w.grownBy (w.alloc (.cells #[.int .i64 0, .int .i64 0, .int .i64 0, .string ⟨#[]⟩] 24)) (some B0)) := gAl
  have HR0 : Hid ((w.alloc (.cells #[.int .i64 0, .int .i64 0, .int .i64 0, .string ⟨#[]⟩] 24)).heap[w.heap.size]? = some (.cells #[.int .i64 0, .int .i64 0, .int .i64 0, .string ⟨#[]⟩] 24 (0, 0))) := (MapKept.heap_alloc w _).1
  have HSZ : Hid ((w.alloc (.cells #[.int .i64 0, .int .i64 0, .int .i64 0, .string ⟨#[]⟩] 24)).heap.size = w.heap.size + 1) := (show _ = _ by simp)
  clear h
  go_enter Tryd.func13, Tryd.ntmps13
  go_wp2_with fail
  generalize w.alloc (.cells #[.int .i64 0, .int .i64 0, .int .i64 0, .string ⟨#[]⟩] 24) = W at *
  refine (src_frame B0 a len cap W HS.out).mono ?_
  rintro e U0 ⟨s, d, n, t, rfl, hs0, hg0⟩
  have HM0 : Hid (FB B0 a len cap W U0.heap.size s d n t (U0.alloc (.cells #[.int .i64 s, .int .i64 d, .int .i64 n, .string t] 24))) := ⟨by have := HSZ.out; omega, hs0.far (World.grownBy_alloc _ _ none), Lib.grownBy_trans hg0 gAl, hg0.size, (MapKept.heap_alloc U0 _).1⟩
  clear hs0 hg0 HS
  go_upto_region 2 with fail
  generalize U0.alloc (.cells #[.int .i64 s, .int .i64 d, .int .i64 n, .string t] 24) = U1 at *
  generalize U0.heap.size = p at *
  go_wp2_with fail
  refine (src_one B0 a len cap 6 U1 HM0.out.src (by omega)).mono ?_
  rintro e U2 ⟨t1, rfl, hs1, hg1⟩
  have HM2 : Hid (FB B0 a len cap W p s d n t U2) := HM0.out.step hs1 hg1
  clear hs1 hg1 HM0
  cases t1
  · skip
    obtain ⟨d0, d1, d2, d3, dl, df⟩ := cel4W HM2.out.box
    have HRB : Hid (U2.heap[w.heap.size]? = some (.cells #[.int .i64 0, .int .i64 0, .int .i64 0, .string ⟨#[]⟩] 24 (0, 0))) := (HM2.out.gr.block _ (Array.getElem?_eq_some_iff.1 HR0.out).1 (by have := HLT.out; simp; omega)).trans HR0.out
    obtain ⟨r0, r1, r2, r3, rl, rf⟩ := cel4W HRB.out
    go_wp2
    have hfin := fr_box4 HRB.out (.int .i64 s) (.int .i64 d) (.int .i64 n) (.string t)
    obtain ⟨f0, f1, f2, f3, _, _⟩ := cel4W hfin
    refine bodyPost_ret (v := .agg #[.int .i64 s, .int .i64 d, .int .i64 n, .string t]) (by simp [results, Tryd.results13, go_sem, f0, f1, f2, f3]) rfl ?_
    exact ⟨s, d, n, t, rfl, s_set4 HM2.out.src HLT.out, g_set4 (Lib.grownBy_trans HGW.out HM2.out.gr) (Nat.le_refl _)⟩
  · go_wp2_with fail
    refine (src_n B0 a len cap 4 U2 HM2.out.src (by omega)).mono ?_
    rintro e U3 ⟨k5, rfl, k50, k51, hs3, hg3⟩
    have HM3 : Hid (FB B0 a len cap W p s d n t U3) := HM2.out.step hs3 hg3
    clear hs3 hg3 HM2
    obtain rfl | rfl | rfl | rfl : k5 = 0 ∨ k5 = 1 ∨ k5 = 2 ∨ k5 = 3 := by omega
    · skip
      have HAa : Hid (FB B0 a len cap W p s d n t (U3.alloc (.cells #[.int .i64 (-1), .int .i64 281474976710655, .int .i64 281474976710654] 2))) := HM3.out.alloc _
      have hba : B0 < U3.heap.size := HM3.out.src.lt
      go_wp2_with fail
      refine (src_n B0 a len cap 3 (U3.alloc (.cells #[.int .i64 (-1), .int .i64 281474976710655, .int .i64 281474976710654] 2)) HAa.out.src (by omega)).mono ?_
      rintro e Va ⟨qa, rfl, qa0, qa1, hsV, hgV⟩
      obtain ⟨Qa, rfl⟩ := Int.eq_ofNat_of_zero_le qa0
      have hQa : Qa < 3 := by omega
      have hQa1 : (Qa : Int) < 3 := by omega
      obtain ⟨ya, hya⟩ := lit_drawW (C := [-1, 281474976710655, 281474976710654]) hba hgV Qa hQa
      have HBa : Hid (FB B0 a len cap W p s d n t Va) := HAa.out.step hsV hgV
      clear hsV hgV HAa qa0 qa1 hba
      obtain ⟨d0, d1, d2, d3, dl, df⟩ := cel4W HBa.out.box
      have HCa : Hid (FB B0 a len cap W p ya d n t (Va.setCell ⟨p, 0, none⟩ (.int .i64 ya))) := HBa.out.put.1 ya
      go_upto_region 13 with fail
      generalize Va.setCell ⟨p, 0, none⟩ (.int .i64 ya) = Za at *
      clear HBa d0 d1 d2 d3 dl df hya
      obtain ⟨d0, d1, d2, d3, dl, df⟩ := cel4W HCa.out.box
      have HRB : Hid (Za.heap[w.heap.size]? = some (.cells #[.int .i64 0, .int .i64 0, .int .i64 0, .string ⟨#[]⟩] 24 (0, 0))) := (HCa.out.gr.block _ (Array.getElem?_eq_some_iff.1 HR0.out).1 (by have := HLT.out; simp; omega)).trans HR0.out
      obtain ⟨r0, r1, r2, r3, rl, rf⟩ := cel4W HRB.out
      go_wp2
      have hfin := fr_box4 HRB.out (.int .i64 ya) (.int .i64 d) (.int .i64 n) (.string t)
      obtain ⟨f0, f1, f2, f3, _, _⟩ := cel4W hfin
      refine bodyPost_ret (v := .agg #[.int .i64 ya, .int .i64 d, .int .i64 n, .string t]) (by simp [results, Tryd.results13, go_sem, f0, f1, f2, f3]) rfl ?_
      exact ⟨ya, d, n, t, rfl, s_set4 HCa.out.src HLT.out, g_set4 (Lib.grownBy_trans HGW.out HCa.out.gr) (Nat.le_refl _)⟩
    · skip
      have HAa : Hid (FB B0 a len cap W p s d n t (U3.alloc (.cells #[.int .i64 (-1), .int .i64 281474976710656] 2))) := HM3.out.alloc _
      have hba : B0 < U3.heap.size := HM3.out.src.lt
      go_wp2_with fail
      refine (src_n B0 a len cap 2 (U3.alloc (.cells #[.int .i64 (-1), .int .i64 281474976710656] 2)) HAa.out.src (by omega)).mono ?_
      rintro e Va ⟨qa, rfl, qa0, qa1, hsV, hgV⟩
      obtain ⟨Qa, rfl⟩ := Int.eq_ofNat_of_zero_le qa0
      have hQa : Qa < 2 := by omega
      have hQa1 : (Qa : Int) < 2 := by omega
      obtain ⟨ya, hya⟩ := lit_drawW (C := [-1, 281474976710656]) hba hgV Qa hQa
      have HBa : Hid (FB B0 a len cap W p s d n t Va) := HAa.out.step hsV hgV
      clear hsV hgV HAa qa0 qa1 hba
      obtain ⟨d0, d1, d2, d3, dl, df⟩ := cel4W HBa.out.box
      have HCa : Hid (FB B0 a len cap W p s ya n t (Va.setCell ⟨p, 1, none⟩ (.int .i64 ya))) := HBa.out.put.2.1 ya
      go_upto_region 13 with fail
      generalize Va.setCell ⟨p, 1, none⟩ (.int .i64 ya) = Za at *
      clear HBa d0 d1 d2 d3 dl df hya
      obtain ⟨d0, d1, d2, d3, dl, df⟩ := cel4W HCa.out.box
      have HRB : Hid (Za.heap[w.heap.size]? = some (.cells #[.int .i64 0, .int .i64 0, .int .i64 0, .string ⟨#[]⟩] 24 (0, 0))) := (HCa.out.gr.block _ (Array.getElem?_eq_some_iff.1 HR0.out).1 (by have := HLT.out; simp; omega)).trans HR0.out
      obtain ⟨r0, r1, r2, r3, rl, rf⟩ := cel4W HRB.out
      go_wp2
      have hfin := fr_box4 HRB.out (.int .i64 s) (.int .i64 ya) (.int .i64 n) (.string t)
      obtain ⟨f0, f1, f2, f3, _, _⟩ := cel4W hfin
      refine bodyPost_ret (v := .agg #[.int .i64 s, .int .i64 ya, .int .i64 n, .string t]) (by simp [results, Tryd.results13, go_sem, f0, f1, f2, f3]) rfl ?_
      exact ⟨s, ya, n, t, rfl, s_set4 HCa.out.src HLT.out, g_set4 (Lib.grownBy_trans HGW.out HCa.out.gr) (Nat.le_refl _)⟩
    · skip
      have HAa : Hid (FB B0 a len cap W p s d n t (U3.alloc (.cells #[.int .i64 (-1), .int .i64 4095, .int .i64 4096] 2))) := HM3.out.alloc _
      have hba : B0 < U3.heap.size := HM3.out.src.lt
      go_wp2_with fail
      refine (src_n B0 a len cap 3 (U3.alloc (.cells #[.int .i64 (-1), .int .i64 4095, .int .i64 4096] 2)) HAa.out.src (by omega)).mono ?_
      rintro e Va ⟨qa, rfl, qa0, qa1, hsV, hgV⟩
      obtain ⟨Qa, rfl⟩ := Int.eq_ofNat_of_zero_le qa0
      have hQa : Qa < 3 := by omega
      have hQa1 : (Qa : Int) < 3 := by omega
      obtain ⟨ya, hya⟩ := lit_drawW (C := [-1, 4095, 4096]) hba hgV Qa hQa
      have HBa : Hid (FB B0 a len cap W p s d n t Va) := HAa.out.step hsV hgV
      clear hsV hgV HAa qa0 qa1 hba
      obtain ⟨d0, d1, d2, d3, dl, df⟩ := cel4W HBa.out.box
      have HCa : Hid (FB B0 a len cap W p s d ya t (Va.setCell ⟨p, 2, none⟩ (.int .i64 ya))) := HBa.out.put.2.2.1 ya
      go_upto_region 13 with fail
      generalize Va.setCell ⟨p, 2, none⟩ (.int .i64 ya) = Za at *
      clear HBa d0 d1 d2 d3 dl df hya
      obtain ⟨d0, d1, d2, d3, dl, df⟩ := cel4W HCa.out.box
      have HRB : Hid (Za.heap[w.heap.size]? = some (.cells #[.int .i64 0, .int .i64 0, .int .i64 0, .string ⟨#[]⟩] 24 (0, 0))) := (HCa.out.gr.block _ (Array.getElem?_eq_some_iff.1 HR0.out).1 (by have := HLT.out; simp; omega)).trans HR0.out
      obtain ⟨r0, r1, r2, r3, rl, rf⟩ := cel4W HRB.out
      go_wp2
      have hfin := fr_box4 HRB.out (.int .i64 s) (.int .i64 d) (.int .i64 ya) (.string t)
      obtain ⟨f0, f1, f2, f3, _, _⟩ := cel4W hfin
      refine bodyPost_ret (v := .agg #[.int .i64 s, .int .i64 d, .int .i64 ya, .string t]) (by simp [results, Tryd.results13, go_sem, f0, f1, f2, f3]) rfl ?_
      exact ⟨s, d, ya, t, rfl, s_set4 HCa.out.src HLT.out, g_set4 (Lib.grownBy_trans HGW.out HCa.out.gr) (Nat.le_refl _)⟩
    · go_wp2_with fail
      refine (src_n B0 a len cap 2 U3 HM3.out.src (by omega)).mono ?_
      rintro e U4 ⟨q4, rfl, q40, q41, hs4, hg4⟩
      have HM4 : Hid (FB B0 a len cap W p s d n t U4) := HM3.out.step hs4 hg4
      clear hs4 hg4 HM3
      obtain ⟨Q4, hQ4⟩ := Int.eq_ofNat_of_zero_le (show 0 ≤ 1500 + q4 by omega)
      have hQ5 : Q4 ≤ 1502 := by omega
      have HZ : Hid (∀ u, Calls Tryd.prog 31 #[.pointer (some ⟨B0, 0, none⟩), .int .i64 (1500 + q4)] u fun e w' => e = .returned (.string ⟨(zer Q4).toArray⟩) ∧ u.grownBy w' none) := fun u => by rw [hQ4]; exact src_zeros _ Q4 u (by omega)
      clear hQ4
      go_wp2_with fail
      refine (HZ.out U4).mono ?_
      rintro e U5 ⟨rfl, hg5⟩
      generalize (⟨(zer Q4).toArray⟩ : ByteArray) = T5 at *
      have HM5 : Hid (FB B0 a len cap W p s d n t U5) := HM4.out.step (HM4.out.src.far hg5) (gfar (World.grownBy.refl _ _) hg5 (fun k hk => by cases hk))
      clear hg5 HM4 HZ
      obtain ⟨d0, d1, d2, d3, dl, df⟩ := cel4W HM5.out.box
      have HM6 : Hid (FB B0 a len cap W p s d n T5 (U5.setCell ⟨p, 3, none⟩ (.string T5))) := HM5.out.put.2.2.2 T5
      go_upto_region 13 with fail
      generalize U5.setCell ⟨p, 3, none⟩ (.string T5) = U6 at *
      clear HM5 d0 d1 d2 d3 dl df
      obtain ⟨d0, d1, d2, d3, dl, df⟩ := cel4W HM6.out.box
      have HRB : Hid (U6.heap[w.heap.size]? = some (.cells #[.int .i64 0, .int .i64 0, .int .i64 0, .string ⟨#[]⟩] 24 (0, 0))) := (HM6.out.gr.block _ (Array.getElem?_eq_some_iff.1 HR0.out).1 (by have := HLT.out; simp; omega)).trans HR0.out
      obtain ⟨r0, r1, r2, r3, rl, rf⟩ := cel4W HRB.out
      go_wp2
      have hfin := fr_box4 HRB.out (.int .i64 s) (.int .i64 d) (.int .i64 n) (.string T5)
      obtain ⟨f0, f1, f2, f3, _, _⟩ := cel4W hfin
      refine bodyPost_ret (v := .agg #[.int .i64 s, .int .i64 d, .int .i64 n, .string T5]) (by simp [results, Tryd.results13, go_sem, f0, f1, f2, f3]) rfl ?_
      exact ⟨s, d, n, T5, rfl, s_set4 HM6.out.src HLT.out, g_set4 (Lib.grownBy_trans HGW.out HM6.out.gr) (Nat.le_refl _)⟩

theorem CodeAt.allocW {w : World} {B : Nat} {a : Option Addr} {len : Nat} (h : CodeAt w w.heap.size a len) (o : Obj) (hB : B = w.heap.size + 1) : CodeAt (w.alloc o) B a len := by
  rcases h with h | ⟨cb, co, ha, hlt, hcc⟩
  · exact .inl h
  · refine .inr ⟨cb, co, ha, by omega, fun i hi => ?_⟩
    obtain ⟨x, h0, h1, hx⟩ := hcc i hi
    exact ⟨x, h0, h1, ((Below.refl w.heap.size w).alloc (Nat.le_refl _) o |>.cell (p := ⟨cb, co + i, none⟩) hlt).trans hx⟩
/-- A draw under way: the source lies just behind what the answer's box is. -/
structure DX (B0 : Nat) (a : Option Addr) (len cap : Nat) (w0 W u : World) : Prop where
  src : SrcOk u B0 a len cap
  gr : W.grownBy u (some B0)
  wb : Below w0.heap.size w0 W
  lo : B0 = W.heap.size
theorem DX.step {B0 : Nat} {a : Option Addr} {len cap : Nat} {w0 W u u' : World} (h : DX B0 a len cap w0 W u) (hs : SrcOk u' B0 a len cap) (hg : u.grownBy u' (some B0)) : DX B0 a len cap w0 W u' := ⟨hs, Lib.grownBy_trans h.gr hg, h.wb, h.lo⟩
theorem DX.alloc {B0 : Nat} {a : Option Addr} {len cap : Nat} {w0 W u : World} (h : DX B0 a len cap w0 W u) (o : Obj) : DX B0 a len cap w0 W (u.alloc o) := h.step (h.src.far (World.grownBy_alloc _ o none)) gAl
theorem DX.box {B0 : Nat} {a : Option Addr} {len cap : Nat} {w0 W u : World} (h : DX B0 a len cap w0 W u) {x : Obj} {p : Nat} (hx : W.heap[p]? = some x) : u.heap[p]? = some x := by
  have h1 := (Array.getElem?_eq_some_iff.1 hx).1
  have h2 := h.lo
  exact (h.gr.block p h1 (by simp; omega)).trans hx
theorem DX.bel {B0 : Nat} {a : Option Addr} {len cap : Nat} {w0 W u : World} (h : DX B0 a len cap w0 W u) : Below w0.heap.size w0 u := by
  have h2 := h.lo
  have h3 := h.wb.size
  exact h.wb.grown h.gr h3 (fun k hk => by cases hk; omega)
theorem fr_bel4 {w u : World} (h : Below w.heap.size w u) (v0 v1 v2 v3 : Value) : Below w.heap.size w ((((u.setCell ⟨w.heap.size, 0, none⟩ v0).setCell ⟨w.heap.size, 1, none⟩ v1).setCell ⟨w.heap.size, 2, none⟩ v2).setCell ⟨w.heap.size, 3, none⟩ v3) := (((h.setCell (Nat.le_refl _) _).setCell (Nat.le_refl _) _).setCell (Nat.le_refl _) _).setCell (Nat.le_refl _) _
set_option maxRecDepth 100000 in
set_option maxHeartbeats 8000000 in
theorem drawWrap_any (a : Option Addr) (len cap : Nat) (w0 : World) (hcode : CodeAt w0 w0.heap.size a len) (hl : len ≤ 1048576) :
    Calls Tryd.prog 4 #[.slice a len cap] w0 fun e w' => ∃ s d n t k fr tt, e = .returned (.tuple #[.agg #[.int .i64 s, .int .i64 d, .int .i64 n, .string t], .int .i64 k, .int .i64 fr, .int .i64 tt]) ∧ Below w0.heap.size w0 w' := by
  have HC : Hid (CodeAt (w0.alloc (.cells #[.int .i64 0, .int .i64 0, .int .i64 0, .string ⟨#[]⟩] 24)) (w0.alloc (.cells #[.int .i64 0, .int .i64 0, .int .i64 0, .string ⟨#[]⟩] 24)).heap.size a len) := hcode.allocW _ (by simp)
  have HB0 : Hid (Below w0.heap.size w0 (w0.alloc (.cells #[.int .i64 0, .int .i64 0, .int .i64 0, .string ⟨#[]⟩] 24))) := (Below.refl _ _).alloc (Nat.le_refl _) _
  have HR0 : Hid ((w0.alloc (.cells #[.int .i64 0, .int .i64 0, .int .i64 0, .string ⟨#[]⟩] 24)).heap[w0.heap.size]? = some (.cells #[.int .i64 0, .int .i64 0, .int .i64 0, .string ⟨#[]⟩] 24 (0, 0))) := (MapKept.heap_alloc w0 _).1
  clear hcode
  go_enter Tryd.func4, Tryd.ntmps4
  go_wp2_with fail
  generalize w0.alloc (.cells #[.int .i64 0, .int .i64 0, .int .i64 0, .string ⟨#[]⟩] 24) = W at *
  refine (l01Source_any a len cap W HC.out hl).mono ?_
  rintro e U0 ⟨rfl, hs1, hb1⟩
  have HU0 : Hid (DX W.heap.size a len cap w0 W U0) := ⟨hs1, gfar (World.grownBy.refl _ _) (row := none) ⟨hb1.os, hb1.tape, hb1.output, hb1.size, fun k hk _ => hb1.block k hk⟩ (fun k hk => by cases hk), HB0.out, rfl⟩
  clear hs1 hb1 HC HB0
  generalize W.heap.size = B0 at *
  go_wp2_with fail
  refine (src_n B0 a len cap 100 U0 HU0.out.src (by omega)).mono ?_
  rintro e U1 ⟨qk, rfl, qk0, qk1, hs1, hg1⟩
  have HU1 : Hid (DX B0 a len cap w0 W U1) := HU0.out.step hs1 hg1
  clear hs1 hg1 qk0 qk1
  go_wp2_with fail
  refine (src_n B0 a len cap 100 U1 HU1.out.src (by omega)).mono ?_
  rintro e U2 ⟨qf, rfl, qf0, qf1, hs1, hg1⟩
  have HU2 : Hid (DX B0 a len cap w0 W U2) := HU1.out.step hs1 hg1
  clear hs1 hg1 qf0 qf1
  go_wp2_with fail
  refine (src_n B0 a len cap 100 U2 HU2.out.src (by omega)).mono ?_
  rintro e U3 ⟨qg, rfl, qg0, qg1, hs1, hg1⟩
  have HU3 : Hid (DX B0 a len cap w0 W U3) := HU2.out.step hs1 hg1
  clear hs1 hg1 qg0 qg1
  go_wp2_with fail
  refine (src_one B0 a len cap 8 U3 HU3.out.src (by omega)).mono ?_
  rintro e U4 ⟨t1, rfl, hs1, hg1⟩
  have HU4 : Hid (DX B0 a len cap w0 W U4) := HU3.out.step hs1 hg1
  clear hs1 hg1 HU0 HU1 HU2 HU3
  cases t1
  · skip
    go_wp2_with fail
    refine (src_anyFrame B0 a len cap U4 HU4.out.src).mono ?_
    rintro e Y1 ⟨s, d, n, t, rfl, hs5, hg5⟩
    have HY : Hid (DX B0 a len cap w0 W Y1) := HU4.out.step hs5 hg5
    clear hs5 hg5
    have HRB : Hid (Y1.heap[w0.heap.size]? = some (.cells #[.int .i64 0, .int .i64 0, .int .i64 0, .string ⟨#[]⟩] 24 (0, 0))) := HY.out.box HR0.out
    obtain ⟨r0, r1, r2, r3, rl, rf⟩ := cel4W HRB.out
    go_wp2
    have hfin := fr_box4 HRB.out (.int .i64 s) (.int .i64 d) (.int .i64 n) (.string t)
    have hbe := fr_bel4 HY.out.bel (.int .i64 s) (.int .i64 d) (.int .i64 n) (.string t)
    obtain ⟨f0, f1, f2, f3, _, _⟩ := cel4W hfin
    exact bodyPost_ret (v := .tuple #[.agg #[.int .i64 s, .int .i64 d, .int .i64 n, .string t], .int .i64 qk, .int .i64 qf, .int .i64 qg]) (by simp [results, Tryd.results4, go_sem, f0, f1, f2, f3]) rfl ⟨s, d, n, t, qk, qf, qg, rfl, hbe⟩
  · skip
    have HAa : Hid (DX B0 a len cap w0 W (U4.alloc (.cells #[.int .i64 (-1), .int .i64 16777216, .int .i64 16777215] 2))) := HU4.out.alloc _
    have hba : B0 < U4.heap.size := HU4.out.src.lt
    go_wp2_with fail
    refine (src_n B0 a len cap 3 (U4.alloc (.cells #[.int .i64 (-1), .int .i64 16777216, .int .i64 16777215] 2)) HAa.out.src (by omega)).mono ?_
    rintro e Va ⟨qa, rfl, qa0, qa1, hsV, hgV⟩
    obtain ⟨Qa, rfl⟩ := Int.eq_ofNat_of_zero_le qa0
    have hQa : Qa < 3 := by omega
    have hQa1 : (Qa : Int) < 3 := by omega
    obtain ⟨ya, hya⟩ := lit_drawW (C := [-1, 16777216, 16777215]) hba hgV Qa hQa
    have HVa : Hid (DX B0 a len cap w0 W Va) := HAa.out.step hsV hgV
    have hla : U4.heap.size < Va.heap.size := by have := hgV.size; simp at this; omega
    clear hsV hgV HAa qa0 qa1 hba
    go_upto_region 7 with fail
    clear hya
    have HAb : Hid (DX B0 a len cap w0 W (Va.alloc (.cells #[.int .i64 (-1), .int .i64 4294967296, .int .i64 4294967295] 2))) := HVa.out.alloc _
    have hbb : B0 < Va.heap.size := HVa.out.src.lt
    go_wp2_with fail
    refine (src_n B0 a len cap 3 (Va.alloc (.cells #[.int .i64 (-1), .int .i64 4294967296, .int .i64 4294967295] 2)) HAb.out.src (by omega)).mono ?_
    rintro e Vb ⟨qb, rfl, qb0, qb1, hsV, hgV⟩
    obtain ⟨Qb, rfl⟩ := Int.eq_ofNat_of_zero_le qb0
    have hQb : Qb < 3 := by omega
    have hQb1 : (Qb : Int) < 3 := by omega
    obtain ⟨yb, hyb⟩ := lit_drawW (C := [-1, 4294967296, 4294967295]) hbb hgV Qb hQb
    have HVb : Hid (DX B0 a len cap w0 W Vb) := HAb.out.step hsV hgV
    have hlb : Va.heap.size < Vb.heap.size := by have := hgV.size; simp at this; omega
    clear hsV hgV HAb qb0 qb1 hbb
    go_upto_region 8 with fail
    clear hyb
    have HAc : Hid (DX B0 a len cap w0 W (Vb.alloc (.cells #[.int .i64 5, .int .i64 4294967296] 2))) := HVb.out.alloc _
    have hbc : B0 < Vb.heap.size := HVb.out.src.lt
    go_wp2_with fail
    refine (src_n B0 a len cap 2 (Vb.alloc (.cells #[.int .i64 5, .int .i64 4294967296] 2)) HAc.out.src (by omega)).mono ?_
    rintro e Vc ⟨qc, rfl, qc0, qc1, hsV, hgV⟩
    obtain ⟨Qc, rfl⟩ := Int.eq_ofNat_of_zero_le qc0
    have hQc : Qc < 2 := by omega
    have hQc1 : (Qc : Int) < 2 := by omega
    obtain ⟨yc, hyc⟩ := lit_drawW (C := [5, 4294967296]) hbc hgV Qc hQc
    have HVc : Hid (DX B0 a len cap w0 W Vc) := HAc.out.step hsV hgV
    have hlc : Vb.heap.size < Vc.heap.size := by have := hgV.size; simp at this; omega
    clear hsV hgV HAc qc0 qc1 hbc
    go_upto_region 9 with fail
    clear hyc
    go_wp2_with fail
    refine (src_anyFrame B0 a len cap Vc HVc.out.src).mono ?_
    rintro e Y1 ⟨s, d, n, t, rfl, hs5, hg5⟩
    have HY : Hid (DX B0 a len cap w0 W Y1) := HVc.out.step hs5 hg5
    clear hs5 hg5
    have HRB : Hid (Y1.heap[w0.heap.size]? = some (.cells #[.int .i64 0, .int .i64 0, .int .i64 0, .string ⟨#[]⟩] 24 (0, 0))) := HY.out.box HR0.out
    obtain ⟨r0, r1, r2, r3, rl, rf⟩ := cel4W HRB.out
    go_wp2
    have hfin := fr_box4 HRB.out (.int .i64 s) (.int .i64 d) (.int .i64 n) (.string t)
    have hbe := fr_bel4 HY.out.bel (.int .i64 s) (.int .i64 d) (.int .i64 n) (.string t)
    obtain ⟨f0, f1, f2, f3, _, _⟩ := cel4W hfin
    exact bodyPost_ret (v := .tuple #[.agg #[.int .i64 s, .int .i64 d, .int .i64 n, .string t], .int .i64 ya, .int .i64 yb, .int .i64 yc]) (by simp [results, Tryd.results4, go_sem, f0, f1, f2, f3]) rfl ⟨s, d, n, t, ya, yb, yc, rfl, hbe⟩
end Go.Proofs.YtmmodmanfoipiaaDoor
