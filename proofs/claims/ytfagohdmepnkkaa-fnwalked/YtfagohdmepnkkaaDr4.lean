import Derived.Test.YtfagohdmepnkkaaDr3
import Derived.Deep.DeepCutAuto
import Derived.Test.YtfagohdmepnkkaaSMap5
import Derived.Deep.AppendLies
namespace Go.Proofs.Ytfagohdmepnkkaa
open Go.ChangeShapes Go.WideShapes Go.ChangeAt Go.RowKit

theorem Try.info101 : (Try.prog.info? 101).map (fun i => (i.zero, i.size, i.bytes)) = some (some (.agg #[.int .i64 0, .int .i64 0, .int .i64 0, .bool false]), 4, 32) := by kernel_rfl
theorem pm_oneC (m : PM) : ∀ u ∈ pmC m, u.oneCell' = true := by
  intro u hu
  simp [pmC] at hu
  rcases hu with rfl | rfl | rfl | rfl <;> rfl
/-- A map whose flags are a byte. -/
def flB (m : PM) : Prop := 0 ≤ m.flags ∧ m.flags ≤ 255
def KPM (v : Value) : Prop := ∃ m : PM, v = pmA m ∧ flB m
def KBox (B : Nat) (v : Value) (u : World) : Prop := ∃ p, v = .pointer (some ⟨p, 0, none⟩) ∧ B ≤ p ∧ u.heap[p]? = some (.cells #[.int .i64 0, .int .i64 0, .int .i64 0, .bool false] 101 (0, 0))
theorem KBox.grow {B b : Nat} {v : Value} {u u' : World} (h : KBox B v u) (hb : b < B) (hg : u.grownBy u' (some b)) : KBox B v u' := by
  obtain ⟨p, h1, h2, h3⟩ := h
  exact ⟨p, h1, h2, (hg.block p (Array.getElem?_eq_some_iff.1 h3).1 (by simp; omega)).trans h3⟩
def KRf (p6 : Nat) (v : Value) : Prop := ∃ r : Nat, v = .pointer (some ⟨p6, r, none⟩) ∧ r < 6
/-- A map under way, in its box. -/
structure MB (B0 : Nat) (a : Option Addr) (len cap : Nat) (w : World) (p : Nat) (m : PM) (u : World) : Prop where
  lt : B0 < w.heap.size
  src : SrcOk u B0 a len cap
  gr : w.grownBy u (some B0)
  lo : w.heap.size ≤ p
  box : u.heap[p]? = some (.cells #[.int .i64 m.va, .int .i64 m.frame, .int .i64 m.flags, .bool m.large] 101 (0, 0))
  fl : flB m
theorem MB.step {B0 : Nat} {a : Option Addr} {len cap : Nat} {w : World} {p : Nat} {m : PM} {u u' : World} (h : MB B0 a len cap w p m u) (hs : SrcOk u' B0 a len cap) (hg : u.grownBy u' (some B0)) : MB B0 a len cap w p m u' := by
  have h1 := h.lt
  have h2 := h.lo
  exact ⟨h.lt, hs, Lib.grownBy_trans h.gr hg, h.lo, (hg.block p (Array.getElem?_eq_some_iff.1 h.box).1 (by simp; omega)).trans h.box, h.fl⟩
theorem MB.set {B0 : Nat} {a : Option Addr} {len cap : Nat} {w : World} {p : Nat} {u : World} (lt : B0 < w.heap.size) (src : SrcOk u B0 a len cap) (gr : w.grownBy u (some B0)) (lo : w.heap.size ≤ p) (o : Nat) (x : Value) : SrcOk (u.setCell ⟨p, o, none⟩ x) B0 a len cap ∧ w.grownBy (u.setCell ⟨p, o, none⟩ x) (some B0) :=
  ⟨src.keep (fun j hj => Below.heap_setCell _ _ _ _ (by simp only; omega)), gfar gr (row := some p) ⟨rfl, rfl, rfl, by simp [World.setCell], fun j _ hj => Below.heap_setCell _ _ _ _ (fun q => hj (by rw [q]))⟩ (fun j hj => by cases hj; exact lo)⟩
theorem pmb_put {B0 : Nat} {a : Option Addr} {len cap : Nat} {w : World} {p : Nat} {u : World} {x0 x1 x2 x3 : Value} (lt : B0 < w.heap.size) (src : SrcOk u B0 a len cap) (gr : w.grownBy u (some B0)) (lo : w.heap.size ≤ p) (box : u.heap[p]? = some (.cells #[x0, x1, x2, x3] 101 (0, 0))) (m : PM) (hf : flB m) {U : World} (hU : (((u.setCell ⟨p, 0, none⟩ (.int .i64 m.va)).setCell ⟨p, 1, none⟩ (.int .i64 m.frame)).setCell ⟨p, 2, none⟩ (.int .i64 m.flags)).setCell ⟨p, 3, none⟩ (.bool m.large) = U) : MB B0 a len cap w p m U := by
  subst hU
  have s0 := MB.set lt src gr lo 0 (.int .i64 m.va)
  have s1 := MB.set lt s0.1 s0.2 lo 1 (.int .i64 m.frame)
  have s2 := MB.set lt s1.1 s1.2 lo 2 (.int .i64 m.flags)
  have s3 := MB.set lt s2.1 s2.2 lo 3 (.bool m.large)
  refine ⟨lt, s3.1, s3.2, lo, ?_, hf⟩
  have h0 := heap_setCell_same u p 0 _ _ (.int .i64 m.va) box
  have h1 := heap_setCell_same _ p 1 _ _ (.int .i64 m.frame) h0
  have h2 := heap_setCell_same _ p 2 _ _ (.int .i64 m.flags) h1
  have h3 := heap_setCell_same _ p 3 _ _ (.bool m.large) h2
  simpa using h3
theorem MB.frame {B0 : Nat} {a : Option Addr} {len cap : Nat} {w : World} {p : Nat} {va fr fl : Int} {lg : Bool} {u : World} (h : MB B0 a len cap w p ⟨va, fr, fl, lg⟩ u) (f : Int) : MB B0 a len cap w p ⟨va, f, fl, lg⟩ (u.setCell ⟨p, 1, none⟩ (.int .i64 f)) := by
  have s0 := MB.set h.lt h.src h.gr h.lo 1 (.int .i64 f)
  refine ⟨h.lt, s0.1, s0.2, h.lo, ?_, h.fl⟩
  have h0 := heap_setCell_same u p 1 _ _ (.int .i64 f) h.box
  simpa using h0
theorem MB.cel {B0 : Nat} {a : Option Addr} {len cap : Nat} {w : World} {p : Nat} {va fr fl : Int} {lg : Bool} {u : World} (h : MB B0 a len cap w p ⟨va, fr, fl, lg⟩ u) : u.cell? ⟨p, 0, none⟩ = some (.int .i64 va) ∧ u.cell? ⟨p, 1, none⟩ = some (.int .i64 fr) ∧ u.cell? ⟨p, 2, none⟩ = some (.int .i64 fl) ∧ u.cell? ⟨p, 3, none⟩ = some (.bool lg) ∧ ∀ x, u.frozen? ⟨p, x, none⟩ = false := by
  have hb := h.box
  simp only at hb
  refine ⟨?_, ?_, ?_, ?_, fun x => ?_⟩
  all_goals first | (simp [World.cell?, hb]; done) | (simp [World.frozen?, hb]; done)
structure MpR (B0 B : Nat) (w : World) (a : Option Addr) (len cap : Nat) (n p6 : Nat) (b0 b1 b2 b3 b4 b5 b6 b7 b8 b9 b10 b11 b12 b13 b14 b15 b16 : Bool) (v18 v19 v20 v21 v22 v23 v24 v25 v26 v27 v28 v29 v30 v31 v32 v8 : Value) (u : World) : Prop where
  lt : B0 < B
  le : B ≤ w.heap.size
  src : SrcOk u B0 a len cap
  gr : w.grownBy u (some B0)
  c0 : b0 = true → KLit B [0, 1, 2, 31, 32, 33, 64, 1023] v18 u
  c1 : b1 = true → KSrc B0 v19
  c2 : b2 = true → KNum 0 7 v20
  c3 : b3 = true → KPtr B [0, 1, 2, 31, 32, 33, 64, 1023] v21 u
  c4 : b4 = true → KNum 0 1023 v22
  c5 : b5 = true → KNum 0 261888 v23
  c6 : b6 = true → KSrc B0 v24
  c7 : b7 = true → v25 = .int .i64 (n : Int)
  c8 : b8 = true → KNum 0 40 v26
  c9 : b9 = true → v27 = .slice (some ⟨p6, 0, none⟩) 6 6
  c10 : b10 = true → KSrc B0 v28
  c11 : b11 = true → KNum 0 5 v29
  c12 : b12 = true → KRf p6 v30
  c13 : b13 = true → KNum 0 255 v31
  c14 : b14 = true → KPM v32
  c15 : b15 = true → KBox B v8 u
set_option maxRecDepth 100000 in
set_option maxHeartbeats 8000000 in
theorem src_maps (B0 : Nat) (a : Option Addr) (len cap n : Nat) (w : World) (h : SrcOk w B0 a len cap) (hn : n ≤ 40) :
    Calls Try.prog 113 #[.pointer (some ⟨B0, 0, none⟩), .int .i64 n] w fun e w' => ∃ (v : Value) (ms : List PM), e = .returned v ∧ w'.ownsRow w.heap.size 101 4 v ms.length (pmR ms) ∧ 1 ≤ ms.length ∧ ms.length ≤ 7 ∧ (∀ m ∈ ms, flB m) ∧ SrcOk w' B0 a len cap ∧ w.grownBy w' (some B0) := by
  obtain ⟨i0, hi0, hz0, hz1, hz2⟩ := info_parts Try.info101
  have hlt := h.lt
  have hs1 := h.far (World.grownBy_alloc w (.cells #[] 101) none)
  have hg1 : w.grownBy (w.alloc (.cells #[] 101)) (some B0) := gAl
  have ho1 : (w.alloc (.cells #[] 101)).ownsRow w.heap.size 101 4 (.slice (some ⟨w.heap.size, 0, none⟩) 0 0) 0 (pmR []) := World.ownsRow_lit w #[] 0 (Nat.le_refl _) (by decide) rfl
  have HS : Hid (SrcOk ((w.alloc (.cells #[] 101)).alloc (.cells #[.int .i64 2, .int .i64 6, .int .i64 10, .int .i64 22, .int .i64 26, .int .i64 158] 2)) B0 a len cap) := hs1.far (World.grownBy_alloc _ _ none)
  have HG : Hid (w.grownBy ((w.alloc (.cells #[] 101)).alloc (.cells #[.int .i64 2, .int .i64 6, .int .i64 10, .int .i64 22, .int .i64 26, .int .i64 158] 2)) (some B0)) := Lib.grownBy_trans hg1 gAl
  have HO : Hid (((w.alloc (.cells #[] 101)).alloc (.cells #[.int .i64 2, .int .i64 6, .int .i64 10, .int .i64 22, .int .i64 26, .int .i64 158] 2)).ownsRow w.heap.size 101 4 (.slice (some ⟨w.heap.size, 0, none⟩) 0 0) 0 (pmR [])) := pm_below ho1 ((Below.refl _ _).alloc (Nat.le_refl _) _)
  have HL : Hid (((w.alloc (.cells #[] 101)).alloc (.cells #[.int .i64 2, .int .i64 6, .int .i64 10, .int .i64 22, .int .i64 26, .int .i64 158] 2)).heap[w.heap.size + 1]? = some (.cells ([2, 6, 10, 22, 26, 158].map (Value.int .i64)).toArray 2 (0, 0))) := (show _ = _ by
    have e := (MapKept.heap_alloc (w.alloc (.cells #[] 101)) (.cells #[.int .i64 2, .int .i64 6, .int .i64 10, .int .i64 22, .int .i64 26, .int .i64 158] 2)).1
    simpa using e)
  clear h hs1 hg1 ho1
  go_enter Try.func113, Try.ntmps113
  go_wp2_with fail
  generalize (w.alloc (.cells #[] 101)).alloc (.cells #[.int .i64 2, .int .i64 6, .int .i64 10, .int .i64 22, .int .i64 26, .int .i64 158] 2) = W at *
  obtain ⟨p6, hp6⟩ : ∃ p6, w.heap.size + 1 = p6 := ⟨_, rfl⟩
  rw [hp6] at HL ⊢
  have HP6 : Hid (w.heap.size + 1 = p6) := hp6
  refine (src_n B0 a len cap 7 W HS.out (by omega)).mono ?_
  rintro e w1 ⟨r, rfl, r0, r1, hs1, hg1⟩
  have HS1 : Hid (SrcOk w1 B0 a len cap) := hs1
  have HG1 : Hid (w.grownBy w1 (some B0)) := Lib.grownBy_trans HG.out hg1
  have HO1 : Hid (w1.ownsRow w.heap.size 101 4 (.slice (some ⟨w.heap.size, 0, none⟩) 0 0) 0 (pmR [])) := HO.out.kept hg1 (.inr (by simp [Value.ownBlock]; omega))
  have HL1 : Hid (w1.heap[p6]? = some (.cells ([2, 6, 10, 22, 26, 158].map (Value.int .i64)).toArray 2 (0, 0))) := (hg1.block _ (Array.getElem?_eq_some_iff.1 HL.out).1 (by simp; omega)).trans HL.out
  have r2 : r ≤ 6 := by omega
  clear hs1 hg1 HS HG HO HL hp6 r1
  go_wp2
  go_loopw [5, 7] (fun v k wr => ∃ (j : Nat) (ms : List PM), k = .int .i64 j ∧ (ms.length : Int) + j = 1 + r ∧ (∀ m ∈ ms, flB m) ∧ wr.ownsRow w.heap.size 101 4 v ms.length (pmR ms) ∧ SrcOk wr B0 a len cap ∧ w.grownBy wr (some B0) ∧ wr.heap[p6]? = some (.cells ([2, 6, 10, 22, 26, 158].map (Value.int .i64)).toArray 2 (0, 0)) ∧ v.ownBlock ≠ some p6) (fun _ k _ => (intOf k).toNat)
  case atStart => exact ⟨(1 + r).toNat, [], by rw [Int.toNat_of_nonneg (by omega)], by simp; omega, fun _ hm => (List.not_mem_nil hm).elim, HO1.out, HS1.out, HG1.out, HL1.out, by have := HP6.out; simp [Value.ownBlock]; omega⟩
  case round =>
    clear HO1 HS1 HG1 HL1
    obtain ⟨j, ms, rfl, hj, hfl, ho, hs, hg, hl6, hnb⟩ := hrel
    have HFL : Hid (∀ m ∈ ms, flB m) := hfl
    have HO : Hid (wr.ownsRow w.heap.size 101 4 u5 ms.length (pmR ms)) := ho
    have HS : Hid (SrcOk wr B0 a len cap) := hs
    have HG : Hid (w.grownBy wr (some B0)) := hg
    have HL6 : Hid (wr.heap[p6]? = some (.cells ([2, 6, 10, 22, 26, 158].map (Value.int .i64)).toArray 2 (0, 0))) := hl6
    have HNB : Hid (u5.ownBlock ≠ some p6) := hnb
    have HJ : Hid ((ms.length : Int) + j = 1 + r) := hj
    obtain ⟨ao5, c5, he5⟩ := pm_sl ho
    subst he5
    clear hfl ho hs hg hl6 hnb
    by_cases hj0 : j = 0
    · subst hj0
      clear HL6
      go_wp2
      go_ret
      exact ⟨_, ms, rfl, HO.out, by omega, by omega, HFL.out, HS.out, HG.out⟩
    · have j1 : (0 : Int) < (j : Int) := by omega
      have hj8 : (0 < j) = True := by simp; omega
      have hj9 : (j : Int) ≤ 8 := by omega
      clear hj
      go_wp2_with fail
      refine wp_region_any (by kernel_rfl) ?_
      refine wpAny_inv (fun L a9 u => ∃ (b0 b1 b2 b3 b4 b5 b6 b7 b8 b9 b10 b11 b12 b13 b14 b15 b16 : Bool) (v18 v19 v20 v21 v22 v23 v24 v25 v26 v27 v28 v29 v30 v31 v32 v8 : Value), L = #[b0, b1, b2, b3, b4, b5, b6, b7, b8, b9, b10, b11, b12, b13, b14, b15, b16] ∧ a9 = { tmps := #[.pointer (some ⟨B0, 0, none⟩), .int .i64 (n : Int), undef, undef, .slice none 0 0, .slice ao5 ms.length c5, .slice (some ⟨p6, 0, none⟩) 6 6, .int .i64 (j : Int), v8, .slice (some ⟨w.heap.size, 0, none⟩) 0 0, .slice (some ⟨p6, 0, none⟩) 6 6, .pointer (some ⟨B0, 0, none⟩), .int .i64 r, .int .i64 (1 + r), .int .i64 (j : Int), .bool true, u16, u17, v18, v19, v20, v21, v22, v23, v24, v25, v26, v27, v28, v29, v30, v31, v32, u33, u34, u35, u36, u37, u38, u39, u40, u41, u42, u43, u44, u45, u46, u47, u48, u49, u50, u51, u52, u53, u54, u55, u56, undef], defers := [] } ∧ ((b16 = false ∧ MpR B0 wr.heap.size wr a len cap n p6 b0 b1 b2 b3 b4 b5 b6 b7 b8 b9 b10 b11 b12 b13 b14 b15 b16 v18 v19 v20 v21 v22 v23 v24 v25 v26 v27 v28 v29 v30 v31 v32 v8 u) ∨ (b0 = true ∧ b1 = true ∧ b2 = true ∧ b3 = true ∧ b4 = true ∧ b5 = true ∧ b6 = true ∧ b7 = true ∧ b8 = true ∧ b9 = true ∧ b10 = true ∧ b11 = true ∧ b12 = true ∧ b13 = true ∧ b14 = true ∧ b15 = true ∧ b16 = true ∧ ∃ (p : Nat) (m : PM), v8 = .pointer (some ⟨p, 0, none⟩) ∧ MB B0 a len cap wr p m u))) ?hs ?hd _ _ _ _ (by decide) ?st
      case st => exact ⟨false, false, false, false, false, false, false, false, false, false, false, false, false, false, false, false, false, u18, u19, u20, u21, u22, u23, u24, u25, u26, u27, u28, u29, u30, u31, u32, u8, rfl, rfl, .inl ⟨rfl, ⟨Nat.lt_of_lt_of_le hlt HG.out.size, Nat.le_refl _, HS.out.bel (Below.refl _ _).drew, ⟨rfl, rfl, rfl, Nat.le_refl _, fun _ _ _ => rfl⟩, (fun e => by cases e), (fun e => by cases e), (fun e => by cases e), (fun e => by cases e), (fun e => by cases e), (fun e => by cases e), (fun e => by cases e), (fun e => by cases e), (fun e => by cases e), (fun e => by cases e), (fun e => by cases e), (fun e => by cases e), (fun e => by cases e), (fun e => by cases e), (fun e => by cases e), (fun e => by cases e)⟩⟩⟩
      case hd =>
        rintro L a9 u ⟨b0, b1, b2, b3, b4, b5, b6, b7, b8, b9, b10, b11, b12, b13, b14, b15, b16, v18, v19, v20, v21, v22, v23, v24, v25, v26, v27, v28, v29, v30, v31, v32, v8, rfl, rfl, hI⟩ hr
        have hall := fun he hL => all_up (md := _) he hL hr
        have hall2 := hall (by kernel_rfl) rfl
        rcases hI with ⟨rfl, hI⟩ | ⟨rfl, rfl, rfl, rfl, rfl, rfl, rfl, rfl, rfl, rfl, rfl, rfl, rfl, rfl, rfl, rfl, rfl, p, ⟨va, fr, fg, lg⟩, rfl, hM⟩
        · exact Bool.noConfusion (show false = true from hall2 16 (by decide))
        have HM1 : Hid (MB B0 a len cap wr p ⟨va, fr, fg, lg⟩ u) := hM
        clear hM hr hall hall2
        go_wp2_with fail
        refine (src_one B0 a len cap 5 u HM1.out.src (by omega)).mono ?_
        rintro e U1 ⟨t1, rfl, hs1, hg1⟩
        have HM2 : Hid (MB B0 a len cap wr p ⟨va, fr, fg, lg⟩ U1) := HM1.out.step hs1 hg1
        clear hs1 hg1 HM1
        cases t1
        · skip
          obtain ⟨c0, c1, c2, c3, cf⟩ := HM2.out.cel
          go_wp2_with fail
          refine (src_one B0 a len cap 20 U1 HM2.out.src (by omega)).mono ?_
          rintro e U5 ⟨t5, rfl, hs5, hg5⟩
          have HMX : Hid (MB B0 a len cap wr p ⟨va, fr, fg, lg⟩ U5) := HM2.out.step hs5 hg5
          clear hs5 hg5 HM2 c0 c1 c2 c3 cf
          cases t5
          · skip
            have hk5 : (Value.slice ao5 ms.length c5).ownBlock = none ∨ (Value.slice ao5 ms.length c5).ownBlock ≠ some B0 := by
              cases ho9 : (Value.slice ao5 ms.length c5).ownBlock with
              | none => exact .inl rfl
              | some q => exact .inr (by have := HO.out.lt q ho9; simp; omega)
            have hown1 := HO.out.kept HMX.out.gr hk5
            obtain ⟨c0, c1, c2, c3, cf⟩ := HMX.out.cel
            have HAP : Hid (∃ v' u', (Builtin.append_ #[33, 33] 33 #[.slice ao5 ms.length c5, .slice (some ⟨U5.heap.size, 0, none⟩) 1 1]).run Try.prog (U5.alloc (.cells #[.int .i64 va, .int .i64 fr, .int .i64 fg, .bool lg] 101)) = .ok v' u' ∧ (u'.ownsRow w.heap.size 101 4 v' (ms.length + 1) (pmR ms ++ pmC ⟨va, fr, fg, lg⟩) ∧ (U5.alloc (.cells #[.int .i64 va, .int .i64 fr, .int .i64 fg, .bool lg] 101)).grownBy u' (Value.slice ao5 ms.length c5).ownBlock ∧ (v'.ownBlock = (Value.slice ao5 ms.length c5).ownBlock ∨ v'.ownBlock = some (U5.alloc (.cells #[.int .i64 va, .int .i64 fr, .int .i64 fg, .bool lg] 101)).heap.size))) := by
              obtain ⟨v', w', hr9, h92, h93, _, h95⟩ := run_append_own_at (P := Try.prog) (U5.alloc (.cells #[.int .i64 va, .int .i64 fr, .int .i64 fg, .bool lg] 101)) w.heap.size 33 33 101 i0 (.agg #[.int .i64 0, .int .i64 0, .int .i64 0, .bool false]) 4 32 Try.underlying33 hi0 hz0 hz1 hz2 rfl (by decide) (.slice ao5 ms.length c5) ms.length (pmR ms) (pm_below hown1 ((Below.refl _ _).alloc (Nat.le_refl _) _)) ⟨U5.heap.size, 0, none⟩ 1 1 (pmC ⟨va, fr, fg, lg⟩) rfl (World.news_of_block (cs := #[.int .i64 va, .int .i64 fr, .int .i64 fg, .bool lg]) (MapKept.heap_alloc _ _).1) (pm_oneC _) (by unfold maxLen; have := HJ.out; omega) (by have := HJ.out; omega) (by have := HG.out.size; have := HMX.out.gr.size; simp; omega)
              exact ⟨v', w', hr9, h92, h93, h95⟩
            clear hk5
            go_wp2_with (at_builtin; (refine wl_append_ex rfl _ _ 33 rfl _ _ rfl rfl HAP.out ?_; rintro v' w2 ⟨hown2, hg2, hnw⟩; have HX9 : Hid (w2.ownsRow w.heap.size 101 4 v' (ms.length + 1) (pmR ms ++ pmC ⟨va, fr, fg, lg⟩) ∧ (U5.alloc (.cells #[.int .i64 va, .int .i64 fr, .int .i64 fg, .bool lg] 101)).grownBy w2 (Value.slice ao5 ms.length c5).ownBlock ∧ (v'.ownBlock = (Value.slice ao5 ms.length c5).ownBlock ∨ v'.ownBlock = some (U5.alloc (.cells #[.int .i64 va, .int .i64 fr, .int .i64 fg, .bool lg] 101)).heap.size)) := ⟨hown2, hg2, hnw⟩; clear hown2 hg2 hnw HAP))
            obtain ⟨hown2, hg2, hnw⟩ := HX9.out
            have hsz : wr.heap.size ≤ U5.heap.size := HMX.out.gr.size
            have HS2 : Hid (SrcOk w2 B0 a len cap) := HMX.out.src.keep (fun i hib => (hg2.block i (by have := HG.out.size; simp; omega) (fun hh => by have := HO.out.lt i hh.symm; omega)).trans (Below.heap_alloc _ _ i (by have := HG.out.size; omega)))
            have HG2 : Hid (w.grownBy w2 (some B0)) := gfar (Lib.grownBy_trans (Lib.grownBy_trans HG.out HMX.out.gr) gAl) hg2 (fun q hq => (HO.out.lt q hq).1)
            have HO2 : Hid (w2.ownsRow w.heap.size 101 4 v' (ms ++ [(⟨va, fr, fg, lg⟩ : PM)]).length (pmR (ms ++ [(⟨va, fr, fg, lg⟩ : PM)]))) := pm_cast hown2 (by simp) (by rw [pmR_app]; rfl)
            have hl6u : U5.heap[p6]? = some (.cells ([2, 6, 10, 22, 26, 158].map (Value.int .i64)).toArray 2 (0, 0)) := (HMX.out.gr.block p6 (Array.getElem?_eq_some_iff.1 HL6.out).1 (by have := HP6.out; simp; omega)).trans HL6.out
            have hp6lt := (Array.getElem?_eq_some_iff.1 hl6u).1
            have HL2 : Hid (w2.heap[p6]? = some (.cells ([2, 6, 10, 22, 26, 158].map (Value.int .i64)).toArray 2 (0, 0))) := (hg2.block p6 (by simp; omega) (fun hh => HNB.out hh.symm)).trans ((Below.heap_alloc _ _ p6 hp6lt).trans hl6u)
            have HNB2 : Hid (v'.ownBlock ≠ some p6) := (show v'.ownBlock ≠ some p6 from fun q => by
              rcases hnw with e9 | e9
              · exact HNB.out (e9.symm.trans q)
              · rw [e9] at q
                simp at q
                omega)
            have HF2 : Hid (∀ m ∈ ms ++ [(⟨va, fr, fg, lg⟩ : PM)], flB m) := (show ∀ m ∈ _, flB m from fun m hm => by
              rcases List.mem_append.1 hm with hm | hm
              · exact HFL.out m hm
              · rw [List.mem_singleton.1 hm]
                exact HMX.out.fl)
            refine ⟨⟨j - 1, ms ++ [⟨va, fr, fg, lg⟩], by go_num, by rw [List.length_append]; simp only [List.length_singleton]; have := HJ.out; omega, HF2.out, HO2.out, HS2.out, HG2.out, HL2.out, HNB2.out⟩, by simp [intOf]; omega⟩
          · skip
            obtain ⟨c0, c1, c2, c3, cf⟩ := HMX.out.cel
            go_wp2_with fail
            refine (src_n B0 a len cap 3 U5 HMX.out.src (by omega)).mono ?_
            rintro e U6 ⟨q6, rfl, q60, q61, hs6, hg6⟩
            have HMY : Hid (MB B0 a len cap wr p ⟨va, fr, fg, lg⟩ U6) := HMX.out.step hs6 hg6
            clear hs6 hg6 HMX c0 c1 c2 c3 cf
            obtain ⟨c0, c1, c2, c3, cf⟩ := HMY.out.cel
            have HMZ : Hid (MB B0 a len cap wr p ⟨va, 1023 - q6, fg, lg⟩ (U6.setCell ⟨p, 1, none⟩ (.int .i64 (1023 - q6)))) := HMY.out.frame (1023 - q6)
            go_upto_region 11 with fail
            generalize U6.setCell ⟨p, 1, none⟩ (.int .i64 (1023 - q6)) = U7 at *
            clear HMY c0 c1 c2 c3 cf
            have hk5 : (Value.slice ao5 ms.length c5).ownBlock = none ∨ (Value.slice ao5 ms.length c5).ownBlock ≠ some B0 := by
              cases ho9 : (Value.slice ao5 ms.length c5).ownBlock with
              | none => exact .inl rfl
              | some q => exact .inr (by have := HO.out.lt q ho9; simp; omega)
            have hown1 := HO.out.kept HMZ.out.gr hk5
            obtain ⟨c0, c1, c2, c3, cf⟩ := HMZ.out.cel
            have HAP : Hid (∃ v' u', (Builtin.append_ #[33, 33] 33 #[.slice ao5 ms.length c5, .slice (some ⟨U7.heap.size, 0, none⟩) 1 1]).run Try.prog (U7.alloc (.cells #[.int .i64 va, .int .i64 (1023 - q6), .int .i64 fg, .bool lg] 101)) = .ok v' u' ∧ (u'.ownsRow w.heap.size 101 4 v' (ms.length + 1) (pmR ms ++ pmC ⟨va, (1023 - q6), fg, lg⟩) ∧ (U7.alloc (.cells #[.int .i64 va, .int .i64 (1023 - q6), .int .i64 fg, .bool lg] 101)).grownBy u' (Value.slice ao5 ms.length c5).ownBlock ∧ (v'.ownBlock = (Value.slice ao5 ms.length c5).ownBlock ∨ v'.ownBlock = some (U7.alloc (.cells #[.int .i64 va, .int .i64 (1023 - q6), .int .i64 fg, .bool lg] 101)).heap.size))) := by
              obtain ⟨v', w', hr9, h92, h93, _, h95⟩ := run_append_own_at (P := Try.prog) (U7.alloc (.cells #[.int .i64 va, .int .i64 (1023 - q6), .int .i64 fg, .bool lg] 101)) w.heap.size 33 33 101 i0 (.agg #[.int .i64 0, .int .i64 0, .int .i64 0, .bool false]) 4 32 Try.underlying33 hi0 hz0 hz1 hz2 rfl (by decide) (.slice ao5 ms.length c5) ms.length (pmR ms) (pm_below hown1 ((Below.refl _ _).alloc (Nat.le_refl _) _)) ⟨U7.heap.size, 0, none⟩ 1 1 (pmC ⟨va, (1023 - q6), fg, lg⟩) rfl (World.news_of_block (cs := #[.int .i64 va, .int .i64 (1023 - q6), .int .i64 fg, .bool lg]) (MapKept.heap_alloc _ _).1) (pm_oneC _) (by unfold maxLen; have := HJ.out; omega) (by have := HJ.out; omega) (by have := HG.out.size; have := HMZ.out.gr.size; simp; omega)
              exact ⟨v', w', hr9, h92, h93, h95⟩
            clear hk5
            go_wp2_with (at_builtin; (refine wl_append_ex rfl _ _ 33 rfl _ _ rfl rfl HAP.out ?_; rintro v' w2 ⟨hown2, hg2, hnw⟩; have HX9 : Hid (w2.ownsRow w.heap.size 101 4 v' (ms.length + 1) (pmR ms ++ pmC ⟨va, (1023 - q6), fg, lg⟩) ∧ (U7.alloc (.cells #[.int .i64 va, .int .i64 (1023 - q6), .int .i64 fg, .bool lg] 101)).grownBy w2 (Value.slice ao5 ms.length c5).ownBlock ∧ (v'.ownBlock = (Value.slice ao5 ms.length c5).ownBlock ∨ v'.ownBlock = some (U7.alloc (.cells #[.int .i64 va, .int .i64 (1023 - q6), .int .i64 fg, .bool lg] 101)).heap.size)) := ⟨hown2, hg2, hnw⟩; clear hown2 hg2 hnw HAP))
            obtain ⟨hown2, hg2, hnw⟩ := HX9.out
            have hsz : wr.heap.size ≤ U7.heap.size := HMZ.out.gr.size
            have HS2 : Hid (SrcOk w2 B0 a len cap) := HMZ.out.src.keep (fun i hib => (hg2.block i (by have := HG.out.size; simp; omega) (fun hh => by have := HO.out.lt i hh.symm; omega)).trans (Below.heap_alloc _ _ i (by have := HG.out.size; omega)))
            have HG2 : Hid (w.grownBy w2 (some B0)) := gfar (Lib.grownBy_trans (Lib.grownBy_trans HG.out HMZ.out.gr) gAl) hg2 (fun q hq => (HO.out.lt q hq).1)
            have HO2 : Hid (w2.ownsRow w.heap.size 101 4 v' (ms ++ [(⟨va, (1023 - q6), fg, lg⟩ : PM)]).length (pmR (ms ++ [(⟨va, (1023 - q6), fg, lg⟩ : PM)]))) := pm_cast hown2 (by simp) (by rw [pmR_app]; rfl)
            have hl6u : U7.heap[p6]? = some (.cells ([2, 6, 10, 22, 26, 158].map (Value.int .i64)).toArray 2 (0, 0)) := (HMZ.out.gr.block p6 (Array.getElem?_eq_some_iff.1 HL6.out).1 (by have := HP6.out; simp; omega)).trans HL6.out
            have hp6lt := (Array.getElem?_eq_some_iff.1 hl6u).1
            have HL2 : Hid (w2.heap[p6]? = some (.cells ([2, 6, 10, 22, 26, 158].map (Value.int .i64)).toArray 2 (0, 0))) := (hg2.block p6 (by simp; omega) (fun hh => HNB.out hh.symm)).trans ((Below.heap_alloc _ _ p6 hp6lt).trans hl6u)
            have HNB2 : Hid (v'.ownBlock ≠ some p6) := (show v'.ownBlock ≠ some p6 from fun q => by
              rcases hnw with e9 | e9
              · exact HNB.out (e9.symm.trans q)
              · rw [e9] at q
                simp at q
                omega)
            have HF2 : Hid (∀ m ∈ ms ++ [(⟨va, (1023 - q6), fg, lg⟩ : PM)], flB m) := (show ∀ m ∈ _, flB m from fun m hm => by
              rcases List.mem_append.1 hm with hm | hm
              · exact HFL.out m hm
              · rw [List.mem_singleton.1 hm]
                exact HMZ.out.fl)
            refine ⟨⟨j - 1, ms ++ [⟨va, (1023 - q6), fg, lg⟩], by go_num, by rw [List.length_append]; simp only [List.length_singleton]; have := HJ.out; omega, HF2.out, HO2.out, HS2.out, HG2.out, HL2.out, HNB2.out⟩, by simp [intOf]; omega⟩
        · go_wp2_with fail
          refine (src_n B0 a len cap 4 U1 HM2.out.src (by omega)).mono ?_
          rintro e U2 ⟨q2, rfl, q20, q21, hs2, hg2⟩
          have HM3 : Hid (MB B0 a len cap wr p ⟨va, fr, fg, lg⟩ U2) := HM2.out.step hs2 hg2
          clear hs2 hg2 HM2
          go_wp2_with fail
          refine (src_n B0 a len cap 2 U2 HM3.out.src (by omega)).mono ?_
          rintro e U3 ⟨q3, rfl, q30, q31, hs3, hg3⟩
          have HM4 : Hid (MB B0 a len cap wr p ⟨va, fr, fg, lg⟩ U3) := HM3.out.step hs3 hg3
          clear hs3 hg3 HM3
          go_wp2_with fail
          refine (src_n B0 a len cap 6 U3 HM4.out.src (by omega)).mono ?_
          rintro e U4 ⟨q4, rfl, q40, q41, hs4, hg4⟩
          have HM5 : Hid (MB B0 a len cap wr p ⟨va, fr, fg, lg⟩ U4) := HM4.out.step hs4 hg4
          clear hs4 hg4 HM4
          obtain ⟨Q4, rfl⟩ := Int.eq_ofNat_of_zero_le q40
          have hQ4 : Q4 < 6 := by omega
          have hQ5 : (Q4 : Int) < 6 := by omega
          have hl6u : U4.heap[p6]? = some (.cells ([2, 6, 10, 22, 26, 158].map (Value.int .i64)).toArray 2 (0, 0)) := (HM5.out.gr.block p6 (Array.getElem?_eq_some_iff.1 HL6.out).1 (by have := HP6.out; simp; omega)).trans HL6.out
          have hcl := lit_cell hl6u (show Q4 < [2, 6, 10, 22, 26, 158].length from hQ4)
          have hbd := inB.at (lo := 0) (hi := 255) (by unfold inB; decide) (show Q4 < [2, 6, 10, 22, 26, 158].length from hQ4)
          generalize ([2, 6, 10, 22, 26, 158] : List Int)[Q4] = y4 at hcl hbd
          obtain ⟨c0, c1, c2, c3, cf⟩ := HM5.out.cel
          have HM6 : Hid (MB B0 a len cap wr p ⟨q2 * 8192, 32 * q3, y4, true⟩ ((((U4.setCell ⟨p, 0, none⟩ (.int .i64 (q2 * 8192))).setCell ⟨p, 1, none⟩ (.int .i64 (32 * q3))).setCell ⟨p, 2, none⟩ (.int .i64 y4)).setCell ⟨p, 3, none⟩ (.bool true))) := pmb_put HM5.out.lt HM5.out.src HM5.out.gr HM5.out.lo HM5.out.box ⟨q2 * 8192, 32 * q3, y4, true⟩ hbd rfl
          clear hl6u q41
          go_upto_region 9 with fail
          generalize (((U4.setCell ⟨p, 0, none⟩ (.int .i64 (q2 * 8192))).setCell ⟨p, 1, none⟩ (.int .i64 (32 * q3))).setCell ⟨p, 2, none⟩ (.int .i64 y4)).setCell ⟨p, 3, none⟩ (.bool true) = U8 at *
          clear HM5 c0 c1 c2 c3 cf hcl
          obtain ⟨c0, c1, c2, c3, cf⟩ := HM6.out.cel
          go_wp2_with fail
          refine (src_one B0 a len cap 20 U8 HM6.out.src (by omega)).mono ?_
          rintro e U5 ⟨t5, rfl, hs5, hg5⟩
          have HMX : Hid (MB B0 a len cap wr p ⟨(q2 * 8192), (32 * q3), y4, true⟩ U5) := HM6.out.step hs5 hg5
          clear hs5 hg5 HM6 c0 c1 c2 c3 cf
          cases t5
          · skip
            have hk5 : (Value.slice ao5 ms.length c5).ownBlock = none ∨ (Value.slice ao5 ms.length c5).ownBlock ≠ some B0 := by
              cases ho9 : (Value.slice ao5 ms.length c5).ownBlock with
              | none => exact .inl rfl
              | some q => exact .inr (by have := HO.out.lt q ho9; simp; omega)
            have hown1 := HO.out.kept HMX.out.gr hk5
            obtain ⟨c0, c1, c2, c3, cf⟩ := HMX.out.cel
            have HAP : Hid (∃ v' u', (Builtin.append_ #[33, 33] 33 #[.slice ao5 ms.length c5, .slice (some ⟨U5.heap.size, 0, none⟩) 1 1]).run Try.prog (U5.alloc (.cells #[.int .i64 (q2 * 8192), .int .i64 (32 * q3), .int .i64 y4, .bool true] 101)) = .ok v' u' ∧ (u'.ownsRow w.heap.size 101 4 v' (ms.length + 1) (pmR ms ++ pmC ⟨(q2 * 8192), (32 * q3), y4, true⟩) ∧ (U5.alloc (.cells #[.int .i64 (q2 * 8192), .int .i64 (32 * q3), .int .i64 y4, .bool true] 101)).grownBy u' (Value.slice ao5 ms.length c5).ownBlock ∧ (v'.ownBlock = (Value.slice ao5 ms.length c5).ownBlock ∨ v'.ownBlock = some (U5.alloc (.cells #[.int .i64 (q2 * 8192), .int .i64 (32 * q3), .int .i64 y4, .bool true] 101)).heap.size))) := by
              obtain ⟨v', w', hr9, h92, h93, _, h95⟩ := run_append_own_at (P := Try.prog) (U5.alloc (.cells #[.int .i64 (q2 * 8192), .int .i64 (32 * q3), .int .i64 y4, .bool true] 101)) w.heap.size 33 33 101 i0 (.agg #[.int .i64 0, .int .i64 0, .int .i64 0, .bool false]) 4 32 Try.underlying33 hi0 hz0 hz1 hz2 rfl (by decide) (.slice ao5 ms.length c5) ms.length (pmR ms) (pm_below hown1 ((Below.refl _ _).alloc (Nat.le_refl _) _)) ⟨U5.heap.size, 0, none⟩ 1 1 (pmC ⟨(q2 * 8192), (32 * q3), y4, true⟩) rfl (World.news_of_block (cs := #[.int .i64 (q2 * 8192), .int .i64 (32 * q3), .int .i64 y4, .bool true]) (MapKept.heap_alloc _ _).1) (pm_oneC _) (by unfold maxLen; have := HJ.out; omega) (by have := HJ.out; omega) (by have := HG.out.size; have := HMX.out.gr.size; simp; omega)
              exact ⟨v', w', hr9, h92, h93, h95⟩
            clear hk5
            go_wp2_with (at_builtin; (refine wl_append_ex rfl _ _ 33 rfl _ _ rfl rfl HAP.out ?_; rintro v' w2 ⟨hown2, hg2, hnw⟩; have HX9 : Hid (w2.ownsRow w.heap.size 101 4 v' (ms.length + 1) (pmR ms ++ pmC ⟨(q2 * 8192), (32 * q3), y4, true⟩) ∧ (U5.alloc (.cells #[.int .i64 (q2 * 8192), .int .i64 (32 * q3), .int .i64 y4, .bool true] 101)).grownBy w2 (Value.slice ao5 ms.length c5).ownBlock ∧ (v'.ownBlock = (Value.slice ao5 ms.length c5).ownBlock ∨ v'.ownBlock = some (U5.alloc (.cells #[.int .i64 (q2 * 8192), .int .i64 (32 * q3), .int .i64 y4, .bool true] 101)).heap.size)) := ⟨hown2, hg2, hnw⟩; clear hown2 hg2 hnw HAP))
            obtain ⟨hown2, hg2, hnw⟩ := HX9.out
            have hsz : wr.heap.size ≤ U5.heap.size := HMX.out.gr.size
            have HS2 : Hid (SrcOk w2 B0 a len cap) := HMX.out.src.keep (fun i hib => (hg2.block i (by have := HG.out.size; simp; omega) (fun hh => by have := HO.out.lt i hh.symm; omega)).trans (Below.heap_alloc _ _ i (by have := HG.out.size; omega)))
            have HG2 : Hid (w.grownBy w2 (some B0)) := gfar (Lib.grownBy_trans (Lib.grownBy_trans HG.out HMX.out.gr) gAl) hg2 (fun q hq => (HO.out.lt q hq).1)
            have HO2 : Hid (w2.ownsRow w.heap.size 101 4 v' (ms ++ [(⟨(q2 * 8192), (32 * q3), y4, true⟩ : PM)]).length (pmR (ms ++ [(⟨(q2 * 8192), (32 * q3), y4, true⟩ : PM)]))) := pm_cast hown2 (by simp) (by rw [pmR_app]; rfl)
            have hl6u : U5.heap[p6]? = some (.cells ([2, 6, 10, 22, 26, 158].map (Value.int .i64)).toArray 2 (0, 0)) := (HMX.out.gr.block p6 (Array.getElem?_eq_some_iff.1 HL6.out).1 (by have := HP6.out; simp; omega)).trans HL6.out
            have hp6lt := (Array.getElem?_eq_some_iff.1 hl6u).1
            have HL2 : Hid (w2.heap[p6]? = some (.cells ([2, 6, 10, 22, 26, 158].map (Value.int .i64)).toArray 2 (0, 0))) := (hg2.block p6 (by simp; omega) (fun hh => HNB.out hh.symm)).trans ((Below.heap_alloc _ _ p6 hp6lt).trans hl6u)
            have HNB2 : Hid (v'.ownBlock ≠ some p6) := (show v'.ownBlock ≠ some p6 from fun q => by
              rcases hnw with e9 | e9
              · exact HNB.out (e9.symm.trans q)
              · rw [e9] at q
                simp at q
                omega)
            have HF2 : Hid (∀ m ∈ ms ++ [(⟨(q2 * 8192), (32 * q3), y4, true⟩ : PM)], flB m) := (show ∀ m ∈ _, flB m from fun m hm => by
              rcases List.mem_append.1 hm with hm | hm
              · exact HFL.out m hm
              · rw [List.mem_singleton.1 hm]
                exact HMX.out.fl)
            refine ⟨⟨j - 1, ms ++ [⟨(q2 * 8192), (32 * q3), y4, true⟩], by go_num, by rw [List.length_append]; simp only [List.length_singleton]; have := HJ.out; omega, HF2.out, HO2.out, HS2.out, HG2.out, HL2.out, HNB2.out⟩, by simp [intOf]; omega⟩
          · skip
            obtain ⟨c0, c1, c2, c3, cf⟩ := HMX.out.cel
            go_wp2_with fail
            refine (src_n B0 a len cap 3 U5 HMX.out.src (by omega)).mono ?_
            rintro e U6 ⟨q6, rfl, q60, q61, hs6, hg6⟩
            have HMY : Hid (MB B0 a len cap wr p ⟨(q2 * 8192), (32 * q3), y4, true⟩ U6) := HMX.out.step hs6 hg6
            clear hs6 hg6 HMX c0 c1 c2 c3 cf
            obtain ⟨c0, c1, c2, c3, cf⟩ := HMY.out.cel
            have HMZ : Hid (MB B0 a len cap wr p ⟨(q2 * 8192), 1023 - q6, y4, true⟩ (U6.setCell ⟨p, 1, none⟩ (.int .i64 (1023 - q6)))) := HMY.out.frame (1023 - q6)
            go_upto_region 11 with fail
            generalize U6.setCell ⟨p, 1, none⟩ (.int .i64 (1023 - q6)) = U7 at *
            clear HMY c0 c1 c2 c3 cf
            have hk5 : (Value.slice ao5 ms.length c5).ownBlock = none ∨ (Value.slice ao5 ms.length c5).ownBlock ≠ some B0 := by
              cases ho9 : (Value.slice ao5 ms.length c5).ownBlock with
              | none => exact .inl rfl
              | some q => exact .inr (by have := HO.out.lt q ho9; simp; omega)
            have hown1 := HO.out.kept HMZ.out.gr hk5
            obtain ⟨c0, c1, c2, c3, cf⟩ := HMZ.out.cel
            have HAP : Hid (∃ v' u', (Builtin.append_ #[33, 33] 33 #[.slice ao5 ms.length c5, .slice (some ⟨U7.heap.size, 0, none⟩) 1 1]).run Try.prog (U7.alloc (.cells #[.int .i64 (q2 * 8192), .int .i64 (1023 - q6), .int .i64 y4, .bool true] 101)) = .ok v' u' ∧ (u'.ownsRow w.heap.size 101 4 v' (ms.length + 1) (pmR ms ++ pmC ⟨(q2 * 8192), (1023 - q6), y4, true⟩) ∧ (U7.alloc (.cells #[.int .i64 (q2 * 8192), .int .i64 (1023 - q6), .int .i64 y4, .bool true] 101)).grownBy u' (Value.slice ao5 ms.length c5).ownBlock ∧ (v'.ownBlock = (Value.slice ao5 ms.length c5).ownBlock ∨ v'.ownBlock = some (U7.alloc (.cells #[.int .i64 (q2 * 8192), .int .i64 (1023 - q6), .int .i64 y4, .bool true] 101)).heap.size))) := by
              obtain ⟨v', w', hr9, h92, h93, _, h95⟩ := run_append_own_at (P := Try.prog) (U7.alloc (.cells #[.int .i64 (q2 * 8192), .int .i64 (1023 - q6), .int .i64 y4, .bool true] 101)) w.heap.size 33 33 101 i0 (.agg #[.int .i64 0, .int .i64 0, .int .i64 0, .bool false]) 4 32 Try.underlying33 hi0 hz0 hz1 hz2 rfl (by decide) (.slice ao5 ms.length c5) ms.length (pmR ms) (pm_below hown1 ((Below.refl _ _).alloc (Nat.le_refl _) _)) ⟨U7.heap.size, 0, none⟩ 1 1 (pmC ⟨(q2 * 8192), (1023 - q6), y4, true⟩) rfl (World.news_of_block (cs := #[.int .i64 (q2 * 8192), .int .i64 (1023 - q6), .int .i64 y4, .bool true]) (MapKept.heap_alloc _ _).1) (pm_oneC _) (by unfold maxLen; have := HJ.out; omega) (by have := HJ.out; omega) (by have := HG.out.size; have := HMZ.out.gr.size; simp; omega)
              exact ⟨v', w', hr9, h92, h93, h95⟩
            clear hk5
            go_wp2_with (at_builtin; (refine wl_append_ex rfl _ _ 33 rfl _ _ rfl rfl HAP.out ?_; rintro v' w2 ⟨hown2, hg2, hnw⟩; have HX9 : Hid (w2.ownsRow w.heap.size 101 4 v' (ms.length + 1) (pmR ms ++ pmC ⟨(q2 * 8192), (1023 - q6), y4, true⟩) ∧ (U7.alloc (.cells #[.int .i64 (q2 * 8192), .int .i64 (1023 - q6), .int .i64 y4, .bool true] 101)).grownBy w2 (Value.slice ao5 ms.length c5).ownBlock ∧ (v'.ownBlock = (Value.slice ao5 ms.length c5).ownBlock ∨ v'.ownBlock = some (U7.alloc (.cells #[.int .i64 (q2 * 8192), .int .i64 (1023 - q6), .int .i64 y4, .bool true] 101)).heap.size)) := ⟨hown2, hg2, hnw⟩; clear hown2 hg2 hnw HAP))
            obtain ⟨hown2, hg2, hnw⟩ := HX9.out
            have hsz : wr.heap.size ≤ U7.heap.size := HMZ.out.gr.size
            have HS2 : Hid (SrcOk w2 B0 a len cap) := HMZ.out.src.keep (fun i hib => (hg2.block i (by have := HG.out.size; simp; omega) (fun hh => by have := HO.out.lt i hh.symm; omega)).trans (Below.heap_alloc _ _ i (by have := HG.out.size; omega)))
            have HG2 : Hid (w.grownBy w2 (some B0)) := gfar (Lib.grownBy_trans (Lib.grownBy_trans HG.out HMZ.out.gr) gAl) hg2 (fun q hq => (HO.out.lt q hq).1)
            have HO2 : Hid (w2.ownsRow w.heap.size 101 4 v' (ms ++ [(⟨(q2 * 8192), (1023 - q6), y4, true⟩ : PM)]).length (pmR (ms ++ [(⟨(q2 * 8192), (1023 - q6), y4, true⟩ : PM)]))) := pm_cast hown2 (by simp) (by rw [pmR_app]; rfl)
            have hl6u : U7.heap[p6]? = some (.cells ([2, 6, 10, 22, 26, 158].map (Value.int .i64)).toArray 2 (0, 0)) := (HMZ.out.gr.block p6 (Array.getElem?_eq_some_iff.1 HL6.out).1 (by have := HP6.out; simp; omega)).trans HL6.out
            have hp6lt := (Array.getElem?_eq_some_iff.1 hl6u).1
            have HL2 : Hid (w2.heap[p6]? = some (.cells ([2, 6, 10, 22, 26, 158].map (Value.int .i64)).toArray 2 (0, 0))) := (hg2.block p6 (by simp; omega) (fun hh => HNB.out hh.symm)).trans ((Below.heap_alloc _ _ p6 hp6lt).trans hl6u)
            have HNB2 : Hid (v'.ownBlock ≠ some p6) := (show v'.ownBlock ≠ some p6 from fun q => by
              rcases hnw with e9 | e9
              · exact HNB.out (e9.symm.trans q)
              · rw [e9] at q
                simp at q
                omega)
            have HF2 : Hid (∀ m ∈ ms ++ [(⟨(q2 * 8192), (1023 - q6), y4, true⟩ : PM)], flB m) := (show ∀ m ∈ _, flB m from fun m hm => by
              rcases List.mem_append.1 hm with hm | hm
              · exact HFL.out m hm
              · rw [List.mem_singleton.1 hm]
                exact HMZ.out.fl)
            refine ⟨⟨j - 1, ms ++ [⟨(q2 * 8192), (1023 - q6), y4, true⟩], by go_num, by rw [List.length_append]; simp only [List.length_singleton]; have := HJ.out; omega, HF2.out, HO2.out, HS2.out, HG2.out, HL2.out, HNB2.out⟩, by simp [intOf]; omega⟩
      case hs =>
        rintro L a9 u i ⟨b0, b1, b2, b3, b4, b5, b6, b7, b8, b9, b10, b11, b12, b13, b14, b15, b16, v18, v19, v20, v21, v22, v23, v24, v25, v26, v27, v28, v29, v30, v31, v32, v8, rfl, rfl, hI⟩ hi
        obtain ⟨hf, o, ho, hall⟩ := mem_ready.1 hi
        have hi8 : i < 17 := (Array.getElem?_eq_some_iff.1 ho).1
        rcases hI with ⟨rfl, hI⟩ | ⟨rfl, rfl, rfl, rfl, rfl, rfl, rfl, rfl, rfl, rfl, rfl, rfl, rfl, rfl, rfl, rfl, rfl, _⟩
        · obtain rfl | rfl | rfl | rfl | rfl | rfl | rfl | rfl | rfl | rfl | rfl | rfl | rfl | rfl | rfl | rfl | rfl : i = 0 ∨ i = 1 ∨ i = 2 ∨ i = 3 ∨ i = 4 ∨ i = 5 ∨ i = 6 ∨ i = 7 ∨ i = 8 ∨ i = 9 ∨ i = 10 ∨ i = 11 ∨ i = 12 ∨ i = 13 ∨ i = 14 ∨ i = 15 ∨ i = 16 := by omega
          · obtain rfl : b0 = false := hf
            have HI : Hid _ := hI
            clear hI hall hi
            refine wpOp_step rfl (fun K hK => ?_)
            go_simp
            have h := HI.out
            exact hK _ _ ⟨true, b1, b2, b3, b4, b5, b6, b7, b8, b9, b10, b11, b12, b13, b14, b15, false, _, v19, v20, v21, v22, v23, v24, v25, v26, v27, v28, v29, v30, v31, v32, v8, rfl, rfl, .inl ⟨rfl, ⟨h.lt, h.le, h.src.far (World.grownBy_alloc _ _ none), Lib.grownBy_trans h.gr gAl, fun _ => ⟨u.heap.size, rfl, Nat.le_trans h.le h.gr.size, (MapKept.heap_alloc u _).1⟩, h.c1, h.c2, fun e => (h.c3 e).grow h.lt gAl, h.c4, h.c5, h.c6, h.c7, h.c8, h.c9, h.c10, h.c11, h.c12, h.c13, h.c14, fun e => (h.c15 e).grow h.lt gAl⟩⟩⟩
          · obtain rfl : b1 = false := hf
            have HI : Hid _ := hI
            clear hI hall hi
            refine wpOp_step rfl (fun K hK => ?_)
            go_simp
            have h := HI.out
            exact hK _ _ ⟨b0, true, b2, b3, b4, b5, b6, b7, b8, b9, b10, b11, b12, b13, b14, b15, false, v18, _, v20, v21, v22, v23, v24, v25, v26, v27, v28, v29, v30, v31, v32, v8, rfl, rfl, .inl ⟨rfl, ⟨h.lt, h.le, h.src, h.gr, h.c0, fun _ => rfl, h.c2, h.c3, h.c4, h.c5, h.c6, h.c7, h.c8, h.c9, h.c10, h.c11, h.c12, h.c13, h.c14, h.c15⟩⟩⟩
          · obtain rfl : b2 = false := hf
            cases ho
            have hb1 : b1 = true := hall { on := 1, ground := .data } (by simp) rfl
            have e1 : v19 = .pointer (some ⟨B0, 0, none⟩) := hI.c1 hb1
            subst e1
            have HN : Hid _ := src_n B0 a len cap 8 u hI.src (by omega)
            have HI : Hid _ := hI
            clear hI hall hi
            refine wpOp_step rfl (fun K hK => ?_)
            go_simp
            refine Calls.mono HN.out ?_
            rintro e9 u5 ⟨r, rfl, r0, r1, hs5, hg5⟩
            have h := HI.out
            exact hK _ _ ⟨b0, b1, true, b3, b4, b5, b6, b7, b8, b9, b10, b11, b12, b13, b14, b15, false, v18, _, _, v21, v22, v23, v24, v25, v26, v27, v28, v29, v30, v31, v32, v8, rfl, rfl, .inl ⟨rfl, ⟨h.lt, h.le, hs5, Lib.grownBy_trans h.gr hg5, fun e => (h.c0 e).grow h.lt hg5, h.c1, fun _ => ⟨r, rfl, r0, by omega⟩, fun e => (h.c3 e).grow h.lt hg5, h.c4, h.c5, h.c6, h.c7, h.c8, h.c9, h.c10, h.c11, h.c12, h.c13, h.c14, fun e => (h.c15 e).grow h.lt hg5⟩⟩⟩
          · obtain rfl : b3 = false := hf
            cases ho
            have hb0 : b0 = true := hall { on := 0, ground := .data } (by simp) rfl
            have hb2 : b2 = true := hall { on := 2, ground := .data } (by simp) rfl
            obtain ⟨p0, e0, p0b, p0c⟩ := hI.c0 hb0
            replace e0 : v18 = .slice (some ⟨p0, 0, none⟩) 8 8 := e0
            subst e0
            obtain ⟨y2, rfl, y2b, y2c⟩ := hI.c2 hb2
            obtain ⟨R, rfl⟩ := Int.eq_ofNat_of_zero_le y2b
            have R1 : (R : Int) < 8 := by omega
            have R0 : R < 8 := by omega
            have HI : Hid _ := hI
            clear hI hall hi
            refine wpOp_step rfl (fun K hK => ?_)
            go_simp
            have h := HI.out
            exact hK _ _ ⟨b0, b1, b2, true, b4, b5, b6, b7, b8, b9, b10, b11, b12, b13, b14, b15, false, _, v19, _, _, v22, v23, v24, v25, v26, v27, v28, v29, v30, v31, v32, v8, rfl, rfl, .inl ⟨rfl, ⟨h.lt, h.le, h.src, h.gr, h.c0, h.c1, h.c2, fun _ => ⟨p0, R, rfl, R0, p0b, p0c⟩, h.c4, h.c5, h.c6, h.c7, h.c8, h.c9, h.c10, h.c11, h.c12, h.c13, h.c14, h.c15⟩⟩⟩
          · obtain rfl : b4 = false := hf
            cases ho
            have hb3 : b3 = true := hall { on := 3, ground := .data } (by simp) rfl
            obtain ⟨p3, r3, rfl, r3b, p3b, p3c⟩ := hI.c3 hb3
            have hcl := lit_cell p3c r3b
            have hbd := inB.at (lo := 0) (hi := 1023) (by unfold inB; decide) r3b
            generalize ([0, 1, 2, 31, 32, 33, 64, 1023] : List Int)[r3] = y at hcl hbd
            have HI : Hid _ := hI
            clear hI hall hi
            refine wpOp_step rfl (fun K hK => ?_)
            go_simp
            have h := HI.out
            exact hK _ _ ⟨b0, b1, b2, b3, true, b5, b6, b7, b8, b9, b10, b11, b12, b13, b14, b15, false, v18, v19, v20, _, _, v23, v24, v25, v26, v27, v28, v29, v30, v31, v32, v8, rfl, rfl, .inl ⟨rfl, ⟨h.lt, h.le, h.src, h.gr, h.c0, h.c1, h.c2, h.c3, fun _ => ⟨y, rfl, hbd.1, hbd.2⟩, h.c5, h.c6, h.c7, h.c8, h.c9, h.c10, h.c11, h.c12, h.c13, h.c14, h.c15⟩⟩⟩
          · obtain rfl : b5 = false := hf
            cases ho
            have hb4 : b4 = true := hall { on := 4, ground := .data } (by simp) rfl
            obtain ⟨y4, rfl, y4b, y4c⟩ := hI.c4 hb4
            have HI : Hid _ := hI
            clear hI hall hi
            refine wpOp_step rfl (fun K hK => ?_)
            go_simp
            have h := HI.out
            exact hK _ _ ⟨b0, b1, b2, b3, b4, true, b6, b7, b8, b9, b10, b11, b12, b13, b14, b15, false, v18, v19, v20, v21, _, _, v24, v25, v26, v27, v28, v29, v30, v31, v32, v8, rfl, rfl, .inl ⟨rfl, ⟨h.lt, h.le, h.src, h.gr, h.c0, h.c1, h.c2, h.c3, h.c4, fun _ => ⟨_, rfl, by first | omega | (rw [IntKind.wrap_i64]; omega), by first | omega | (rw [IntKind.wrap_i64]; omega)⟩, h.c6, h.c7, h.c8, h.c9, h.c10, h.c11, h.c12, h.c13, h.c14, h.c15⟩⟩⟩
          · obtain rfl : b6 = false := hf
            have HI : Hid _ := hI
            clear hI hall hi
            refine wpOp_step rfl (fun K hK => ?_)
            go_simp
            have h := HI.out
            exact hK _ _ ⟨b0, b1, b2, b3, b4, b5, true, b7, b8, b9, b10, b11, b12, b13, b14, b15, false, v18, v19, v20, v21, v22, v23, _, v25, v26, v27, v28, v29, v30, v31, v32, v8, rfl, rfl, .inl ⟨rfl, ⟨h.lt, h.le, h.src, h.gr, h.c0, h.c1, h.c2, h.c3, h.c4, h.c5, fun _ => rfl, h.c7, h.c8, h.c9, h.c10, h.c11, h.c12, h.c13, h.c14, h.c15⟩⟩⟩
          · obtain rfl : b7 = false := hf
            have HI : Hid _ := hI
            clear hI hall hi
            refine wpOp_step rfl (fun K hK => ?_)
            go_simp
            have h := HI.out
            exact hK _ _ ⟨b0, b1, b2, b3, b4, b5, b6, true, b8, b9, b10, b11, b12, b13, b14, b15, false, v18, v19, v20, v21, v22, v23, v24, _, v26, v27, v28, v29, v30, v31, v32, v8, rfl, rfl, .inl ⟨rfl, ⟨h.lt, h.le, h.src, h.gr, h.c0, h.c1, h.c2, h.c3, h.c4, h.c5, h.c6, fun _ => rfl, h.c8, h.c9, h.c10, h.c11, h.c12, h.c13, h.c14, h.c15⟩⟩⟩
          · obtain rfl : b8 = false := hf
            cases ho
            have hb6 : b6 = true := hall { on := 6, ground := .data } (by simp) rfl
            have hb7 : b7 = true := hall { on := 7, ground := .data } (by simp) rfl
            have e6 : v24 = .pointer (some ⟨B0, 0, none⟩) := hI.c6 hb6
            subst e6
            have e7 : v25 = .int .i64 (n : Int) := hI.c7 hb7
            subst e7
            have HN : Hid _ := src_n B0 a len cap (n : Int) u hI.src (by omega)
            have HI : Hid _ := hI
            clear hI hall hi
            refine wpOp_step rfl (fun K hK => ?_)
            go_simp
            refine Calls.mono HN.out ?_
            rintro e9 u5 ⟨r, rfl, r0, r1, hs5, hg5⟩
            have h := HI.out
            exact hK _ _ ⟨b0, b1, b2, b3, b4, b5, b6, b7, true, b9, b10, b11, b12, b13, b14, b15, false, v18, v19, v20, v21, v22, v23, _, _, _, v27, v28, v29, v30, v31, v32, v8, rfl, rfl, .inl ⟨rfl, ⟨h.lt, h.le, hs5, Lib.grownBy_trans h.gr hg5, fun e => (h.c0 e).grow h.lt hg5, h.c1, h.c2, fun e => (h.c3 e).grow h.lt hg5, h.c4, h.c5, h.c6, h.c7, fun _ => ⟨r, rfl, r0, by omega⟩, h.c9, h.c10, h.c11, h.c12, h.c13, h.c14, fun e => (h.c15 e).grow h.lt hg5⟩⟩⟩
          · obtain rfl : b9 = false := hf
            have HI : Hid _ := hI
            clear hI hall hi
            refine wpOp_step rfl (fun K hK => ?_)
            go_simp
            have h := HI.out
            exact hK _ _ ⟨b0, b1, b2, b3, b4, b5, b6, b7, b8, true, b10, b11, b12, b13, b14, b15, false, v18, v19, v20, v21, v22, v23, v24, v25, v26, _, v28, v29, v30, v31, v32, v8, rfl, rfl, .inl ⟨rfl, ⟨h.lt, h.le, h.src, h.gr, h.c0, h.c1, h.c2, h.c3, h.c4, h.c5, h.c6, h.c7, h.c8, fun _ => rfl, h.c10, h.c11, h.c12, h.c13, h.c14, h.c15⟩⟩⟩
          · obtain rfl : b10 = false := hf
            have HI : Hid _ := hI
            clear hI hall hi
            refine wpOp_step rfl (fun K hK => ?_)
            go_simp
            have h := HI.out
            exact hK _ _ ⟨b0, b1, b2, b3, b4, b5, b6, b7, b8, b9, true, b11, b12, b13, b14, b15, false, v18, v19, v20, v21, v22, v23, v24, v25, v26, v27, _, v29, v30, v31, v32, v8, rfl, rfl, .inl ⟨rfl, ⟨h.lt, h.le, h.src, h.gr, h.c0, h.c1, h.c2, h.c3, h.c4, h.c5, h.c6, h.c7, h.c8, h.c9, fun _ => rfl, h.c11, h.c12, h.c13, h.c14, h.c15⟩⟩⟩
          · obtain rfl : b11 = false := hf
            cases ho
            have hb10 : b10 = true := hall { on := 10, ground := .data } (by simp) rfl
            have e10 : v28 = .pointer (some ⟨B0, 0, none⟩) := hI.c10 hb10
            subst e10
            have HN : Hid _ := src_n B0 a len cap 6 u hI.src (by omega)
            have HI : Hid _ := hI
            clear hI hall hi
            refine wpOp_step rfl (fun K hK => ?_)
            go_simp
            refine Calls.mono HN.out ?_
            rintro e9 u5 ⟨r, rfl, r0, r1, hs5, hg5⟩
            have h := HI.out
            exact hK _ _ ⟨b0, b1, b2, b3, b4, b5, b6, b7, b8, b9, b10, true, b12, b13, b14, b15, false, v18, v19, v20, v21, v22, v23, v24, v25, v26, v27, _, _, v30, v31, v32, v8, rfl, rfl, .inl ⟨rfl, ⟨h.lt, h.le, hs5, Lib.grownBy_trans h.gr hg5, fun e => (h.c0 e).grow h.lt hg5, h.c1, h.c2, fun e => (h.c3 e).grow h.lt hg5, h.c4, h.c5, h.c6, h.c7, h.c8, h.c9, h.c10, fun _ => ⟨r, rfl, r0, by omega⟩, h.c12, h.c13, h.c14, fun e => (h.c15 e).grow h.lt hg5⟩⟩⟩
          · obtain rfl : b12 = false := hf
            cases ho
            have hb9 : b9 = true := hall { on := 9, ground := .data } (by simp) rfl
            have hb11 : b11 = true := hall { on := 11, ground := .data } (by simp) rfl
            have e9 : v27 = .slice (some ⟨p6, 0, none⟩) 6 6 := hI.c9 hb9
            subst e9
            obtain ⟨y11, rfl, y11b, y11c⟩ := hI.c11 hb11
            have HI : Hid _ := hI
            obtain ⟨R, rfl⟩ := Int.eq_ofNat_of_zero_le y11b
            have R1 : (R : Int) < 6 := by omega
            have R0 : R < 6 := by omega
            clear hI hall hi
            refine wpOp_step rfl (fun K hK => ?_)
            go_simp
            have h := HI.out
            exact hK _ _ ⟨b0, b1, b2, b3, b4, b5, b6, b7, b8, b9, b10, b11, true, b13, b14, b15, false, v18, v19, v20, v21, v22, v23, v24, v25, v26, _, v28, _, _, v31, v32, v8, rfl, rfl, .inl ⟨rfl, ⟨h.lt, h.le, h.src, h.gr, h.c0, h.c1, h.c2, h.c3, h.c4, h.c5, h.c6, h.c7, h.c8, h.c9, h.c10, h.c11, fun _ => ⟨R, rfl, R0⟩, h.c13, h.c14, h.c15⟩⟩⟩
          · obtain rfl : b13 = false := hf
            cases ho
            have hb12 : b12 = true := hall { on := 12, ground := .data } (by simp) rfl
            obtain ⟨r12, rfl, r12b⟩ := hI.c12 hb12
            have HI : Hid _ := hI
            have hl6 : u.heap[p6]? = some (.cells ([2, 6, 10, 22, 26, 158].map (Value.int .i64)).toArray 2 (0, 0)) := (hI.gr.block p6 (Array.getElem?_eq_some_iff.1 HL6.out).1 (by have := HP6.out; simp; omega)).trans HL6.out
            have hcl := lit_cell hl6 (show r12 < [2, 6, 10, 22, 26, 158].length from r12b)
            have hbd := inB.at (lo := 0) (hi := 255) (by unfold inB; decide) (show r12 < [2, 6, 10, 22, 26, 158].length from r12b)
            generalize ([2, 6, 10, 22, 26, 158] : List Int)[r12] = y at hcl hbd
            clear hI hall hi
            refine wpOp_step rfl (fun K hK => ?_)
            go_simp
            have h := HI.out
            exact hK _ _ ⟨b0, b1, b2, b3, b4, b5, b6, b7, b8, b9, b10, b11, b12, true, b14, b15, false, v18, v19, v20, v21, v22, v23, v24, v25, v26, v27, v28, v29, _, _, v32, v8, rfl, rfl, .inl ⟨rfl, ⟨h.lt, h.le, h.src, h.gr, h.c0, h.c1, h.c2, h.c3, h.c4, h.c5, h.c6, h.c7, h.c8, h.c9, h.c10, h.c11, h.c12, fun _ => ⟨_, rfl, by first | omega | (rw [IntKind.wrap_i64]; omega), by first | omega | (rw [IntKind.wrap_i64]; omega)⟩, h.c14, h.c15⟩⟩⟩
          · obtain rfl : b14 = false := hf
            cases ho
            have hb5 : b5 = true := hall { on := 5, ground := .data } (by simp) rfl
            have hb8 : b8 = true := hall { on := 8, ground := .data } (by simp) rfl
            have hb13 : b13 = true := hall { on := 13, ground := .data } (by simp) rfl
            obtain ⟨y5, rfl, y5b, y5c⟩ := hI.c5 hb5
            obtain ⟨y8, rfl, y8b, y8c⟩ := hI.c8 hb8
            obtain ⟨y13, rfl, y13b, y13c⟩ := hI.c13 hb13
            have HI : Hid _ := hI
            clear hI hall hi
            refine wpOp_step rfl (fun K hK => ?_)
            go_simp
            have h := HI.out
            exact hK _ _ ⟨b0, b1, b2, b3, b4, b5, b6, b7, b8, b9, b10, b11, b12, b13, true, b15, false, v18, v19, v20, v21, v22, _, v24, v25, _, v27, v28, v29, v30, _, _, v8, rfl, rfl, .inl ⟨rfl, ⟨h.lt, h.le, h.src, h.gr, h.c0, h.c1, h.c2, h.c3, h.c4, h.c5, h.c6, h.c7, h.c8, h.c9, h.c10, h.c11, h.c12, h.c13, fun _ => ⟨⟨y5, y8, y13, false⟩, rfl, ⟨y13b, y13c⟩⟩, h.c15⟩⟩⟩
          · obtain rfl : b15 = false := hf
            have HI : Hid _ := hI
            clear hI hall hi
            refine wpOp_step rfl (fun K hK => ?_)
            go_simp
            have h := HI.out
            exact hK _ _ ⟨b0, b1, b2, b3, b4, b5, b6, b7, b8, b9, b10, b11, b12, b13, b14, true, false, v18, v19, v20, v21, v22, v23, v24, v25, v26, v27, v28, v29, v30, v31, v32, _, rfl, rfl, .inl ⟨rfl, ⟨h.lt, h.le, h.src.far (World.grownBy_alloc _ _ none), Lib.grownBy_trans h.gr gAl, fun e => (h.c0 e).grow h.lt gAl, h.c1, h.c2, fun e => (h.c3 e).grow h.lt gAl, h.c4, h.c5, h.c6, h.c7, h.c8, h.c9, h.c10, h.c11, h.c12, h.c13, h.c14, fun _ => ⟨u.heap.size, rfl, Nat.le_trans h.le h.gr.size, (MapKept.heap_alloc u _).1⟩⟩⟩⟩
          · cases ho
            obtain rfl : b0 = true := hall { on := 0, ground := .phase } (by simp) rfl
            obtain rfl : b1 = true := hall { on := 1, ground := .phase } (by simp) rfl
            obtain rfl : b2 = true := hall { on := 2, ground := .phase } (by simp) rfl
            obtain rfl : b3 = true := hall { on := 3, ground := .phase } (by simp) rfl
            obtain rfl : b4 = true := hall { on := 4, ground := .phase } (by simp) rfl
            obtain rfl : b5 = true := hall { on := 5, ground := .phase } (by simp) rfl
            obtain rfl : b6 = true := hall { on := 6, ground := .phase } (by simp) rfl
            obtain rfl : b7 = true := hall { on := 7, ground := .phase } (by simp) rfl
            obtain rfl : b8 = true := hall { on := 8, ground := .phase } (by simp) rfl
            obtain rfl : b9 = true := hall { on := 9, ground := .phase } (by simp) rfl
            obtain rfl : b10 = true := hall { on := 10, ground := .phase } (by simp) rfl
            obtain rfl : b11 = true := hall { on := 11, ground := .phase } (by simp) rfl
            obtain rfl : b12 = true := hall { on := 12, ground := .phase } (by simp) rfl
            obtain rfl : b13 = true := hall { on := 13, ground := .phase } (by simp) rfl
            obtain rfl : b14 = true := hall { on := 14, ground := .phase } (by simp) rfl
            obtain rfl : b15 = true := hall { on := 15, ground := .phase } (by simp) rfl
            have hb15 : true = true := rfl
            have hb14 : true = true := rfl
            obtain ⟨p15, rfl, p15b, p15c⟩ := hI.c15 hb15
            obtain ⟨⟨m0, m1, m2, m3⟩, hm9, hm9f⟩ := hI.c14 hb14
            unfold pmA at hm9
            simp only at hm9
            subst hm9
            have h := hI
            have c0 : u.cell? ⟨p15, 0, none⟩ = some (.int .i64 0) := by simp [World.cell?, p15c]
            have c1 : u.cell? ⟨p15, 1, none⟩ = some (.int .i64 0) := by simp [World.cell?, p15c]
            have c2 : u.cell? ⟨p15, 2, none⟩ = some (.int .i64 0) := by simp [World.cell?, p15c]
            have c3 : u.cell? ⟨p15, 3, none⟩ = some (.bool false) := by simp [World.cell?, p15c]
            have cf : ∀ x, u.frozen? ⟨p15, x, none⟩ = false := fun x => by simp [World.frozen?, p15c]
            have HF : Hid (MB B0 a len cap wr p15 ⟨m0, m1, m2, m3⟩ ((((u.setCell ⟨p15, 0, none⟩ (.int .i64 m0)).setCell ⟨p15, 1, none⟩ (.int .i64 m1)).setCell ⟨p15, 2, none⟩ (.int .i64 m2)).setCell ⟨p15, 3, none⟩ (.bool m3))) := pmb_put h.lt h.src h.gr p15b p15c ⟨m0, m1, m2, m3⟩ hm9f rfl
            clear hI h hall hi p15c
            refine wpOp_step rfl (fun K hK => ?_)
            go_simp
            exact hK _ _ ⟨true, true, true, true, true, true, true, true, true, true, true, true, true, true, true, true, true, v18, v19, v20, v21, v22, v23, v24, v25, v26, v27, v28, v29, v30, v31, _, _, rfl, rfl, .inr ⟨rfl, rfl, rfl, rfl, rfl, rfl, rfl, rfl, rfl, rfl, rfl, rfl, rfl, rfl, rfl, rfl, rfl, p15, ⟨m0, m1, m2, m3⟩, rfl, HF.out⟩⟩
        · exfalso
          obtain rfl | rfl | rfl | rfl | rfl | rfl | rfl | rfl | rfl | rfl | rfl | rfl | rfl | rfl | rfl | rfl | rfl : i = 0 ∨ i = 1 ∨ i = 2 ∨ i = 3 ∨ i = 4 ∨ i = 5 ∨ i = 6 ∨ i = 7 ∨ i = 8 ∨ i = 9 ∨ i = 10 ∨ i = 11 ∨ i = 12 ∨ i = 13 ∨ i = 14 ∨ i = 15 ∨ i = 16 := by omega
          all_goals exact absurd hf (by decide)
end Go.Proofs.Ytfagohdmepnkkaa
