import Derived.Test.YtegcbghhcidcaaaDoorCr2
namespace Go.Proofs.YtegcbghhcidcaaaDoor
open Go.ChangeShapes Go.WideShapes Go.ChangeAt Go.RowKit

theorem ops1 {u : World} {b t : Nat} {x : Int} (h : u.heap[b]? = some (.cells #[.int .i64 1, .int .i64 (x), .int .i64 0, .int .i64 0, .int .i64 0, .int .i64 0, .int .i64 0] t (0, 0))) : OpsAt u b [x] := fun k hk => by
  obtain rfl : k = 0 := by simpa using hk
  simp [World.cell?, h]
theorem ops2 {u : World} {b t : Nat} {x y : Int} (h : u.heap[b]? = some (.cells #[.int .i64 1, .int .i64 (x), .int .i64 0, .int .i64 0, .int .i64 0, .int .i64 0, .int .i64 0, .int .i64 1, .int .i64 (y), .int .i64 0, .int .i64 0, .int .i64 0, .int .i64 0, .int .i64 0] t (0, 0))) : OpsAt u b [x, y] := fun k hk => by
  have hk2 : k < 2 := by simpa using hk
  obtain rfl | rfl : k = 0 ∨ k = 1 := by omega
  all_goals simp [World.cell?, h]
/-- What the law keeps: the clock's box, the errors, the bytes. -/
structure LP (w u : World) (p : Nat) (a : Nat → Addr) (c : CK) (x : Value) : Prop where
  bel : Below w.heap.size w u
  lo : w.heap.size ≤ p
  box : BoxK u p 25 c x
  er : E5 u a
theorem LP.step {w u u' : World} {p : Nat} {a : Nat → Addr} {c : CK} {x : Value} (h : LP w u p a c x) (hb : Below u.heap.size u u') : LP w u' p a c x := ⟨h.bel.trans (hb.mono h.bel.size), h.lo, h.box.below hb, h.er.step hb⟩
/-- A box. -/
def LG1 (u : World) (b t : Nat) (cs : Array Value) : Prop := u.heap[b]? = some (.cells cs t (0, 0))
theorem LG1.lt {u : World} {b t : Nat} {cs : Array Value} (h : LG1 u b t cs) : b < u.heap.size := (Array.getElem?_eq_some_iff.1 h).1
theorem LG1.step {u u' : World} {b t : Nat} {cs : Array Value} (h : LG1 u b t cs) (hb : Below u.heap.size u u') : LG1 u' b t cs := (hb.block b h.lt).trans h
theorem LG1.cel {u : World} {b t : Nat} {cs : Array Value} (h : LG1 u b t cs) (k : Nat) (v : Value) (hv : cs[k]? = some v) : u.cell? ⟨b, k, none⟩ = some v := by
  unfold LG1 at h
  simp [World.cell?, h, hv]
theorem codeB {w u : World} {B : Nat} {a : Option Addr} {len : Nat} (h : CodeAt w B a len) (hb : Below B w u) : CodeAt u B a len := by
  rcases h with h | ⟨cb, co, ha, hlt, hcc⟩
  · exact .inl h
  · refine .inr ⟨cb, co, ha, hlt, fun i hi => ?_⟩
    obtain ⟨x, h0, h1, hx⟩ := hcc i hi
    exact ⟨x, h0, h1, (hb.cell (p := ⟨cb, co + i, none⟩) hlt).trans hx⟩
theorem LP.put6 {w u : World} {p : Nat} {a : Nat → Addr} {c : CK} {x v : Value} {o : Obj} (h : LP w u p a c x) (he : E5 w a) : LP w ((u.setCell ⟨p, 6, none⟩ v).alloc o) p a c v := by
  have hb : Below w.heap.size w ((u.setCell ⟨p, 6, none⟩ v).alloc o) := (h.bel.setCell h.lo _).trans ((bx1 _ _).mono (by have := h.bel.size; simpa [World.setCell] using this))
  refine ⟨hb, h.lo, ?_, he.step hb⟩
  have hx := h.box
  have hl := h.box.lt
  unfold BoxK at hx ⊢
  refine (Below.heap_alloc _ _ _ (by simpa [World.setCell] using hl)).trans ?_
  simp [World.setCell, Array.getElem?_modify, hx]
def Draws (w : World) (a0 : Option Addr) (l0 k0 : Nat) : Prop := Calls Tryd.prog 4 #[.slice a0 l0 k0] w fun e w' => ∃ (c : CK) (ax : Option Addr) (lx kx : Nat), e = .returned (ckA c (.slice ax lx kx)) ∧ Below w.heap.size w w'
set_option maxRecDepth 100000 in
set_option maxHeartbeats 8000000 in
theorem walkCP {w : World} {a : Nat → Addr} {a0 a1 : Option Addr} {l0 k0 l1 k1 : Nat} (he : E5 w a) (hdr : l0 ≤ 1048576 → Draws w a0 l0 k0) (hc1 : CodeAt w w.heap.size a1 l1) : Calls Tryd.prog 3 #[.slice a0 l0 k0, .slice a1 l1 k1] w fun e w' => e = .returned (.bool true) ∧ Below w.heap.size w w' := by
  by_cases h0 : l0 ≤ 1048576
  case neg =>
    have h0' : decide ((1048576 : Int) < (l0 : Int)) = true := decide_eq_true (by omega)
    clear h0 hdr
    go_enter Tryd.func3, Tryd.ntmps3
    go_wp2_with fail
    go_ret
    exact ⟨rfl, Below.refl _ _⟩
  have h0' : decide ((1048576 : Int) < (l0 : Int)) = false := decide_eq_false (by omega)
  by_cases h1 : l1 ≤ 1048576
  case neg =>
    have h1' : decide ((1048576 : Int) < (l1 : Int)) = true := decide_eq_true (by omega)
    clear h0 h1 hdr
    go_enter Tryd.func3, Tryd.ntmps3
    go_wp2_with fail
    go_ret
    exact ⟨rfl, Below.refl _ _⟩
  have h1' : decide ((1048576 : Int) < (l1 : Int)) = false := decide_eq_false (by omega)
  have HD : Hid (Draws w a0 l0 k0) := hdr h0
  have HE : Hid (E5 w a) := he
  have HC : Hid (CodeAt w w.heap.size a1 l1) := hc1
  have HL1 : Hid (l1 ≤ 1048576) := h1
  have HC0 : Hid (CodeAt w w.heap.size a1 l1) := hc1
  clear hdr he hc1 h0 h1
  go_enter Tryd.func3, Tryd.ntmps3
  go_upto_region 4 with (go_at_call 4; refine Calls.mono HD.out ?_; rintro e u1 ⟨⟨ho, gu, nu, de, pa, fz, ts0⟩, ax, lx, kx, rfl, hb1⟩; have HB1 : Hid (Below w.heap.size w u1) := hb1; clear hb1 HD; unfold ckA; simp only)
  have HP : Hid (LP w (u1.alloc (.cells #[.int .i64 ho, .int .i64 gu, .int .i64 nu, .int .i64 de, .int .i64 pa, .bool fz, .slice ax lx kx] 25)) u1.heap.size a ⟨ho, gu, nu, de, pa, fz, []⟩ (.slice ax lx kx)) := ⟨HB1.out.trans ((bx1 _ _).mono HB1.out.size), HB1.out.size, heap_new _ _, (HE.out.step HB1.out).step (bx1 _ _)⟩
  generalize (u1.alloc (.cells #[.int .i64 ho, .int .i64 gu, .int .i64 nu, .int .i64 de, .int .i64 pa, .bool fz, .slice ax lx kx] 25)) = u2 at *
  generalize u1.heap.size = p at *
  have HC2 : Hid (CodeAt u2 w.heap.size a1 l1) := codeB HC.out HP.out.bel
  clear HB1 HC
  obtain ⟨k0, k1x, k2, k3, k4, k5, k6, kf⟩ := HP.out.box.cel
  have kl := HP.out.box.lt
  go_upto_region 5 with fail
  have HP3 : Hid (LP w ((u2.setCell ⟨p, 6, none⟩ (.slice (some ⟨u2.heap.size, 0, none⟩) 0 0)).alloc (.cells #[] 34)) p a ⟨ho, gu, nu, de, pa, fz, []⟩ (.slice (some ⟨u2.heap.size, 0, none⟩) 0 0)) := HP.out.put6 HE.out
  generalize (u2.setCell ⟨p, 6, none⟩ (.slice (some ⟨u2.heap.size, 0, none⟩) 0 0)).alloc (.cells #[] 34) = u3 at *
  generalize u2.heap.size = g0 at *
  clear HP k0 k1x k2 k3 k4 k5 k6 kf kl HC2
  have HCF : Hid (∀ u, Calls Tryd.prog 5 #[.agg #[.int .i64 ho, .int .i64 gu, .int .i64 nu, .int .i64 de, .int .i64 pa, .bool fz, .slice (some ⟨g0, 0, none⟩) 0 0]] u fun e w' => e = .returned (.int .i64 (fcB ⟨ho, gu, nu, de, pa, fz, []⟩)) ∧ Below u.heap.size u w') := fun u => specClockFault_any (c := ⟨ho, gu, nu, de, pa, fz, []⟩) (v := (.slice (some ⟨g0, 0, none⟩) 0 0)) (.inl ⟨rfl, _, _, rfl⟩) (by simp)
  obtain ⟨k0, k1x, k2, k3, k4, k5, k6, kf⟩ := HP3.out.box.cel
  have kl := HP3.out.box.lt
  by_cases hck : ckB ⟨ho, gu, nu, de, pa, fz, []⟩ = true
  rotate_left
  · have hf : fcB ⟨ho, gu, nu, de, pa, fz, []⟩ = 1 := if_neg hck
    rw [hf] at HCF
    clear hck hf
    go_wp2_with (go_at_call 5; refine Calls.mono (HCF.out _) ?_; rintro e u4 ⟨rfl, hb⟩; have HP4 : Hid (LP w u4 p a ⟨ho, gu, nu, de, pa, fz, []⟩ (.slice (some ⟨g0, 0, none⟩) 0 0)) := HP3.out.step hb; clear hb HP3 k0 k1x k2 k3 k4 k5 k6 kf kl)
    go_ret
    exact ⟨rfl, HP4.out.bel⟩
  have hf : fcB ⟨ho, gu, nu, de, pa, fz, []⟩ = 0 := if_pos hck
  rw [hf] at HCF
  clear hf
  have HCK : Hid (ckB ⟨ho, gu, nu, de, pa, fz, []⟩ = true) := hck
  clear hck
  go_upto_region 5 with fail
  by_cases h30 : 1073741824 < ho
  · go_wp2_with (go_at_call 5; refine Calls.mono (HCF.out _) ?_; rintro e u4 ⟨rfl, hb⟩; have HP4 : Hid (LP w u4 p a ⟨ho, gu, nu, de, pa, fz, []⟩ (.slice (some ⟨g0, 0, none⟩) 0 0)) := HP3.out.step hb; clear hb HP3 k0 k1x k2 k3 k4 k5 k6 kf kl; obtain ⟨k0, k1x, k2, k3, k4, k5, k6, kf⟩ := HP4.out.box.cel; have kl := HP4.out.box.lt)
    go_ret
    exact ⟨rfl, HP4.out.bel⟩
  by_cases g30 : 1073741824 < gu
  · go_wp2_with (go_at_call 5; refine Calls.mono (HCF.out _) ?_; rintro e u4 ⟨rfl, hb⟩; have HP4 : Hid (LP w u4 p a ⟨ho, gu, nu, de, pa, fz, []⟩ (.slice (some ⟨g0, 0, none⟩) 0 0)) := HP3.out.step hb; clear hb HP3 k0 k1x k2 k3 k4 k5 k6 kf kl; obtain ⟨k0, k1x, k2, k3, k4, k5, k6, kf⟩ := HP4.out.box.cel; have kl := HP4.out.box.lt)
    go_ret
    exact ⟨rfl, HP4.out.bel⟩
  have HLA : Hid (∀ (i : Int) u, (i = 0 ∨ i = 1) → LP w u p a ⟨ho, gu, nu, de, pa, fz, []⟩ (.slice (some ⟨g0, 0, none⟩) 0 0) → Calls Tryd.prog 6 #[.slice a1 l1 k1, .int .i64 i, .int .i64 256] u fun e w' => ∃ r : Int, e = .returned (.int .i64 r) ∧ 0 ≤ r ∧ r < 256 ∧ w' = u) := fun i u hi hu => by
    rcases hi with rfl | rfl
    · exact lwAt_any a1 l1 k1 0 u (by omega) HL1.out (codeB HC0.out hu.bel)
    · exact lwAt_any a1 l1 k1 1 u (by omega) HL1.out (codeB HC0.out hu.bel)
  go_upto_region 8 with (first | (go_at_call 5; refine Calls.mono (HCF.out _) ?_; rintro e u4 ⟨rfl, hb⟩; have HP4 : Hid (LP w u4 p a ⟨ho, gu, nu, de, pa, fz, []⟩ (.slice (some ⟨g0, 0, none⟩) 0 0)) := HP3.out.step hb; clear hb HP3 k0 k1x k2 k3 k4 k5 k6 kf kl; obtain ⟨k0, k1x, k2, k3, k4, k5, k6, kf⟩ := HP4.out.box.cel; have kl := HP4.out.box.lt) | (go_at_call 6; refine Calls.mono (HLA.out 0 _ (.inl rfl) HP4.out) ?_; rintro e u5 ⟨rA, rfl, rA0, rA1, rfl⟩))
  go_upto_region 9 with (go_at_call 6; refine Calls.mono (HLA.out 1 _ (.inr rfl) HP4.out) ?_; rintro e u6 ⟨rB, rfl, rB0, rB1, rfl⟩)
  obtain ⟨M1, M2, hG, hPt, hFZ⟩ := mays_two (c := ⟨ho, gu, nu, de, pa, fz, []⟩) (a := rA) (b := rB) HCK.out (show ho ≤ 1073741824 by omega) (show gu ≤ 1073741824 by omega) rA0 rA1 rB0 rB1
  have ho0 : 0 ≤ ho := M1.1.h0
  have ho1 : ho ≤ 1073741824 := by omega
  clear HCF HLA HC0
  have HI1 : Hid (∀ u, LP w u p a ⟨ho, gu, nu, de, pa, fz, []⟩ (.slice (some ⟨g0, 0, none⟩) 0 0) → Calls Tryd.prog 7 #[.agg #[.int .i64 ho, .int .i64 gu, .int .i64 nu, .int .i64 de, .int .i64 pa, .bool fz, .slice (some ⟨g0, 0, none⟩) 0 0], .slice (some ⟨u.heap.size, 0, none⟩) 1 1] (u.alloc (.cells #[.int .i64 1, .int .i64 (ho + rA + rB), .int .i64 0, .int .i64 0, .int .i64 0, .int .i64 0, .int .i64 0] 36)) fun e w' => ∃ a2 k2 a3 k3, e = .returned (.agg #[.int .i64 0, .int .i64 (advs ⟨ho, gu, nu, de, pa, fz, []⟩ [ho + rA + rB]).host, .int .i64 (advs ⟨ho, gu, nu, de, pa, fz, []⟩ [ho + rA + rB]).guest, .int .i64 (advs ⟨ho, gu, nu, de, pa, fz, []⟩ [ho + rA + rB]).num, .int .i64 (advs ⟨ho, gu, nu, de, pa, fz, []⟩ [ho + rA + rB]).den, .int .i64 (advs ⟨ho, gu, nu, de, pa, fz, []⟩ [ho + rA + rB]).part, .bool (advs ⟨ho, gu, nu, de, pa, fz, []⟩ [ho + rA + rB]).frz, .slice a2 0 k2, .slice a3 1 k3]) ∧ Below u.heap.size u w') := fun u hu => (implRun0 (a := a) (c := ⟨ho, gu, nu, de, pa, fz, []⟩) (xs := [ho + rA + rB]) (hu.er.step (bx1 _ _)) rfl HCK.out (ops1 (heap_new u _)) (by simp) M1 (by simp)).mono (by rintro e w' ⟨a2, k2, a3, k3, rfl, hb⟩; exact ⟨a2, k2, a3, k3, rfl, (bx1 _ _).trans (hb.mono (bx1 u _).size)⟩)
  have HI2 : Hid (∀ u, LP w u p a ⟨ho, gu, nu, de, pa, fz, []⟩ (.slice (some ⟨g0, 0, none⟩) 0 0) → Calls Tryd.prog 7 #[.agg #[.int .i64 ho, .int .i64 gu, .int .i64 nu, .int .i64 de, .int .i64 pa, .bool fz, .slice (some ⟨g0, 0, none⟩) 0 0], .slice (some ⟨u.heap.size, 0, none⟩) 2 2] (u.alloc (.cells #[.int .i64 1, .int .i64 (ho + rA), .int .i64 0, .int .i64 0, .int .i64 0, .int .i64 0, .int .i64 0, .int .i64 1, .int .i64 (ho + rA + rB), .int .i64 0, .int .i64 0, .int .i64 0, .int .i64 0, .int .i64 0] 36)) fun e w' => ∃ a2 k2 a3 k3, e = .returned (.agg #[.int .i64 0, .int .i64 (advs ⟨ho, gu, nu, de, pa, fz, []⟩ [ho + rA, ho + rA + rB]).host, .int .i64 (advs ⟨ho, gu, nu, de, pa, fz, []⟩ [ho + rA, ho + rA + rB]).guest, .int .i64 (advs ⟨ho, gu, nu, de, pa, fz, []⟩ [ho + rA, ho + rA + rB]).num, .int .i64 (advs ⟨ho, gu, nu, de, pa, fz, []⟩ [ho + rA, ho + rA + rB]).den, .int .i64 (advs ⟨ho, gu, nu, de, pa, fz, []⟩ [ho + rA, ho + rA + rB]).part, .bool (advs ⟨ho, gu, nu, de, pa, fz, []⟩ [ho + rA, ho + rA + rB]).frz, .slice a2 0 k2, .slice a3 2 k3]) ∧ Below u.heap.size u w') := fun u hu => (implRun0 (a := a) (c := ⟨ho, gu, nu, de, pa, fz, []⟩) (xs := [ho + rA, ho + rA + rB]) (hu.er.step (bx1 _ _)) rfl HCK.out (ops2 (heap_new u _)) (by simp) M2 (by simp)).mono (by rintro e w' ⟨a2, k2, a3, k3, rfl, hb⟩; exact ⟨a2, k2, a3, k3, rfl, (bx1 _ _).trans (hb.mono (bx1 u _).size)⟩)
  have HS1 : Hid (∀ u, LP w u p a ⟨ho, gu, nu, de, pa, fz, []⟩ (.slice (some ⟨g0, 0, none⟩) 0 0) → Calls Tryd.prog 8 #[.agg #[.int .i64 ho, .int .i64 gu, .int .i64 nu, .int .i64 de, .int .i64 pa, .bool fz, .slice (some ⟨g0, 0, none⟩) 0 0], .slice (some ⟨u.heap.size, 0, none⟩) 1 1] (u.alloc (.cells #[.int .i64 1, .int .i64 (ho + rA + rB), .int .i64 0, .int .i64 0, .int .i64 0, .int .i64 0, .int .i64 0] 36)) fun e w' => ∃ a2 k2 a3 k3, e = .returned (.agg #[.int .i64 0, .int .i64 (advs ⟨ho, gu, nu, de, pa, fz, []⟩ [ho + rA + rB]).host, .int .i64 (advs ⟨ho, gu, nu, de, pa, fz, []⟩ [ho + rA + rB]).guest, .int .i64 (advs ⟨ho, gu, nu, de, pa, fz, []⟩ [ho + rA + rB]).num, .int .i64 (advs ⟨ho, gu, nu, de, pa, fz, []⟩ [ho + rA + rB]).den, .int .i64 (advs ⟨ho, gu, nu, de, pa, fz, []⟩ [ho + rA + rB]).part, .bool (advs ⟨ho, gu, nu, de, pa, fz, []⟩ [ho + rA + rB]).frz, .slice a2 0 k2, .slice a3 1 k3]) ∧ Below u.heap.size u w') := fun u hu => (specRun0 (a := ⟨g0, 0, none⟩) (c := ⟨ho, gu, nu, de, pa, fz, []⟩) (xs := [ho + rA + rB])  rfl HCK.out (ops1 (heap_new u _)) (by simp) M1 (by simp)).mono (by rintro e w' ⟨a2, k2, a3, k3, rfl, hb⟩; exact ⟨a2, k2, a3, k3, rfl, (bx1 _ _).trans (hb.mono (bx1 u _).size)⟩)
  obtain ⟨A1, hA1⟩ : ∃ A, advs ⟨ho, gu, nu, de, pa, fz, []⟩ [ho + rA + rB] = A := ⟨_, rfl⟩
  obtain ⟨A2, hA2⟩ : ∃ A, advs ⟨ho, gu, nu, de, pa, fz, []⟩ [ho + rA, ho + rA + rB] = A := ⟨_, rfl⟩
  rw [hA1] at HI1 HS1 hG hPt hFZ
  rw [hA2] at HI2 hG hPt
  obtain ⟨h1v, g1v, n1v, d1v, p1v, f1v, ts1⟩ := A1
  obtain ⟨h2v, g2v, n2v, d2v, p2v, f2v, ts2⟩ := A2
  simp only at hG hPt hFZ HI1 HI2 HS1
  have hG2 := hG.symm
  have hP2 := hPt.symm
  subst hG2 hP2
  clear hG hPt
  have HFZ : Hid (fz = true → g1v = gu) := hFZ
  clear hA1 hA2 M1 M2 hFZ HCK h30 g30
  go_upto_region 10 with (go_at_call 7; refine Calls.mono (HI1.out _ HP4.out) ?_; rintro e u7 ⟨ax7, kx7, ay7, ky7, rfl, hb⟩; have HP7 : Hid (LP w u7 p a ⟨ho, gu, nu, de, pa, fz, []⟩ (.slice (some ⟨g0, 0, none⟩) 0 0)) := HP4.out.step hb; clear hb HP4 HI1 k0 k1x k2 k3 k4 k5 k6 kf kl; obtain ⟨k0, k1x, k2, k3, k4, k5, k6, kf⟩ := HP7.out.box.cel; have kl := HP7.out.box.lt)
  have HX : Hid (LG1 (u7.alloc (.cells #[.int .i64 0, .int .i64 h1v, .int .i64 g1v, .int .i64 n1v, .int .i64 d1v, .int .i64 p1v, .bool f1v, .slice ax7 0 kx7, .slice ay7 1 ky7] 31)) u7.heap.size 31 #[.int .i64 0, .int .i64 h1v, .int .i64 g1v, .int .i64 n1v, .int .i64 d1v, .int .i64 p1v, .bool f1v, .slice ax7 0 kx7, .slice ay7 1 ky7]) := heap_new _ _
  have HP8 : Hid (LP w (u7.alloc (.cells #[.int .i64 0, .int .i64 h1v, .int .i64 g1v, .int .i64 n1v, .int .i64 d1v, .int .i64 p1v, .bool f1v, .slice ax7 0 kx7, .slice ay7 1 ky7] 31)) p a ⟨ho, gu, nu, de, pa, fz, []⟩ (.slice (some ⟨g0, 0, none⟩) 0 0)) := HP7.out.step (bx1 _ _)
  generalize (u7.alloc (.cells #[.int .i64 0, .int .i64 h1v, .int .i64 g1v, .int .i64 n1v, .int .i64 d1v, .int .i64 p1v, .bool f1v, .slice ax7 0 kx7, .slice ay7 1 ky7] 31)) = u8 at *
  generalize u7.heap.size = b7 at *
  clear HP7 k0 k1x k2 k3 k4 k5 k6 kf kl
  obtain ⟨k0, k1x, k2, k3, k4, k5, k6, kf⟩ := HP8.out.box.cel
  have kl := HP8.out.box.lt
  go_upto_region 11 with (go_at_call 7; refine Calls.mono (HI2.out _ HP8.out) ?_; rintro e u9 ⟨ax9, kx9, ay9, ky9, rfl, hb⟩; have HP9 : Hid (LP w u9 p a ⟨ho, gu, nu, de, pa, fz, []⟩ (.slice (some ⟨g0, 0, none⟩) 0 0)) := HP8.out.step hb; have HX9 : Hid (LG1 u9 b7 31 #[.int .i64 0, .int .i64 h1v, .int .i64 g1v, .int .i64 n1v, .int .i64 d1v, .int .i64 p1v, .bool f1v, .slice ax7 0 kx7, .slice ay7 1 ky7]) := HX.out.step hb; clear hb HP8 HX HI2 k0 k1x k2 k3 k4 k5 k6 kf kl; obtain ⟨k0, k1x, k2, k3, k4, k5, k6, kf⟩ := HP9.out.box.cel; have kl := HP9.out.box.lt)
  have HY : Hid (LG1 (u9.alloc (.cells #[.int .i64 0, .int .i64 h2v, .int .i64 g1v, .int .i64 n2v, .int .i64 d2v, .int .i64 p1v, .bool f2v, .slice ax9 0 kx9, .slice ay9 2 ky9] 31)) u9.heap.size 31 #[.int .i64 0, .int .i64 h2v, .int .i64 g1v, .int .i64 n2v, .int .i64 d2v, .int .i64 p1v, .bool f2v, .slice ax9 0 kx9, .slice ay9 2 ky9]) := heap_new _ _
  have HP10 : Hid (LP w (u9.alloc (.cells #[.int .i64 0, .int .i64 h2v, .int .i64 g1v, .int .i64 n2v, .int .i64 d2v, .int .i64 p1v, .bool f2v, .slice ax9 0 kx9, .slice ay9 2 ky9] 31)) p a ⟨ho, gu, nu, de, pa, fz, []⟩ (.slice (some ⟨g0, 0, none⟩) 0 0)) := HP9.out.step (bx1 _ _)
  have HX10 : Hid (LG1 (u9.alloc (.cells #[.int .i64 0, .int .i64 h2v, .int .i64 g1v, .int .i64 n2v, .int .i64 d2v, .int .i64 p1v, .bool f2v, .slice ax9 0 kx9, .slice ay9 2 ky9] 31)) b7 31 #[.int .i64 0, .int .i64 h1v, .int .i64 g1v, .int .i64 n1v, .int .i64 d1v, .int .i64 p1v, .bool f1v, .slice ax7 0 kx7, .slice ay7 1 ky7]) := HX9.out.step (bx1 _ _)
  generalize (u9.alloc (.cells #[.int .i64 0, .int .i64 h2v, .int .i64 g1v, .int .i64 n2v, .int .i64 d2v, .int .i64 p1v, .bool f2v, .slice ax9 0 kx9, .slice ay9 2 ky9] 31)) = u10 at *
  generalize u9.heap.size = b9 at *
  clear HP9 HX9 k0 k1x k2 k3 k4 k5 k6 kf kl
  obtain ⟨k0, k1x, k2, k3, k4, k5, k6, kf⟩ := HP10.out.box.cel
  have kl := HP10.out.box.lt
  go_upto_region 12 with (go_at_call 8; refine Calls.mono (HS1.out _ HP10.out) ?_; rintro e u11 ⟨ax11, kx11, ay11, ky11, rfl, hb⟩; have HP11 : Hid (LP w u11 p a ⟨ho, gu, nu, de, pa, fz, []⟩ (.slice (some ⟨g0, 0, none⟩) 0 0)) := HP10.out.step hb; have HX11 : Hid (LG1 u11 b7 31 #[.int .i64 0, .int .i64 h1v, .int .i64 g1v, .int .i64 n1v, .int .i64 d1v, .int .i64 p1v, .bool f1v, .slice ax7 0 kx7, .slice ay7 1 ky7]) := HX10.out.step hb; have HY11 : Hid (LG1 u11 b9 31 #[.int .i64 0, .int .i64 h2v, .int .i64 g1v, .int .i64 n2v, .int .i64 d2v, .int .i64 p1v, .bool f2v, .slice ax9 0 kx9, .slice ay9 2 ky9]) := HY.out.step hb; clear hb HP10 HX10 HY HS1 k0 k1x k2 k3 k4 k5 k6 kf kl)
  have HZ : Hid (LG1 (u11.alloc (.cells #[.int .i64 0, .int .i64 h1v, .int .i64 g1v, .int .i64 n1v, .int .i64 d1v, .int .i64 p1v, .bool f1v, .slice ax11 0 kx11, .slice ay11 1 ky11] 31)) u11.heap.size 31 #[.int .i64 0, .int .i64 h1v, .int .i64 g1v, .int .i64 n1v, .int .i64 d1v, .int .i64 p1v, .bool f1v, .slice ax11 0 kx11, .slice ay11 1 ky11]) := heap_new _ _
  have HP12 : Hid (LP w (u11.alloc (.cells #[.int .i64 0, .int .i64 h1v, .int .i64 g1v, .int .i64 n1v, .int .i64 d1v, .int .i64 p1v, .bool f1v, .slice ax11 0 kx11, .slice ay11 1 ky11] 31)) p a ⟨ho, gu, nu, de, pa, fz, []⟩ (.slice (some ⟨g0, 0, none⟩) 0 0)) := HP11.out.step (bx1 _ _)
  have HX12 : Hid (LG1 (u11.alloc (.cells #[.int .i64 0, .int .i64 h1v, .int .i64 g1v, .int .i64 n1v, .int .i64 d1v, .int .i64 p1v, .bool f1v, .slice ax11 0 kx11, .slice ay11 1 ky11] 31)) b7 31 #[.int .i64 0, .int .i64 h1v, .int .i64 g1v, .int .i64 n1v, .int .i64 d1v, .int .i64 p1v, .bool f1v, .slice ax7 0 kx7, .slice ay7 1 ky7]) := HX11.out.step (bx1 _ _)
  have HY12 : Hid (LG1 (u11.alloc (.cells #[.int .i64 0, .int .i64 h1v, .int .i64 g1v, .int .i64 n1v, .int .i64 d1v, .int .i64 p1v, .bool f1v, .slice ax11 0 kx11, .slice ay11 1 ky11] 31)) b9 31 #[.int .i64 0, .int .i64 h2v, .int .i64 g1v, .int .i64 n2v, .int .i64 d2v, .int .i64 p1v, .bool f2v, .slice ax9 0 kx9, .slice ay9 2 ky9]) := HY11.out.step (bx1 _ _)
  generalize (u11.alloc (.cells #[.int .i64 0, .int .i64 h1v, .int .i64 g1v, .int .i64 n1v, .int .i64 d1v, .int .i64 p1v, .bool f1v, .slice ax11 0 kx11, .slice ay11 1 ky11] 31)) = u12 at *
  generalize u11.heap.size = b11 at *
  clear HP11 HX11 HY11
  obtain ⟨k0, k1x, k2, k3, k4, k5, k6, kf⟩ := HP12.out.box.cel
  have kl := HP12.out.box.lt
  have x0 := HX12.out.cel 0 _ rfl
  have x2 := HX12.out.cel 2 _ rfl
  have x5 := HX12.out.cel 5 _ rfl
  have xl := HX12.out.lt
  have y0 := HY12.out.cel 0 _ rfl
  have y2 := HY12.out.cel 2 _ rfl
  have y5 := HY12.out.cel 5 _ rfl
  have yl := HY12.out.lt
  have z2 := HZ.out.cel 2 _ rfl
  have zl := HZ.out.lt
  cases fz
  · go_wp2
    go_ret
    exact ⟨rfl, HP12.out.bel⟩
  · obtain rfl := HFZ.out rfl
    go_wp2
    go_ret
    exact ⟨rfl, HP12.out.bel⟩
end Go.Proofs.YtegcbghhcidcaaaDoor
