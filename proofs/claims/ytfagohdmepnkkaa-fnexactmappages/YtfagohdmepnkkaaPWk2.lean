import Derived.Test.YtfagohdmepnkkaaPWk1
namespace Go.Proofs.Ytfagohdmepnkkaa
open Go.ChangeShapes Go.WideShapes Go.ChangeAt Go.RowKit

/-- What a walk's box holds beside its tables and its reads. -/
structure WS where
  va : Nat
  acc : Int
  user : Bool
  at_ : Int
  e : Int
  lg : Bool
  pa : Int
def WBx (w : World) (B : Nat) (tv rv : Value) (x : WS) : Prop :=
  ∃ pt : Bool, w.heap[B]? = some (.cells #[tv, .int .i64 x.va, .int .i64 x.acc, .bool x.user, .int .i64 x.at_, .int .i64 x.e, .bool x.lg, rv, .int .i64 x.pa, .bool pt] 92 (0, 0))
theorem WBx.lt {w : World} {B : Nat} {tv rv : Value} {x : WS} (h : WBx w B tv rv x) : B < w.heap.size := by
  obtain ⟨pt, h⟩ := h
  exact (Array.getElem?_eq_some_iff.1 h).1
theorem WBx.cells {w : World} {B : Nat} {tv rv : Value} {x : WS} (h : WBx w B tv rv x) :
    w.cell? ⟨B, 0, none⟩ = some tv ∧ w.cell? ⟨B, 1, none⟩ = some (.int .i64 x.va) ∧ w.cell? ⟨B, 2, none⟩ = some (.int .i64 x.acc) ∧ w.cell? ⟨B, 3, none⟩ = some (.bool x.user) ∧ w.cell? ⟨B, 4, none⟩ = some (.int .i64 x.at_) ∧
    w.cell? ⟨B, 5, none⟩ = some (.int .i64 x.e) ∧ w.cell? ⟨B, 6, none⟩ = some (.bool x.lg) ∧ w.cell? ⟨B, 7, none⟩ = some rv ∧ w.cell? ⟨B, 8, none⟩ = some (.int .i64 x.pa) ∧ ∀ o, w.frozen? ⟨B, o, none⟩ = false := by
  obtain ⟨pt, h⟩ := h
  simp [World.cell?, World.frozen?, h]
theorem WBx.cell9 {w : World} {B : Nat} {tv rv : Value} {x : WS} (h : WBx w B tv rv x) : ∃ pt : Bool, w.cell? ⟨B, 9, none⟩ = some (.bool pt) := by
  obtain ⟨pt, h⟩ := h
  exact ⟨pt, by simp [World.cell?, h]⟩
theorem WBx.block {w u : World} {B : Nat} {tv rv : Value} {x : WS} (h : WBx w B tv rv x) (hu : u.heap[B]? = w.heap[B]?) : WBx u B tv rv x := by
  obtain ⟨pt, h⟩ := h
  exact ⟨pt, hu.trans h⟩
theorem WBx.put4 {w : World} {B : Nat} {tv rv : Value} {x : WS} (h : WBx w B tv rv x) (y : Int) : WBx (w.setCell ⟨B, 4, none⟩ (.int .i64 y)) B tv rv { x with at_ := y } := by
  obtain ⟨pt, h⟩ := h
  exact ⟨pt, by simp [World.setCell, Array.getElem?_modify, h]⟩
theorem WBx.put5 {w : World} {B : Nat} {tv rv : Value} {x : WS} (h : WBx w B tv rv x) (y : Int) : WBx (w.setCell ⟨B, 5, none⟩ (.int .i64 y)) B tv rv { x with e := y } := by
  obtain ⟨pt, h⟩ := h
  exact ⟨pt, by simp [World.setCell, Array.getElem?_modify, h]⟩
theorem WBx.put6 {w : World} {B : Nat} {tv rv : Value} {x : WS} (h : WBx w B tv rv x) (y : Bool) : WBx (w.setCell ⟨B, 6, none⟩ (.bool y)) B tv rv { x with lg := y } := by
  obtain ⟨pt, h⟩ := h
  exact ⟨pt, by simp [World.setCell, Array.getElem?_modify, h]⟩
theorem WBx.put8 {w : World} {B : Nat} {tv rv : Value} {x : WS} (h : WBx w B tv rv x) (y : Int) : WBx (w.setCell ⟨B, 8, none⟩ (.int .i64 y)) B tv rv { x with pa := y } := by
  obtain ⟨pt, h⟩ := h
  exact ⟨pt, by simp [World.setCell, Array.getElem?_modify, h]⟩
theorem WBx.put7 {w : World} {B : Nat} {tv rv rv' : Value} {x : WS} (h : WBx w B tv rv x) : WBx (w.setCell ⟨B, 7, none⟩ rv') B tv rv' x := by
  obtain ⟨pt, h⟩ := h
  exact ⟨pt, by simp [World.setCell, Array.getElem?_modify, h]⟩
theorem WBx.put9 {w : World} {B : Nat} {tv rv : Value} {x : WS} (h : WBx w B tv rv x) (y : Bool) : WBx (w.setCell ⟨B, 9, none⟩ (.bool y)) B tv rv x := by
  obtain ⟨pt, h⟩ := h
  exact ⟨y, by simp [World.setCell, Array.getElem?_modify, h]⟩

theorem gb_refl (w : World) (r : Option Nat) : w.grownBy w r := ⟨rfl, rfl, rfl, Nat.le_refl _, fun _ _ _ => rfl⟩
theorem gb_below {w0 w u : World} {r : Option Nat} (h : w0.grownBy w r) (hb : Below w.heap.size w u) : w0.grownBy u r :=
  ⟨hb.os.trans h.os, hb.tape.trans h.tape, hb.output.trans h.output, Nat.le_trans h.size hb.size, fun k hk hn => (hb.block k (Nat.lt_of_lt_of_le hk h.size)).trans (h.block k hk hn)⟩
theorem gb_set {w0 w : World} {r : Option Nat} {p : Addr} {v : Value} (h : w0.grownBy w r) (hp : w0.heap.size ≤ p.block) : w0.grownBy (w.setCell p v) r :=
  ⟨h.os, h.tape, h.output, by simp [World.setCell]; exact h.size, fun k hk hn => (Below.heap_setCell _ _ _ _ (by omega)).trans (h.block k hk hn)⟩
theorem gb_grow {w0 w u : World} {r r2 : Option Nat} (h : w0.grownBy w r) (hg : w.grownBy u r2) (h2 : ∀ k, r2 = some k → w0.heap.size ≤ k ∨ r = some k) : w0.grownBy u r :=
  ⟨hg.os.trans h.os, hg.tape.trans h.tape, hg.output.trans h.output, Nat.le_trans h.size hg.size, fun k hk hn => (hg.block k (Nat.lt_of_lt_of_le hk h.size) (fun e => by
    rcases h2 k e.symm with h3 | h3
    · omega
    · exact hn h3.symm)).trans (h.block k hk hn)⟩

set_option maxRecDepth 100000 in
set_option maxHeartbeats 1000000 in
theorem isLet_any (B : Nat) (tv rv : Value) (x : WS) (w : World) (h : WBx w B tv rv x) (e0 : 0 ≤ x.e) (e1 : x.e ≤ 4294967295) (a1 : 1 ≤ x.acc) (a2 : x.acc ≤ 3) :
    Calls Try.prog 92 #[.pointer (some ⟨B, 0, none⟩)] w fun e w' => e = .returned (.bool (goodV x.e x.acc x.user x.lg)) ∧ Below w.heap.size w w' := by
  obtain ⟨va, acc, user, at_, e, lg, pa⟩ := x
  obtain ⟨c0, c1, c2, c3, c4, c5, c6, c7, c8, cf⟩ := h.cells
  simp only at *
  have b1 : Hid _ := and1 e e0 (by omega)
  by_cases f1 : e % 2 = 0
  · have k1 : bits .and .i64 e 1 = 0 := b1.out.trans f1
    have E : Hid (goodV e acc user lg = false) := by
      show goodV e acc user lg = false
      simp [goodV, f1]
    clear f1 h
    go_enter Try.func92, Try.ntmps92
    go_wp2
    go_ret
    exact ⟨ret_bool E.out.symm, Below.refl _ _⟩
  have k1 : bits .and .i64 e 1 = 1 := b1.out.trans (by omega)
  cases lg
  · have E : Hid (goodV e acc user false = mayV e acc user) := by
      show _ = _
      have : e % 2 = 1 := by omega
      simp [goodV, this]
    clear f1 h
    go_enter Try.func92, Try.ntmps92
    go_wp2
    go_region_with (go_at_call 88; refine (lets_any _ _ _ _ e0 e1 a1 a2).mono ?_; rintro x u ⟨rfl, hu⟩)
    all_goals
      go_wp2
      go_ret
      exact ⟨ret_bool E.out.symm, ⟨hu.os, hu.tape, hu.output, hu.size, hu.block⟩⟩
  by_cases f2 : e / 256 % 32 = 0
  · have E : Hid (goodV e acc user true = mayV e acc user) := by
      show _ = _
      have : e % 2 = 1 := by omega
      simp [goodV, this, f2]
    clear f1 h
    go_enter Try.func92, Try.ntmps92
    go_wp2_with (go_at_call 103; refine (frameOf_any _ _).mono ?_; rintro x u ⟨rfl, hu⟩; subst hu)
    go_region_with (go_at_call 88; refine (lets_any _ _ _ _ e0 e1 a1 a2).mono ?_; rintro x u ⟨rfl, hu⟩)
    all_goals
      go_wp2
      go_ret
      exact ⟨ret_bool E.out.symm, ⟨hu.os, hu.tape, hu.output, hu.size, hu.block⟩⟩
  · have E : Hid (goodV e acc user true = false) := by
      show goodV e acc user true = false
      simp [goodV, f2]
    have g2 : (e / 256 % 32 != 0) = true := by simpa using f2
    clear f1 h
    go_enter Try.func92, Try.ntmps92
    go_wp2_with (go_at_call 103; refine (frameOf_any _ _).mono ?_; rintro x u ⟨rfl, hu⟩; subst hu)
    go_ret
    exact ⟨ret_bool E.out.symm, Below.refl _ _⟩
set_option maxRecDepth 100000 in
set_option maxHeartbeats 1000000 in
theorem page_any (B : Nat) (tv rv : Value) (x : WS) (w : World) (h : WBx w B tv rv x) (e0 : 0 ≤ x.e) (e1 : x.e ≤ 4294967295) (hv : x.va ≤ 262143) :
    Calls Try.prog 93 #[.pointer (some ⟨B, 0, none⟩)] w fun e w' => e = .returned (.int .i64 (pgV x.e x.va x.lg)) ∧ ∃ q, w' = w.drewN q := by
  obtain ⟨va, acc, user, at_, e, lg, pa⟩ := x
  obtain ⟨c0, c1, c2, c3, c4, c5, c6, c7, c8, cf⟩ := h.cells
  simp only at *
  have V : Hid (va ≤ 262143) := hv
  have hi : (va : Int) / 256 % 32 ≤ 31 := by omega
  cases lg
  · clear h hv
    go_enter Try.func93, Try.ntmps93
    go_wp2_with (go_at_call 103; refine (frameOf_any _ _).mono ?_; rintro x u ⟨rfl, hu⟩; subst hu)
    go_ret
    exact ⟨ret_int rfl, 0, rfl⟩
  · have hw : IntKind.i64.wrap (e / 256 + (va : Int) / 256 % 32) = e / 256 + (va : Int) / 256 % 32 := by
      rw [IntKind.wrap_i64]
      omega
    clear h hv
    go_enter Try.func93, Try.ntmps93
    go_wp2
    go_quiet (first | (go_at_call 103; exact Calls.quiet_of_same (frameOf_any _ _)) | (go_at_call 104; exact Calls.quiet_of (secondIndex_any _ _ V.out)))
    go_wp2
    go_ret
    exact ⟨ret_int rfl, nq, rfl⟩
end Go.Proofs.Ytfagohdmepnkkaa
