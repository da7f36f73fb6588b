import Derived.Test.YtfagohdmepnkkaaIMap3
namespace Go.Proofs.Ytfagohdmepnkkaa
open Go.ChangeShapes Go.WideShapes Go.ChangeAt Go.RowKit

theorem pwB (n : Int) : bt (pw n) 0 = n % 256 ∧ bt (pw n) 1 = n / 256 % 256 ∧ bt (pw n) 2 = n / 65536 % 256 ∧ bt (pw n) 3 = n / 16777216 % 256 := by
  have e : ∀ x : Int, 0 ≤ x → x < 256 → (((UInt8.ofNat x.toNat).toNat : Nat) : Int) = x := fun x h0 h1 => by
    rw [UInt8.toNat_ofNat']; omega
  have z : (pw n).size = 4 := rfl
  refine ⟨?_, ?_, ?_, ?_⟩
  · rw [← bt_eq (pw n) 0 (by omega)]; exact e (n % 256) (by omega) (by omega)
  · rw [← bt_eq (pw n) 1 (by omega)]; exact e (n / 256 % 256) (by omega) (by omega)
  · rw [← bt_eq (pw n) 2 (by omega)]; exact e (n / 65536 % 256) (by omega) (by omega)
  · rw [← bt_eq (pw n) 3 (by omega)]; exact e (n / 16777216 % 256) (by omega) (by omega)
theorem bt_mid (A P C : ByteArray) (k i : Nat) (hA : A.size = k) (hi : i < P.size) : bt (A ++ P ++ C) (k + i) = bt P i := by
  have h1 : k + i < (A ++ P ++ C).size := by rw [ByteArray.size_append, ByteArray.size_append]; omega
  rw [← bt_eq _ _ h1, ← bt_eq P i hi]
  subst hA
  congr 2
  rw [ByteArray.getElem_append_left (by rw [ByteArray.size_append]; omega), ByteArray.getElem_append_right (by omega)]
  simp only [Nat.add_sub_cancel_left]
theorem bt_setv (s : ByteArray) (k : Nat) (x : Int) (i : Nat) (h : k + 4 ≤ s.size) (hi : i < 4) : bt (setv s k x) (k + i) = bt (pw x) i :=
  bt_mid _ _ _ k i (by rw [ByteArray.size_extract]; omega) hi
theorem wv_setv (s : ByteArray) (k : Nat) (x : Int) (h : k + 4 ≤ s.size) (h0 : 0 ≤ x) (h1 : x ≤ 4294967295) : wv (setv s k x) k = x := by
  have e0 := bt_setv s k x 0 h (by omega)
  have e1 := bt_setv s k x 1 h (by omega)
  have e2 := bt_setv s k x 2 h (by omega)
  have e3 := bt_setv s k x 3 h (by omega)
  obtain ⟨p0, p1, p2, p3⟩ := pwB x
  unfold wv
  rw [Nat.add_zero] at e0
  rw [e0, e1, e2, e3, p0, p1, p2, p3]
  omega
/-- The row of free frames that the mapper holds: in no block that it writes to. -/
def Frow (w : World) (b M B : Nat) (v : Value) (zs : List Int) : Prop := (zs = [] ∧ ∃ ao cap, v = .slice ao 0 cap) ∨ ∃ g o cap cur, v = .slice (some ⟨g, o, none⟩) zs.length cap ∧ B ≤ g ∧ g ≠ b ∧ g ≠ M ∧ zs.length ≤ cap ∧ w.heap[g]? = some (.cells cur 2 (0, 0)) ∧ ∀ (k : Nat) (hk : k < zs.length), cur[o + k]? = some (.int .i64 zs[k])
theorem Frow.orow {w : World} {b M B : Nat} {v : Value} {zs : List Int} (h : Frow w b M B v zs) : Orow w B v zs := by
  rcases h with h | ⟨g, o, cap, cur, h1, h2, _, _, h5⟩
  · exact .inl h
  · exact .inr ⟨g, o, cap, cur, h1, h2, h5⟩
theorem Frow.block {w u : World} {b M B : Nat} {v : Value} {zs : List Int} (h : Frow w b M B v zs) (hb : ∀ k, k < w.heap.size → k ≠ b → k ≠ M → u.heap[k]? = w.heap[k]?) : Frow u b M B v zs := by
  rcases h with h | ⟨g, o, cap, cur, h1, h2, h3, h4, h5, h6, h7⟩
  · exact .inl h
  · exact .inr ⟨g, o, cap, cur, h1, h2, h3, h4, h5, (hb g (Array.getElem?_eq_some_iff.1 h6).1 h3 h4).trans h6, h7⟩
theorem Frow.sl {w : World} {b M B : Nat} {v : Value} {zs : List Int} (h : Frow w b M B v zs) : ∃ ao cap, v = .slice ao zs.length cap := by
  rcases h with ⟨rfl, ao, cap, h⟩ | ⟨g, o, cap, cur, h1, _⟩
  · exact ⟨ao, cap, h⟩
  · exact ⟨_, cap, h1⟩
theorem Frow.tl {w : World} {b M B g o n cap : Nat} {f : Int} {fr : List Int} (h : Frow w b M B (.slice (some ⟨g, o, none⟩) n cap) (f :: fr)) (ao2 : Option Addr) (ha : 1 < n → ao2 = some ⟨g, o + 1, none⟩) : w.cell? ⟨g, o, none⟩ = some (.int .i64 f) ∧ g ≠ M ∧ Frow w b M B (.slice ao2 (n - 1) (cap - 1)) fr := by
  rcases h with ⟨e, _⟩ | ⟨g2, o2, cap2, cur, hv, hB, hgb, hgM, hc, hg, hat⟩
  · cases e
  · injection hv with e1 e2 e3
    injection e1 with e4
    injection e4 with e5 e6
    subst e5 e6 e3
    have h0 := hat 0 (by simp)
    refine ⟨by simpa [World.cell?, hg] using h0, hgM, ?_⟩
    cases fr with
    | nil =>
      simp only [List.length_cons, List.length_nil] at e2
      subst e2
      exact .inl ⟨rfl, _, _, rfl⟩
    | cons a l =>
      simp only [List.length_cons] at e2 hc
      have h2 := ha (by omega)
      subst h2
      refine .inr ⟨g, o + 1, cap - 1, cur, by simp only [List.length_cons]; rw [show n - 1 = l.length + 1 by omega], hB, hgb, hgM, by simp only [List.length_cons]; omega, hg, fun k hk => ?_⟩
      have h3 := hat (k + 1) (by simp only [List.length_cons] at hk ⊢; omega)
      rw [show o + 1 + k = o + (k + 1) by omega, h3]
      rfl
theorem Gm.frow {w u : World} {b M B : Nat} {v : Value} {zs : List Int} (g : Gm w u b M) (h : Frow w b M B v zs) : Frow u b M B v zs := h.block g.block
theorem Gm.below {w u v : World} {b M : Nat} (h : Gm w u b M) (hb : Below u.heap.size u v) : Gm w v b M := h.trans ⟨hb.os, hb.tape, hb.output, hb.size, fun k hk _ _ => hb.block k hk⟩
theorem Gm.of_below {w v : World} {b M : Nat} (hb : Below w.heap.size w v) : Gm w v b M := (Gm.refl w b M).below hb
end Go.Proofs.Ytfagohdmepnkkaa
