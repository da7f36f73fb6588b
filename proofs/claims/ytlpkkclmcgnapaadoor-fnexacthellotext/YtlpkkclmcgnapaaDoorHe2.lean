import Derived.Test.YtlpkkclmcgnapaaDoorHe1
namespace Go.Proofs.YtlpkkclmcgnapaaDoor
open Go.ChangeShapes Go.WideShapes Go.ChangeAt Go.RowKit

/-- The pieces of the first k bytes. -/
def heP (t : ByteArray) : Nat → List ByteArray
  | 0 => []
  | k + 1 => heP t k ++ [heA ++ decB (bt t k), heN] ++ [heO, heN]
theorem heP_len (t : ByteArray) : ∀ k, (heP t k).length = 4 * k
  | 0 => rfl
  | k + 1 => by simp [heP, heP_len t k]; omega
def heL (t : ByteArray) : List ByteArray := heP t t.size ++ [heH, heN]
def heT (t : ByteArray) : ByteArray := ⟨(catB (heL t)).toArray⟩
def heV (t : ByteArray) : ByteArray := if 100 < t.size then ⟨#[]⟩ else heT t
theorem bt_255 (t : ByteArray) (k : Nat) : 0 ≤ bt t k ∧ bt t k ≤ 255 := by
  have := bt_b t k
  omega
theorem cat_app (a b : List ByteArray) : catB (a ++ b) = catB a ++ catB b := by simp [catB]
theorem heP_size (t : ByteArray) : ∀ k, (catB (heP t k)).length ≤ 60 * k
  | 0 => by simp [heP, catB]
  | k + 1 => by
    have ih := heP_size t k
    have h1 := decB_size (bt t k) (by have := bt_255 t k; omega) (by have := bt_255 t k; omega)
    have h2 : (decB (bt t k)).data.toList.length = (decB (bt t k)).size := rfl
    rw [heP, cat_app, cat_app, List.length_append, List.length_append]
    have e1 : (catB [heA ++ decB (bt t k), heN]).length = 14 + (decB (bt t k)).size := by
      rw [← h2]
      simp [catB, heA, heN]
      omega
    have e2 : (catB [heO, heN]).length = 10 := rfl
    rw [e1, e2]
    omega
theorem heL_size (t : ByteArray) (h : t.size ≤ 100) : (catB (heL t)).length ≤ 7000 := by
  have := heP_size t t.size
  rw [heL, cat_app, List.length_append]
  have e : (catB [heH, heN]).length = 5 := rfl
  omega
theorem join_own {w : World} {B : Nat} {a : Option Addr} {c : Nat} {ps : List ByteArray} (h : w.ownsRow B 9 1 (.slice a ps.length c) ps.length (sR ps)) (hp : 0 < ps.length) (hn : ps.length ≤ 1000) (hsz : (catB ps).length ≤ 1099511627776) : Calls Tryd.prog 9 #[.slice a ps.length c] w fun e w' => e = .returned (.string (⟨(catB ps).toArray⟩)) ∧ Below w.heap.size w w' := by
  rcases h.2 with ⟨hv, e⟩ | ⟨g, cap, cur, hv, h1, h2, _⟩
  · omega
  · injection hv with e1 _ e3
    subst e1 e3
    refine joined_any g ps.length c ps w rfl (Array.getElem?_eq_some_iff.1 h2).1 (fun i hi => ?_) hn hsz
    rw [h.cellAt i (by omega)]
    simp [sR, List.getElem?_eq_getElem hi]
set_option maxRecDepth 100000 in
set_option maxHeartbeats 4000000 in
theorem implHT_any (t : ByteArray) (ht : t.size ≤ 1048576) (w : World) (hn : Names w) (htb : Tab w) (hw : 1 < w.heap.size) (hw0 : 0 < w.heap.size) : Calls Tryd.prog 5 #[.string t] w fun e w' => e = .returned (.string (heV t)) ∧ Below w.heap.size w w' := by
  cases h1 : decide (100 < (t.size : Int))
  rotate_left
  · have E : Hid (heV t = ⟨#[]⟩) := if_pos (by have := of_decide_eq_true h1; omega)
    go_enter Tryd.func5, Tryd.ntmps5
    go_wp2
    go_ret
    exact ⟨by rw [E.out]; rfl, Below.refl _ _⟩
  have hs : t.size ≤ 100 := by have := of_decide_eq_false h1; omega
  have E : Hid (heV t = heT t) := if_neg (by omega)
  have HA : Hid (∀ (u : World) (lb q : Nat) (ps : List ByteArray) (a : Option Addr) (c : Nat) (op a1 b1 c1 im : Int), HS w u lb q ps a c → ps.length ≤ 1000 → -9223372036854775808 ≤ op → op ≤ 9223372036854775807 → Calls Tryd.prog 7 #[.agg #[.int .i64 op, .int .i64 a1, .int .i64 b1, .int .i64 c1, .int .i64 im], .pointer (some ⟨lb, 0, none⟩)] u fun e w' => e = .returned (.tuple #[]) ∧ ∃ a2 c2, HS w w' lb q (ps ++ [iT op a1 b1 c1 im, heN]) a2 c2) := fun u lb q ps a c op a1 b1 c1 im h h2 h3 h4 => add_any h hn htb hw hw0 h2 op a1 b1 c1 im h3 h4
  clear hn htb
  have HS0 : Hid (HS w (w.alloc (.cells #[.slice none 0 0] 25)) w.heap.size (w.heap.size + 1) [] none 0) := ⟨LG.new w _ _, World.ownsRow_nil _ _ _ _, by omega, by simp⟩
  go_enter Tryd.func5, Tryd.ntmps5
  go_upto_region 4 with fail
  generalize (w.alloc (.cells #[.slice none 0 0] 25)) = u0 at *
  generalize hlb : w.heap.size = lb at HS0 ⊢
  have HLB : Hid (w.heap.size = lb) := hlb
  clear hlb
  go_upto_region 6 with fail
  go_loopw [12] (fun i wr => ∃ (k : Nat) (a : Option Addr) (c : Nat), k ≤ t.size ∧ i = .int .i64 k ∧ HS w wr lb (lb + 1) (heP t k) a c) (fun i _ => t.size - (intOf i).toNat)
  case atStart => exact ⟨0, none, 0, Nat.zero_le _, rfl, HS0.out⟩
  case round =>
    obtain ⟨k, a, c, hk, rfl, hh⟩ := hrel
    have HH : Hid (HS w wr lb (lb + 1) (heP t k) a c) := hh
    clear hh HS0
    have HPL : Hid ((heP t k).length = 4 * k) := heP_len t k
    by_cases hlt : k < t.size
    · have hb2 := bt_255 t k
      have hix := fun u => idx_str t k hlt u k rfl
      have HI : Hid (iT 16 1 0 0 (bt t k) = heA ++ decB (bt t k)) := iT_addi _ hb2.1 hb2.2
      have HNX : Hid (heP t (k + 1) = heP t k ++ [heA ++ decB (bt t k), heN] ++ [heO, heN]) := rfl
      generalize bt t k = n at *
      obtain ⟨hn0, hn1⟩ := hb2
      have hk0 : (0 : Int) ≤ (k : Int) := by omega
      have hk1 : (k : Int) < (t.size : Int) := by omega
      go_wp2_with fail
      refine Calls.mono (HA.out _ _ _ _ _ _ 16 1 0 0 n HH.out (by have := HPL.out; omega) (by omega) (by omega)) ?_
      rintro e u1 ⟨rfl, a2, c2, h2⟩
      rw [HI.out] at h2
      have H1 : Hid (HS w u1 lb (lb + 1) (heP t k ++ [heA ++ decB n, heN]) a2 c2) := h2
      clear h2 HH
      go_wp2_with fail
      refine Calls.mono (HA.out _ _ _ _ _ _ 47 1 0 0 1 H1.out (by have := HPL.out; simp; omega) (by omega) (by omega)) ?_
      rintro e u2 ⟨rfl, a3, c3, h3⟩
      rw [iT_out] at h3
      have H2 : Hid (HS w u2 lb (lb + 1) (heP t (k + 1)) a3 c3) := (by rw [HNX.out]; exact h3)
      clear h3 H1
      go_wp2
      exact ⟨⟨k + 1, a3, c3, hlt, by go_num, H2.out⟩, by simp [intOf]; omega⟩
    · have hke : k = t.size := by omega
      rw [hke] at HH HPL ⊢
      have hnl : ¬ ((t.size : Nat) : Int) < (t.size : Int) := by omega
      clear hke hk hlt
      go_wp2_with fail
      refine Calls.mono (HA.out _ _ _ _ _ _ 49 0 0 0 0 HH.out (by have := HPL.out; omega) (by omega) (by omega)) ?_
      rintro e u1 ⟨rfl, a2, c2, h2⟩
      rw [iT_halt] at h2
      have H1 : Hid (HS w u1 lb (lb + 1) (heL t) a2 c2) := h2
      have HLN : Hid ((heL t).length = 4 * t.size + 2) := (show _ = _ by rw [heL, List.length_append, heP_len]; rfl)
      clear h2 HH
      have HJ : Hid (Calls Tryd.prog 9 #[.slice a2 (heL t).length c2] u1 fun e w' => e = .returned (.string (heT t)) ∧ Below u1.heap.size u1 w') := join_own H1.out.ow (by have := HLN.out; omega) (by have := HLN.out; omega) (by have := heL_size t hs; omega)
      have k0 := H1.out.lg.cel 0 _ rfl
      have kl := H1.out.lg.lt
      generalize (heL t).length = m at *
      generalize heT t = V at *
      go_wp2_with fail
      refine Calls.mono HJ.out ?_
      rintro e u2 ⟨rfl, hb⟩
      have HB : Hid (Below w.heap.size w u2) := H1.out.lg.bel.trans (hb.mono H1.out.lg.bel.size)
      clear hb
      go_wp2
      go_ret
      exact ⟨by rw [E.out]; rfl, by first | exact HB.out | (rw [← HLB.out]; exact HB.out)⟩
end Go.Proofs.YtlpkkclmcgnapaaDoor
