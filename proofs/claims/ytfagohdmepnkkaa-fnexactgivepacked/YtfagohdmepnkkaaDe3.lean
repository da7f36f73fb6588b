import Derived.Test.YtfagohdmepnkkaaDe2
import Derived.Test.YtfagohdmepnkkaaPk1
namespace Go.Proofs.Ytfagohdmepnkkaa
open Go.ChangeShapes Go.WideShapes Go.ChangeAt Go.RowKit

/-- The code that a call which takes a packed queue tells. -/
def pkC (s : ByteArray) (p : PV) : Int := if 65536 < s.size then 2 else pF s p
theorem packedCode_any (s : ByteArray) (p : PV) (w : World) (hs : s.size ≤ 1048576) : Calls Try.prog 66 #[.string s, pA p] w fun e w' => e = .returned (.int .i64 (pkC s p)) ∧ Below w.heap.size w w' := by
  have HT : Hid _ := fun u => tooLong_any s u
  have HF : Hid _ := fun u => implPackedFault_any s p u hs
  obtain ⟨sz, rg, ps, wr⟩ := p
  unfold pA at HF ⊢
  by_cases h : 65536 < s.size
  · have hd : decide (65536 < (s.size : Int)) = true := decide_eq_true (by omega)
    rw [hd] at HT
    have E : Hid (pkC s ⟨sz, rg, ps, wr⟩ = 2) := by
      show pkC _ _ = _
      unfold pkC
      rw [if_pos h]
    clear h hs hd
    go_enter Try.func66, Try.ntmps66
    go_wp2_with (go_at_call 56; refine Calls.mono (HT.out _) ?_; rintro e u1 ⟨rfl, hu1⟩; rw [hu1]; clear hu1)
    go_ret
    exact ⟨ret_int E.out.symm, bx1 _ _⟩
  · have hd : decide (65536 < (s.size : Int)) = false := decide_eq_false (by omega)
    rw [hd] at HT
    have E : Hid (pkC s ⟨sz, rg, ps, wr⟩ = pF s ⟨sz, rg, ps, wr⟩) := by
      show pkC _ _ = _
      unfold pkC
      rw [if_neg h]
    clear h hs hd
    have HB : Hid (Below w.heap.size w (w.alloc (.cells #[.int .i64 sz, .int .i64 rg, .int .i64 ps, .bool wr] 45))) := bx1 _ _
    go_enter Try.func66, Try.ntmps66
    go_wp2_with (first | (go_at_call 56; refine Calls.mono (HT.out _) ?_; rintro e u1 ⟨rfl, hu1⟩; rw [hu1]; clear hu1) | (go_at_call 106; refine Calls.mono (HF.out _) ?_; rintro e u2 ⟨rfl, hb⟩; have HB2 : Hid (Below w.heap.size w u2) := HB.out.trans (hb.mono HB.out.size); clear hb))
    go_ret
    exact ⟨ret_int E.out.symm, HB2.out⟩
set_option maxRecDepth 100000 in
set_option maxHeartbeats 4000000 in
theorem placeBehind_any (R S P C : Nat) (wr : Bool) (w : World) (hR : R ≤ 65536) (hS : 1 ≤ S) (hS2 : S ≤ 16) (hP : P < S) (hC : C ≤ 16) :
    Calls Try.prog 110 #[.agg #[.int .i64 S, .int .i64 R, .int .i64 P, .bool wr], .int .i64 C] w fun e w' => e = .returned (.int .i64 ((R + (P + C) % S * 16 : Nat) : Int)) ∧ Below w.heap.size w w' := by
  have HL : Hid _ := (LBx.new w #[.int .i64 S, .int .i64 R, .int .i64 P, .bool wr] 45)
  have e1 : ((P : Int) + (C : Int)).tmod (S : Int) = (((P + C) % S : Nat) : Int) := by
    rw [Int.tmod_eq_emod_of_nonneg (by omega)]
    simp
  have h0 : ¬ (S : Int) = 0 := by omega
  have hm : (P + C) % S < S := Nat.mod_lt _ hS
  have E : Hid ((R : Int) + (((P + C) % S : Nat) : Int) * 16 = ((R + (P + C) % S * 16 : Nat) : Int)) := by
    show (R : Int) + (((P + C) % S : Nat) : Int) * 16 = _
    omega
  generalize (P + C) % S = M at *
  go_enter Try.func110, Try.ntmps110
  go_wp2_with fail
  generalize ((w.alloc (.cells #[.int .i64 S, .int .i64 R, .int .i64 P, .bool wr] 45))) = V at *
  have c0 := HL.out.cel 0 _ rfl
  have c1 := HL.out.cel 1 _ rfl
  have c2 := HL.out.cel 2 _ rfl
  go_quiet (fail)
  go_wp2_with fail
  go_ret
  exact ⟨ret_int E.out, bdn HL.out.bel _⟩
/-- A packed queue that has gone on. -/
def goP (p : PV) (c : Int) : PV := if p.size ≤ p.pos + c then ⟨p.size, p.ring, p.pos + c - p.size, !p.wrap⟩ else ⟨p.size, p.ring, p.pos + c, p.wrap⟩
theorem pset2 {w : World} {b : Nat} {S R P : Int} {W : Bool} (h : w.heap[b]? = some (.cells #[.int .i64 S, .int .i64 R, .int .i64 P, .bool W] 45 (0, 0))) (X : Int) : (w.setCell ⟨b, 2, none⟩ (.int .i64 X)).heap[b]? = some (.cells #[.int .i64 S, .int .i64 R, .int .i64 X, .bool W] 45 (0, 0)) := by
  simp [World.setCell, Array.getElem?_modify, h]
theorem pset3 {w : World} {b : Nat} {S R P : Int} {W : Bool} (h : w.heap[b]? = some (.cells #[.int .i64 S, .int .i64 R, .int .i64 P, .bool W] 45 (0, 0))) (X : Bool) : (w.setCell ⟨b, 3, none⟩ (.bool X)).heap[b]? = some (.cells #[.int .i64 S, .int .i64 R, .int .i64 P, .bool X] 45 (0, 0)) := by
  simp [World.setCell, Array.getElem?_modify, h]
theorem gb_dn {w u : World} {r : Option Nat} (h : w.grownBy u r) (n : Nat) : w.grownBy (u.drewN n) r := ⟨h.os, h.tape, h.output, h.size, h.block⟩
theorem gb_set1 {w : World} {b o : Nat} {v : Value} : w.grownBy (w.setCell ⟨b, o, none⟩ v) (some b) := ⟨rfl, rfl, rfl, by simp [World.setCell], fun k _ hn => Below.heap_setCell _ _ _ _ (fun e => hn (congrArg some e))⟩
set_option maxRecDepth 100000 in
set_option maxHeartbeats 4000000 in
theorem goOn_any {w : World} {b : Nat} (S R P C : Int) (W : Bool) (h : w.heap[b]? = some (.cells #[.int .i64 S, .int .i64 R, .int .i64 P, .bool W] 45 (0, 0))) (h1 : 0 ≤ P) (h2 : P < S) (h3 : S ≤ 16) (h4 : 1 ≤ C) (h5 : C ≤ S) :
    Calls Try.prog 111 #[.pointer (some ⟨b, 0, none⟩), .int .i64 C] w fun e w' => e = .returned (.tuple #[]) ∧ w'.heap[b]? = some (.cells (pC (goP ⟨S, R, P, W⟩ C)) 45 (0, 0)) ∧ w.grownBy w' (some b) := by
  have hlt : b < w.heap.size := (Array.getElem?_eq_some_iff.1 h).1
  have c0 : w.cell? ⟨b, 0, none⟩ = some (.int .i64 S) := by simp [World.cell?, h]
  have c2 : w.cell? ⟨b, 2, none⟩ = some (.int .i64 P) := by simp [World.cell?, h]
  have c3 : w.cell? ⟨b, 3, none⟩ = some (.bool W) := by simp [World.cell?, h]
  have f2 : w.frozen? ⟨b, 2, none⟩ = false := by simp [World.frozen?, h]
  have f3 : w.frozen? ⟨b, 3, none⟩ = false := by simp [World.frozen?, h]
  have HH : Hid _ := h
  clear h
  by_cases hw : S ≤ P + C
  · have E : Hid (goP ⟨S, R, P, W⟩ C = ⟨S, R, P + C - S, !W⟩) := by
      show goP _ _ = _
      unfold goP
      rw [if_pos hw]
    have HS : Hid _ := fun n : Nat => (show ((w.setCell ⟨b, 2, none⟩ (.int .i64 (P + C))).drewN n).heap[b]? = _ from pset2 HH.out (P + C))
    have HG : Hid _ := fun n : Nat => gb_dn (gb_set1 (w := w) (b := b) (o := 2) (v := .int .i64 (P + C))) n
    go_enter Try.func111, Try.ntmps111
    go_wp2_with fail
    go_quiet (fail)
    have HS1 : Hid _ := HS.out nq
    have HG1 : Hid _ := HG.out nq
    clear HS HG HH c0 c2 c3 f2 f3 hlt
    generalize (w.setCell ⟨b, 2, none⟩ (.int .i64 (P + C))).drewN nq = V at *
    have hlt : b < V.heap.size := (Array.getElem?_eq_some_iff.1 HS1.out).1
    have c0 : V.cell? ⟨b, 0, none⟩ = some (.int .i64 S) := by simp [World.cell?, HS1.out]
    have c2 : V.cell? ⟨b, 2, none⟩ = some (.int .i64 (P + C)) := by simp [World.cell?, HS1.out]
    have c3 : V.cell? ⟨b, 3, none⟩ = some (.bool W) := by simp [World.cell?, HS1.out]
    have f2 : V.frozen? ⟨b, 2, none⟩ = false := by simp [World.frozen?, HS1.out]
    have f3 : V.frozen? ⟨b, 3, none⟩ = false := by simp [World.frozen?, HS1.out]
    go_wp2_with fail
    go_region
    go_wp2_with fail
    refine bodyPost_end (v := .tuple #[]) (by simp [results, Try.results111, go_sem]) rfl ⟨rfl, ?_, ?_⟩
    · rw [E.out]
      exact pset3 (pset2 HS1.out _) _
    · exact gb_dn (gb_grow HG1.out (gb_grow gb_set1 gb_set1)) 1
  · have E : Hid (goP ⟨S, R, P, W⟩ C = ⟨S, R, P + C, W⟩) := by
      show goP _ _ = _
      unfold goP
      rw [if_neg hw]
    have HS : Hid _ := fun n : Nat => (show ((w.setCell ⟨b, 2, none⟩ (.int .i64 (P + C))).drewN n).heap[b]? = _ from pset2 HH.out (P + C))
    have HG : Hid _ := fun n : Nat => gb_dn (gb_set1 (w := w) (b := b) (o := 2) (v := .int .i64 (P + C))) n
    go_enter Try.func111, Try.ntmps111
    go_wp2_with fail
    go_quiet (fail)
    go_wp2_with fail
    refine bodyPost_end (v := .tuple #[]) (by simp [results, Try.results111, go_sem]) rfl ⟨rfl, ?_, HG.out _⟩
    rw [E.out]
    exact HS.out _
end Go.Proofs.Ytfagohdmepnkkaa
