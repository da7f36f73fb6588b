import Derived.Test.YthncnffnjjclfabMe1
import Derived.Test.YthncnffnjjclfabIdxSG
import Derived.Test.YthncnffnjjclfabSg1
import Derived.Test.YthncnffnjjclfabSk4
import Derived.Test.YthncnffnjjclfabQu1
import Derived.Test.YthncnffnjjclfabLG
import Derived.Test.YthncnffnjjclfabHl
import Derived.Laws.Concat
namespace Go.Proofs.Ythncnffnjjclfab
open Go.ChangeShapes Go.WideShapes Go.ChangeAt Go.RowKit

def sgOk (n : Nat) (z : SG) : Bool := inW n z.reg 1 && !ovB z.text
def msS (rs : List Int) (z : SG) : List Int := rs.set z.reg.toNat (mixv (pw (rs.getD z.reg.toNat 0) ++ z.text) 31)
def msF (rs : List Int) (zs : List SG) : List Int := zs.foldl msS rs
theorem msS_len (rs : List Int) (z : SG) : (msS rs z).length = rs.length := by simp [msS]
theorem msF_len (zs : List SG) : ∀ rs : List Int, (msF rs zs).length = rs.length := by
  induction zs with
  | nil => intro rs; rfl
  | cons z zs ih => intro rs; show (msF (msS rs z) zs).length = _; rw [ih, msS_len]
theorem msF_succ (rs : List Int) (zs : List SG) (k : Nat) (h : k < zs.length) : msF rs (zs.take (k + 1)) = msS (msF rs (zs.take k)) zs[k] := by
  rw [List.take_succ_eq_append_getElem h]
  unfold msF
  rw [List.foldl_append]
  rfl
def meB (rs : List Int) (zs : List SG) : Bool := rgB rs && decide (zs.length ≤ 1000) && zs.all (sgOk rs.length)
def meV (rs : List Int) (zs : List SG) : List Int := if meB rs zs = true then msF rs zs else []
theorem rgB_len {rs : List Int} (h : rgB rs = true) : 1 ≤ rs.length ∧ rs.length ≤ 8 := by
  unfold rgB at h
  simp only [Bool.and_eq_true, decide_eq_true_eq] at h
  exact h.1
theorem meV_len (rs : List Int) (zs : List SG) : (meV rs zs).length ≤ 8 := by
  unfold meV
  split
  · rename_i h
    rw [msF_len]
    unfold meB at h
    simp only [Bool.and_eq_true] at h
    exact (rgB_len h.1.1).2
  · simp
/-- Registers that are one's own, at a place in a block. -/
structure MR (B : Nat) (u : World) (g o : Nat) (rs : List Int) : Prop where
  ex : ∃ cur, u.heap[g]? = some (.cells cur 2 (0, 0)) ∧ ∀ (k : Nat) (hk : k < rs.length), cur[o + k]? = some (.int .i64 rs[k])
  ge : B ≤ g
theorem MR.lt {B : Nat} {u : World} {g o : Nat} {rs : List Int} (h : MR B u g o rs) : g < u.heap.size := by
  obtain ⟨cur, h1, _⟩ := h.ex
  exact (Array.getElem?_eq_some_iff.1 h1).1
theorem MR.below {B : Nat} {u u' : World} {g o : Nat} {rs : List Int} (h : MR B u g o rs) (hb : Below u.heap.size u u') : MR B u' g o rs := by
  obtain ⟨cur, h1, h2⟩ := h.ex
  exact ⟨⟨cur, (hb.block _ h.lt).trans h1, h2⟩, h.ge⟩
theorem MR.drew {B : Nat} {u : World} {g o : Nat} {rs : List Int} (h : MR B u g o rs) : MR B u.drew g o rs := ⟨h.ex, h.ge⟩
theorem MR.cel {B : Nat} {u : World} {g o : Nat} {rs : List Int} (h : MR B u g o rs) (k : Nat) (hk : k < rs.length) : u.cell? ⟨g, o + k, none⟩ = some (.int .i64 (rs.getD k 0)) ∧ u.frozen? ⟨g, o + k, none⟩ = false := by
  obtain ⟨cur, h1, h2⟩ := h.ex
  refine ⟨?_, by simp [World.frozen?, h1]⟩
  simp [World.cell?, h1, h2 k hk, List.getElem?_eq_getElem hk]
theorem MR.set {B : Nat} {u : World} {g o : Nat} {rs : List Int} (h : MR B u g o rs) (k : Nat) (hk : k < rs.length) (x : Int) : MR B (u.setCell ⟨g, o + k, none⟩ (.int .i64 x)) g o (rs.set k x) := by
  obtain ⟨cur, h1, h2⟩ := h.ex
  have hsz : o + k < cur.size := (Array.getElem?_eq_some_iff.1 (h2 k hk)).1
  refine ⟨⟨cur.set! (o + k) (.int .i64 x), ?_, fun j hj => ?_⟩, h.ge⟩
  · simp [World.setCell, Array.getElem?_modify, h1]
  · rw [List.length_set] at hj
    by_cases e : k = j
    · subst e
      simp [hsz]
    · rw [List.getElem_set_ne e]
      simp [e, h2 j hj]
theorem MR.orow {B : Nat} {u : World} {g o cap : Nat} {rs : List Int} (h : MR B u g o rs) (hc : rs.length ≤ cap) : Orow u B (.slice (some ⟨g, o, none⟩) rs.length cap) rs := by
  obtain ⟨cur, h1, h2⟩ := h.ex
  exact .inr ⟨g, o, cap, cur, rfl, h.ge, hc, h1, h2⟩
theorem MR.of {w : World} {B : Nat} {v : Value} {rs : List Int} (h : Orow w B v rs) (hn : 1 ≤ rs.length) : ∃ g o cap, v = .slice (some ⟨g, o, none⟩) rs.length cap ∧ rs.length ≤ cap ∧ MR B w g o rs := by
  rcases h with ⟨rfl, _⟩ | ⟨g, o, cap, cur, hv, hB, hc, h1, h2⟩
  · simp at hn
  · exact ⟨g, o, cap, hv, hc, ⟨cur, h1, h2⟩, hB⟩
set_option maxRecDepth 100000 in
set_option maxHeartbeats 4000000 in
theorem wrong_any {w : World} {b n cap : Nat} {ao : Option Addr} (hb : w.cell? ⟨b, 0, none⟩ = some (.slice ao n cap)) (hl : b < w.heap.size) (hn : n ≤ 1048576) (z : SG) : Calls Try.prog 55 #[.agg #[.int .i64 z.reg, .string z.text], .pointer (some ⟨b, 0, none⟩)] w fun e w' => e = .returned (.bool (!sgOk n z)) ∧ Below w.heap.size w w' := by
  have HW : Hid (∀ u, Calls Try.prog 44 #[.int .i64 n, .int .i64 z.reg, .int .i64 1] u fun e w' => e = .returned (.bool (inW n z.reg 1)) ∧ w' = u) := fun u => isWithin_any n z.reg 1 u hn ⟨by omega, by omega⟩
  have HO : Hid (∀ u, Calls Try.prog 56 #[.slice (some ⟨u.heap.size, 0, none⟩) 1 1] (u.alloc (.cells #[.string z.text] 9)) fun e w' => e = .returned (.bool (ovB z.text)) ∧ Below u.heap.size u w') := fun u => over_one z.text u
  have E : Hid ((!sgOk n z) = (!inW n z.reg 1 || ovB z.text)) := (show (!sgOk n z) = _ by unfold sgOk; cases inW n z.reg 1 <;> cases ovB z.text <;> rfl)
  have hb2 : (w.alloc (.cells #[.int .i64 z.reg, .string z.text] 86)).cell? ⟨b, 0, none⟩ = some (.slice ao n cap) := ((bx1 _ _).cell (p := ⟨b, 0, none⟩) hl).trans hb
  have hl2 : b < (w.alloc (.cells #[.int .i64 z.reg, .string z.text] 86)).heap.size := by simp; omega
  have HL0 : Hid (LG w (w.alloc (.cells #[.int .i64 z.reg, .string z.text] 86)) w.heap.size #[.int .i64 z.reg, .string z.text] 86) := LG.new w _ _
  generalize ovB z.text = b2 at *
  generalize inW n z.reg 1 = b1 at *
  clear hb hl hn
  cases b1
  · go_enter Try.func55, Try.ntmps55
    go_upto_region 1 with fail
    generalize (w.alloc (.cells #[.int .i64 z.reg, .string z.text] 86)) = u0 at *
    generalize w.heap.size = b0 at *
    have k0 := HL0.out.cel 0 _ rfl
    have kl := HL0.out.lt
    go_wp2_with fail
    refine Calls.mono (HW.out _) ?_
    rintro e u1 ⟨rfl, hw1⟩
    rw [hw1]
    clear hw1
    go_wp2
    go_ret
    exact ⟨ret_bool (by rw [E.out]; rfl), HL0.out.bel⟩
  · go_enter Try.func55, Try.ntmps55
    go_upto_region 1 with fail
    generalize (w.alloc (.cells #[.int .i64 z.reg, .string z.text] 86)) = u0 at *
    generalize w.heap.size = b0 at *
    have k0 := HL0.out.cel 0 _ rfl
    have k1 := HL0.out.cel 1 _ rfl
    have kl := HL0.out.lt
    go_wp2_with fail
    refine Calls.mono (HW.out _) ?_
    rintro e u1 ⟨rfl, hw1⟩
    rw [hw1]
    clear hw1
    go_wp2_with fail
    refine Calls.mono (HO.out _) ?_
    rintro e u2 ⟨rfl, hb2⟩
    have HL2 : Hid (LG w u2 b0 #[.int .i64 z.reg, .string z.text] 86) := HL0.out.step hb2
    clear hb2
    go_wp2
    go_ret
    exact ⟨ret_bool (by rw [E.out]; rfl), HL2.out.bel⟩
theorem cfM : ∀ (xs : Array Value) (w' : World), (callFunc 55 xs).run Try.prog w' = .ok (.enter 55 xs) w' := by
  intro xs w'
  kernel_rfl
end Go.Proofs.Ythncnffnjjclfab
