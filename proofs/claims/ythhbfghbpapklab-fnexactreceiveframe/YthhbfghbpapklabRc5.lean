import Derived.Test.YthhbfghbpapklabRc4
import Derived.Test.YthhbfghbpapklabLb
import Derived.Test.YthhbfghbpapklabQu3
namespace Go.Proofs.Ythhbfghbpapklab
open Go.ChangeShapes Go.WideShapes Go.ChangeAt Go.RowKit

/-- The test of an indirect descriptor, in the specification's order. -/
def synB (inn nx : Bool) (P L : Nat) : Bool := inn || nx || !decide (L % 16 = 0) || decide (L < 16) || decide (256 < L) || !decide (P % 4 = 0)
theorem itC_syn {n : Nat} {inn nx : Bool} {P L : Nat} (h : synB inn nx P L = true) : itC n inn nx P L = 3 := by
  unfold synB at h
  simp at h
  unfold itC
  split
  · rfl
  · split
    · rfl
    · split
      · rfl
      · split
        · rfl
        · split
          · rfl
          · split
            · rfl
            · rename_i h1 h2 h3 h4 h5 h6
              simp at h1 h2 h3 h4 h5 h6
              simp [h1, h2] at h
              omega
theorem itC_nsyn {n : Nat} {inn nx : Bool} {P L : Nat} (h : synB inn nx P L = false) : itC n inn nx P L = if inW n P L = true then 0 else 2 := by
  unfold synB at h
  simp at h
  obtain ⟨⟨⟨⟨⟨h1, h2⟩, h3⟩, h4⟩, h5⟩, h6⟩ := h
  unfold itC
  simp [h1, h2, h3, h6]
  rw [if_neg (by omega), if_neg (by omega)]
/-- The specification's ReadChain between two rounds. -/
structure SR (w u : World) (cs : Array Value) (T : Nat) (v : Value) (zs : List BU) : Prop where
  two : TwoBx w u cs 24 #[.int .i64 0, .slice none 0 0] 150
  box : u.heap[T]? = some (.cells #[.int .i64 0, v] 150 (0, 0))
  row : u.ownsRow (T + 1) 153 3 v zs.length (buR zs)
  ge : w.heap.size + 2 ≤ T
theorem SR.lt {w u : World} {cs : Array Value} {T : Nat} {v : Value} {zs : List BU} (h : SR w u cs T v zs) : T < u.heap.size := (Array.getElem?_eq_some_iff.1 h.box).1
theorem SR.step {w u u' : World} {cs : Array Value} {T : Nat} {v : Value} {zs : List BU} (h : SR w u cs T v zs) (hb : Below u.heap.size u u') : SR w u' cs T v zs := ⟨h.two.step hb, (hb.block _ h.lt).trans h.box, bu_below h.row hb, h.ge⟩
theorem SR.dn {w u : World} {cs : Array Value} {T : Nat} {v : Value} {zs : List BU} (h : SR w u cs T v zs) (n : Nat) : SR w (u.drewN n) cs T v zs := h.step (bdn (Below.refl _ _) n)
theorem SR.poke {w u : World} {cs : Array Value} {T : Nat} {v : Value} {zs : List BU} (h : SR w u cs T v zs) (B o : Nat) (x : Value) (hB : T < B) (hv : v.ownBlock ≠ some B) : SR w (u.setCell ⟨B, o, none⟩ x) cs T v zs := by
  have hge := h.ge
  exact ⟨⟨h.two.bel.setCell (by simp; omega) _, (Below.heap_setCell _ _ _ _ (by simp; omega)).trans h.two.b1, (Below.heap_setCell _ _ _ _ (by simp; omega)).trans h.two.b2⟩, (Below.heap_setCell _ _ _ _ (by simp; omega)).trans h.box, own_set h.row hv, hge⟩
theorem SR.app {w u x : World} {cs : Array Value} {T : Nat} {v v' : Value} {zs : List BU} {z : BU} (h : SR w u cs T v zs) (ho : x.ownsRow (T + 1) 153 3 v' (zs.length + 1) (buR zs ++ buC z)) (hg : u.grownBy x v.ownBlock) : SR w (x.setCell ⟨T, 1, none⟩ v') cs T v' (zs ++ [z]) := by
  have hne : ∀ k, k < T + 1 → v.ownBlock ≠ some k := fun k hk e => by have := (h.row.lt _ e).1; omega
  have hlt := h.lt
  have hge := h.ge
  have hbx : x.heap[T]? = some (.cells #[.int .i64 0, v] 150 (0, 0)) := (hg.block _ hlt (fun e => hne _ (by omega) e.symm)).trans h.box
  have hbl : Below w.heap.size w x := ⟨hg.os.trans h.two.bel.os, hg.tape.trans h.two.bel.tape, hg.output.trans h.two.bel.output, Nat.le_trans h.two.bel.size hg.size, fun k hk => (hg.block k (Nat.lt_of_lt_of_le hk h.two.bel.size) (fun e => hne _ (by omega) e.symm)).trans (h.two.bel.block k hk)⟩
  refine ⟨⟨hbl.setCell (by simp; omega) _, (Below.heap_setCell _ _ _ _ (by simp; omega)).trans ((hg.block _ (by omega) (fun e => hne _ (by omega) e.symm)).trans h.two.b1), (Below.heap_setCell _ _ _ _ (by simp; omega)).trans ((hg.block _ (by omega) (fun e => hne _ (by omega) e.symm)).trans h.two.b2)⟩, ?_, ?_, hge⟩
  · simp [World.setCell, Array.getElem?_modify, hbx]
  · have e1 : (zs ++ [z]).length = zs.length + 1 := by simp
    have e2 : buR (zs ++ [z]) = buR zs ++ buC z := by rw [buR_app]; simp [buR]
    rw [e1, e2]
    refine own_set ho (fun e => ?_)
    have h9 := (ho.lt _ e).1
    simp at h9
    omega
theorem SR.cels {w u : World} {cs : Array Value} {T : Nat} {v : Value} {zs : List BU} (h : SR w u cs T v zs) : u.cell? ⟨T, 0, none⟩ = some (.int .i64 0) ∧ u.cell? ⟨T, 1, none⟩ = some v ∧ (∀ k, u.frozen? ⟨T, k, none⟩ = false) := ⟨bC h.box 0 _ rfl, bC h.box 1 _ rfl, fun k => bF h.box k⟩
theorem SR.res {w u : World} {cs : Array Value} {T : Nat} {v : Value} {zs : List BU} (h : SR w u cs T v zs) : u.cell? ⟨w.heap.size + 1, 0, none⟩ = some (.int .i64 0) ∧ u.cell? ⟨w.heap.size + 1, 1, none⟩ = some (.slice none 0 0) ∧ (∀ k, u.frozen? ⟨w.heap.size + 1, k, none⟩ = false) ∧ w.heap.size + 1 < u.heap.size := ⟨bC h.two.b2 0 _ rfl, bC h.two.b2 1 _ rfl, fun k => bF h.two.b2 k, h.two.lt⟩
theorem SR.code {w u : World} {cs : Array Value} {T : Nat} {v : Value} {zs : List BU} (h : SR w u cs T v zs) (x y : Value) : Below w.heap.size w ((u.setCell ⟨w.heap.size + 1, 0, none⟩ x).setCell ⟨w.heap.size + 1, 1, none⟩ y) := (h.two.bel.setCell (by simp) _).setCell (by simp) _
/-- .. and a buffer in its box. -/
structure SB (w u : World) (cs : Array Value) (T : Nat) (v : Value) (zs : List BU) (B : Nat) (ds : Array Value) : Prop where
  sr : SR w u cs T v zs
  bx : u.heap[B]? = some (.cells ds 153 (0, 0))
  nb : v.ownBlock ≠ some B
  gt : T < B
theorem SB.lt {w u : World} {cs ds : Array Value} {T B : Nat} {v : Value} {zs : List BU} (h : SB w u cs T v zs B ds) : B < u.heap.size := (Array.getElem?_eq_some_iff.1 h.bx).1
theorem SB.new {w u : World} {cs : Array Value} {T : Nat} {v : Value} {zs : List BU} (h : SR w u cs T v zs) (ds : Array Value) : SB w (u.alloc (.cells ds 153)) cs T v zs u.heap.size ds := ⟨h.step (bx1 _ _), heap_new _ _, fun e => by have := (h.row.lt _ e).2; omega, h.lt⟩
theorem SB.step {w u u' : World} {cs ds : Array Value} {T B : Nat} {v : Value} {zs : List BU} (h : SB w u cs T v zs B ds) (hb : Below u.heap.size u u') : SB w u' cs T v zs B ds := ⟨h.sr.step hb, (hb.block _ h.lt).trans h.bx, h.nb, h.gt⟩
theorem SB.dn {w u : World} {cs ds : Array Value} {T B : Nat} {v : Value} {zs : List BU} (h : SB w u cs T v zs B ds) (n : Nat) : SB w (u.drewN n) cs T v zs B ds := h.step (bdn (Below.refl _ _) n)
theorem SB.put {w u : World} {cs ds : Array Value} {T B : Nat} {v : Value} {zs : List BU} (h : SB w u cs T v zs B ds) (o : Nat) (x : Value) : SB w (u.setCell ⟨B, o, none⟩ x) cs T v zs B (ds.setIfInBounds o x) := ⟨h.sr.poke B o x h.gt h.nb, by simp [World.setCell, Array.getElem?_modify, h.bx], h.nb, h.gt⟩
theorem SB.cels {w u : World} {cs : Array Value} {T B : Nat} {v : Value} {zs : List BU} {a b : Int} {c : Bool} (h : SB w u cs T v zs B #[.int .i64 a, .int .i64 b, .bool c]) : u.cell? ⟨B, 0, none⟩ = some (.int .i64 a) ∧ u.cell? ⟨B, 1, none⟩ = some (.int .i64 b) ∧ u.cell? ⟨B, 2, none⟩ = some (.bool c) ∧ (∀ k, u.frozen? ⟨B, k, none⟩ = false) := ⟨bC h.bx 0 _ rfl, bC h.bx 1 _ rfl, bC h.bx 2 _ rfl, fun k => bF h.bx k⟩
set_option maxRecDepth 100000 in
set_option maxHeartbeats 4000000 in
theorem specRC_long (s : ByteArray) (q : QV) (hd : Int) (h : 65536 < s.size) : AnsC 86 s q hd (2, []) := by
  intro w
  have hdd : decide (65536 < (s.size : Int)) = true := decide_eq_true (by omega)
  obtain ⟨a1, a2, a3, a4, a5, a6⟩ := q
  unfold qA
  simp only
  clear h
  go_enter Try.func86, Try.ntmps86
  go_wp2_with fail
  refine bodyPost_ret (v := .agg #[.int .i64 2, .slice none 0 0]) ?_ rfl ⟨.slice none 0 0, rfl, World.ownsRow_nil _ _ _ _, ?_⟩
  · simp [results, Try.results86, go_sem]
  · exact (bx1 _ _).alloc (by simp) _
set_option maxRecDepth 100000 in
set_option maxHeartbeats 4000000 in
theorem specRC_form (s : ByteArray) (q : QV) (hd : Int) (h : ¬ 65536 < s.size) (hp : (qOk s q && hsB q.size hd) = false) : AnsC 86 s q hd (1, []) := by
  intro w
  have hdd : decide (65536 < (s.size : Int)) = false := decide_eq_false (by omega)
  have HP : Hid _ := fun u => specQueueFault_any s q u (by omega)
  obtain ⟨a1, a2, a3, a4, a5, a6⟩ := q
  simp only at hp
  unfold hsB at hp
  cases hq : qOk s ⟨a1, a2, a3, a4, a5, a6⟩
  · rw [qF_no hq] at HP
    unfold qA at HP ⊢
    simp only
    clear h hp hq
    go_enter Try.func86, Try.ntmps86
    go_wp2_with (go_at_call 40; refine Calls.mono (HP.out _) ?_; rintro e u1 ⟨rfl, hu1⟩; have HX1 : Hid _ := TwoBx.of _ _ _ _ _ hu1; clear hu1; have g0 := HX1.out.c2 0 _ rfl; have g1 := HX1.out.c2 1 _ rfl; have gf := fun k => HX1.out.f2 k)
    refine bodyPost_ret (v := .agg #[.int .i64 1, .slice none 0 0]) ?_ rfl ⟨.slice none 0 0, rfl, World.ownsRow_nil _ _ _ _, ?_⟩
    · simp [results, Try.results86, go_sem, g0, g1]
    · exact (HX1.out.bel.setCell (by simp) _).setCell (by simp) _
  rw [qF_ok hq] at HP
  rw [hq] at hp
  simp at hp
  unfold qA at HP ⊢
  simp only
  by_cases h0 : hd < 0
  · clear h hp hq
    go_enter Try.func86, Try.ntmps86
    go_wp2_with (go_at_call 40; refine Calls.mono (HP.out _) ?_; rintro e u1 ⟨rfl, hu1⟩; have HX1 : Hid _ := TwoBx.of _ _ _ _ _ hu1; clear hu1; have g0 := HX1.out.c2 0 _ rfl; have g1 := HX1.out.c2 1 _ rfl; have gf := fun k => HX1.out.f2 k)
    refine bodyPost_ret (v := .agg #[.int .i64 1, .slice none 0 0]) ?_ rfl ⟨.slice none 0 0, rfl, World.ownsRow_nil _ _ _ _, ?_⟩
    · simp [results, Try.results86, go_sem, g0, g1]
    · exact (HX1.out.bel.setCell (by simp) _).setCell (by simp) _
  have h1 : a1 ≤ hd := hp (by omega)
  clear h hp hq
  go_enter Try.func86, Try.ntmps86
  go_wp2_with (go_at_call 40; refine Calls.mono (HP.out _) ?_; rintro e u1 ⟨rfl, hu1⟩; have HX1 : Hid _ := TwoBx.of _ _ _ _ _ hu1; clear hu1; have g0 := HX1.out.c2 0 _ rfl; have g1 := HX1.out.c2 1 _ rfl; have gf := fun k => HX1.out.f2 k; have k0 := HX1.out.c1 0 _ rfl; have glt := HX1.out.lt; have gl0 : w.heap.size < u1.heap.size := by omega)
  refine bodyPost_ret (v := .agg #[.int .i64 1, .slice none 0 0]) ?_ rfl ⟨.slice none 0 0, rfl, World.ownsRow_nil _ _ _ _, ?_⟩
  · simp [results, Try.results86, go_sem, g0, g1]
  · exact (HX1.out.bel.setCell (by simp) _).setCell (by simp) _
end Go.Proofs.Ythhbfghbpapklab
