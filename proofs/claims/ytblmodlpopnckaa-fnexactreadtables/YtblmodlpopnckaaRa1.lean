import Derived.Test.YtblmodlpopnckaaLG
import Derived.Test.YtblmodlpopnckaaHl
import Derived.Deep.DeepCutAuto
import Derived.WalkKit
import Derived.ProofKit
import Derived.Test.YtblmodlpopnckaaBytesC
import Derived.Test.YtblmodlpopnckaaConv
import Derived.Test.YtblmodlpopnckaaOwnB
import Derived.Maps.AppendAt
import Derived.OwnWalk
import Derived.BigQuiet
import Derived.Deep.QuietTactic
import Derived.BigRegion
namespace Go.Proofs.Ytblmodlpopnckaa
open Go.ChangeShapes Go.WideShapes Go.ChangeAt Go.RowKit

theorem infoU8 : (Try.prog.info? 5).map (fun i => (i.zero, i.size, i.bytes)) = some (some (.int .u8 0), 1, 1) := by kernel_rfl
def ubR (zs : List Int) : List Value := zs.map (Value.int .u8)
theorem ubR_snoc (xs : List Int) (x : Int) : ubR (xs ++ [x]) = ubR xs ++ [.int .u8 x] := by simp [ubR]
/-- One byte more. -/
theorem app1B {w : World} {B n : Nat} {v : Value} {xs : List Value} (H0 : w.ownsRow B 5 1 v n xs) (x : Int) (hn : n ≤ 1048576) (hB : B ≤ w.heap.size) :
    ∃ v' u', (Builtin.append_ #[71, 71] 71 #[v, .slice (some ⟨w.heap.size, 0, none⟩) 1 1]).run Try.prog (w.alloc (.cells #[.int .u8 x] 5)) = .ok v' u' ∧ (u'.ownsRow B 5 1 v' (n + 1) (xs ++ [.int .u8 x]) ∧ (w.alloc (.cells #[.int .u8 x] 5)).grownBy u' v.ownBlock) := by
  obtain ⟨i0, hi0, hz0, hz1, hz2⟩ := info_parts infoU8
  obtain ⟨v', w', hr, h2, h3, _, _⟩ := run_append_own_at (P := Try.prog) (w.alloc (.cells #[.int .u8 x] 5)) B 71 71 5 i0 (.int .u8 0) 1 1 Try.underlying71 hi0 hz0 hz1 hz2 rfl (by decide) v n xs (World.ownsRow.alloc H0 _) ⟨w.heap.size, 0, none⟩ 1 1 [.int .u8 x] rfl (by
    intro j u hj
    match j, hj with
    | 0, hj =>
      simp at hj
      subst hj
      simp [Addr.add_lit]) (by intro u hu; simp at hu; subst hu; rfl) (by unfold maxLen; omega) (by omega) (by simp; omega)
  exact ⟨v', w', hr, h2, h3⟩
theorem u8_sl {w : World} {B n : Nat} {v : Value} {xs : List Value} (h : w.ownsRow B 5 1 v n xs) : ∃ ao cap, v = .slice ao n cap := by
  rcases h.2 with ⟨rfl, e⟩ | ⟨g, cap, cur, rfl, _⟩
  · exact ⟨none, 0, by rw [e]⟩
  · exact ⟨_, cap, rfl⟩
/-- Bytes of a text from a place on. -/
def btL (t : ByteArray) (a n : Nat) : List Int := (List.range n).map fun j => bt t (a + j)
theorem btL_len (t : ByteArray) (a n : Nat) : (btL t a n).length = n := by simp [btL]
theorem btL_succ (t : ByteArray) (a n : Nat) : btL t a (n + 1) = btL t a n ++ [bt t (a + n)] := by simp [btL, List.range_succ]
/-- A reader. -/
structure RD (U u : World) (b : Nat) (m : ByteArray) (a : Nat) (sm : Int) : Prop where
  g : U.grownBy u (some b)
  box : u.heap[b]? = some (.cells #[.string m, .int .i64 a, .int .u8 sm] 48)
theorem RD.lt {U u : World} {b : Nat} {m : ByteArray} {a : Nat} {sm : Int} (h : RD U u b m a sm) : b < u.heap.size := (Array.getElem?_eq_some_iff.1 h.box).1
theorem RD.step {U u u' : World} {b : Nat} {m : ByteArray} {a : Nat} {sm : Int} (h : RD U u b m a sm) (hb : Below u.heap.size u u') : RD U u' b m a sm :=
  ⟨h.g.trans ⟨hb.os, hb.tape, hb.output, hb.size, fun k hk _ => hb.block k hk⟩, (hb.block b h.lt).trans h.box⟩
theorem RD.c0 {U u : World} {b : Nat} {m : ByteArray} {a : Nat} {sm : Int} (h : RD U u b m a sm) : u.cell? ⟨b, 0, none⟩ = some (.string m) := by simp [World.cell?, h.box]
theorem RD.c1 {U u : World} {b : Nat} {m : ByteArray} {a : Nat} {sm : Int} (h : RD U u b m a sm) : u.cell? ⟨b, 1, none⟩ = some (.int .i64 a) := by simp [World.cell?, h.box]
theorem RD.c2 {U u : World} {b : Nat} {m : ByteArray} {a : Nat} {sm : Int} (h : RD U u b m a sm) : u.cell? ⟨b, 2, none⟩ = some (.int .u8 sm) := by simp [World.cell?, h.box]
theorem RD.fz {U u : World} {b : Nat} {m : ByteArray} {a : Nat} {sm : Int} (h : RD U u b m a sm) (k : Nat) : u.frozen? ⟨b, k, none⟩ = false := by simp [World.frozen?, h.box]
theorem RD.put {U u : World} {b : Nat} {m : ByteArray} {a : Nat} {sm : Int} (h : RD U u b m a sm) (a2 : Nat) (sm2 : Int) : RD U ((u.setCell ⟨b, 1, none⟩ (.int .i64 a2)).setCell ⟨b, 2, none⟩ (.int .u8 sm2)) b m a2 sm2 := by
  refine ⟨h.g.trans ⟨rfl, rfl, rfl, by simp [World.setCell], fun j hj hne => ?_⟩, ?_⟩
  · have hn : j ≠ b := fun e => hne (by rw [e])
    rw [Below.heap_setCell _ _ _ _ (by simpa using hn), Below.heap_setCell _ _ _ _ (by simpa using hn)]
  · have h2 := h.box
    simp [World.setCell, Array.getElem?_modify, h2]
set_option maxRecDepth 100000 in
set_option maxHeartbeats 4000000 in
theorem next_any {U u : World} {b : Nat} {m : ByteArray} {a : Nat} {sm : Int} (h : RD U u b m a sm) (ha : a < m.size) (hm : m.size ≤ 65536) : Calls Try.prog 45 #[.pointer (some ⟨b, 0, none⟩)] u fun e w' => e = .returned (.int .u8 (bt m a)) ∧ RD U w' b m (a + 1) (IntKind.u8.wrap (sm + bt m a)) := by
  have c0 := h.c0
  have c1 := h.c1
  have c2 := h.c2
  have f1 := h.fz 1
  have f2 := h.fz 2
  have bl := h.lt
  have hi := idx_str m a ha
  have HP : Hid (∀ U2, RD U U2 b m a sm → RD U ((U2.setCell ⟨b, 1, none⟩ (.int .i64 (a + 1 : Nat))).setCell ⟨b, 2, none⟩ (.int .u8 (IntKind.u8.wrap (sm + bt m a)))) b m (a + 1) (IntKind.u8.wrap (sm + bt m a))) := fun U2 h2 => h2.put _ _
  have HR : Hid (RD U u b m a sm) := h
  have ha0 : (0 : Int) ≤ (a : Int) := by omega
  have ha1 : (a : Int) < 65536 := by omega
  have ha2 : (a : Int) < (m.size : Int) := by omega
  clear h
  go_enter Try.func45, Try.ntmps45
  go_upto_region 1 with fail
  go_quiet (fail)
  go_wp2
  go_ret
  refine ⟨rfl, ?_⟩
  have h9 := HP.out u HR.out
  refine ⟨⟨h9.g.os, h9.g.tape, h9.g.output, h9.g.size, h9.g.block⟩, ?_⟩
  exact h9.box
end Go.Proofs.Ytblmodlpopnckaa
