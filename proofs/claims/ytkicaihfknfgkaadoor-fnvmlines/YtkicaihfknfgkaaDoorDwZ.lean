import Derived.Test.YtkicaihfknfgkaaDoorSrcZ
import Derived.Test.YtkicaihfknfgkaaDoorRowVMC1
import Derived.Test.YtkicaihfknfgkaaDoorLG
import Derived.Laws.ResultCell
import Derived.Deep.RegionLaw
import Derived.Deep.DeepCutAuto
import Derived.Test.YtkicaihfknfgkaaDoorRvX
namespace Go.Proofs.YtkicaihfknfgkaaDoor
open Go.ChangeShapes Go.WideShapes Go.ChangeAt Go.RowKit

def vmNames : List ByteArray := [⟨#[97]⟩, ⟨#[98]⟩, ⟨#[99]⟩, ⟨#[100]⟩, ⟨#[119, 101, 98, 45, 49]⟩, ⟨#[100, 98]⟩]
theorem blk_v {u : World} {b : Nat} {cs : Array Value} {t : TypeId} {z : Nat × Nat} (h : u.heap[b]? = some (.cells cs t z)) (o : Nat) (v : Value) : (u.setCell ⟨b, o, none⟩ v).heap[b]? = some (.cells (cs.setIfInBounds o v) t z) := by
  simp [World.setCell, Array.getElem?_modify, h]
theorem cel_v {u : World} {b t : Nat} {cs : Array Value} (h : u.heap[b]? = some (.cells cs t (0, 0))) (k : Nat) (v : Value) (hv : cs[k]? = some v) : u.cell? ⟨b, k, none⟩ = some v := by simp [World.cell?, h, hv]
theorem frz_v {u : World} {b t : Nat} {cs : Array Value} (h : u.heap[b]? = some (.cells cs t (0, 0))) : ∀ x, u.frozen? ⟨b, x, none⟩ = false := by simp [World.frozen?, h]
theorem g_setv {w u : World} {B0 b o : Nat} {y : Value} (h : w.grownBy u (some B0)) (hb : w.heap.size ≤ b) : w.grownBy (u.setCell ⟨b, o, none⟩ y) (some B0) :=
  ⟨h.os, h.tape, h.output, Nat.le_trans h.size (by simp [World.setCell]), fun k hk hn => (Below.heap_setCell _ _ _ _ (by simp only; omega)).trans (h.block k hk hn)⟩
theorem SrcOk.keepV {w w' : World} {b : Nat} {a : Option Addr} {len cap : Nat} (h : SrcOk w b a len cap) (hk : ∀ i, i ≤ b → w'.heap[i]? = w.heap[i]?) : SrcOk w' b a len cap := by
  obtain ⟨⟨p, m, z, hw, hr⟩, hc, hl⟩ := h
  refine ⟨⟨p, m, z, (hk b (Nat.le_refl _)).trans hw, hr⟩, ?_, hl⟩
  rcases hc with hc | ⟨cb, co, ha, hlt, hcc⟩
  · exact .inl hc
  · refine .inr ⟨cb, co, ha, hlt, fun i hi => ?_⟩
    obtain ⟨x, h0, h1, hx⟩ := hcc i hi
    exact ⟨x, h0, h1, (World.cell?_of_block (a := ⟨cb, co + i, none⟩) (hk cb (Nat.le_of_lt hlt))).trans hx⟩
theorem s_setv {u : World} {B0 b o : Nat} {y : Value} {a : Option Addr} {len cap : Nat} (h : SrcOk u B0 a len cap) (hb : B0 < b) : SrcOk (u.setCell ⟨b, o, none⟩ y) B0 a len cap :=
  h.keepV fun i hi => Below.heap_setCell _ _ _ _ (by simp only; omega)
theorem SrcOk.drewV {w : World} {b : Nat} {a : Option Addr} {len cap : Nat} (h : SrcOk w b a len cap) : SrcOk w.drew b a len cap := h.keepV fun _ _ => rfl
def KStr (B : Nat) (C : List ByteArray) (v : Value) (u : World) : Prop := ∃ p, v = .slice (some ⟨p, 0, none⟩) C.length C.length ∧ B ≤ p ∧ u.heap[p]? = some (.cells (C.map Value.string).toArray 9 (0, 0))
def KStP (B : Nat) (C : List ByteArray) (v : Value) (u : World) : Prop := ∃ p r : Nat, v = .pointer (some ⟨p, r, none⟩) ∧ r < C.length ∧ B ≤ p ∧ u.heap[p]? = some (.cells (C.map Value.string).toArray 9 (0, 0))
def KSt (v : Value) : Prop := ∃ s : ByteArray, v = .string s
theorem KStr.grow {B b : Nat} {C : List ByteArray} {v : Value} {u u' : World} (h : KStr B C v u) (hb : b < B) (hg : u.grownBy u' (some b)) : KStr B C v u' := by
  obtain ⟨p, h1, h2, h3⟩ := h
  exact ⟨p, h1, h2, (hg.block p (Array.getElem?_eq_some_iff.1 h3).1 (by simp; omega)).trans h3⟩
theorem KStP.grow {B b : Nat} {C : List ByteArray} {v : Value} {u u' : World} (h : KStP B C v u) (hb : b < B) (hg : u.grownBy u' (some b)) : KStP B C v u' := by
  obtain ⟨p, r, h1, h0, h2, h3⟩ := h
  exact ⟨p, r, h1, h0, h2, (hg.block p (Array.getElem?_eq_some_iff.1 h3).1 (by simp; omega)).trans h3⟩
theorem str_cell {u : World} {p r : Nat} {C : List ByteArray} {t : TypeId} (h : u.heap[p]? = some (.cells (C.map Value.string).toArray t (0, 0))) (hr : r < C.length) : u.cell? ⟨p, r, none⟩ = some (.string C[r]) := by
  simp [World.cell?, h, List.getElem?_map, List.getElem?_eq_getElem hr]
def KVM (v : Value) : Prop := ∃ m : VMC, v = .agg #[.string m.name, .int .i64 m.tenant, .int .i64 m.cpu, .int .i64 m.mem, .int .i64 m.zone, .int .i64 m.apart, .string m.node, .int .i64 m.epoch]
def KVx (B : Nat) (v : Value) (u : World) : Prop := ∃ p, v = .pointer (some ⟨p, 0, none⟩) ∧ B ≤ p ∧ u.heap[p]? = some (.cells #[.string ⟨#[]⟩, .int .i64 0, .int .i64 0, .int .i64 0, .int .i64 0, .int .i64 0, .string ⟨#[]⟩, .int .i64 0] 23 (0, 0))
theorem KVx.grow {B b : Nat} {v : Value} {u u' : World} (h : KVx B v u) (hb : b < B) (hg : u.grownBy u' (some b)) : KVx B v u' := by
  obtain ⟨p, h1, h2, h3⟩ := h
  exact ⟨p, h1, h2, (hg.block _ (Array.getElem?_eq_some_iff.1 h3).1 (by simp; omega)).trans h3⟩
/-- A machine in its box, behind a source's draws. -/
structure VmF (B0 : Nat) (a : Option Addr) (len cap : Nat) (w : World) (p : Nat) (m : VMC) (u : World) : Prop where
  box : u.heap[p]? = some (.cells #[.string m.name, .int .i64 m.tenant, .int .i64 m.cpu, .int .i64 m.mem, .int .i64 m.zone, .int .i64 m.apart, .string m.node, .int .i64 m.epoch] 23 (0, 0))
  src : SrcOk u B0 a len cap
  gr : w.grownBy u (some B0)
  le : w.heap.size ≤ p
theorem VmF.grow {B0 : Nat} {a : Option Addr} {len cap : Nat} {w : World} {p : Nat} {m : VMC} {u u' : World} (h : VmF B0 a len cap w p m u) (hl : B0 < w.heap.size) (hs : SrcOk u' B0 a len cap) (hg : u.grownBy u' (some B0)) : VmF B0 a len cap w p m u' :=
  ⟨(hg.block _ (Array.getElem?_eq_some_iff.1 h.box).1 (by have := h.le; simp; omega)).trans h.box, hs, Lib.grownBy_trans h.gr hg, h.le⟩
theorem VmF.far {B0 : Nat} {a : Option Addr} {len cap : Nat} {w : World} {p : Nat} {m : VMC} {u : World} (h : VmF B0 a len cap w p m u) (o : Obj) : VmF B0 a len cap w p m (u.alloc o) :=
  ⟨((bx1 u o).block _ (Array.getElem?_eq_some_iff.1 h.box).1).trans h.box, h.src.far (World.grownBy_alloc _ _ none), Lib.grownBy_trans h.gr gAl, h.le⟩
theorem VmF.cel {B0 : Nat} {a : Option Addr} {len cap : Nat} {w : World} {p : Nat} {m : VMC} {u : World} (h : VmF B0 a len cap w p m u) (k : Nat) (v : Value) (hv : (#[.string m.name, .int .i64 m.tenant, .int .i64 m.cpu, .int .i64 m.mem, .int .i64 m.zone, .int .i64 m.apart, .string m.node, .int .i64 m.epoch] : Array Value)[k]? = some v) : u.cell? ⟨p, k, none⟩ = some v := cel_v h.box k v hv
theorem VmF.lt {B0 : Nat} {a : Option Addr} {len cap : Nat} {w : World} {p : Nat} {m : VMC} {u : World} (h : VmF B0 a len cap w p m u) : p < u.heap.size := (Array.getElem?_eq_some_iff.1 h.box).1
theorem VmF.frz {B0 : Nat} {a : Option Addr} {len cap : Nat} {w : World} {p : Nat} {m : VMC} {u : World} (h : VmF B0 a len cap w p m u) : ∀ x, u.frozen? ⟨p, x, none⟩ = false := frz_v h.box
theorem VmF.set0 {B0 : Nat} {a : Option Addr} {len cap : Nat} {w : World} {p : Nat} {m : VMC} {u : World} (h : VmF B0 a len cap w p m u) (hl : B0 < w.heap.size) (y : ByteArray) : VmF B0 a len cap w p { m with name := y } (u.setCell ⟨p, 0, none⟩ (.string y)) := by
  have := h.le
  exact ⟨blk_v h.box 0 _, s_setv h.src (by omega), g_setv h.gr h.le, h.le⟩
theorem VmF.set1 {B0 : Nat} {a : Option Addr} {len cap : Nat} {w : World} {p : Nat} {m : VMC} {u : World} (h : VmF B0 a len cap w p m u) (hl : B0 < w.heap.size) (y : Int) : VmF B0 a len cap w p { m with tenant := y } (u.setCell ⟨p, 1, none⟩ (.int .i64 y)) := by
  have := h.le
  exact ⟨blk_v h.box 1 _, s_setv h.src (by omega), g_setv h.gr h.le, h.le⟩
theorem VmF.set2 {B0 : Nat} {a : Option Addr} {len cap : Nat} {w : World} {p : Nat} {m : VMC} {u : World} (h : VmF B0 a len cap w p m u) (hl : B0 < w.heap.size) (y : Int) : VmF B0 a len cap w p { m with cpu := y } (u.setCell ⟨p, 2, none⟩ (.int .i64 y)) := by
  have := h.le
  exact ⟨blk_v h.box 2 _, s_setv h.src (by omega), g_setv h.gr h.le, h.le⟩
theorem VmF.set3 {B0 : Nat} {a : Option Addr} {len cap : Nat} {w : World} {p : Nat} {m : VMC} {u : World} (h : VmF B0 a len cap w p m u) (hl : B0 < w.heap.size) (y : Int) : VmF B0 a len cap w p { m with mem := y } (u.setCell ⟨p, 3, none⟩ (.int .i64 y)) := by
  have := h.le
  exact ⟨blk_v h.box 3 _, s_setv h.src (by omega), g_setv h.gr h.le, h.le⟩
theorem VmF.set4 {B0 : Nat} {a : Option Addr} {len cap : Nat} {w : World} {p : Nat} {m : VMC} {u : World} (h : VmF B0 a len cap w p m u) (hl : B0 < w.heap.size) (y : Int) : VmF B0 a len cap w p { m with zone := y } (u.setCell ⟨p, 4, none⟩ (.int .i64 y)) := by
  have := h.le
  exact ⟨blk_v h.box 4 _, s_setv h.src (by omega), g_setv h.gr h.le, h.le⟩
theorem VmF.set5 {B0 : Nat} {a : Option Addr} {len cap : Nat} {w : World} {p : Nat} {m : VMC} {u : World} (h : VmF B0 a len cap w p m u) (hl : B0 < w.heap.size) (y : Int) : VmF B0 a len cap w p { m with apart := y } (u.setCell ⟨p, 5, none⟩ (.int .i64 y)) := by
  have := h.le
  exact ⟨blk_v h.box 5 _, s_setv h.src (by omega), g_setv h.gr h.le, h.le⟩
theorem VmF.set6 {B0 : Nat} {a : Option Addr} {len cap : Nat} {w : World} {p : Nat} {m : VMC} {u : World} (h : VmF B0 a len cap w p m u) (hl : B0 < w.heap.size) (y : ByteArray) : VmF B0 a len cap w p { m with node := y } (u.setCell ⟨p, 6, none⟩ (.string y)) := by
  have := h.le
  exact ⟨blk_v h.box 6 _, s_setv h.src (by omega), g_setv h.gr h.le, h.le⟩
theorem VmF.set7 {B0 : Nat} {a : Option Addr} {len cap : Nat} {w : World} {p : Nat} {m : VMC} {u : World} (h : VmF B0 a len cap w p m u) (hl : B0 < w.heap.size) (y : Int) : VmF B0 a len cap w p { m with epoch := y } (u.setCell ⟨p, 7, none⟩ (.int .i64 y)) := by
  have := h.le
  exact ⟨blk_v h.box 7 _, s_setv h.src (by omega), g_setv h.gr h.le, h.le⟩
structure VmR (B0 B : Nat) (w : World) (a : Option Addr) (len cap : Nat) (b0 b1 b2 b3 b4 b5 b6 b7 b8 b9 b10 b11 b12 b13 b14 b15 : Bool) (v4 v5 v6 v7 v8 v9 v10 v11 v12 v13 v14 v15 v16 v17 v3 : Value) (u : World) : Prop where
  lt : B0 < B
  le : B ≤ w.heap.size
  src : SrcOk u B0 a len cap
  gr : w.grownBy u (some B0)
  c0 : b0 = true → KStr B vmNames v4 u
  c1 : b1 = true → KSrc B0 v5
  c2 : b2 = true → KNum 0 5 v6
  c3 : b3 = true → KStP B vmNames v7 u
  c4 : b4 = true → KSt v8
  c5 : b5 = true → KSrc B0 v9
  c6 : b6 = true → KNum 0 1 v10
  c7 : b7 = true → KSrc B0 v11
  c8 : b8 = true → KNum 0 3 v12
  c9 : b9 = true → KNum 1 4 v13
  c10 : b10 = true → KSrc B0 v14
  c11 : b11 = true → KNum 0 7 v15
  c12 : b12 = true → KNum 1 8 v16
  c13 : b13 = true → KVM v17
  c14 : b14 = true → KVx B v3 u
set_option maxRecDepth 100000 in
set_option maxHeartbeats 16000000 in
theorem src_vm (B0 : Nat) (a : Option Addr) (len cap : Nat) (w : World) (h : SrcOk w B0 a len cap) :
    Calls Tryd.prog 27 #[.pointer (some ⟨B0, 0, none⟩)] w fun e w' => ∃ m : VMC, e = .returned (.agg #[.string m.name, .int .i64 m.tenant, .int .i64 m.cpu, .int .i64 m.mem, .int .i64 m.zone, .int .i64 m.apart, .string m.node, .int .i64 m.epoch]) ∧ SrcOk w' B0 a len cap ∧ w.grownBy w' (some B0) := by
  have HLW : Hid (B0 < w.heap.size) := h.lt
  have HS : Hid (SrcOk (w.alloc (.cells #[.string ⟨#[]⟩, .int .i64 0, .int .i64 0, .int .i64 0, .int .i64 0, .int .i64 0, .string ⟨#[]⟩, .int .i64 0] 23)) B0 a len cap) := h.far (World.grownBy_alloc _ _ none)
  have HG : Hid (w.grownBy (w.alloc (.cells #[.string ⟨#[]⟩, .int .i64 0, .int .i64 0, .int .i64 0, .int .i64 0, .int .i64 0, .string ⟨#[]⟩, .int .i64 0] 23)) (some B0)) := World.grownBy_alloc _ _ _
  have HRB : Hid ((w.alloc (.cells #[.string ⟨#[]⟩, .int .i64 0, .int .i64 0, .int .i64 0, .int .i64 0, .int .i64 0, .string ⟨#[]⟩, .int .i64 0] 23)).heap[w.heap.size]? = some (.cells #[.string ⟨#[]⟩, .int .i64 0, .int .i64 0, .int .i64 0, .int .i64 0, .int .i64 0, .string ⟨#[]⟩, .int .i64 0] 23 (0, 0))) := (MapKept.heap_alloc w _).1
  have HRL : Hid (w.heap.size < (w.alloc (.cells #[.string ⟨#[]⟩, .int .i64 0, .int .i64 0, .int .i64 0, .int .i64 0, .int .i64 0, .string ⟨#[]⟩, .int .i64 0] 23)).heap.size ∧ (w.alloc (.cells #[.string ⟨#[]⟩, .int .i64 0, .int .i64 0, .int .i64 0, .int .i64 0, .int .i64 0, .string ⟨#[]⟩, .int .i64 0] 23)).heap.size ≤ w.heap.size + 1) := ⟨by simp, by simp⟩
  clear h
  go_enter Tryd.func27, Tryd.ntmps27
  go_upto_region 1 with fail
  generalize w.alloc (.cells #[.string ⟨#[]⟩, .int .i64 0, .int .i64 0, .int .i64 0, .int .i64 0, .int .i64 0, .string ⟨#[]⟩, .int .i64 0] 23) = wr at *
  generalize hr0 : w.heap.size = r0 at HRB HRL HLW ⊢
  have HRE : Hid (w.heap.size = r0) := hr0
  clear hr0
  have HLT : Hid (B0 < wr.heap.size) := (show _ < _ by have := HLW.out; have := HRL.out; omega)
  refine wp_region_any (by kernel_rfl) ?_
  refine wpAny_inv (fun L a9 u => ∃ (b0 b1 b2 b3 b4 b5 b6 b7 b8 b9 b10 b11 b12 b13 b14 b15 : Bool) (v4 v5 v6 v7 v8 v9 v10 v11 v12 v13 v14 v15 v16 v17 v3 : Value), L = #[b0, b1, b2, b3, b4, b5, b6, b7, b8, b9, b10, b11, b12, b13, b14, b15] ∧ a9 = { tmps := #[.pointer (some ⟨B0, 0, none⟩), undef, .pointer (some ⟨r0, 0, none⟩), v3, v4, v5, v6, v7, v8, v9, v10, v11, v12, v13, v14, v15, v16, v17, undef, undef, undef, undef, undef, undef, undef, undef, undef, undef, undef, undef, undef], defers := [] } ∧ ((b15 = false ∧ VmR B0 wr.heap.size wr a len cap b0 b1 b2 b3 b4 b5 b6 b7 b8 b9 b10 b11 b12 b13 b14 b15 v4 v5 v6 v7 v8 v9 v10 v11 v12 v13 v14 v15 v16 v17 v3 u) ∨ (b0 = true ∧ b1 = true ∧ b2 = true ∧ b3 = true ∧ b4 = true ∧ b5 = true ∧ b6 = true ∧ b7 = true ∧ b8 = true ∧ b9 = true ∧ b10 = true ∧ b11 = true ∧ b12 = true ∧ b13 = true ∧ b14 = true ∧ b15 = true ∧ ∃ (p : Nat) (m : VMC), v3 = .pointer (some ⟨p, 0, none⟩) ∧ VmF B0 a len cap wr p m u))) ?hs ?hd _ _ _ _ (by decide) ?st
  case st => exact ⟨false, false, false, false, false, false, false, false, false, false, false, false, false, false, false, false, undef, undef, undef, undef, undef, undef, undef, undef, undef, undef, undef, undef, undef, undef, undef, rfl, rfl, .inl ⟨rfl, ⟨HLT.out, Nat.le_refl _, HS.out.drewV, ⟨rfl, rfl, rfl, Nat.le_refl _, fun _ _ _ => rfl⟩, (fun e => by cases e), (fun e => by cases e), (fun e => by cases e), (fun e => by cases e), (fun e => by cases e), (fun e => by cases e), (fun e => by cases e), (fun e => by cases e), (fun e => by cases e), (fun e => by cases e), (fun e => by cases e), (fun e => by cases e), (fun e => by cases e), (fun e => by cases e), (fun e => by cases e)⟩⟩⟩
  case hd =>
    rintro L a9 u ⟨b0, b1, b2, b3, b4, b5, b6, b7, b8, b9, b10, b11, b12, b13, b14, b15, v4, v5, v6, v7, v8, v9, v10, v11, v12, v13, v14, v15, v16, v17, v3, rfl, rfl, hI⟩ hr
    have hall := fun he hL => all_up (md := _) he hL hr
    have hall2 := hall (by kernel_rfl) rfl
    rcases hI with ⟨rfl, hI⟩ | ⟨rfl, rfl, rfl, rfl, rfl, rfl, rfl, rfl, rfl, rfl, rfl, rfl, rfl, rfl, rfl, rfl, p, m, rfl, hM⟩
    · exact Bool.noConfusion (show false = true from hall2 15 (by decide))
    have HM : Hid (VmF B0 a len cap wr p m u) := hM
    clear hM hr hall hall2
    clear HS
    have HR : Hid (∀ u9 m9, VmF B0 a len cap wr p m9 u9 → u9.heap[r0]? = some (.cells #[.string ⟨#[]⟩, .int .i64 0, .int .i64 0, .int .i64 0, .int .i64 0, .int .i64 0, .string ⟨#[]⟩, .int .i64 0] 23 (0, 0)) ∧ r0 ≠ p) := fun u9 m9 h9 => ⟨(h9.gr.block r0 HRL.out.1 (by simp; have := HLW.out; omega)).trans HRB.out, by have := h9.le; have := HRL.out.1; omega⟩
    have HN2 : Hid (∀ u9, SrcOk u9 B0 a len cap → Calls Tryd.prog 29 #[.pointer (some ⟨B0, 0, none⟩), .int .i64 2] u9 fun e w' => ∃ r, e = .returned (.int .i64 r) ∧ 0 ≤ r ∧ r ≤ 1 ∧ SrcOk w' B0 a len cap ∧ u9.grownBy w' (some B0)) := fun u9 h9 => Calls.mono (src_n B0 a len cap 2 u9 h9 (by omega)) (by rintro e w' ⟨r, rfl, r0, r1, hs, hg⟩; exact ⟨r, rfl, r0, by omega, hs, hg⟩)
    have HO : Hid (∀ q u9, q ≤ 9 → SrcOk u9 B0 a len cap → Calls Tryd.prog 28 #[.pointer (some ⟨B0, 0, none⟩), .int .i64 q] u9 fun e w' => ∃ t : Bool, e = .returned (.bool t) ∧ SrcOk w' B0 a len cap ∧ u9.grownBy w' (some B0)) := fun q u9 hq h9 => Calls.mono (src_one B0 a len cap q u9 h9 (by omega)) (by rintro e w' ⟨t, rfl, hs, hg⟩; exact ⟨t, rfl, hs, hg⟩)
    have HA : Hid (VmF B0 a len cap wr p m u) := HM.out
    clear HM
    go_wp2_with fail
    refine Calls.mono (HO.out 4 _ (by omega) HA.out.src) ?_
    rintro e u2 ⟨t2, rfl, hs, hg⟩
    have HA2 : Hid (VmF B0 a len cap wr p m u2) := HA.out.grow HLT.out hs hg
    clear hs hg HA
    cases t2
    · go_wp2_with fail
      refine Calls.mono (HO.out 3 _ (by omega) HA2.out.src) ?_
      rintro e u5 ⟨t5, rfl, hs, hg⟩
      have HA5 : Hid (VmF B0 a len cap wr p m u5) := HA2.out.grow HLT.out hs hg
      clear hs hg HA2
      cases t5
      · skip
        have HZ : Hid _ := HR.out _ _ HA5.out
        have z0 := cel_v HZ.out.1 0 _ rfl
        have z1 := cel_v HZ.out.1 1 _ rfl
        have z2 := cel_v HZ.out.1 2 _ rfl
        have z3 := cel_v HZ.out.1 3 _ rfl
        have z4 := cel_v HZ.out.1 4 _ rfl
        have z5 := cel_v HZ.out.1 5 _ rfl
        have z6 := cel_v HZ.out.1 6 _ rfl
        have z7 := cel_v HZ.out.1 7 _ rfl
        have zf := frz_v HZ.out.1
        have zl := (Array.getElem?_eq_some_iff.1 HZ.out.1).1
        have k0 := HA5.out.cel 0 _ rfl
        have k1 := HA5.out.cel 1 _ rfl
        have k2 := HA5.out.cel 2 _ rfl
        have k3 := HA5.out.cel 3 _ rfl
        have k4 := HA5.out.cel 4 _ rfl
        have k5 := HA5.out.cel 5 _ rfl
        have k6 := HA5.out.cel 6 _ rfl
        have k7 := HA5.out.cel 7 _ rfl
        have kl := HA5.out.lt
        go_wp2
        refine bodyPost_ret (v := .agg #[.string m.name, .int .i64 m.tenant, .int .i64 m.cpu, .int .i64 m.mem, .int .i64 m.zone, .int .i64 m.apart, .string m.node, .int .i64 m.epoch]) ?_ rfl ⟨m, rfl, ?_, ?_⟩
        · simp only [results, Tryd.results27, go_sem]
          simp [go_sem, z0, z1, z2, z3, z4, z5, z6, z7]
        · have hs := HA5.out.src
          have hb := HLW.out
          repeat refine s_setv ?_ hb
          exact hs
        · have hg := Lib.grownBy_trans HG.out HA5.out.gr
          have hb := HRE.out
          repeat refine g_setv ?_ (Nat.le_of_eq hb)
          exact hg
      · go_wp2_with fail
        refine Calls.mono (HN2.out _ HA5.out.src) ?_
        rintro e u6 ⟨r6, rfl, r60, r61, hs, hg⟩
        have HA6 : Hid (VmF B0 a len cap wr p m u6) := HA5.out.grow HLT.out hs hg
        clear hs hg HA5
        have qc := HA6.out.cel 5 _ rfl
        have qf := HA6.out.frz
        have ql := HA6.out.lt
        go_upto_region 6 with fail
        have HA7 : Hid (VmF B0 a len cap wr p { m with apart := 1 + r6 } (u6.setCell ⟨p, 5, none⟩ (.int .i64 (1 + r6)))) := HA6.out.set5 HLT.out _
        clear qc qf ql HA6
        generalize ({ m with apart := 1 + r6 } : VMC) = m7 at *
        generalize (u6.setCell ⟨p, 5, none⟩ (.int .i64 (1 + r6))) = u7 at *
        have HZ : Hid _ := HR.out _ _ HA7.out
        have z0 := cel_v HZ.out.1 0 _ rfl
        have z1 := cel_v HZ.out.1 1 _ rfl
        have z2 := cel_v HZ.out.1 2 _ rfl
        have z3 := cel_v HZ.out.1 3 _ rfl
        have z4 := cel_v HZ.out.1 4 _ rfl
        have z5 := cel_v HZ.out.1 5 _ rfl
        have z6 := cel_v HZ.out.1 6 _ rfl
        have z7 := cel_v HZ.out.1 7 _ rfl
        have zf := frz_v HZ.out.1
        have zl := (Array.getElem?_eq_some_iff.1 HZ.out.1).1
        have k0 := HA7.out.cel 0 _ rfl
        have k1 := HA7.out.cel 1 _ rfl
        have k2 := HA7.out.cel 2 _ rfl
        have k3 := HA7.out.cel 3 _ rfl
        have k4 := HA7.out.cel 4 _ rfl
        have k5 := HA7.out.cel 5 _ rfl
        have k6 := HA7.out.cel 6 _ rfl
        have k7 := HA7.out.cel 7 _ rfl
        have kl := HA7.out.lt
        go_wp2
        refine bodyPost_ret (v := .agg #[.string m7.name, .int .i64 m7.tenant, .int .i64 m7.cpu, .int .i64 m7.mem, .int .i64 m7.zone, .int .i64 m7.apart, .string m7.node, .int .i64 m7.epoch]) ?_ rfl ⟨m7, rfl, ?_, ?_⟩
        · simp only [results, Tryd.results27, go_sem]
          simp [go_sem, z0, z1, z2, z3, z4, z5, z6, z7]
        · have hs := HA7.out.src
          have hb := HLW.out
          repeat refine s_setv ?_ hb
          exact hs
        · have hg := Lib.grownBy_trans HG.out HA7.out.gr
          have hb := HRE.out
          repeat refine g_setv ?_ (Nat.le_of_eq hb)
          exact hg
    · go_wp2_with fail
      refine Calls.mono (HN2.out _ HA2.out.src) ?_
      rintro e u3 ⟨r3, rfl, r30, r31, hs, hg⟩
      have HA3 : Hid (VmF B0 a len cap wr p m u3) := HA2.out.grow HLT.out hs hg
      clear hs hg HA2
      have qc := HA3.out.cel 4 _ rfl
      have qf := HA3.out.frz
      have ql := HA3.out.lt
      go_wp2_with fail
      have HA4 : Hid (VmF B0 a len cap wr p { m with zone := 1 + r3 } (u3.setCell ⟨p, 4, none⟩ (.int .i64 (1 + r3)))) := HA3.out.set4 HLT.out _
      clear qc qf ql HA3
      generalize ({ m with zone := 1 + r3 } : VMC) = m4 at *
      generalize (u3.setCell ⟨p, 4, none⟩ (.int .i64 (1 + r3))) = u4 at *
      refine Calls.mono (HO.out 3 _ (by omega) HA4.out.src) ?_
      rintro e u5 ⟨t5, rfl, hs, hg⟩
      have HA5 : Hid (VmF B0 a len cap wr p m4 u5) := HA4.out.grow HLT.out hs hg
      clear hs hg HA4
      cases t5
      · skip
        have HZ : Hid _ := HR.out _ _ HA5.out
        have z0 := cel_v HZ.out.1 0 _ rfl
        have z1 := cel_v HZ.out.1 1 _ rfl
        have z2 := cel_v HZ.out.1 2 _ rfl
        have z3 := cel_v HZ.out.1 3 _ rfl
        have z4 := cel_v HZ.out.1 4 _ rfl
        have z5 := cel_v HZ.out.1 5 _ rfl
        have z6 := cel_v HZ.out.1 6 _ rfl
        have z7 := cel_v HZ.out.1 7 _ rfl
        have zf := frz_v HZ.out.1
        have zl := (Array.getElem?_eq_some_iff.1 HZ.out.1).1
        have k0 := HA5.out.cel 0 _ rfl
        have k1 := HA5.out.cel 1 _ rfl
        have k2 := HA5.out.cel 2 _ rfl
        have k3 := HA5.out.cel 3 _ rfl
        have k4 := HA5.out.cel 4 _ rfl
        have k5 := HA5.out.cel 5 _ rfl
        have k6 := HA5.out.cel 6 _ rfl
        have k7 := HA5.out.cel 7 _ rfl
        have kl := HA5.out.lt
        go_wp2
        refine bodyPost_ret (v := .agg #[.string m4.name, .int .i64 m4.tenant, .int .i64 m4.cpu, .int .i64 m4.mem, .int .i64 m4.zone, .int .i64 m4.apart, .string m4.node, .int .i64 m4.epoch]) ?_ rfl ⟨m4, rfl, ?_, ?_⟩
        · simp only [results, Tryd.results27, go_sem]
          simp [go_sem, z0, z1, z2, z3, z4, z5, z6, z7]
        · have hs := HA5.out.src
          have hb := HLW.out
          repeat refine s_setv ?_ hb
          exact hs
        · have hg := Lib.grownBy_trans HG.out HA5.out.gr
          have hb := HRE.out
          repeat refine g_setv ?_ (Nat.le_of_eq hb)
          exact hg
      · go_wp2_with fail
        refine Calls.mono (HN2.out _ HA5.out.src) ?_
        rintro e u6 ⟨r6, rfl, r60, r61, hs, hg⟩
        have HA6 : Hid (VmF B0 a len cap wr p m4 u6) := HA5.out.grow HLT.out hs hg
        clear hs hg HA5
        have qc := HA6.out.cel 5 _ rfl
        have qf := HA6.out.frz
        have ql := HA6.out.lt
        go_upto_region 6 with fail
        have HA7 : Hid (VmF B0 a len cap wr p { m4 with apart := 1 + r6 } (u6.setCell ⟨p, 5, none⟩ (.int .i64 (1 + r6)))) := HA6.out.set5 HLT.out _
        clear qc qf ql HA6
        generalize ({ m4 with apart := 1 + r6 } : VMC) = m7 at *
        generalize (u6.setCell ⟨p, 5, none⟩ (.int .i64 (1 + r6))) = u7 at *
        have HZ : Hid _ := HR.out _ _ HA7.out
        have z0 := cel_v HZ.out.1 0 _ rfl
        have z1 := cel_v HZ.out.1 1 _ rfl
        have z2 := cel_v HZ.out.1 2 _ rfl
        have z3 := cel_v HZ.out.1 3 _ rfl
        have z4 := cel_v HZ.out.1 4 _ rfl
        have z5 := cel_v HZ.out.1 5 _ rfl
        have z6 := cel_v HZ.out.1 6 _ rfl
        have z7 := cel_v HZ.out.1 7 _ rfl
        have zf := frz_v HZ.out.1
        have zl := (Array.getElem?_eq_some_iff.1 HZ.out.1).1
        have k0 := HA7.out.cel 0 _ rfl
        have k1 := HA7.out.cel 1 _ rfl
        have k2 := HA7.out.cel 2 _ rfl
        have k3 := HA7.out.cel 3 _ rfl
        have k4 := HA7.out.cel 4 _ rfl
        have k5 := HA7.out.cel 5 _ rfl
        have k6 := HA7.out.cel 6 _ rfl
        have k7 := HA7.out.cel 7 _ rfl
        have kl := HA7.out.lt
        go_wp2
        refine bodyPost_ret (v := .agg #[.string m7.name, .int .i64 m7.tenant, .int .i64 m7.cpu, .int .i64 m7.mem, .int .i64 m7.zone, .int .i64 m7.apart, .string m7.node, .int .i64 m7.epoch]) ?_ rfl ⟨m7, rfl, ?_, ?_⟩
        · simp only [results, Tryd.results27, go_sem]
          simp [go_sem, z0, z1, z2, z3, z4, z5, z6, z7]
        · have hs := HA7.out.src
          have hb := HLW.out
          repeat refine s_setv ?_ hb
          exact hs
        · have hg := Lib.grownBy_trans HG.out HA7.out.gr
          have hb := HRE.out
          repeat refine g_setv ?_ (Nat.le_of_eq hb)
          exact hg
  case hs =>
    rintro L a9 u i ⟨b0, b1, b2, b3, b4, b5, b6, b7, b8, b9, b10, b11, b12, b13, b14, b15, v4, v5, v6, v7, v8, v9, v10, v11, v12, v13, v14, v15, v16, v17, v3, rfl, rfl, hI⟩ hi
    obtain ⟨hf, o, ho, hall⟩ := mem_ready.1 hi
    have hi8 : i < 16 := (Array.getElem?_eq_some_iff.1 ho).1
    rcases hI with ⟨rfl, hI⟩ | ⟨rfl, rfl, rfl, rfl, rfl, rfl, rfl, rfl, rfl, rfl, rfl, rfl, rfl, rfl, rfl, rfl, _⟩
    · obtain rfl | rfl | rfl | rfl | rfl | rfl | rfl | rfl | rfl | rfl | rfl | rfl | rfl | rfl | rfl | rfl : i = 0 ∨ i = 1 ∨ i = 2 ∨ i = 3 ∨ i = 4 ∨ i = 5 ∨ i = 6 ∨ i = 7 ∨ i = 8 ∨ i = 9 ∨ i = 10 ∨ i = 11 ∨ i = 12 ∨ i = 13 ∨ i = 14 ∨ i = 15 := by omega
      · obtain rfl : b0 = false := hf
        have HI : Hid _ := hI
        clear hI hall hi
        refine wpOp_step rfl (fun K hK => ?_)
        go_simp
        have h := HI.out
        exact hK _ _ ⟨true, b1, b2, b3, b4, b5, b6, b7, b8, b9, b10, b11, b12, b13, b14, false, _, v5, v6, v7, v8, v9, v10, v11, v12, v13, v14, v15, v16, v17, v3, rfl, rfl, .inl ⟨rfl, ⟨h.lt, h.le, h.src.far (World.grownBy_alloc _ _ none), Lib.grownBy_trans h.gr gAl, fun _ => ⟨u.heap.size, rfl, Nat.le_trans h.le h.gr.size, (MapKept.heap_alloc u _).1⟩, h.c1, h.c2, fun e => (h.c3 e).grow h.lt gAl, h.c4, h.c5, h.c6, h.c7, h.c8, h.c9, h.c10, h.c11, h.c12, h.c13, fun e => (h.c14 e).grow h.lt gAl⟩⟩⟩
      · obtain rfl : b1 = false := hf
        have HI : Hid _ := hI
        clear hI hall hi
        refine wpOp_step rfl (fun K hK => ?_)
        go_simp
        have h := HI.out
        exact hK _ _ ⟨b0, true, b2, b3, b4, b5, b6, b7, b8, b9, b10, b11, b12, b13, b14, false, v4, _, v6, v7, v8, v9, v10, v11, v12, v13, v14, v15, v16, v17, v3, rfl, rfl, .inl ⟨rfl, ⟨h.lt, h.le, h.src, h.gr, h.c0, fun _ => rfl, h.c2, h.c3, h.c4, h.c5, h.c6, h.c7, h.c8, h.c9, h.c10, h.c11, h.c12, h.c13, h.c14⟩⟩⟩
      · obtain rfl : b2 = false := hf
        cases ho
        have hb1 : b1 = true := hall { on := 1, ground := .data } (by simp) rfl
        have e1 : v5 = .pointer (some ⟨B0, 0, none⟩) := hI.c1 hb1
        subst e1
        have HN : Hid _ := src_n B0 a len cap 6 u hI.src (by omega)
        have HI : Hid _ := hI
        clear hI hall hi
        refine wpOp_step rfl (fun K hK => ?_)
        go_simp
        refine Calls.mono HN.out ?_
        rintro e9 u5 ⟨r, rfl, r0, r1, hs5, hg5⟩
        have h := HI.out
        exact hK _ _ ⟨b0, b1, true, b3, b4, b5, b6, b7, b8, b9, b10, b11, b12, b13, b14, false, v4, _, _, v7, v8, v9, v10, v11, v12, v13, v14, v15, v16, v17, v3, rfl, rfl, .inl ⟨rfl, ⟨h.lt, h.le, hs5, Lib.grownBy_trans h.gr hg5, fun e => (h.c0 e).grow h.lt hg5, h.c1, fun _ => ⟨r, rfl, r0, by omega⟩, fun e => (h.c3 e).grow h.lt hg5, h.c4, h.c5, h.c6, h.c7, h.c8, h.c9, h.c10, h.c11, h.c12, h.c13, fun e => (h.c14 e).grow h.lt hg5⟩⟩⟩
      · obtain rfl : b3 = false := hf
        cases ho
        have hb0 : b0 = true := hall { on := 0, ground := .data } (by simp) rfl
        have hb2 : b2 = true := hall { on := 2, ground := .data } (by simp) rfl
        obtain ⟨p0, e0, p0b, p0c⟩ := hI.c0 hb0
        replace e0 : v4 = .slice (some ⟨p0, 0, none⟩) 6 6 := e0
        subst e0
        obtain ⟨y2, rfl, y2b, y2c⟩ := hI.c2 hb2
        have HI : Hid _ := hI
        obtain ⟨R, rfl⟩ := Int.eq_ofNat_of_zero_le y2b
        have R1 : (R : Int) < 6 := by omega
        have R0 : R < vmNames.length := (show R < 6 by omega)
        clear hI hall hi
        refine wpOp_step rfl (fun K hK => ?_)
        go_simp
        have h := HI.out
        exact hK _ _ ⟨b0, b1, b2, true, b4, b5, b6, b7, b8, b9, b10, b11, b12, b13, b14, false, _, v5, _, _, v8, v9, v10, v11, v12, v13, v14, v15, v16, v17, v3, rfl, rfl, .inl ⟨rfl, ⟨h.lt, h.le, h.src, h.gr, h.c0, h.c1, h.c2, fun _ => ⟨p0, R, rfl, R0, p0b, p0c⟩, h.c4, h.c5, h.c6, h.c7, h.c8, h.c9, h.c10, h.c11, h.c12, h.c13, h.c14⟩⟩⟩
      · obtain rfl : b4 = false := hf
        cases ho
        have hb3 : b3 = true := hall { on := 3, ground := .data } (by simp) rfl
        obtain ⟨p3, r3, rfl, r3b, p3b, p3c⟩ := hI.c3 hb3
        have HI : Hid _ := hI
        have hcl := str_cell p3c r3b
        have hlx : p3 < u.heap.size := (Array.getElem?_eq_some_iff.1 p3c).1
        generalize vmNames[r3] = y at hcl
        clear hI hall hi
        refine wpOp_step rfl (fun K hK => ?_)
        go_simp
        have h := HI.out
        exact hK _ _ ⟨b0, b1, b2, b3, true, b5, b6, b7, b8, b9, b10, b11, b12, b13, b14, false, v4, v5, v6, _, _, v9, v10, v11, v12, v13, v14, v15, v16, v17, v3, rfl, rfl, .inl ⟨rfl, ⟨h.lt, h.le, h.src, h.gr, h.c0, h.c1, h.c2, h.c3, fun _ => ⟨y, rfl⟩, h.c5, h.c6, h.c7, h.c8, h.c9, h.c10, h.c11, h.c12, h.c13, h.c14⟩⟩⟩
      · obtain rfl : b5 = false := hf
        have HI : Hid _ := hI
        clear hI hall hi
        refine wpOp_step rfl (fun K hK => ?_)
        go_simp
        have h := HI.out
        exact hK _ _ ⟨b0, b1, b2, b3, b4, true, b6, b7, b8, b9, b10, b11, b12, b13, b14, false, v4, v5, v6, v7, v8, _, v10, v11, v12, v13, v14, v15, v16, v17, v3, rfl, rfl, .inl ⟨rfl, ⟨h.lt, h.le, h.src, h.gr, h.c0, h.c1, h.c2, h.c3, h.c4, fun _ => rfl, h.c6, h.c7, h.c8, h.c9, h.c10, h.c11, h.c12, h.c13, h.c14⟩⟩⟩
      · obtain rfl : b6 = false := hf
        cases ho
        have hb5 : b5 = true := hall { on := 5, ground := .data } (by simp) rfl
        have e5 : v9 = .pointer (some ⟨B0, 0, none⟩) := hI.c5 hb5
        subst e5
        have HN : Hid _ := src_n B0 a len cap 2 u hI.src (by omega)
        have HI : Hid _ := hI
        clear hI hall hi
        refine wpOp_step rfl (fun K hK => ?_)
        go_simp
        refine Calls.mono HN.out ?_
        rintro e9 u5 ⟨r, rfl, r0, r1, hs5, hg5⟩
        have h := HI.out
        exact hK _ _ ⟨b0, b1, b2, b3, b4, b5, true, b7, b8, b9, b10, b11, b12, b13, b14, false, v4, v5, v6, v7, v8, _, _, v11, v12, v13, v14, v15, v16, v17, v3, rfl, rfl, .inl ⟨rfl, ⟨h.lt, h.le, hs5, Lib.grownBy_trans h.gr hg5, fun e => (h.c0 e).grow h.lt hg5, h.c1, h.c2, fun e => (h.c3 e).grow h.lt hg5, h.c4, h.c5, fun _ => ⟨r, rfl, r0, by omega⟩, h.c7, h.c8, h.c9, h.c10, h.c11, h.c12, h.c13, fun e => (h.c14 e).grow h.lt hg5⟩⟩⟩
      · obtain rfl : b7 = false := hf
        have HI : Hid _ := hI
        clear hI hall hi
        refine wpOp_step rfl (fun K hK => ?_)
        go_simp
        have h := HI.out
        exact hK _ _ ⟨b0, b1, b2, b3, b4, b5, b6, true, b8, b9, b10, b11, b12, b13, b14, false, v4, v5, v6, v7, v8, v9, v10, _, v12, v13, v14, v15, v16, v17, v3, rfl, rfl, .inl ⟨rfl, ⟨h.lt, h.le, h.src, h.gr, h.c0, h.c1, h.c2, h.c3, h.c4, h.c5, h.c6, fun _ => rfl, h.c8, h.c9, h.c10, h.c11, h.c12, h.c13, h.c14⟩⟩⟩
      · obtain rfl : b8 = false := hf
        cases ho
        have hb7 : b7 = true := hall { on := 7, ground := .data } (by simp) rfl
        have e7 : v11 = .pointer (some ⟨B0, 0, none⟩) := hI.c7 hb7
        subst e7
        have HN : Hid _ := src_n B0 a len cap 4 u hI.src (by omega)
        have HI : Hid _ := hI
        clear hI hall hi
        refine wpOp_step rfl (fun K hK => ?_)
        go_simp
        refine Calls.mono HN.out ?_
        rintro e9 u5 ⟨r, rfl, r0, r1, hs5, hg5⟩
        have h := HI.out
        exact hK _ _ ⟨b0, b1, b2, b3, b4, b5, b6, b7, true, b9, b10, b11, b12, b13, b14, false, v4, v5, v6, v7, v8, v9, v10, _, _, v13, v14, v15, v16, v17, v3, rfl, rfl, .inl ⟨rfl, ⟨h.lt, h.le, hs5, Lib.grownBy_trans h.gr hg5, fun e => (h.c0 e).grow h.lt hg5, h.c1, h.c2, fun e => (h.c3 e).grow h.lt hg5, h.c4, h.c5, h.c6, h.c7, fun _ => ⟨r, rfl, r0, by omega⟩, h.c9, h.c10, h.c11, h.c12, h.c13, fun e => (h.c14 e).grow h.lt hg5⟩⟩⟩
      · obtain rfl : b9 = false := hf
        cases ho
        have hb8 : b8 = true := hall { on := 8, ground := .data } (by simp) rfl
        obtain ⟨y8, rfl, y8b, y8c⟩ := hI.c8 hb8
        have HI : Hid _ := hI
        clear hI hall hi
        refine wpOp_step rfl (fun K hK => ?_)
        go_simp
        have h := HI.out
        exact hK _ _ ⟨b0, b1, b2, b3, b4, b5, b6, b7, b8, true, b10, b11, b12, b13, b14, false, v4, v5, v6, v7, v8, v9, v10, v11, _, _, v14, v15, v16, v17, v3, rfl, rfl, .inl ⟨rfl, ⟨h.lt, h.le, h.src, h.gr, h.c0, h.c1, h.c2, h.c3, h.c4, h.c5, h.c6, h.c7, h.c8, fun _ => ⟨_, rfl, by first | omega | (rw [IntKind.wrap_i64]; omega), by first | omega | (rw [IntKind.wrap_i64]; omega)⟩, h.c10, h.c11, h.c12, h.c13, h.c14⟩⟩⟩
      · obtain rfl : b10 = false := hf
        have HI : Hid _ := hI
        clear hI hall hi
        refine wpOp_step rfl (fun K hK => ?_)
        go_simp
        have h := HI.out
        exact hK _ _ ⟨b0, b1, b2, b3, b4, b5, b6, b7, b8, b9, true, b11, b12, b13, b14, false, v4, v5, v6, v7, v8, v9, v10, v11, v12, v13, _, v15, v16, v17, v3, rfl, rfl, .inl ⟨rfl, ⟨h.lt, h.le, h.src, h.gr, h.c0, h.c1, h.c2, h.c3, h.c4, h.c5, h.c6, h.c7, h.c8, h.c9, fun _ => rfl, h.c11, h.c12, h.c13, h.c14⟩⟩⟩
      · obtain rfl : b11 = false := hf
        cases ho
        have hb10 : b10 = true := hall { on := 10, ground := .data } (by simp) rfl
        have e10 : v14 = .pointer (some ⟨B0, 0, none⟩) := hI.c10 hb10
        subst e10
        have HN : Hid _ := src_n B0 a len cap 8 u hI.src (by omega)
        have HI : Hid _ := hI
        clear hI hall hi
        refine wpOp_step rfl (fun K hK => ?_)
        go_simp
        refine Calls.mono HN.out ?_
        rintro e9 u5 ⟨r, rfl, r0, r1, hs5, hg5⟩
        have h := HI.out
        exact hK _ _ ⟨b0, b1, b2, b3, b4, b5, b6, b7, b8, b9, b10, true, b12, b13, b14, false, v4, v5, v6, v7, v8, v9, v10, v11, v12, v13, _, _, v16, v17, v3, rfl, rfl, .inl ⟨rfl, ⟨h.lt, h.le, hs5, Lib.grownBy_trans h.gr hg5, fun e => (h.c0 e).grow h.lt hg5, h.c1, h.c2, fun e => (h.c3 e).grow h.lt hg5, h.c4, h.c5, h.c6, h.c7, h.c8, h.c9, h.c10, fun _ => ⟨r, rfl, r0, by omega⟩, h.c12, h.c13, fun e => (h.c14 e).grow h.lt hg5⟩⟩⟩
      · obtain rfl : b12 = false := hf
        cases ho
        have hb11 : b11 = true := hall { on := 11, ground := .data } (by simp) rfl
        obtain ⟨y11, rfl, y11b, y11c⟩ := hI.c11 hb11
        have HI : Hid _ := hI
        clear hI hall hi
        refine wpOp_step rfl (fun K hK => ?_)
        go_simp
        have h := HI.out
        exact hK _ _ ⟨b0, b1, b2, b3, b4, b5, b6, b7, b8, b9, b10, b11, true, b13, b14, false, v4, v5, v6, v7, v8, v9, v10, v11, v12, v13, v14, _, _, v17, v3, rfl, rfl, .inl ⟨rfl, ⟨h.lt, h.le, h.src, h.gr, h.c0, h.c1, h.c2, h.c3, h.c4, h.c5, h.c6, h.c7, h.c8, h.c9, h.c10, h.c11, fun _ => ⟨_, rfl, by first | omega | (rw [IntKind.wrap_i64]; omega), by first | omega | (rw [IntKind.wrap_i64]; omega)⟩, h.c13, h.c14⟩⟩⟩
      · obtain rfl : b13 = false := hf
        cases ho
        have hb4 : b4 = true := hall { on := 4, ground := .data } (by simp) rfl
        have hb6 : b6 = true := hall { on := 6, ground := .data } (by simp) rfl
        have hb9 : b9 = true := hall { on := 9, ground := .data } (by simp) rfl
        have hb12 : b12 = true := hall { on := 12, ground := .data } (by simp) rfl
        obtain ⟨s4, e4⟩ := hI.c4 hb4
        subst e4
        obtain ⟨y6, rfl, y6b, y6c⟩ := hI.c6 hb6
        obtain ⟨y9, rfl, y9b, y9c⟩ := hI.c9 hb9
        obtain ⟨y12, rfl, y12b, y12c⟩ := hI.c12 hb12
        have HI : Hid _ := hI
        clear hI hall hi
        refine wpOp_step rfl (fun K hK => ?_)
        go_simp
        have h := HI.out
        exact hK _ _ ⟨b0, b1, b2, b3, b4, b5, b6, b7, b8, b9, b10, b11, b12, true, b14, false, v4, v5, v6, v7, _, v9, _, v11, v12, _, v14, v15, _, _, v3, rfl, rfl, .inl ⟨rfl, ⟨h.lt, h.le, h.src, h.gr, h.c0, h.c1, h.c2, h.c3, h.c4, h.c5, h.c6, h.c7, h.c8, h.c9, h.c10, h.c11, h.c12, fun _ => ⟨⟨s4, y6, y9, y12, 0, 0, ⟨#[]⟩, 0⟩, rfl⟩, h.c14⟩⟩⟩
      · obtain rfl : b14 = false := hf
        have HI : Hid _ := hI
        clear hI hall hi
        refine wpOp_step rfl (fun K hK => ?_)
        go_simp
        have h := HI.out
        exact hK _ _ ⟨b0, b1, b2, b3, b4, b5, b6, b7, b8, b9, b10, b11, b12, b13, true, false, v4, v5, v6, v7, v8, v9, v10, v11, v12, v13, v14, v15, v16, v17, _, rfl, rfl, .inl ⟨rfl, ⟨h.lt, h.le, h.src.far (World.grownBy_alloc _ _ none), Lib.grownBy_trans h.gr gAl, fun e => (h.c0 e).grow h.lt gAl, h.c1, h.c2, fun e => (h.c3 e).grow h.lt gAl, h.c4, h.c5, h.c6, h.c7, h.c8, h.c9, h.c10, h.c11, h.c12, h.c13, fun _ => ⟨u.heap.size, rfl, Nat.le_trans h.le h.gr.size, (MapKept.heap_alloc u _).1⟩⟩⟩⟩
      · cases ho
        obtain rfl : b0 = true := hall { on := 0, ground := .phase } (by simp) rfl
        obtain rfl : b1 = true := hall { on := 1, ground := .phase } (by simp) rfl
        obtain rfl : b2 = true := hall { on := 2, ground := .phase } (by simp) rfl
        obtain rfl : b3 = true := hall { on := 3, ground := .phase } (by simp) rfl
        obtain rfl : b4 = true := hall { on := 4, ground := .phase } (by simp) rfl
        obtain rfl : b5 = true := hall { on := 5, ground := .phase } (by simp) rfl
        obtain rfl : b6 = true := hall { on := 6, ground := .phase } (by simp) rfl
        obtain rfl : b7 = true := hall { on := 7, ground := .phase } (by simp) rfl
        obtain rfl : b8 = true := hall { on := 8, ground := .phase } (by simp) rfl
        obtain rfl : b9 = true := hall { on := 9, ground := .phase } (by simp) rfl
        obtain rfl : b10 = true := hall { on := 10, ground := .phase } (by simp) rfl
        obtain rfl : b11 = true := hall { on := 11, ground := .phase } (by simp) rfl
        obtain rfl : b12 = true := hall { on := 12, ground := .phase } (by simp) rfl
        obtain rfl : b13 = true := hall { on := 13, ground := .phase } (by simp) rfl
        obtain rfl : b14 = true := hall { on := 14, ground := .phase } (by simp) rfl
        have hb14 : true = true := rfl
        have hb13 : true = true := rfl
        obtain ⟨p14, rfl, p14b, p14c⟩ := hI.c14 hb14
        obtain ⟨m, hm9⟩ := hI.c13 hb13
        subst hm9
        have h := hI
        have hl0 := h.lt
        have hl1 := h.gr.size
        have hlx := (Array.getElem?_eq_some_iff.1 p14c).1
        have q0 := cel_v p14c 0 _ rfl
        have q1 := cel_v p14c 1 _ rfl
        have q2 := cel_v p14c 2 _ rfl
        have q3 := cel_v p14c 3 _ rfl
        have q4 := cel_v p14c 4 _ rfl
        have q5 := cel_v p14c 5 _ rfl
        have q6 := cel_v p14c 6 _ rfl
        have q7 := cel_v p14c 7 _ rfl
        have qf := frz_v p14c
        have HF : Hid (VmF B0 a len cap wr p14 m ((((((((u.setCell ⟨p14, 0, none⟩ (.string m.name)).setCell ⟨p14, 1, none⟩ (.int .i64 m.tenant)).setCell ⟨p14, 2, none⟩ (.int .i64 m.cpu)).setCell ⟨p14, 3, none⟩ (.int .i64 m.mem)).setCell ⟨p14, 4, none⟩ (.int .i64 m.zone)).setCell ⟨p14, 5, none⟩ (.int .i64 m.apart)).setCell ⟨p14, 6, none⟩ (.string m.node)).setCell ⟨p14, 7, none⟩ (.int .i64 m.epoch))) := ⟨(blk_v (blk_v (blk_v (blk_v (blk_v (blk_v (blk_v (blk_v p14c 0 _) 1 _) 2 _) 3 _) 4 _) 5 _) 6 _) 7 _), (s_setv (s_setv (s_setv (s_setv (s_setv (s_setv (s_setv (s_setv h.src (by omega)) (by omega)) (by omega)) (by omega)) (by omega)) (by omega)) (by omega)) (by omega)), (g_setv (g_setv (g_setv (g_setv (g_setv (g_setv (g_setv (g_setv h.gr (by omega)) (by omega)) (by omega)) (by omega)) (by omega)) (by omega)) (by omega)) (by omega)), p14b⟩
        clear hI h hall hi p14c hl0 hl1
        refine wpOp_step rfl (fun K hK => ?_)
        go_simp
        exact hK _ _ ⟨true, true, true, true, true, true, true, true, true, true, true, true, true, true, true, true, v4, v5, v6, v7, v8, v9, v10, v11, v12, v13, v14, v15, v16, _, _, rfl, rfl, .inr ⟨rfl, rfl, rfl, rfl, rfl, rfl, rfl, rfl, rfl, rfl, rfl, rfl, rfl, rfl, rfl, rfl, p14, m, rfl, HF.out⟩⟩
    · exfalso
      obtain rfl | rfl | rfl | rfl | rfl | rfl | rfl | rfl | rfl | rfl | rfl | rfl | rfl | rfl | rfl | rfl : i = 0 ∨ i = 1 ∨ i = 2 ∨ i = 3 ∨ i = 4 ∨ i = 5 ∨ i = 6 ∨ i = 7 ∨ i = 8 ∨ i = 9 ∨ i = 10 ∨ i = 11 ∨ i = 12 ∨ i = 13 ∨ i = 14 ∨ i = 15 := by omega
      all_goals exact absurd hf (by decide)

set_option maxRecDepth 100000 in
set_option maxHeartbeats 16000000 in
theorem src_anyVm (B0 : Nat) (a : Option Addr) (len cap : Nat) (w : World) (h : SrcOk w B0 a len cap) :
    Calls Tryd.prog 17 #[.pointer (some ⟨B0, 0, none⟩)] w fun e w' => ∃ m : VMC, e = .returned (.agg #[.string m.name, .int .i64 m.tenant, .int .i64 m.cpu, .int .i64 m.mem, .int .i64 m.zone, .int .i64 m.apart, .string m.node, .int .i64 m.epoch]) ∧ SrcOk w' B0 a len cap ∧ w.grownBy w' (some B0) := by
  have HLW : Hid (B0 < w.heap.size) := h.lt
  have HS : Hid (SrcOk (w.alloc (.cells #[.string ⟨#[]⟩, .int .i64 0, .int .i64 0, .int .i64 0, .int .i64 0, .int .i64 0, .string ⟨#[]⟩, .int .i64 0] 23)) B0 a len cap) := h.far (World.grownBy_alloc _ _ none)
  have HG : Hid (w.grownBy (w.alloc (.cells #[.string ⟨#[]⟩, .int .i64 0, .int .i64 0, .int .i64 0, .int .i64 0, .int .i64 0, .string ⟨#[]⟩, .int .i64 0] 23)) (some B0)) := World.grownBy_alloc _ _ _
  have HRB : Hid ((w.alloc (.cells #[.string ⟨#[]⟩, .int .i64 0, .int .i64 0, .int .i64 0, .int .i64 0, .int .i64 0, .string ⟨#[]⟩, .int .i64 0] 23)).heap[w.heap.size]? = some (.cells #[.string ⟨#[]⟩, .int .i64 0, .int .i64 0, .int .i64 0, .int .i64 0, .int .i64 0, .string ⟨#[]⟩, .int .i64 0] 23 (0, 0))) := (MapKept.heap_alloc w _).1
  have HRL : Hid (w.heap.size < (w.alloc (.cells #[.string ⟨#[]⟩, .int .i64 0, .int .i64 0, .int .i64 0, .int .i64 0, .int .i64 0, .string ⟨#[]⟩, .int .i64 0] 23)).heap.size ∧ (w.alloc (.cells #[.string ⟨#[]⟩, .int .i64 0, .int .i64 0, .int .i64 0, .int .i64 0, .int .i64 0, .string ⟨#[]⟩, .int .i64 0] 23)).heap.size ≤ w.heap.size + 1) := ⟨by simp, by simp⟩
  clear h
  have HVM : Hid (∀ u, SrcOk u B0 a len cap → Calls Tryd.prog 27 #[.pointer (some ⟨B0, 0, none⟩)] u fun e w' => ∃ m : VMC, e = .returned (.agg #[.string m.name, .int .i64 m.tenant, .int .i64 m.cpu, .int .i64 m.mem, .int .i64 m.zone, .int .i64 m.apart, .string m.node, .int .i64 m.epoch]) ∧ SrcOk w' B0 a len cap ∧ u.grownBy w' (some B0)) := fun u hu => src_vm B0 a len cap u hu
  have HNQ : Hid (∀ q u9, 2 ≤ q → q ≤ 9 → SrcOk u9 B0 a len cap → Calls Tryd.prog 29 #[.pointer (some ⟨B0, 0, none⟩), .int .i64 q] u9 fun e w' => ∃ r, e = .returned (.int .i64 r) ∧ 0 ≤ r ∧ r < q ∧ SrcOk w' B0 a len cap ∧ u9.grownBy w' (some B0)) := fun q u9 hq hq2 h9 => Calls.mono (src_n B0 a len cap q u9 h9 (by omega)) (by rintro e w' ⟨r, rfl, r0, r1, hs, hg⟩; exact ⟨r, rfl, r0, by omega, hs, hg⟩)
  have HO : Hid (∀ q u9, q ≤ 9 → SrcOk u9 B0 a len cap → Calls Tryd.prog 28 #[.pointer (some ⟨B0, 0, none⟩), .int .i64 q] u9 fun e w' => ∃ t : Bool, e = .returned (.bool t) ∧ SrcOk w' B0 a len cap ∧ u9.grownBy w' (some B0)) := fun q u9 hq h9 => Calls.mono (src_one B0 a len cap q u9 h9 (by omega)) (by rintro e w' ⟨t, rfl, hs, hg⟩; exact ⟨t, rfl, hs, hg⟩)
  go_enter Tryd.func17, Tryd.ntmps17
  go_upto_region 1 with fail
  generalize w.alloc (.cells #[.string ⟨#[]⟩, .int .i64 0, .int .i64 0, .int .i64 0, .int .i64 0, .int .i64 0, .string ⟨#[]⟩, .int .i64 0] 23) = wr at *
  generalize hr0 : w.heap.size = r0 at HRB HRL HLW ⊢
  have HRE : Hid (w.heap.size = r0) := hr0
  clear hr0
  have HLT : Hid (B0 < wr.heap.size) := (show _ < _ by have := HLW.out; have := HRL.out; omega)
  go_wp2_with fail
  refine Calls.mono (HVM.out _ HS.out) ?_
  rintro e u1 ⟨m, rfl, hs, hg⟩
  have HA0 : Hid (VmF B0 a len cap wr u1.heap.size m (u1.alloc (.cells #[.string m.name, .int .i64 m.tenant, .int .i64 m.cpu, .int .i64 m.mem, .int .i64 m.zone, .int .i64 m.apart, .string m.node, .int .i64 m.epoch] 23))) := ⟨(MapKept.heap_alloc u1 _).1, hs.far (World.grownBy_alloc _ _ none), Lib.grownBy_trans hg gAl, hg.size⟩
  clear hs hg HS HVM
  go_upto_region 2 with fail
  generalize (u1.alloc (.cells #[.string m.name, .int .i64 m.tenant, .int .i64 m.cpu, .int .i64 m.mem, .int .i64 m.zone, .int .i64 m.apart, .string m.node, .int .i64 m.epoch] 23)) = u at *
  generalize u1.heap.size = p at *
  have HR : Hid (∀ u9 m9, VmF B0 a len cap wr p m9 u9 → u9.heap[r0]? = some (.cells #[.string ⟨#[]⟩, .int .i64 0, .int .i64 0, .int .i64 0, .int .i64 0, .int .i64 0, .string ⟨#[]⟩, .int .i64 0] 23 (0, 0)) ∧ r0 ≠ p) := fun u9 m9 h9 => ⟨(h9.gr.block r0 HRL.out.1 (by simp; have := HLW.out; omega)).trans HRB.out, by have := h9.le; have := HRL.out.1; omega⟩
  go_wp2_with fail
  refine Calls.mono (HO.out 8 _ (by omega) HA0.out.src) ?_
  rintro e u2 ⟨t2, rfl, hs, hg⟩
  have HA2 : Hid (VmF B0 a len cap wr p m u2) := HA0.out.grow HLT.out hs hg
  clear hs hg HA0 HO
  cases t2
  · skip
    have HZ : Hid _ := HR.out _ _ HA2.out
    have z0 := cel_v HZ.out.1 0 _ rfl
    have z1 := cel_v HZ.out.1 1 _ rfl
    have z2 := cel_v HZ.out.1 2 _ rfl
    have z3 := cel_v HZ.out.1 3 _ rfl
    have z4 := cel_v HZ.out.1 4 _ rfl
    have z5 := cel_v HZ.out.1 5 _ rfl
    have z6 := cel_v HZ.out.1 6 _ rfl
    have z7 := cel_v HZ.out.1 7 _ rfl
    have zf := frz_v HZ.out.1
    have zl := (Array.getElem?_eq_some_iff.1 HZ.out.1).1
    have k0 := HA2.out.cel 0 _ rfl
    have k1 := HA2.out.cel 1 _ rfl
    have k2 := HA2.out.cel 2 _ rfl
    have k3 := HA2.out.cel 3 _ rfl
    have k4 := HA2.out.cel 4 _ rfl
    have k5 := HA2.out.cel 5 _ rfl
    have k6 := HA2.out.cel 6 _ rfl
    have k7 := HA2.out.cel 7 _ rfl
    have kl := HA2.out.lt
    go_wp2
    refine bodyPost_ret (v := .agg #[.string m.name, .int .i64 m.tenant, .int .i64 m.cpu, .int .i64 m.mem, .int .i64 m.zone, .int .i64 m.apart, .string m.node, .int .i64 m.epoch]) ?_ rfl ⟨m, rfl, ?_, ?_⟩
    · simp only [results, Tryd.results17, go_sem]
      simp [go_sem, z0, z1, z2, z3, z4, z5, z6, z7]
    · have hs := HA2.out.src
      have hb := HLW.out
      repeat refine s_setv ?_ hb
      exact hs
    · have hg := Lib.grownBy_trans HG.out HA2.out.gr
      have hb := HRE.out
      repeat refine g_setv ?_ (Nat.le_of_eq hb)
      exact hg
  go_wp2_with fail
  refine Calls.mono (HNQ.out 6 _ (by omega) (by omega) HA2.out.src) ?_
  rintro e u3 ⟨r, rfl, r1, r2, hs, hg⟩
  have HA3 : Hid (VmF B0 a len cap wr p m u3) := HA2.out.grow HLT.out hs hg
  clear hs hg HA2
  obtain rfl | rfl | rfl | rfl | rfl | rfl : r = 0 ∨ r = 1 ∨ r = 2 ∨ r = 3 ∨ r = 4 ∨ r = 5 := by omega
  · clear r1 r2
    go_wp2_with fail
    refine Calls.mono (HNQ.out 3 _ (by omega) (by omega) (HA3.out.far (.cells #[.string ⟨#[]⟩, .string ⟨#[65]⟩, .string ⟨#[49, 50, 51, 52, 53, 54, 55, 56, 57, 48, 49, 50, 51, 52, 53, 54, 55, 56, 57, 48, 49]⟩] 9)).src) ?_
    rintro e u4 ⟨r4, rfl, r41, r42, hs, hg⟩
    have HA4 : Hid (VmF B0 a len cap wr p m u4) := (HA3.out.far _).grow HLT.out hs hg
    have HB4 : Hid (u4.heap[u3.heap.size]? = some (.cells #[.string ⟨#[]⟩, .string ⟨#[65]⟩, .string ⟨#[49, 50, 51, 52, 53, 54, 55, 56, 57, 48, 49, 50, 51, 52, 53, 54, 55, 56, 57, 48, 49]⟩] 9 (0, 0))) := (hg.block u3.heap.size (by simp) (by have := HA3.out.lt; have := HLT.out; have := HA3.out.gr.size; simp; omega)).trans (MapKept.heap_alloc u3 _).1
    have HP4 : Hid (p < u3.heap.size) := HA3.out.lt
    clear hs hg HA3
    generalize u3.heap.size = b3 at *
    obtain rfl | rfl | rfl : r4 = 0 ∨ r4 = 1 ∨ r4 = 2 := by omega
    · have x0 := cel_v HB4.out 0 _ rfl
      have xl := (Array.getElem?_eq_some_iff.1 HB4.out).1
      have qc := HA4.out.cel 0 _ rfl
      have qf := HA4.out.frz
      have ql := HA4.out.lt
      go_upto_region 17 with fail
      have HA7 : Hid (VmF B0 a len cap wr p { m with name := ⟨#[]⟩ } (u4.setCell ⟨p, 0, none⟩ (.string ⟨#[]⟩))) := HA4.out.set0 HLT.out _
      clear qc qf ql HA4 x0 xl HB4
      generalize ({ m with name := ⟨#[]⟩ } : VMC) = m7 at *
      generalize (u4.setCell ⟨p, 0, none⟩ (.string ⟨#[]⟩)) = u7 at *
      have HZ : Hid _ := HR.out _ _ HA7.out
      have z0 := cel_v HZ.out.1 0 _ rfl
      have z1 := cel_v HZ.out.1 1 _ rfl
      have z2 := cel_v HZ.out.1 2 _ rfl
      have z3 := cel_v HZ.out.1 3 _ rfl
      have z4 := cel_v HZ.out.1 4 _ rfl
      have z5 := cel_v HZ.out.1 5 _ rfl
      have z6 := cel_v HZ.out.1 6 _ rfl
      have z7 := cel_v HZ.out.1 7 _ rfl
      have zf := frz_v HZ.out.1
      have zl := (Array.getElem?_eq_some_iff.1 HZ.out.1).1
      have k0 := HA7.out.cel 0 _ rfl
      have k1 := HA7.out.cel 1 _ rfl
      have k2 := HA7.out.cel 2 _ rfl
      have k3 := HA7.out.cel 3 _ rfl
      have k4 := HA7.out.cel 4 _ rfl
      have k5 := HA7.out.cel 5 _ rfl
      have k6 := HA7.out.cel 6 _ rfl
      have k7 := HA7.out.cel 7 _ rfl
      have kl := HA7.out.lt
      go_wp2
      refine bodyPost_ret (v := .agg #[.string m7.name, .int .i64 m7.tenant, .int .i64 m7.cpu, .int .i64 m7.mem, .int .i64 m7.zone, .int .i64 m7.apart, .string m7.node, .int .i64 m7.epoch]) ?_ rfl ⟨m7, rfl, ?_, ?_⟩
      · simp only [results, Tryd.results17, go_sem]
        simp [go_sem, z0, z1, z2, z3, z4, z5, z6, z7]
      · have hs := HA7.out.src
        have hb := HLW.out
        repeat refine s_setv ?_ hb
        exact hs
      · have hg := Lib.grownBy_trans HG.out HA7.out.gr
        have hb := HRE.out
        repeat refine g_setv ?_ (Nat.le_of_eq hb)
        exact hg
    · have x0 := cel_v HB4.out 1 _ rfl
      have xl := (Array.getElem?_eq_some_iff.1 HB4.out).1
      have qc := HA4.out.cel 0 _ rfl
      have qf := HA4.out.frz
      have ql := HA4.out.lt
      go_upto_region 17 with fail
      have HA7 : Hid (VmF B0 a len cap wr p { m with name := ⟨#[65]⟩ } (u4.setCell ⟨p, 0, none⟩ (.string ⟨#[65]⟩))) := HA4.out.set0 HLT.out _
      clear qc qf ql HA4 x0 xl HB4
      generalize ({ m with name := ⟨#[65]⟩ } : VMC) = m7 at *
      generalize (u4.setCell ⟨p, 0, none⟩ (.string ⟨#[65]⟩)) = u7 at *
      have HZ : Hid _ := HR.out _ _ HA7.out
      have z0 := cel_v HZ.out.1 0 _ rfl
      have z1 := cel_v HZ.out.1 1 _ rfl
      have z2 := cel_v HZ.out.1 2 _ rfl
      have z3 := cel_v HZ.out.1 3 _ rfl
      have z4 := cel_v HZ.out.1 4 _ rfl
      have z5 := cel_v HZ.out.1 5 _ rfl
      have z6 := cel_v HZ.out.1 6 _ rfl
      have z7 := cel_v HZ.out.1 7 _ rfl
      have zf := frz_v HZ.out.1
      have zl := (Array.getElem?_eq_some_iff.1 HZ.out.1).1
      have k0 := HA7.out.cel 0 _ rfl
      have k1 := HA7.out.cel 1 _ rfl
      have k2 := HA7.out.cel 2 _ rfl
      have k3 := HA7.out.cel 3 _ rfl
      have k4 := HA7.out.cel 4 _ rfl
      have k5 := HA7.out.cel 5 _ rfl
      have k6 := HA7.out.cel 6 _ rfl
      have k7 := HA7.out.cel 7 _ rfl
      have kl := HA7.out.lt
      go_wp2
      refine bodyPost_ret (v := .agg #[.string m7.name, .int .i64 m7.tenant, .int .i64 m7.cpu, .int .i64 m7.mem, .int .i64 m7.zone, .int .i64 m7.apart, .string m7.node, .int .i64 m7.epoch]) ?_ rfl ⟨m7, rfl, ?_, ?_⟩
      · simp only [results, Tryd.results17, go_sem]
        simp [go_sem, z0, z1, z2, z3, z4, z5, z6, z7]
      · have hs := HA7.out.src
        have hb := HLW.out
        repeat refine s_setv ?_ hb
        exact hs
      · have hg := Lib.grownBy_trans HG.out HA7.out.gr
        have hb := HRE.out
        repeat refine g_setv ?_ (Nat.le_of_eq hb)
        exact hg
    · have x0 := cel_v HB4.out 2 _ rfl
      have xl := (Array.getElem?_eq_some_iff.1 HB4.out).1
      have qc := HA4.out.cel 0 _ rfl
      have qf := HA4.out.frz
      have ql := HA4.out.lt
      go_upto_region 17 with fail
      have HA7 : Hid (VmF B0 a len cap wr p { m with name := ⟨#[49, 50, 51, 52, 53, 54, 55, 56, 57, 48, 49, 50, 51, 52, 53, 54, 55, 56, 57, 48, 49]⟩ } (u4.setCell ⟨p, 0, none⟩ (.string ⟨#[49, 50, 51, 52, 53, 54, 55, 56, 57, 48, 49, 50, 51, 52, 53, 54, 55, 56, 57, 48, 49]⟩))) := HA4.out.set0 HLT.out _
      clear qc qf ql HA4 x0 xl HB4
      generalize ({ m with name := ⟨#[49, 50, 51, 52, 53, 54, 55, 56, 57, 48, 49, 50, 51, 52, 53, 54, 55, 56, 57, 48, 49]⟩ } : VMC) = m7 at *
      generalize (u4.setCell ⟨p, 0, none⟩ (.string ⟨#[49, 50, 51, 52, 53, 54, 55, 56, 57, 48, 49, 50, 51, 52, 53, 54, 55, 56, 57, 48, 49]⟩)) = u7 at *
      have HZ : Hid _ := HR.out _ _ HA7.out
      have z0 := cel_v HZ.out.1 0 _ rfl
      have z1 := cel_v HZ.out.1 1 _ rfl
      have z2 := cel_v HZ.out.1 2 _ rfl
      have z3 := cel_v HZ.out.1 3 _ rfl
      have z4 := cel_v HZ.out.1 4 _ rfl
      have z5 := cel_v HZ.out.1 5 _ rfl
      have z6 := cel_v HZ.out.1 6 _ rfl
      have z7 := cel_v HZ.out.1 7 _ rfl
      have zf := frz_v HZ.out.1
      have zl := (Array.getElem?_eq_some_iff.1 HZ.out.1).1
      have k0 := HA7.out.cel 0 _ rfl
      have k1 := HA7.out.cel 1 _ rfl
      have k2 := HA7.out.cel 2 _ rfl
      have k3 := HA7.out.cel 3 _ rfl
      have k4 := HA7.out.cel 4 _ rfl
      have k5 := HA7.out.cel 5 _ rfl
      have k6 := HA7.out.cel 6 _ rfl
      have k7 := HA7.out.cel 7 _ rfl
      have kl := HA7.out.lt
      go_wp2
      refine bodyPost_ret (v := .agg #[.string m7.name, .int .i64 m7.tenant, .int .i64 m7.cpu, .int .i64 m7.mem, .int .i64 m7.zone, .int .i64 m7.apart, .string m7.node, .int .i64 m7.epoch]) ?_ rfl ⟨m7, rfl, ?_, ?_⟩
      · simp only [results, Tryd.results17, go_sem]
        simp [go_sem, z0, z1, z2, z3, z4, z5, z6, z7]
      · have hs := HA7.out.src
        have hb := HLW.out
        repeat refine s_setv ?_ hb
        exact hs
      · have hg := Lib.grownBy_trans HG.out HA7.out.gr
        have hb := HRE.out
        repeat refine g_setv ?_ (Nat.le_of_eq hb)
        exact hg
  · clear r1 r2
    go_wp2_with fail
    refine Calls.mono (HNQ.out 3 _ (by omega) (by omega) (HA3.out.far (.cells #[.int .i64 (-1), .int .i64 2, .int .i64 8] 2)).src) ?_
    rintro e u4 ⟨r4, rfl, r41, r42, hs, hg⟩
    have HA4 : Hid (VmF B0 a len cap wr p m u4) := (HA3.out.far _).grow HLT.out hs hg
    have HB4 : Hid (u4.heap[u3.heap.size]? = some (.cells #[.int .i64 (-1), .int .i64 2, .int .i64 8] 2 (0, 0))) := (hg.block u3.heap.size (by simp) (by have := HA3.out.lt; have := HLT.out; have := HA3.out.gr.size; simp; omega)).trans (MapKept.heap_alloc u3 _).1
    have HP4 : Hid (p < u3.heap.size) := HA3.out.lt
    clear hs hg HA3
    generalize u3.heap.size = b3 at *
    obtain rfl | rfl | rfl : r4 = 0 ∨ r4 = 1 ∨ r4 = 2 := by omega
    · have x0 := cel_v HB4.out 0 _ rfl
      have xl := (Array.getElem?_eq_some_iff.1 HB4.out).1
      have qc := HA4.out.cel 1 _ rfl
      have qf := HA4.out.frz
      have ql := HA4.out.lt
      go_upto_region 17 with fail
      have HA7 : Hid (VmF B0 a len cap wr p { m with tenant := (-1) } (u4.setCell ⟨p, 1, none⟩ (.int .i64 (-1)))) := HA4.out.set1 HLT.out _
      clear qc qf ql HA4 x0 xl HB4
      generalize ({ m with tenant := (-1) } : VMC) = m7 at *
      generalize (u4.setCell ⟨p, 1, none⟩ (.int .i64 (-1))) = u7 at *
      have HZ : Hid _ := HR.out _ _ HA7.out
      have z0 := cel_v HZ.out.1 0 _ rfl
      have z1 := cel_v HZ.out.1 1 _ rfl
      have z2 := cel_v HZ.out.1 2 _ rfl
      have z3 := cel_v HZ.out.1 3 _ rfl
      have z4 := cel_v HZ.out.1 4 _ rfl
      have z5 := cel_v HZ.out.1 5 _ rfl
      have z6 := cel_v HZ.out.1 6 _ rfl
      have z7 := cel_v HZ.out.1 7 _ rfl
      have zf := frz_v HZ.out.1
      have zl := (Array.getElem?_eq_some_iff.1 HZ.out.1).1
      have k0 := HA7.out.cel 0 _ rfl
      have k1 := HA7.out.cel 1 _ rfl
      have k2 := HA7.out.cel 2 _ rfl
      have k3 := HA7.out.cel 3 _ rfl
      have k4 := HA7.out.cel 4 _ rfl
      have k5 := HA7.out.cel 5 _ rfl
      have k6 := HA7.out.cel 6 _ rfl
      have k7 := HA7.out.cel 7 _ rfl
      have kl := HA7.out.lt
      go_wp2
      refine bodyPost_ret (v := .agg #[.string m7.name, .int .i64 m7.tenant, .int .i64 m7.cpu, .int .i64 m7.mem, .int .i64 m7.zone, .int .i64 m7.apart, .string m7.node, .int .i64 m7.epoch]) ?_ rfl ⟨m7, rfl, ?_, ?_⟩
      · simp only [results, Tryd.results17, go_sem]
        simp [go_sem, z0, z1, z2, z3, z4, z5, z6, z7]
      · have hs := HA7.out.src
        have hb := HLW.out
        repeat refine s_setv ?_ hb
        exact hs
      · have hg := Lib.grownBy_trans HG.out HA7.out.gr
        have hb := HRE.out
        repeat refine g_setv ?_ (Nat.le_of_eq hb)
        exact hg
    · have x0 := cel_v HB4.out 1 _ rfl
      have xl := (Array.getElem?_eq_some_iff.1 HB4.out).1
      have qc := HA4.out.cel 1 _ rfl
      have qf := HA4.out.frz
      have ql := HA4.out.lt
      go_upto_region 17 with fail
      have HA7 : Hid (VmF B0 a len cap wr p { m with tenant := 2 } (u4.setCell ⟨p, 1, none⟩ (.int .i64 2))) := HA4.out.set1 HLT.out _
      clear qc qf ql HA4 x0 xl HB4
      generalize ({ m with tenant := 2 } : VMC) = m7 at *
      generalize (u4.setCell ⟨p, 1, none⟩ (.int .i64 2)) = u7 at *
      have HZ : Hid _ := HR.out _ _ HA7.out
      have z0 := cel_v HZ.out.1 0 _ rfl
      have z1 := cel_v HZ.out.1 1 _ rfl
      have z2 := cel_v HZ.out.1 2 _ rfl
      have z3 := cel_v HZ.out.1 3 _ rfl
      have z4 := cel_v HZ.out.1 4 _ rfl
      have z5 := cel_v HZ.out.1 5 _ rfl
      have z6 := cel_v HZ.out.1 6 _ rfl
      have z7 := cel_v HZ.out.1 7 _ rfl
      have zf := frz_v HZ.out.1
      have zl := (Array.getElem?_eq_some_iff.1 HZ.out.1).1
      have k0 := HA7.out.cel 0 _ rfl
      have k1 := HA7.out.cel 1 _ rfl
      have k2 := HA7.out.cel 2 _ rfl
      have k3 := HA7.out.cel 3 _ rfl
      have k4 := HA7.out.cel 4 _ rfl
      have k5 := HA7.out.cel 5 _ rfl
      have k6 := HA7.out.cel 6 _ rfl
      have k7 := HA7.out.cel 7 _ rfl
      have kl := HA7.out.lt
      go_wp2
      refine bodyPost_ret (v := .agg #[.string m7.name, .int .i64 m7.tenant, .int .i64 m7.cpu, .int .i64 m7.mem, .int .i64 m7.zone, .int .i64 m7.apart, .string m7.node, .int .i64 m7.epoch]) ?_ rfl ⟨m7, rfl, ?_, ?_⟩
      · simp only [results, Tryd.results17, go_sem]
        simp [go_sem, z0, z1, z2, z3, z4, z5, z6, z7]
      · have hs := HA7.out.src
        have hb := HLW.out
        repeat refine s_setv ?_ hb
        exact hs
      · have hg := Lib.grownBy_trans HG.out HA7.out.gr
        have hb := HRE.out
        repeat refine g_setv ?_ (Nat.le_of_eq hb)
        exact hg
    · have x0 := cel_v HB4.out 2 _ rfl
      have xl := (Array.getElem?_eq_some_iff.1 HB4.out).1
      have qc := HA4.out.cel 1 _ rfl
      have qf := HA4.out.frz
      have ql := HA4.out.lt
      go_upto_region 17 with fail
      have HA7 : Hid (VmF B0 a len cap wr p { m with tenant := 8 } (u4.setCell ⟨p, 1, none⟩ (.int .i64 8))) := HA4.out.set1 HLT.out _
      clear qc qf ql HA4 x0 xl HB4
      generalize ({ m with tenant := 8 } : VMC) = m7 at *
      generalize (u4.setCell ⟨p, 1, none⟩ (.int .i64 8)) = u7 at *
      have HZ : Hid _ := HR.out _ _ HA7.out
      have z0 := cel_v HZ.out.1 0 _ rfl
      have z1 := cel_v HZ.out.1 1 _ rfl
      have z2 := cel_v HZ.out.1 2 _ rfl
      have z3 := cel_v HZ.out.1 3 _ rfl
      have z4 := cel_v HZ.out.1 4 _ rfl
      have z5 := cel_v HZ.out.1 5 _ rfl
      have z6 := cel_v HZ.out.1 6 _ rfl
      have z7 := cel_v HZ.out.1 7 _ rfl
      have zf := frz_v HZ.out.1
      have zl := (Array.getElem?_eq_some_iff.1 HZ.out.1).1
      have k0 := HA7.out.cel 0 _ rfl
      have k1 := HA7.out.cel 1 _ rfl
      have k2 := HA7.out.cel 2 _ rfl
      have k3 := HA7.out.cel 3 _ rfl
      have k4 := HA7.out.cel 4 _ rfl
      have k5 := HA7.out.cel 5 _ rfl
      have k6 := HA7.out.cel 6 _ rfl
      have k7 := HA7.out.cel 7 _ rfl
      have kl := HA7.out.lt
      go_wp2
      refine bodyPost_ret (v := .agg #[.string m7.name, .int .i64 m7.tenant, .int .i64 m7.cpu, .int .i64 m7.mem, .int .i64 m7.zone, .int .i64 m7.apart, .string m7.node, .int .i64 m7.epoch]) ?_ rfl ⟨m7, rfl, ?_, ?_⟩
      · simp only [results, Tryd.results17, go_sem]
        simp [go_sem, z0, z1, z2, z3, z4, z5, z6, z7]
      · have hs := HA7.out.src
        have hb := HLW.out
        repeat refine s_setv ?_ hb
        exact hs
      · have hg := Lib.grownBy_trans HG.out HA7.out.gr
        have hb := HRE.out
        repeat refine g_setv ?_ (Nat.le_of_eq hb)
        exact hg
  · clear r1 r2
    go_wp2_with fail
    refine Calls.mono (HNQ.out 3 _ (by omega) (by omega) (HA3.out.far (.cells #[.int .i64 0, .int .i64 64, .int .i64 65] 2)).src) ?_
    rintro e u4 ⟨r4, rfl, r41, r42, hs, hg⟩
    have HA4 : Hid (VmF B0 a len cap wr p m u4) := (HA3.out.far _).grow HLT.out hs hg
    have HB4 : Hid (u4.heap[u3.heap.size]? = some (.cells #[.int .i64 0, .int .i64 64, .int .i64 65] 2 (0, 0))) := (hg.block u3.heap.size (by simp) (by have := HA3.out.lt; have := HLT.out; have := HA3.out.gr.size; simp; omega)).trans (MapKept.heap_alloc u3 _).1
    have HP4 : Hid (p < u3.heap.size) := HA3.out.lt
    clear hs hg HA3
    generalize u3.heap.size = b3 at *
    obtain rfl | rfl | rfl : r4 = 0 ∨ r4 = 1 ∨ r4 = 2 := by omega
    · have x0 := cel_v HB4.out 0 _ rfl
      have xl := (Array.getElem?_eq_some_iff.1 HB4.out).1
      have qc := HA4.out.cel 2 _ rfl
      have qf := HA4.out.frz
      have ql := HA4.out.lt
      go_upto_region 17 with fail
      have HA7 : Hid (VmF B0 a len cap wr p { m with cpu := 0 } (u4.setCell ⟨p, 2, none⟩ (.int .i64 0))) := HA4.out.set2 HLT.out _
      clear qc qf ql HA4 x0 xl HB4
      generalize ({ m with cpu := 0 } : VMC) = m7 at *
      generalize (u4.setCell ⟨p, 2, none⟩ (.int .i64 0)) = u7 at *
      have HZ : Hid _ := HR.out _ _ HA7.out
      have z0 := cel_v HZ.out.1 0 _ rfl
      have z1 := cel_v HZ.out.1 1 _ rfl
      have z2 := cel_v HZ.out.1 2 _ rfl
      have z3 := cel_v HZ.out.1 3 _ rfl
      have z4 := cel_v HZ.out.1 4 _ rfl
      have z5 := cel_v HZ.out.1 5 _ rfl
      have z6 := cel_v HZ.out.1 6 _ rfl
      have z7 := cel_v HZ.out.1 7 _ rfl
      have zf := frz_v HZ.out.1
      have zl := (Array.getElem?_eq_some_iff.1 HZ.out.1).1
      have k0 := HA7.out.cel 0 _ rfl
      have k1 := HA7.out.cel 1 _ rfl
      have k2 := HA7.out.cel 2 _ rfl
      have k3 := HA7.out.cel 3 _ rfl
      have k4 := HA7.out.cel 4 _ rfl
      have k5 := HA7.out.cel 5 _ rfl
      have k6 := HA7.out.cel 6 _ rfl
      have k7 := HA7.out.cel 7 _ rfl
      have kl := HA7.out.lt
      go_wp2
      refine bodyPost_ret (v := .agg #[.string m7.name, .int .i64 m7.tenant, .int .i64 m7.cpu, .int .i64 m7.mem, .int .i64 m7.zone, .int .i64 m7.apart, .string m7.node, .int .i64 m7.epoch]) ?_ rfl ⟨m7, rfl, ?_, ?_⟩
      · simp only [results, Tryd.results17, go_sem]
        simp [go_sem, z0, z1, z2, z3, z4, z5, z6, z7]
      · have hs := HA7.out.src
        have hb := HLW.out
        repeat refine s_setv ?_ hb
        exact hs
      · have hg := Lib.grownBy_trans HG.out HA7.out.gr
        have hb := HRE.out
        repeat refine g_setv ?_ (Nat.le_of_eq hb)
        exact hg
    · have x0 := cel_v HB4.out 1 _ rfl
      have xl := (Array.getElem?_eq_some_iff.1 HB4.out).1
      have qc := HA4.out.cel 2 _ rfl
      have qf := HA4.out.frz
      have ql := HA4.out.lt
      go_upto_region 17 with fail
      have HA7 : Hid (VmF B0 a len cap wr p { m with cpu := 64 } (u4.setCell ⟨p, 2, none⟩ (.int .i64 64))) := HA4.out.set2 HLT.out _
      clear qc qf ql HA4 x0 xl HB4
      generalize ({ m with cpu := 64 } : VMC) = m7 at *
      generalize (u4.setCell ⟨p, 2, none⟩ (.int .i64 64)) = u7 at *
      have HZ : Hid _ := HR.out _ _ HA7.out
      have z0 := cel_v HZ.out.1 0 _ rfl
      have z1 := cel_v HZ.out.1 1 _ rfl
      have z2 := cel_v HZ.out.1 2 _ rfl
      have z3 := cel_v HZ.out.1 3 _ rfl
      have z4 := cel_v HZ.out.1 4 _ rfl
      have z5 := cel_v HZ.out.1 5 _ rfl
      have z6 := cel_v HZ.out.1 6 _ rfl
      have z7 := cel_v HZ.out.1 7 _ rfl
      have zf := frz_v HZ.out.1
      have zl := (Array.getElem?_eq_some_iff.1 HZ.out.1).1
      have k0 := HA7.out.cel 0 _ rfl
      have k1 := HA7.out.cel 1 _ rfl
      have k2 := HA7.out.cel 2 _ rfl
      have k3 := HA7.out.cel 3 _ rfl
      have k4 := HA7.out.cel 4 _ rfl
      have k5 := HA7.out.cel 5 _ rfl
      have k6 := HA7.out.cel 6 _ rfl
      have k7 := HA7.out.cel 7 _ rfl
      have kl := HA7.out.lt
      go_wp2
      refine bodyPost_ret (v := .agg #[.string m7.name, .int .i64 m7.tenant, .int .i64 m7.cpu, .int .i64 m7.mem, .int .i64 m7.zone, .int .i64 m7.apart, .string m7.node, .int .i64 m7.epoch]) ?_ rfl ⟨m7, rfl, ?_, ?_⟩
      · simp only [results, Tryd.results17, go_sem]
        simp [go_sem, z0, z1, z2, z3, z4, z5, z6, z7]
      · have hs := HA7.out.src
        have hb := HLW.out
        repeat refine s_setv ?_ hb
        exact hs
      · have hg := Lib.grownBy_trans HG.out HA7.out.gr
        have hb := HRE.out
        repeat refine g_setv ?_ (Nat.le_of_eq hb)
        exact hg
    · have x0 := cel_v HB4.out 2 _ rfl
      have xl := (Array.getElem?_eq_some_iff.1 HB4.out).1
      have qc := HA4.out.cel 2 _ rfl
      have qf := HA4.out.frz
      have ql := HA4.out.lt
      go_upto_region 17 with fail
      have HA7 : Hid (VmF B0 a len cap wr p { m with cpu := 65 } (u4.setCell ⟨p, 2, none⟩ (.int .i64 65))) := HA4.out.set2 HLT.out _
      clear qc qf ql HA4 x0 xl HB4
      generalize ({ m with cpu := 65 } : VMC) = m7 at *
      generalize (u4.setCell ⟨p, 2, none⟩ (.int .i64 65)) = u7 at *
      have HZ : Hid _ := HR.out _ _ HA7.out
      have z0 := cel_v HZ.out.1 0 _ rfl
      have z1 := cel_v HZ.out.1 1 _ rfl
      have z2 := cel_v HZ.out.1 2 _ rfl
      have z3 := cel_v HZ.out.1 3 _ rfl
      have z4 := cel_v HZ.out.1 4 _ rfl
      have z5 := cel_v HZ.out.1 5 _ rfl
      have z6 := cel_v HZ.out.1 6 _ rfl
      have z7 := cel_v HZ.out.1 7 _ rfl
      have zf := frz_v HZ.out.1
      have zl := (Array.getElem?_eq_some_iff.1 HZ.out.1).1
      have k0 := HA7.out.cel 0 _ rfl
      have k1 := HA7.out.cel 1 _ rfl
      have k2 := HA7.out.cel 2 _ rfl
      have k3 := HA7.out.cel 3 _ rfl
      have k4 := HA7.out.cel 4 _ rfl
      have k5 := HA7.out.cel 5 _ rfl
      have k6 := HA7.out.cel 6 _ rfl
      have k7 := HA7.out.cel 7 _ rfl
      have kl := HA7.out.lt
      go_wp2
      refine bodyPost_ret (v := .agg #[.string m7.name, .int .i64 m7.tenant, .int .i64 m7.cpu, .int .i64 m7.mem, .int .i64 m7.zone, .int .i64 m7.apart, .string m7.node, .int .i64 m7.epoch]) ?_ rfl ⟨m7, rfl, ?_, ?_⟩
      · simp only [results, Tryd.results17, go_sem]
        simp [go_sem, z0, z1, z2, z3, z4, z5, z6, z7]
      · have hs := HA7.out.src
        have hb := HLW.out
        repeat refine s_setv ?_ hb
        exact hs
      · have hg := Lib.grownBy_trans HG.out HA7.out.gr
        have hb := HRE.out
        repeat refine g_setv ?_ (Nat.le_of_eq hb)
        exact hg
  · clear r1 r2
    go_wp2_with fail
    refine Calls.mono (HNQ.out 3 _ (by omega) (by omega) (HA3.out.far (.cells #[.int .i64 0, .int .i64 1000, .int .i64 1001] 2)).src) ?_
    rintro e u4 ⟨r4, rfl, r41, r42, hs, hg⟩
    have HA4 : Hid (VmF B0 a len cap wr p m u4) := (HA3.out.far _).grow HLT.out hs hg
    have HB4 : Hid (u4.heap[u3.heap.size]? = some (.cells #[.int .i64 0, .int .i64 1000, .int .i64 1001] 2 (0, 0))) := (hg.block u3.heap.size (by simp) (by have := HA3.out.lt; have := HLT.out; have := HA3.out.gr.size; simp; omega)).trans (MapKept.heap_alloc u3 _).1
    have HP4 : Hid (p < u3.heap.size) := HA3.out.lt
    clear hs hg HA3
    generalize u3.heap.size = b3 at *
    obtain rfl | rfl | rfl : r4 = 0 ∨ r4 = 1 ∨ r4 = 2 := by omega
    · have x0 := cel_v HB4.out 0 _ rfl
      have xl := (Array.getElem?_eq_some_iff.1 HB4.out).1
      have qc := HA4.out.cel 3 _ rfl
      have qf := HA4.out.frz
      have ql := HA4.out.lt
      go_upto_region 17 with fail
      have HA7 : Hid (VmF B0 a len cap wr p { m with mem := 0 } (u4.setCell ⟨p, 3, none⟩ (.int .i64 0))) := HA4.out.set3 HLT.out _
      clear qc qf ql HA4 x0 xl HB4
      generalize ({ m with mem := 0 } : VMC) = m7 at *
      generalize (u4.setCell ⟨p, 3, none⟩ (.int .i64 0)) = u7 at *
      have HZ : Hid _ := HR.out _ _ HA7.out
      have z0 := cel_v HZ.out.1 0 _ rfl
      have z1 := cel_v HZ.out.1 1 _ rfl
      have z2 := cel_v HZ.out.1 2 _ rfl
      have z3 := cel_v HZ.out.1 3 _ rfl
      have z4 := cel_v HZ.out.1 4 _ rfl
      have z5 := cel_v HZ.out.1 5 _ rfl
      have z6 := cel_v HZ.out.1 6 _ rfl
      have z7 := cel_v HZ.out.1 7 _ rfl
      have zf := frz_v HZ.out.1
      have zl := (Array.getElem?_eq_some_iff.1 HZ.out.1).1
      have k0 := HA7.out.cel 0 _ rfl
      have k1 := HA7.out.cel 1 _ rfl
      have k2 := HA7.out.cel 2 _ rfl
      have k3 := HA7.out.cel 3 _ rfl
      have k4 := HA7.out.cel 4 _ rfl
      have k5 := HA7.out.cel 5 _ rfl
      have k6 := HA7.out.cel 6 _ rfl
      have k7 := HA7.out.cel 7 _ rfl
      have kl := HA7.out.lt
      go_wp2
      refine bodyPost_ret (v := .agg #[.string m7.name, .int .i64 m7.tenant, .int .i64 m7.cpu, .int .i64 m7.mem, .int .i64 m7.zone, .int .i64 m7.apart, .string m7.node, .int .i64 m7.epoch]) ?_ rfl ⟨m7, rfl, ?_, ?_⟩
      · simp only [results, Tryd.results17, go_sem]
        simp [go_sem, z0, z1, z2, z3, z4, z5, z6, z7]
      · have hs := HA7.out.src
        have hb := HLW.out
        repeat refine s_setv ?_ hb
        exact hs
      · have hg := Lib.grownBy_trans HG.out HA7.out.gr
        have hb := HRE.out
        repeat refine g_setv ?_ (Nat.le_of_eq hb)
        exact hg
    · have x0 := cel_v HB4.out 1 _ rfl
      have xl := (Array.getElem?_eq_some_iff.1 HB4.out).1
      have qc := HA4.out.cel 3 _ rfl
      have qf := HA4.out.frz
      have ql := HA4.out.lt
      go_upto_region 17 with fail
      have HA7 : Hid (VmF B0 a len cap wr p { m with mem := 1000 } (u4.setCell ⟨p, 3, none⟩ (.int .i64 1000))) := HA4.out.set3 HLT.out _
      clear qc qf ql HA4 x0 xl HB4
      generalize ({ m with mem := 1000 } : VMC) = m7 at *
      generalize (u4.setCell ⟨p, 3, none⟩ (.int .i64 1000)) = u7 at *
      have HZ : Hid _ := HR.out _ _ HA7.out
      have z0 := cel_v HZ.out.1 0 _ rfl
      have z1 := cel_v HZ.out.1 1 _ rfl
      have z2 := cel_v HZ.out.1 2 _ rfl
      have z3 := cel_v HZ.out.1 3 _ rfl
      have z4 := cel_v HZ.out.1 4 _ rfl
      have z5 := cel_v HZ.out.1 5 _ rfl
      have z6 := cel_v HZ.out.1 6 _ rfl
      have z7 := cel_v HZ.out.1 7 _ rfl
      have zf := frz_v HZ.out.1
      have zl := (Array.getElem?_eq_some_iff.1 HZ.out.1).1
      have k0 := HA7.out.cel 0 _ rfl
      have k1 := HA7.out.cel 1 _ rfl
      have k2 := HA7.out.cel 2 _ rfl
      have k3 := HA7.out.cel 3 _ rfl
      have k4 := HA7.out.cel 4 _ rfl
      have k5 := HA7.out.cel 5 _ rfl
      have k6 := HA7.out.cel 6 _ rfl
      have k7 := HA7.out.cel 7 _ rfl
      have kl := HA7.out.lt
      go_wp2
      refine bodyPost_ret (v := .agg #[.string m7.name, .int .i64 m7.tenant, .int .i64 m7.cpu, .int .i64 m7.mem, .int .i64 m7.zone, .int .i64 m7.apart, .string m7.node, .int .i64 m7.epoch]) ?_ rfl ⟨m7, rfl, ?_, ?_⟩
      · simp only [results, Tryd.results17, go_sem]
        simp [go_sem, z0, z1, z2, z3, z4, z5, z6, z7]
      · have hs := HA7.out.src
        have hb := HLW.out
        repeat refine s_setv ?_ hb
        exact hs
      · have hg := Lib.grownBy_trans HG.out HA7.out.gr
        have hb := HRE.out
        repeat refine g_setv ?_ (Nat.le_of_eq hb)
        exact hg
    · have x0 := cel_v HB4.out 2 _ rfl
      have xl := (Array.getElem?_eq_some_iff.1 HB4.out).1
      have qc := HA4.out.cel 3 _ rfl
      have qf := HA4.out.frz
      have ql := HA4.out.lt
      go_upto_region 17 with fail
      have HA7 : Hid (VmF B0 a len cap wr p { m with mem := 1001 } (u4.setCell ⟨p, 3, none⟩ (.int .i64 1001))) := HA4.out.set3 HLT.out _
      clear qc qf ql HA4 x0 xl HB4
      generalize ({ m with mem := 1001 } : VMC) = m7 at *
      generalize (u4.setCell ⟨p, 3, none⟩ (.int .i64 1001)) = u7 at *
      have HZ : Hid _ := HR.out _ _ HA7.out
      have z0 := cel_v HZ.out.1 0 _ rfl
      have z1 := cel_v HZ.out.1 1 _ rfl
      have z2 := cel_v HZ.out.1 2 _ rfl
      have z3 := cel_v HZ.out.1 3 _ rfl
      have z4 := cel_v HZ.out.1 4 _ rfl
      have z5 := cel_v HZ.out.1 5 _ rfl
      have z6 := cel_v HZ.out.1 6 _ rfl
      have z7 := cel_v HZ.out.1 7 _ rfl
      have zf := frz_v HZ.out.1
      have zl := (Array.getElem?_eq_some_iff.1 HZ.out.1).1
      have k0 := HA7.out.cel 0 _ rfl
      have k1 := HA7.out.cel 1 _ rfl
      have k2 := HA7.out.cel 2 _ rfl
      have k3 := HA7.out.cel 3 _ rfl
      have k4 := HA7.out.cel 4 _ rfl
      have k5 := HA7.out.cel 5 _ rfl
      have k6 := HA7.out.cel 6 _ rfl
      have k7 := HA7.out.cel 7 _ rfl
      have kl := HA7.out.lt
      go_wp2
      refine bodyPost_ret (v := .agg #[.string m7.name, .int .i64 m7.tenant, .int .i64 m7.cpu, .int .i64 m7.mem, .int .i64 m7.zone, .int .i64 m7.apart, .string m7.node, .int .i64 m7.epoch]) ?_ rfl ⟨m7, rfl, ?_, ?_⟩
      · simp only [results, Tryd.results17, go_sem]
        simp [go_sem, z0, z1, z2, z3, z4, z5, z6, z7]
      · have hs := HA7.out.src
        have hb := HLW.out
        repeat refine s_setv ?_ hb
        exact hs
      · have hg := Lib.grownBy_trans HG.out HA7.out.gr
        have hb := HRE.out
        repeat refine g_setv ?_ (Nat.le_of_eq hb)
        exact hg
  · clear r1 r2
    go_wp2_with fail
    refine Calls.mono (HNQ.out 3 _ (by omega) (by omega) (HA3.out.far (.cells #[.int .i64 (-1), .int .i64 20, .int .i64 21] 2)).src) ?_
    rintro e u4 ⟨r4, rfl, r41, r42, hs, hg⟩
    have HA4 : Hid (VmF B0 a len cap wr p m u4) := (HA3.out.far _).grow HLT.out hs hg
    have HB4 : Hid (u4.heap[u3.heap.size]? = some (.cells #[.int .i64 (-1), .int .i64 20, .int .i64 21] 2 (0, 0))) := (hg.block u3.heap.size (by simp) (by have := HA3.out.lt; have := HLT.out; have := HA3.out.gr.size; simp; omega)).trans (MapKept.heap_alloc u3 _).1
    have HP4 : Hid (p < u3.heap.size) := HA3.out.lt
    clear hs hg HA3
    generalize u3.heap.size = b3 at *
    obtain rfl | rfl | rfl : r4 = 0 ∨ r4 = 1 ∨ r4 = 2 := by omega
    · have x0 := cel_v HB4.out 0 _ rfl
      have xl := (Array.getElem?_eq_some_iff.1 HB4.out).1
      have qc := HA4.out.cel 4 _ rfl
      have qf := HA4.out.frz
      have ql := HA4.out.lt
      go_upto_region 17 with fail
      have HA7 : Hid (VmF B0 a len cap wr p { m with zone := (-1) } (u4.setCell ⟨p, 4, none⟩ (.int .i64 (-1)))) := HA4.out.set4 HLT.out _
      clear qc qf ql HA4 x0 xl HB4
      generalize ({ m with zone := (-1) } : VMC) = m7 at *
      generalize (u4.setCell ⟨p, 4, none⟩ (.int .i64 (-1))) = u7 at *
      have HZ : Hid _ := HR.out _ _ HA7.out
      have z0 := cel_v HZ.out.1 0 _ rfl
      have z1 := cel_v HZ.out.1 1 _ rfl
      have z2 := cel_v HZ.out.1 2 _ rfl
      have z3 := cel_v HZ.out.1 3 _ rfl
      have z4 := cel_v HZ.out.1 4 _ rfl
      have z5 := cel_v HZ.out.1 5 _ rfl
      have z6 := cel_v HZ.out.1 6 _ rfl
      have z7 := cel_v HZ.out.1 7 _ rfl
      have zf := frz_v HZ.out.1
      have zl := (Array.getElem?_eq_some_iff.1 HZ.out.1).1
      have k0 := HA7.out.cel 0 _ rfl
      have k1 := HA7.out.cel 1 _ rfl
      have k2 := HA7.out.cel 2 _ rfl
      have k3 := HA7.out.cel 3 _ rfl
      have k4 := HA7.out.cel 4 _ rfl
      have k5 := HA7.out.cel 5 _ rfl
      have k6 := HA7.out.cel 6 _ rfl
      have k7 := HA7.out.cel 7 _ rfl
      have kl := HA7.out.lt
      go_wp2
      refine bodyPost_ret (v := .agg #[.string m7.name, .int .i64 m7.tenant, .int .i64 m7.cpu, .int .i64 m7.mem, .int .i64 m7.zone, .int .i64 m7.apart, .string m7.node, .int .i64 m7.epoch]) ?_ rfl ⟨m7, rfl, ?_, ?_⟩
      · simp only [results, Tryd.results17, go_sem]
        simp [go_sem, z0, z1, z2, z3, z4, z5, z6, z7]
      · have hs := HA7.out.src
        have hb := HLW.out
        repeat refine s_setv ?_ hb
        exact hs
      · have hg := Lib.grownBy_trans HG.out HA7.out.gr
        have hb := HRE.out
        repeat refine g_setv ?_ (Nat.le_of_eq hb)
        exact hg
    · have x0 := cel_v HB4.out 1 _ rfl
      have xl := (Array.getElem?_eq_some_iff.1 HB4.out).1
      have qc := HA4.out.cel 4 _ rfl
      have qf := HA4.out.frz
      have ql := HA4.out.lt
      go_upto_region 17 with fail
      have HA7 : Hid (VmF B0 a len cap wr p { m with zone := 20 } (u4.setCell ⟨p, 4, none⟩ (.int .i64 20))) := HA4.out.set4 HLT.out _
      clear qc qf ql HA4 x0 xl HB4
      generalize ({ m with zone := 20 } : VMC) = m7 at *
      generalize (u4.setCell ⟨p, 4, none⟩ (.int .i64 20)) = u7 at *
      have HZ : Hid _ := HR.out _ _ HA7.out
      have z0 := cel_v HZ.out.1 0 _ rfl
      have z1 := cel_v HZ.out.1 1 _ rfl
      have z2 := cel_v HZ.out.1 2 _ rfl
      have z3 := cel_v HZ.out.1 3 _ rfl
      have z4 := cel_v HZ.out.1 4 _ rfl
      have z5 := cel_v HZ.out.1 5 _ rfl
      have z6 := cel_v HZ.out.1 6 _ rfl
      have z7 := cel_v HZ.out.1 7 _ rfl
      have zf := frz_v HZ.out.1
      have zl := (Array.getElem?_eq_some_iff.1 HZ.out.1).1
      have k0 := HA7.out.cel 0 _ rfl
      have k1 := HA7.out.cel 1 _ rfl
      have k2 := HA7.out.cel 2 _ rfl
      have k3 := HA7.out.cel 3 _ rfl
      have k4 := HA7.out.cel 4 _ rfl
      have k5 := HA7.out.cel 5 _ rfl
      have k6 := HA7.out.cel 6 _ rfl
      have k7 := HA7.out.cel 7 _ rfl
      have kl := HA7.out.lt
      go_wp2
      refine bodyPost_ret (v := .agg #[.string m7.name, .int .i64 m7.tenant, .int .i64 m7.cpu, .int .i64 m7.mem, .int .i64 m7.zone, .int .i64 m7.apart, .string m7.node, .int .i64 m7.epoch]) ?_ rfl ⟨m7, rfl, ?_, ?_⟩
      · simp only [results, Tryd.results17, go_sem]
        simp [go_sem, z0, z1, z2, z3, z4, z5, z6, z7]
      · have hs := HA7.out.src
        have hb := HLW.out
        repeat refine s_setv ?_ hb
        exact hs
      · have hg := Lib.grownBy_trans HG.out HA7.out.gr
        have hb := HRE.out
        repeat refine g_setv ?_ (Nat.le_of_eq hb)
        exact hg
    · have x0 := cel_v HB4.out 2 _ rfl
      have xl := (Array.getElem?_eq_some_iff.1 HB4.out).1
      have qc := HA4.out.cel 4 _ rfl
      have qf := HA4.out.frz
      have ql := HA4.out.lt
      go_upto_region 17 with fail
      have HA7 : Hid (VmF B0 a len cap wr p { m with zone := 21 } (u4.setCell ⟨p, 4, none⟩ (.int .i64 21))) := HA4.out.set4 HLT.out _
      clear qc qf ql HA4 x0 xl HB4
      generalize ({ m with zone := 21 } : VMC) = m7 at *
      generalize (u4.setCell ⟨p, 4, none⟩ (.int .i64 21)) = u7 at *
      have HZ : Hid _ := HR.out _ _ HA7.out
      have z0 := cel_v HZ.out.1 0 _ rfl
      have z1 := cel_v HZ.out.1 1 _ rfl
      have z2 := cel_v HZ.out.1 2 _ rfl
      have z3 := cel_v HZ.out.1 3 _ rfl
      have z4 := cel_v HZ.out.1 4 _ rfl
      have z5 := cel_v HZ.out.1 5 _ rfl
      have z6 := cel_v HZ.out.1 6 _ rfl
      have z7 := cel_v HZ.out.1 7 _ rfl
      have zf := frz_v HZ.out.1
      have zl := (Array.getElem?_eq_some_iff.1 HZ.out.1).1
      have k0 := HA7.out.cel 0 _ rfl
      have k1 := HA7.out.cel 1 _ rfl
      have k2 := HA7.out.cel 2 _ rfl
      have k3 := HA7.out.cel 3 _ rfl
      have k4 := HA7.out.cel 4 _ rfl
      have k5 := HA7.out.cel 5 _ rfl
      have k6 := HA7.out.cel 6 _ rfl
      have k7 := HA7.out.cel 7 _ rfl
      have kl := HA7.out.lt
      go_wp2
      refine bodyPost_ret (v := .agg #[.string m7.name, .int .i64 m7.tenant, .int .i64 m7.cpu, .int .i64 m7.mem, .int .i64 m7.zone, .int .i64 m7.apart, .string m7.node, .int .i64 m7.epoch]) ?_ rfl ⟨m7, rfl, ?_, ?_⟩
      · simp only [results, Tryd.results17, go_sem]
        simp [go_sem, z0, z1, z2, z3, z4, z5, z6, z7]
      · have hs := HA7.out.src
        have hb := HLW.out
        repeat refine s_setv ?_ hb
        exact hs
      · have hg := Lib.grownBy_trans HG.out HA7.out.gr
        have hb := HRE.out
        repeat refine g_setv ?_ (Nat.le_of_eq hb)
        exact hg
  · clear r1 r2
    go_wp2_with fail
    refine Calls.mono (HNQ.out 3 _ (by omega) (by omega) (HA3.out.far (.cells #[.int .i64 (-1), .int .i64 20, .int .i64 21] 2)).src) ?_
    rintro e u4 ⟨r4, rfl, r41, r42, hs, hg⟩
    have HA4 : Hid (VmF B0 a len cap wr p m u4) := (HA3.out.far _).grow HLT.out hs hg
    have HB4 : Hid (u4.heap[u3.heap.size]? = some (.cells #[.int .i64 (-1), .int .i64 20, .int .i64 21] 2 (0, 0))) := (hg.block u3.heap.size (by simp) (by have := HA3.out.lt; have := HLT.out; have := HA3.out.gr.size; simp; omega)).trans (MapKept.heap_alloc u3 _).1
    have HP4 : Hid (p < u3.heap.size) := HA3.out.lt
    clear hs hg HA3
    generalize u3.heap.size = b3 at *
    obtain rfl | rfl | rfl : r4 = 0 ∨ r4 = 1 ∨ r4 = 2 := by omega
    · have x0 := cel_v HB4.out 0 _ rfl
      have xl := (Array.getElem?_eq_some_iff.1 HB4.out).1
      have qc := HA4.out.cel 5 _ rfl
      have qf := HA4.out.frz
      have ql := HA4.out.lt
      go_upto_region 17 with fail
      have HA7 : Hid (VmF B0 a len cap wr p { m with apart := (-1) } (u4.setCell ⟨p, 5, none⟩ (.int .i64 (-1)))) := HA4.out.set5 HLT.out _
      clear qc qf ql HA4 x0 xl HB4
      generalize ({ m with apart := (-1) } : VMC) = m7 at *
      generalize (u4.setCell ⟨p, 5, none⟩ (.int .i64 (-1))) = u7 at *
      have HZ : Hid _ := HR.out _ _ HA7.out
      have z0 := cel_v HZ.out.1 0 _ rfl
      have z1 := cel_v HZ.out.1 1 _ rfl
      have z2 := cel_v HZ.out.1 2 _ rfl
      have z3 := cel_v HZ.out.1 3 _ rfl
      have z4 := cel_v HZ.out.1 4 _ rfl
      have z5 := cel_v HZ.out.1 5 _ rfl
      have z6 := cel_v HZ.out.1 6 _ rfl
      have z7 := cel_v HZ.out.1 7 _ rfl
      have zf := frz_v HZ.out.1
      have zl := (Array.getElem?_eq_some_iff.1 HZ.out.1).1
      have k0 := HA7.out.cel 0 _ rfl
      have k1 := HA7.out.cel 1 _ rfl
      have k2 := HA7.out.cel 2 _ rfl
      have k3 := HA7.out.cel 3 _ rfl
      have k4 := HA7.out.cel 4 _ rfl
      have k5 := HA7.out.cel 5 _ rfl
      have k6 := HA7.out.cel 6 _ rfl
      have k7 := HA7.out.cel 7 _ rfl
      have kl := HA7.out.lt
      go_wp2
      refine bodyPost_ret (v := .agg #[.string m7.name, .int .i64 m7.tenant, .int .i64 m7.cpu, .int .i64 m7.mem, .int .i64 m7.zone, .int .i64 m7.apart, .string m7.node, .int .i64 m7.epoch]) ?_ rfl ⟨m7, rfl, ?_, ?_⟩
      · simp only [results, Tryd.results17, go_sem]
        simp [go_sem, z0, z1, z2, z3, z4, z5, z6, z7]
      · have hs := HA7.out.src
        have hb := HLW.out
        repeat refine s_setv ?_ hb
        exact hs
      · have hg := Lib.grownBy_trans HG.out HA7.out.gr
        have hb := HRE.out
        repeat refine g_setv ?_ (Nat.le_of_eq hb)
        exact hg
    · have x0 := cel_v HB4.out 1 _ rfl
      have xl := (Array.getElem?_eq_some_iff.1 HB4.out).1
      have qc := HA4.out.cel 5 _ rfl
      have qf := HA4.out.frz
      have ql := HA4.out.lt
      go_upto_region 17 with fail
      have HA7 : Hid (VmF B0 a len cap wr p { m with apart := 20 } (u4.setCell ⟨p, 5, none⟩ (.int .i64 20))) := HA4.out.set5 HLT.out _
      clear qc qf ql HA4 x0 xl HB4
      generalize ({ m with apart := 20 } : VMC) = m7 at *
      generalize (u4.setCell ⟨p, 5, none⟩ (.int .i64 20)) = u7 at *
      have HZ : Hid _ := HR.out _ _ HA7.out
      have z0 := cel_v HZ.out.1 0 _ rfl
      have z1 := cel_v HZ.out.1 1 _ rfl
      have z2 := cel_v HZ.out.1 2 _ rfl
      have z3 := cel_v HZ.out.1 3 _ rfl
      have z4 := cel_v HZ.out.1 4 _ rfl
      have z5 := cel_v HZ.out.1 5 _ rfl
      have z6 := cel_v HZ.out.1 6 _ rfl
      have z7 := cel_v HZ.out.1 7 _ rfl
      have zf := frz_v HZ.out.1
      have zl := (Array.getElem?_eq_some_iff.1 HZ.out.1).1
      have k0 := HA7.out.cel 0 _ rfl
      have k1 := HA7.out.cel 1 _ rfl
      have k2 := HA7.out.cel 2 _ rfl
      have k3 := HA7.out.cel 3 _ rfl
      have k4 := HA7.out.cel 4 _ rfl
      have k5 := HA7.out.cel 5 _ rfl
      have k6 := HA7.out.cel 6 _ rfl
      have k7 := HA7.out.cel 7 _ rfl
      have kl := HA7.out.lt
      go_wp2
      refine bodyPost_ret (v := .agg #[.string m7.name, .int .i64 m7.tenant, .int .i64 m7.cpu, .int .i64 m7.mem, .int .i64 m7.zone, .int .i64 m7.apart, .string m7.node, .int .i64 m7.epoch]) ?_ rfl ⟨m7, rfl, ?_, ?_⟩
      · simp only [results, Tryd.results17, go_sem]
        simp [go_sem, z0, z1, z2, z3, z4, z5, z6, z7]
      · have hs := HA7.out.src
        have hb := HLW.out
        repeat refine s_setv ?_ hb
        exact hs
      · have hg := Lib.grownBy_trans HG.out HA7.out.gr
        have hb := HRE.out
        repeat refine g_setv ?_ (Nat.le_of_eq hb)
        exact hg
    · have x0 := cel_v HB4.out 2 _ rfl
      have xl := (Array.getElem?_eq_some_iff.1 HB4.out).1
      have qc := HA4.out.cel 5 _ rfl
      have qf := HA4.out.frz
      have ql := HA4.out.lt
      go_upto_region 17 with fail
      have HA7 : Hid (VmF B0 a len cap wr p { m with apart := 21 } (u4.setCell ⟨p, 5, none⟩ (.int .i64 21))) := HA4.out.set5 HLT.out _
      clear qc qf ql HA4 x0 xl HB4
      generalize ({ m with apart := 21 } : VMC) = m7 at *
      generalize (u4.setCell ⟨p, 5, none⟩ (.int .i64 21)) = u7 at *
      have HZ : Hid _ := HR.out _ _ HA7.out
      have z0 := cel_v HZ.out.1 0 _ rfl
      have z1 := cel_v HZ.out.1 1 _ rfl
      have z2 := cel_v HZ.out.1 2 _ rfl
      have z3 := cel_v HZ.out.1 3 _ rfl
      have z4 := cel_v HZ.out.1 4 _ rfl
      have z5 := cel_v HZ.out.1 5 _ rfl
      have z6 := cel_v HZ.out.1 6 _ rfl
      have z7 := cel_v HZ.out.1 7 _ rfl
      have zf := frz_v HZ.out.1
      have zl := (Array.getElem?_eq_some_iff.1 HZ.out.1).1
      have k0 := HA7.out.cel 0 _ rfl
      have k1 := HA7.out.cel 1 _ rfl
      have k2 := HA7.out.cel 2 _ rfl
      have k3 := HA7.out.cel 3 _ rfl
      have k4 := HA7.out.cel 4 _ rfl
      have k5 := HA7.out.cel 5 _ rfl
      have k6 := HA7.out.cel 6 _ rfl
      have k7 := HA7.out.cel 7 _ rfl
      have kl := HA7.out.lt
      go_wp2
      refine bodyPost_ret (v := .agg #[.string m7.name, .int .i64 m7.tenant, .int .i64 m7.cpu, .int .i64 m7.mem, .int .i64 m7.zone, .int .i64 m7.apart, .string m7.node, .int .i64 m7.epoch]) ?_ rfl ⟨m7, rfl, ?_, ?_⟩
      · simp only [results, Tryd.results17, go_sem]
        simp [go_sem, z0, z1, z2, z3, z4, z5, z6, z7]
      · have hs := HA7.out.src
        have hb := HLW.out
        repeat refine s_setv ?_ hb
        exact hs
      · have hg := Lib.grownBy_trans HG.out HA7.out.gr
        have hb := HRE.out
        repeat refine g_setv ?_ (Nat.le_of_eq hb)
        exact hg
set_option maxRecDepth 100000 in
set_option maxHeartbeats 4000000 in
theorem drawVm_any (a : Option Addr) (len cap : Nat) (w : World) (hcode : CodeAt w w.heap.size a len) (hl : len ≤ 1048576) :
    Calls Tryd.prog 8 #[.slice a len cap] w fun e w' => ∃ m : VMC, e = .returned (.agg #[.string m.name, .int .i64 m.tenant, .int .i64 m.cpu, .int .i64 m.mem, .int .i64 m.zone, .int .i64 m.apart, .string m.node, .int .i64 m.epoch]) ∧ Below w.heap.size w w' := by
  have HC1 : Hid (CodeAt (w.alloc (.cells #[.string ⟨#[]⟩, .int .i64 0, .int .i64 0, .int .i64 0, .int .i64 0, .int .i64 0, .string ⟨#[]⟩, .int .i64 0] 23)) (w.alloc (.cells #[.string ⟨#[]⟩, .int .i64 0, .int .i64 0, .int .i64 0, .int .i64 0, .int .i64 0, .string ⟨#[]⟩, .int .i64 0] 23)).heap.size a len) := (by
    rcases hcode with hc | ⟨cb, co, ha, hlt, h⟩
    · exact .inl hc
    · refine .inr ⟨cb, co, ha, (by simp; omega), fun i hi => ?_⟩
      obtain ⟨x, h0, h1, hx⟩ := h i hi
      exact ⟨x, h0, h1, ((bx1 w (.cells #[.string ⟨#[]⟩, .int .i64 0, .int .i64 0, .int .i64 0, .int .i64 0, .int .i64 0, .string ⟨#[]⟩, .int .i64 0] 23)).cell (p := ⟨cb, co + i, none⟩) hlt).trans hx⟩)
  have HL0 : Hid (LG w (w.alloc (.cells #[.string ⟨#[]⟩, .int .i64 0, .int .i64 0, .int .i64 0, .int .i64 0, .int .i64 0, .string ⟨#[]⟩, .int .i64 0] 23)) w.heap.size #[.string ⟨#[]⟩, .int .i64 0, .int .i64 0, .int .i64 0, .int .i64 0, .int .i64 0, .string ⟨#[]⟩, .int .i64 0] 23) := LG.new w _ _
  clear hcode
  go_enter Tryd.func8, Tryd.ntmps8
  go_upto_region 1 with fail
  generalize w.alloc (.cells #[.string ⟨#[]⟩, .int .i64 0, .int .i64 0, .int .i64 0, .int .i64 0, .int .i64 0, .string ⟨#[]⟩, .int .i64 0] 23) = wr at *
  generalize hbb : w.heap.size = r0 at HL0 ⊢
  have HB9 : Hid (w.heap.size = r0) := hbb
  clear hbb
  go_wp2_with fail
  refine (l01Source_any a len cap wr HC1.out hl).mono ?_
  rintro e w1 ⟨rfl, hs1, hb1⟩
  have HL1 : Hid (LG w w1 r0 #[.string ⟨#[]⟩, .int .i64 0, .int .i64 0, .int .i64 0, .int .i64 0, .int .i64 0, .string ⟨#[]⟩, .int .i64 0] 23) := HL0.out.step hb1
  have HRW : Hid (r0 < wr.heap.size) := HL0.out.lt
  have HWR : Hid (w.heap.size ≤ wr.heap.size) := HL0.out.bel.size
  clear hb1 HL0
  go_wp2_with fail
  refine (src_anyVm wr.heap.size a len cap w1 hs1).mono ?_
  rintro e w2 ⟨m, rfl, hs2, hg2⟩
  have HL2 : Hid (LG w w2 r0 #[.string ⟨#[]⟩, .int .i64 0, .int .i64 0, .int .i64 0, .int .i64 0, .int .i64 0, .string ⟨#[]⟩, .int .i64 0] 23) := ⟨HL1.out.bel.grown hg2 HL1.out.bel.size (fun k hk => by cases hk; exact HWR.out), (hg2.block r0 HL1.out.lt (by simp; have := HRW.out; omega)).trans HL1.out.box, HL1.out.ge⟩
  clear hs1 hs2 hg2 HL1
  have z0 := HL2.out.cel 0 _ rfl
  have z1 := HL2.out.cel 1 _ rfl
  have z2 := HL2.out.cel 2 _ rfl
  have z3 := HL2.out.cel 3 _ rfl
  have z4 := HL2.out.cel 4 _ rfl
  have z5 := HL2.out.cel 5 _ rfl
  have z6 := HL2.out.cel 6 _ rfl
  have z7 := HL2.out.cel 7 _ rfl
  have zf := HL2.out.frz
  have zl := HL2.out.lt
  go_wp2
  refine bodyPost_ret (v := .agg #[.string m.name, .int .i64 m.tenant, .int .i64 m.cpu, .int .i64 m.mem, .int .i64 m.zone, .int .i64 m.apart, .string m.node, .int .i64 m.epoch]) ?_ rfl ⟨m, rfl, ?_⟩
  · simp only [results, Tryd.results8, go_sem]
    simp [go_sem, z0, z1, z2, z3, z4, z5, z6, z7]
  · have hb9 := HL2.out.bel
    rw [HB9.out] at hb9
    first | rw [HB9.out] | skip
    repeat refine Below.setCell ?_ (by simp only; omega) _
    exact hb9

set_option maxRecDepth 100000 in
set_option maxHeartbeats 16000000 in
theorem walkVL (a : Option Addr) (len cap : Nat) (w : World) (hcode : CodeAt w w.heap.size a len) (hl : len ≤ 1048576) (ht : Tab w) (hw : 0 < w.heap.size) (he : ErrsAt w) (h1 : 1 < w.heap.size) (h2 : 2 < w.heap.size) :
    Calls Tryd.prog 4 #[.slice a len cap] w fun e w' => e = .returned (.bool true) ∧ Below w.heap.size w w' := by
  have HRD : Hid (∀ (T : ByteArray) (u : World), Aft w u → Calls Tryd.prog 6 #[.string T] u fun e w' => e = .returned (.agg #[.string (rvP T).name, .int .i64 (rvP T).tenant, .int .i64 (rvP T).cpu, .int .i64 (rvP T).mem, .int .i64 (rvP T).zone, .int .i64 (rvP T).apart, .string (rvP T).node, .int .i64 (rvP T).epoch]) ∧ Below u.heap.size u w') := fun T u hu => implRV_any T u (ht.below hu.out hw) (Nat.lt_of_lt_of_le hw hu.out.size) (he.below hu.out h1 h2) (Nat.lt_of_lt_of_le h1 hu.out.size) (Nat.lt_of_lt_of_le h2 hu.out.size)
  have HIV : Hid (∀ (v : VMC) (u : World), Aft w u → Calls Tryd.prog 9 #[.agg #[.string v.name, .int .i64 v.tenant, .int .i64 v.cpu, .int .i64 v.mem, .int .i64 v.zone, .int .i64 v.apart, .string v.node, .int .i64 v.epoch]] u fun e w' => e = .returned (.string (vtV v)) ∧ Below u.heap.size u w') := fun v u hu => implVT_any v u (ht.below hu.out hw) (Nat.lt_of_lt_of_le hw hu.out.size)
  have HSV : Hid (∀ (v : VMC) (u : World), Calls Tryd.prog 10 #[.agg #[.string v.name, .int .i64 v.tenant, .int .i64 v.cpu, .int .i64 v.mem, .int .i64 v.zone, .int .i64 v.apart, .string v.node, .int .i64 v.epoch]] u fun e w' => e = .returned (.string (vtV v)) ∧ Below u.heap.size u w') := fun v u => specVT_any v u
  have HDR : Hid (Calls Tryd.prog 8 #[.slice a len cap] w fun e w' => ∃ m : VMC, e = .returned (.agg #[.string m.name, .int .i64 m.tenant, .int .i64 m.cpu, .int .i64 m.mem, .int .i64 m.zone, .int .i64 m.apart, .string m.node, .int .i64 m.epoch]) ∧ Below w.heap.size w w') := drawVm_any a len cap w hcode hl
  have hl0 : (0 : Int) ≤ (len : Int) := by omega
  have hl1 : (len : Int) ≤ 1048576 := by omega
  clear hcode ht hw he h1 h2 hl
  go_enter Tryd.func4, Tryd.ntmps4
  go_wp2_with fail
  refine Calls.mono HDR.out ?_
  rintro e u0 ⟨m, rfl, hb0⟩
  have HB0 : Hid (LG w (u0.alloc (.cells #[.string m.name, .int .i64 m.tenant, .int .i64 m.cpu, .int .i64 m.mem, .int .i64 m.zone, .int .i64 m.apart, .string m.node, .int .i64 m.epoch] 23)) u0.heap.size #[.string m.name, .int .i64 m.tenant, .int .i64 m.cpu, .int .i64 m.mem, .int .i64 m.zone, .int .i64 m.apart, .string m.node, .int .i64 m.epoch] 23) := ⟨hb0.trans ((bx1 _ _).mono hb0.size), heap_new _ _, hb0.size⟩
  clear hb0
  go_upto_region 4 with fail
  generalize (u0.alloc (.cells #[.string m.name, .int .i64 m.tenant, .int .i64 m.cpu, .int .i64 m.mem, .int .i64 m.zone, .int .i64 m.apart, .string m.node, .int .i64 m.epoch] 23)) = u1 at *
  generalize u0.heap.size = b1 at *
  have k6 := HB0.out.cel 6 _ rfl
  have k7 := HB0.out.cel 7 _ rfl
  have kf := HB0.out.frz
  have kl := HB0.out.lt
  go_upto_region 6 with fail
  have HB1 : Hid (LG w ((u1.setCell ⟨b1, 6, none⟩ (.string ⟨#[]⟩)).setCell ⟨b1, 7, none⟩ (.int .i64 0)) b1 #[.string m.name, .int .i64 m.tenant, .int .i64 m.cpu, .int .i64 m.mem, .int .i64 m.zone, .int .i64 m.apart, .string ⟨#[]⟩, .int .i64 0] 23) := ⟨(HB0.out.bel.setCell HB0.out.ge _).setCell HB0.out.ge _, Go.heap_setCell_same _ b1 7 _ 23 (.int .i64 0) (Go.heap_setCell_same u1 b1 6 _ 23 (.string ⟨#[]⟩) HB0.out.box), HB0.out.ge⟩
  clear k6 k7 kf kl HB0
  generalize ((u1.setCell ⟨b1, 6, none⟩ (.string ⟨#[]⟩)).setCell ⟨b1, 7, none⟩ (.int .i64 0)) = u2 at *
  obtain ⟨v, hv, hvn, hve⟩ : ∃ v : VMC, (⟨m.name, m.tenant, m.cpu, m.mem, m.zone, m.apart, ⟨#[]⟩, 0⟩ : VMC) = v ∧ v.node = ⟨#[]⟩ ∧ v.epoch = 0 := ⟨_, rfl, rfl, rfl⟩
  have HB2 : Hid (LG w u2 b1 #[.string v.name, .int .i64 v.tenant, .int .i64 v.cpu, .int .i64 v.mem, .int .i64 v.zone, .int .i64 v.apart, .string v.node, .int .i64 v.epoch] 23) := (show LG _ _ _ _ _ by rw [← hv]; exact HB1.out)
  clear HB1 hv
  have HIV2 : Hid (∀ u, Aft w u → Calls Tryd.prog 9 #[.agg #[.string v.name, .int .i64 v.tenant, .int .i64 v.cpu, .int .i64 v.mem, .int .i64 v.zone, .int .i64 v.apart, .string v.node, .int .i64 v.epoch]] u fun e w' => e = .returned (.string (vtV v)) ∧ Below u.heap.size u w') := HIV.out v
  have HSV2 : Hid (∀ u, Calls Tryd.prog 10 #[.agg #[.string v.name, .int .i64 v.tenant, .int .i64 v.cpu, .int .i64 v.mem, .int .i64 v.zone, .int .i64 v.apart, .string v.node, .int .i64 v.epoch]] u fun e w' => e = .returned (.string (vtV v)) ∧ Below u.heap.size u w') := HSV.out v
  clear HIV HSV
  have k0 := HB2.out.cel 0 _ rfl
  have k1 := HB2.out.cel 1 _ rfl
  have k2 := HB2.out.cel 2 _ rfl
  have k3 := HB2.out.cel 3 _ rfl
  have k4 := HB2.out.cel 4 _ rfl
  have k5 := HB2.out.cel 5 _ rfl
  have k6 := HB2.out.cel 6 _ rfl
  have k7 := HB2.out.cel 7 _ rfl
  have kl := HB2.out.lt
  cases hvb : vmB 8 v
  · have e0 : vtV v = ⟨#[]⟩ := by unfold vtV; rw [hvb]; rfl
    rw [e0] at HIV2 HSV2
    clear hvb e0 hvn hve HRD
    go_upto_region 7 with (go_at_call 9; refine Calls.mono (HIV2.out _ HB2.out.aft) ?_; rintro e u3 ⟨rfl, hb⟩; have HB3 : Hid (LG w u3 b1 #[.string v.name, .int .i64 v.tenant, .int .i64 v.cpu, .int .i64 v.mem, .int .i64 v.zone, .int .i64 v.apart, .string v.node, .int .i64 v.epoch] 23) := HB2.out.step hb; clear hb)
    clear k0 k1 k2 k3 k4 k5 k6 k7 kl HB2 HIV2
    have k0 := HB3.out.cel 0 _ rfl
    have k1 := HB3.out.cel 1 _ rfl
    have k2 := HB3.out.cel 2 _ rfl
    have k3 := HB3.out.cel 3 _ rfl
    have k4 := HB3.out.cel 4 _ rfl
    have k5 := HB3.out.cel 5 _ rfl
    have k6 := HB3.out.cel 6 _ rfl
    have k7 := HB3.out.cel 7 _ rfl
    have kl := HB3.out.lt
    go_upto_region 9 with (go_at_call 10; refine Calls.mono (HSV2.out _) ?_; rintro e u4 ⟨rfl, hb⟩; have HB4 : Hid (LG w u4 b1 #[.string v.name, .int .i64 v.tenant, .int .i64 v.cpu, .int .i64 v.mem, .int .i64 v.zone, .int .i64 v.apart, .string v.node, .int .i64 v.epoch] 23) := HB3.out.step hb; clear hb)
    clear k0 k1 k2 k3 k4 k5 k6 k7 kl HB3 HSV2
    have HSB : Hid (LG w u4.drew b1 #[.string v.name, .int .i64 v.tenant, .int .i64 v.cpu, .int .i64 v.mem, .int .i64 v.zone, .int .i64 v.apart, .string v.node, .int .i64 v.epoch] 23) := HB4.out.drew
    refine wp_region_held (S := fun w9 => LG w w9 b1 #[.string v.name, .int .i64 v.tenant, .int .i64 v.cpu, .int .i64 v.mem, .int .i64 v.zone, .int .i64 v.apart, .string v.node, .int .i64 v.epoch] 23) (by kernel_rfl) ?_
    change wpAnyH _ _ _ _ _ _ _ _ (World.drew _)
    refine wpAnyH_take (i := 0) (v := .string ⟨#[]⟩) rfl (by kernel_rfl) (by kernel_rfl) (by kernel_rfl) (fun _ _ _ h => h) (Or.inl ⟨by kernel_rfl, fun w9 h9 => ?_⟩) HSB.out ?_
    · go_simp
    refine wpAnyH_take (i := 1) (v := .bool true) rfl (by kernel_rfl) (by kernel_rfl) (by kernel_rfl) (fun _ _ _ h => h) (Or.inl ⟨by kernel_rfl, fun w9 h9 => ?_⟩) HSB.out ?_
    · go_simp; all_goals first | exact HNE.out | rfl | decide
    refine wpAnyH_take (i := 2) (v := .bool true) rfl (by kernel_rfl) (by kernel_rfl) (by kernel_rfl) (fun _ _ _ h => h) (Or.inl ⟨by kernel_rfl, fun w9 h9 => ?_⟩) HSB.out ?_
    · go_simp
    refine wpAnyH_take (i := 3) (v := undef) rfl (by kernel_rfl) (by kernel_rfl) (by kernel_rfl) (fun _ _ _ h => h) (Or.inr ⟨by kernel_rfl, rfl⟩) HSB.out ?_
    refine wpAnyH_take (i := 4) (v := undef) rfl (by kernel_rfl) (by kernel_rfl) (by kernel_rfl) (fun _ _ _ h => h) (Or.inr ⟨by kernel_rfl, rfl⟩) HSB.out ?_
    refine wpAnyH_take (i := 5) (v := undef) rfl (by kernel_rfl) (by kernel_rfl) (by kernel_rfl) (fun _ _ _ h => h) (Or.inr ⟨by kernel_rfl, rfl⟩) HSB.out ?_
    refine wpAnyH_take (i := 6) (v := undef) rfl (by kernel_rfl) (by kernel_rfl) (by kernel_rfl) (fun _ _ _ h => h) (Or.inr ⟨by kernel_rfl, rfl⟩) HSB.out ?_
    refine wpAnyH_take (i := 7) (v := .bool true) rfl (by kernel_rfl) (by kernel_rfl) (by kernel_rfl) (fun _ _ _ h => h) (Or.inl ⟨by kernel_rfl, fun w9 h9 => ?_⟩) HSB.out ?_
    · go_simp
    refine wpAnyH_take (i := 8) (v := .bool true) rfl (by kernel_rfl) (by kernel_rfl) (by kernel_rfl) (fun _ _ _ h => h) (Or.inl ⟨by kernel_rfl, fun w9 h9 => ?_⟩) HSB.out ?_
    · go_simp
    refine wpAnyH_done (by kernel_rfl) ?_ _
    go_simp
    go_wp2
    go_ret
    exact ⟨rfl, HSB.out.bel⟩
  · have e0 : vtV v = vtT v := by unfold vtV; rw [if_pos hvb]
    have e1 := rvP_vt hvb hvn hve
    have hne : ((vtT v).toList == (⟨#[]⟩ : ByteArray).toList) = false := by
      rw [beq_eq_false_iff_ne, ByteArray.toList_eq, ByteArray.toList_eq, vt_list]
      intro h
      have h9 := congrArg List.length h
      simp [catW] at h9
    have HNE : Hid (¬ (vtT v).toList = []) := (show ¬ (vtT v).toList = [] from fun h => by rw [ByteArray.toList_eq, vt_list] at h; simp [catW] at h)
    rw [e0] at HIV2 HSV2
    have HRV : Hid (∀ u, Aft w u → Calls Tryd.prog 6 #[.string (vtT v)] u fun e w' => e = .returned (.agg #[.string v.name, .int .i64 v.tenant, .int .i64 v.cpu, .int .i64 v.mem, .int .i64 v.zone, .int .i64 v.apart, .string v.node, .int .i64 v.epoch]) ∧ Below u.heap.size u w') := fun u hu => by have h9 := HRD.out (vtT v) u hu; rw [e1] at h9; exact h9
    clear hvb e0 e1 hvn hve HRD
    generalize vtT v = T at *
    go_upto_region 7 with (go_at_call 9; refine Calls.mono (HIV2.out _ HB2.out.aft) ?_; rintro e u3 ⟨rfl, hb⟩; have HB3 : Hid (LG w u3 b1 #[.string v.name, .int .i64 v.tenant, .int .i64 v.cpu, .int .i64 v.mem, .int .i64 v.zone, .int .i64 v.apart, .string v.node, .int .i64 v.epoch] 23) := HB2.out.step hb; clear hb)
    clear k0 k1 k2 k3 k4 k5 k6 k7 kl HB2 HIV2
    have k0 := HB3.out.cel 0 _ rfl
    have k1 := HB3.out.cel 1 _ rfl
    have k2 := HB3.out.cel 2 _ rfl
    have k3 := HB3.out.cel 3 _ rfl
    have k4 := HB3.out.cel 4 _ rfl
    have k5 := HB3.out.cel 5 _ rfl
    have k6 := HB3.out.cel 6 _ rfl
    have k7 := HB3.out.cel 7 _ rfl
    have kl := HB3.out.lt
    go_upto_region 9 with (go_at_call 10; refine Calls.mono (HSV2.out _) ?_; rintro e u4 ⟨rfl, hb⟩; have HB4 : Hid (LG w u4 b1 #[.string v.name, .int .i64 v.tenant, .int .i64 v.cpu, .int .i64 v.mem, .int .i64 v.zone, .int .i64 v.apart, .string v.node, .int .i64 v.epoch] 23) := HB3.out.step hb; clear hb)
    clear k0 k1 k2 k3 k4 k5 k6 k7 kl HB3 HSV2
    have HSB : Hid (LG w u4.drew b1 #[.string v.name, .int .i64 v.tenant, .int .i64 v.cpu, .int .i64 v.mem, .int .i64 v.zone, .int .i64 v.apart, .string v.node, .int .i64 v.epoch] 23) := HB4.out.drew
    refine wp_region_held (S := fun w9 => LG w w9 b1 #[.string v.name, .int .i64 v.tenant, .int .i64 v.cpu, .int .i64 v.mem, .int .i64 v.zone, .int .i64 v.apart, .string v.node, .int .i64 v.epoch] 23) (by kernel_rfl) ?_
    change wpAnyH _ _ _ _ _ _ _ _ (World.drew _)
    refine wpAnyH_take (i := 0) (v := .string T) rfl (by kernel_rfl) (by kernel_rfl) (by kernel_rfl) (fun _ _ _ h => h) (Or.inl ⟨by kernel_rfl, fun w9 h9 => ?_⟩) HSB.out ?_
    · go_simp
    refine wpAnyH_take (i := 1) (v := .bool false) rfl (by kernel_rfl) (by kernel_rfl) (by kernel_rfl) (fun _ _ _ h => h) (Or.inl ⟨by kernel_rfl, fun w9 h9 => ?_⟩) HSB.out ?_
    · go_simp; all_goals first | exact HNE.out | rfl | decide
    refine wpAnyH_take (i := 2) (v := .bool false) rfl (by kernel_rfl) (by kernel_rfl) (by kernel_rfl) (fun _ _ _ h => h) (Or.inl ⟨by kernel_rfl, fun w9 h9 => ?_⟩) HSB.out ?_
    · go_simp
    refine wpAnyH_take (i := 3) (v := .string T) rfl (by kernel_rfl) (by kernel_rfl) (by kernel_rfl) (fun _ _ _ h => h) (Or.inl ⟨by kernel_rfl, fun w9 h9 => ?_⟩) HSB.out ?_
    · go_simp
    refine wpAnyH_take (i := 5) (v := .agg #[.string v.name, .int .i64 v.tenant, .int .i64 v.cpu, .int .i64 v.mem, .int .i64 v.zone, .int .i64 v.apart, .string v.node, .int .i64 v.epoch]) rfl (by kernel_rfl) (by kernel_rfl) (by kernel_rfl) (fun _ _ _ h => h) (Or.inl ⟨by kernel_rfl, fun w9 h9 => ?_⟩) HSB.out ?_
    · have k0 := h9.cel 0 _ rfl; have k1 := h9.cel 1 _ rfl; have k2 := h9.cel 2 _ rfl; have k3 := h9.cel 3 _ rfl; have k4 := h9.cel 4 _ rfl; have k5 := h9.cel 5 _ rfl; have k6 := h9.cel 6 _ rfl; have k7 := h9.cel 7 _ rfl; have kl := h9.lt; clear h9; go_simp
    refine held_one 4 (by kernel_rfl) rfl (by kernel_rfl) fun K hK => ?_
    go_simp
    go_wp2_with (go_at_call 6; refine Calls.mono (HRV.out _ HSB.out.aft) ?_; rintro e u8 ⟨rfl, hb⟩; have HS8 : Hid (LG w u8 b1 #[.string v.name, .int .i64 v.tenant, .int .i64 v.cpu, .int .i64 v.mem, .int .i64 v.zone, .int .i64 v.apart, .string v.node, .int .i64 v.epoch] 23) := HSB.out.step hb; clear hb)
    refine hK _ _ HS8.out ?_
    clear hK K
    refine wpAnyH_take (i := 6) (v := .bool true) rfl (by kernel_rfl) (by kernel_rfl) (by kernel_rfl) (fun _ _ _ h => h) (Or.inl ⟨by kernel_rfl, fun w9 h9 => ?_⟩) HS8.out ?_
    · go_simp; all_goals first | rfl | decide
    refine wpAnyH_take (i := 7) (v := .bool true) rfl (by kernel_rfl) (by kernel_rfl) (by kernel_rfl) (fun _ _ _ h => h) (Or.inl ⟨by kernel_rfl, fun w9 h9 => ?_⟩) HS8.out ?_
    · go_simp
    refine wpAnyH_take (i := 8) (v := .bool true) rfl (by kernel_rfl) (by kernel_rfl) (by kernel_rfl) (fun _ _ _ h => h) (Or.inl ⟨by kernel_rfl, fun w9 h9 => ?_⟩) HS8.out ?_
    · go_simp
    refine wpAnyH_done (by kernel_rfl) ?_ _
    go_simp
    go_wp2
    go_ret
    exact ⟨rfl, HS8.out.bel⟩
end Go.Proofs.YtkicaihfknfgkaaDoor
