import Derived.Test.YtkmbhhkgfofcoaaCr1
import Derived.Laws.LoneSync
import Derived.Test.YtkmbhhkgfofcoaaCkNOD
import Derived.Test.YtkmbhhkgfofcoaaCkVMC
import Derived.Test.YtkmbhhkgfofcoaaCkTNT
import Derived.Test.YtkmbhhkgfofcoaaCs2
import Derived.Deep.RegionWith
import Derived.Laws.MakeOwn
namespace Go.Proofs.Ytkmbhhkgfofcoaa
open Go.ChangeShapes Go.WideShapes Go.ChangeAt Go.RowKit

theorem cellsCounts : Try.prog.cellsOf 99 = 2 := by kernel_rfl
set_option maxRecDepth 100000 in
set_option maxHeartbeats 4000000 in
theorem atLoad_any (b k : Nat) (x : Int) (w : World) (hc : w.cell? ⟨b, k, none⟩ = some (.int .i64 x)) : Calls Try.prog 80 #[.pointer (some ⟨b, k, none⟩)] w fun e w' => e = .returned (.int .i64 x) ∧ w' = w := by
  have hd : (callFunc 85 #[.pointer (some ⟨b, k, none⟩)]).run Try.prog w = .ok (.value (.int .i64 x)) w := run_call_load (fn := Try.f85) (by kernel_rfl) (by kernel_rfl) (by kernel_rfl) (by kernel_rfl) .i64 (by kernel_rfl) hc
  go_enter Try.func80, Try.ntmps80
  go_wp2
  go_ret
  exact ⟨rfl, rfl⟩
set_option maxRecDepth 100000 in
set_option maxHeartbeats 4000000 in
theorem atAdd_any (b k : Nat) (x y : Int) (w : World) (hc : w.cell? ⟨b, k, none⟩ = some (.int .i64 x)) (hz : w.frozen? ⟨b, k, none⟩ = false) : Calls Try.prog 77 #[.pointer (some ⟨b, k, none⟩), .int .i64 y] w fun e w' => e = .returned (.int .i64 (wrap64 (x + y))) ∧ w' = w.setCell ⟨b, k, none⟩ (.int .i64 (wrap64 (x + y))) := by
  have hd : (callFunc 83 #[.pointer (some ⟨b, k, none⟩), .int .i64 y]).run Try.prog w = .ok (.value (.int .i64 (wrap64 (x + y)))) (w.setCell ⟨b, k, none⟩ (.int .i64 (wrap64 (x + y)))) := run_call_add (fn := Try.f83) (by kernel_rfl) (by kernel_rfl) (by kernel_rfl) (by kernel_rfl) .i64 (by kernel_rfl) hc hz (by simp [go_sem, wrap64, IntKind.wrap_i64])
  go_enter Try.func77, Try.ntmps77
  go_wp2
  go_ret
  exact ⟨rfl, rfl⟩
/-- The cells of the nodes' counts. -/
def ctL (cs : List (Int × Int)) : List Value := cs.flatMap fun c => [.int .i64 c.1, .int .i64 c.2]
theorem ctL_len (cs : List (Int × Int)) : (ctL cs).length = cs.length * 2 := by
  induction cs with
  | nil => rfl
  | cons c cs ih => simp only [ctL, List.flatMap_cons, List.length_append, List.length_cons, List.length_nil] at *; omega
theorem ctL_0 (cs : List (Int × Int)) (k : Nat) (hk : k < cs.length) : (ctL cs)[k * 2]? = some (.int .i64 cs[k].1) := by
  induction cs generalizing k with
  | nil => simp at hk
  | cons c cs ih =>
    cases k with
    | zero => rfl
    | succ k => 
      have e := ih k (by simpa using hk)
      rw [show (k + 1) * 2 = k * 2 + 1 + 1 by omega]
      exact e
theorem ctL_1 (cs : List (Int × Int)) (k : Nat) (hk : k < cs.length) : (ctL cs)[k * 2 + 1]? = some (.int .i64 cs[k].2) := by
  induction cs generalizing k with
  | nil => simp at hk
  | cons c cs ih =>
    cases k with
    | zero => rfl
    | succ k => 
      have e := ih k (by simpa using hk)
      rw [show (k + 1) * 2 + 1 = k * 2 + 1 + 1 + 1 by omega]
      exact e
theorem ctL_set (cs : List (Int × Int)) (k : Nat) (hk : k < cs.length) (x y : Int) : ((ctL cs).set (k * 2) (.int .i64 x)).set (k * 2 + 1) (.int .i64 y) = ctL (cs.set k (x, y)) := by
  induction cs generalizing k with
  | nil => simp at hk
  | cons c cs ih =>
    cases k with
    | zero => rfl
    | succ k => 
      have e := ih k (by simpa using hk)
      rw [show (k + 1) * 2 + 1 = k * 2 + 1 + 1 + 1 by omega, show (k + 1) * 2 = k * 2 + 1 + 1 by omega]
      show _ :: _ :: (((ctL cs).set (k * 2) _).set (k * 2 + 1) _) = _ :: _ :: ctL (cs.set k (x, y))
      rw [e]
theorem heap_put (u : World) (b o : Nat) (v : Value) (cs : Array Value) (t : TypeId) (z : Nat × Nat) (h : u.heap[b]? = some (.cells cs t z)) : (u.setCell ⟨b, o, none⟩ v).heap[b]? = some (.cells (cs.setIfInBounds o v) t z) := by
  simp [World.setCell, Array.getElem?_modify, h]
/-- The counts of a runner in their block. -/
structure KW (U u : World) (cb : Nat) (cs : List (Int × Int)) : Prop where
  g : U.grownBy u (some cb)
  cb : u.heap[cb]? = some (.cells (ctL cs).toArray 99)
theorem KW.lt {U u : World} {cb : Nat} {cs : List (Int × Int)} (h : KW U u cb cs) : cb < u.heap.size := (Array.getElem?_eq_some_iff.1 h.cb).1
theorem KW.step {U u u' : World} {cb : Nat} {cs : List (Int × Int)} (h : KW U u cb cs) (hb : Below u.heap.size u u') : KW U u' cb cs :=
  ⟨h.g.trans ⟨hb.os, hb.tape, hb.output, hb.size, fun k hk _ => hb.block k hk⟩, (hb.block cb h.lt).trans h.cb⟩
theorem KW.c0 {U u : World} {cb : Nat} {cs : List (Int × Int)} (h : KW U u cb cs) (k : Nat) (hk : k < cs.length) : u.cell? ⟨cb, k * 2, none⟩ = some (.int .i64 cs[k].1) := by
  simp [World.cell?, h.cb, ctL_0 cs k hk]
theorem KW.c1 {U u : World} {cb : Nat} {cs : List (Int × Int)} (h : KW U u cb cs) (k : Nat) (hk : k < cs.length) : u.cell? ⟨cb, k * 2 + 1, none⟩ = some (.int .i64 cs[k].2) := by
  simp [World.cell?, h.cb, ctL_1 cs k hk]
theorem KW.fz {U u : World} {cb : Nat} {cs : List (Int × Int)} (h : KW U u cb cs) (o : Nat) : u.frozen? ⟨cb, o, none⟩ = false := by simp [World.frozen?, h.cb]
theorem KW.put {U u : World} {cb : Nat} {cs : List (Int × Int)} (h : KW U u cb cs) (k : Nat) (hk : k < cs.length) (x y : Int) : KW U ((u.setCell ⟨cb, k * 2, none⟩ (.int .i64 x)).setCell ⟨cb, k * 2 + 1, none⟩ (.int .i64 y)) cb (cs.set k (x, y)) := by
  refine ⟨h.g.trans ⟨rfl, rfl, rfl, by simp [World.setCell], fun j hj hne => ?_⟩, ?_⟩
  · have hn : j ≠ cb := fun e => hne (by rw [e])
    rw [Below.heap_setCell _ _ _ _ (by simpa using hn), Below.heap_setCell _ _ _ _ (by simpa using hn)]
  · rw [heap_put _ _ _ _ _ _ _ (heap_put _ _ _ _ _ _ _ h.cb), ← ctL_set cs k hk x y]
    simp
set_option maxRecDepth 100000 in
set_option maxHeartbeats 4000000 in
theorem come_any {U u : World} {cb : Nat} {cs : List (Int × Int)} (h : KW U u cb cs) (k : Nat) (hk : k < cs.length) (v : VMC) : Calls Try.prog 61 #[.pointer (some ⟨cb, k * 2, none⟩), .agg #[.string v.name, .int .i64 v.tenant, .int .i64 v.cpu, .int .i64 v.mem, .int .i64 v.zone, .int .i64 v.apart, .string v.node, .int .i64 v.epoch]] u fun e w' => e = .returned (.tuple #[]) ∧ KW U w' cb (cs.set k (wrap64 (cs[k].1 + v.cpu), wrap64 (cs[k].2 + v.mem))) := by
  have HK : Hid (KW U (u.alloc (.cells #[.string v.name, .int .i64 v.tenant, .int .i64 v.cpu, .int .i64 v.mem, .int .i64 v.zone, .int .i64 v.apart, .string v.node, .int .i64 v.epoch] 41)) cb cs) := h.step (bx1 _ _)
  have HV : Hid (LG u (u.alloc (.cells #[.string v.name, .int .i64 v.tenant, .int .i64 v.cpu, .int .i64 v.mem, .int .i64 v.zone, .int .i64 v.apart, .string v.node, .int .i64 v.epoch] 41)) u.heap.size #[.string v.name, .int .i64 v.tenant, .int .i64 v.cpu, .int .i64 v.mem, .int .i64 v.zone, .int .i64 v.apart, .string v.node, .int .i64 v.epoch] 41) := LG.new u _ _
  have hne : cb ≠ u.heap.size := Nat.ne_of_lt h.lt
  have HA : Hid (∀ w b k x y, w.cell? ⟨b, k, none⟩ = some (.int .i64 x) → w.frozen? ⟨b, k, none⟩ = false → Calls Try.prog 77 #[.pointer (some ⟨b, k, none⟩), .int .i64 y] w fun e w' => e = .returned (.int .i64 (wrap64 (x + y))) ∧ w' = w.setCell ⟨b, k, none⟩ (.int .i64 (wrap64 (x + y)))) := fun w b k x y h1 h2 => atAdd_any b k x y w h1 h2
  have HP : Hid (∀ W x y, KW U W cb cs → KW U ((W.setCell ⟨cb, k * 2, none⟩ (.int .i64 x)).setCell ⟨cb, k * 2 + 1, none⟩ (.int .i64 y)) cb (cs.set k (x, y))) := fun W x y hw => hw.put k hk x y
  have HC0 : Hid (∀ W, KW U W cb cs → W.cell? ⟨cb, k * 2, none⟩ = some (.int .i64 cs[k].1)) := fun W hw => hw.c0 k hk
  have HC1 : Hid (∀ W, KW U W cb cs → W.cell? ⟨cb, k * 2 + 1, none⟩ = some (.int .i64 cs[k].2)) := fun W hw => hw.c1 k hk
  clear h
  generalize cs[k].1 = X at *
  generalize cs[k].2 = Y at *
  go_enter Try.func61, Try.ntmps61
  go_upto_region 1 with fail
  generalize (u.alloc (.cells #[.string v.name, .int .i64 v.tenant, .int .i64 v.cpu, .int .i64 v.mem, .int .i64 v.zone, .int .i64 v.apart, .string v.node, .int .i64 v.epoch] 41)) = u0 at *
  generalize u.heap.size = b0 at *
  have k2 := HV.out.cel 2 _ rfl
  have k3 := HV.out.cel 3 _ rfl
  have kl := HV.out.lt
  have hcl := HK.out.lt
  have HC2 : Hid (∀ (W : World) (x : Value), W.heap[cb]? = (u0.setCell ⟨cb, k * 2, none⟩ x).heap[cb]? → W.cell? ⟨cb, k * 2 + 1, none⟩ = some (.int .i64 Y) ∧ W.frozen? ⟨cb, k * 2 + 1, none⟩ = false) := fun W x hW => by
    have h1 := heap_put u0 cb (k * 2) x _ _ _ HK.out.cb
    have h2 := HC1.out u0 HK.out
    rw [h1] at hW
    refine ⟨?_, by simp [World.frozen?, hW]⟩
    simp only [World.cell?, HK.out.cb, hW] at h2 ⊢
    rw [Array.getElem?_setIfInBounds_ne (by omega)]
    exact h2
  go_region_with ((go_at_call 77; refine Calls.mono (HA.out _ _ _ _ _ (HC0.out _ (HK.out.step ⟨rfl, rfl, rfl, Nat.le_refl _, fun _ _ => rfl⟩)) (HK.out.fz _)) ?_; rintro e u1 ⟨rfl, rfl⟩))
  go_upto_region 2 with fail
  go_region_with ((go_at_call 77; refine Calls.mono (HA.out _ _ _ _ _ (HC2.out _ _ rfl).1 (HC2.out _ _ rfl).2) ?_; rintro e u1 ⟨rfl, rfl⟩))
  go_wp2
  refine bodyPost_end (v := .tuple #[]) (by simp [results, Try.results61, go_sem]) rfl ⟨rfl, ?_⟩
  · have h9 := HP.out _ (wrap64 (X + v.cpu)) (wrap64 (Y + v.mem)) HK.out
    exact ⟨⟨h9.g.os, h9.g.tape, h9.g.output, h9.g.size, h9.g.block⟩, h9.cb⟩
end Go.Proofs.Ytkmbhhkgfofcoaa
