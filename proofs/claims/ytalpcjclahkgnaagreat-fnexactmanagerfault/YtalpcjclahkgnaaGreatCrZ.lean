import Derived.Test.YtalpcjclahkgnaaGreatCr1
import Derived.Laws.LoneSync
import Derived.Test.YtalpcjclahkgnaaGreatCkZ
import Derived.Test.YtalpcjclahkgnaaGreatCs2
import Derived.Deep.RegionWith
import Derived.Laws.MakeOwn
import Derived.Test.YtalpcjclahkgnaaGreatRegE
import Derived.BigRegion
import Derived.BigQuiet
import Derived.Deep.QuietTactic
import Derived.Deep.DeepCutAuto
namespace Go.Proofs.YtalpcjclahkgnaaGreat
open Go.ChangeShapes Go.WideShapes Go.ChangeAt Go.RowKit

theorem cellsCounts : Tryz.prog.cellsOf 133 = 2 := by kernel_rfl
set_option maxRecDepth 100000 in
set_option maxHeartbeats 4000000 in
theorem atLoad_any (b k : Nat) (x : Int) (w : World) (hc : w.cell? ⟨b, k, none⟩ = some (.int .i64 x)) : Calls Tryz.prog 98 #[.pointer (some ⟨b, k, none⟩)] w fun e w' => e = .returned (.int .i64 x) ∧ w' = w := by
  have hd : (callFunc 101 #[.pointer (some ⟨b, k, none⟩)]).run Tryz.prog w = .ok (.value (.int .i64 x)) w := run_call_load (fn := Tryz.f101) (by kernel_rfl) (by kernel_rfl) (by kernel_rfl) (by kernel_rfl) .i64 (by kernel_rfl) hc
  go_enter Tryz.func98, Tryz.ntmps98
  go_wp2
  go_ret
  exact ⟨rfl, rfl⟩
set_option maxRecDepth 100000 in
set_option maxHeartbeats 4000000 in
theorem atAdd_any (b k : Nat) (x y : Int) (w : World) (hc : w.cell? ⟨b, k, none⟩ = some (.int .i64 x)) (hz : w.frozen? ⟨b, k, none⟩ = false) : Calls Tryz.prog 94 #[.pointer (some ⟨b, k, none⟩), .int .i64 y] w fun e w' => e = .returned (.int .i64 (wrap64 (x + y))) ∧ w' = w.setCell ⟨b, k, none⟩ (.int .i64 (wrap64 (x + y))) := by
  have hd : (callFunc 97 #[.pointer (some ⟨b, k, none⟩), .int .i64 y]).run Tryz.prog w = .ok (.value (.int .i64 (wrap64 (x + y)))) (w.setCell ⟨b, k, none⟩ (.int .i64 (wrap64 (x + y)))) := run_call_add (fn := Tryz.f97) (by kernel_rfl) (by kernel_rfl) (by kernel_rfl) (by kernel_rfl) .i64 (by kernel_rfl) hc hz (by simp [go_sem, wrap64, IntKind.wrap_i64])
  go_enter Tryz.func94, Tryz.ntmps94
  go_wp2
  go_ret
  exact ⟨rfl, rfl⟩
/-- The cells of the nodes' counts. -/
def ctL (cs : List (Int × Int)) : List Value := cs.flatMap fun c => [.int .i64 c.1, .int .i64 c.2]
theorem ctL_len (cs : List (Int × Int)) : (ctL cs).length = cs.length * 2 := by
  induction cs with
  | nil => rfl
  | cons c cs ih => simp only [ctL, List.flatMap_cons, List.length_append, List.length_cons, List.length_nil] at *; omega
theorem ctL_0 (cs : List (Int × Int)) (k : Nat) (hk : k < cs.length) : (ctL cs)[k * 2]? = some (.int .i64 cs[k].1) := by
  induction cs generalizing k with
  | nil => simp at hk
  | cons c cs ih =>
    cases k with
    | zero => rfl
    | succ k => 
      have e := ih k (by simpa using hk)
      rw [show (k + 1) * 2 = k * 2 + 1 + 1 by omega]
      exact e
theorem ctL_1 (cs : List (Int × Int)) (k : Nat) (hk : k < cs.length) : (ctL cs)[k * 2 + 1]? = some (.int .i64 cs[k].2) := by
  induction cs generalizing k with
  | nil => simp at hk
  | cons c cs ih =>
    cases k with
    | zero => rfl
    | succ k => 
      have e := ih k (by simpa using hk)
      rw [show (k + 1) * 2 + 1 = k * 2 + 1 + 1 + 1 by omega]
      exact e
theorem ctL_set (cs : List (Int × Int)) (k : Nat) (hk : k < cs.length) (x y : Int) : ((ctL cs).set (k * 2) (.int .i64 x)).set (k * 2 + 1) (.int .i64 y) = ctL (cs.set k (x, y)) := by
  induction cs generalizing k with
  | nil => simp at hk
  | cons c cs ih =>
    cases k with
    | zero => rfl
    | succ k => 
      have e := ih k (by simpa using hk)
      rw [show (k + 1) * 2 + 1 = k * 2 + 1 + 1 + 1 by omega, show (k + 1) * 2 = k * 2 + 1 + 1 by omega]
      show _ :: _ :: (((ctL cs).set (k * 2) _).set (k * 2 + 1) _) = _ :: _ :: ctL (cs.set k (x, y))
      rw [e]
theorem heap_put (u : World) (b o : Nat) (v : Value) (cs : Array Value) (t : TypeId) (z : Nat × Nat) (h : u.heap[b]? = some (.cells cs t z)) : (u.setCell ⟨b, o, none⟩ v).heap[b]? = some (.cells (cs.setIfInBounds o v) t z) := by
  simp [World.setCell, Array.getElem?_modify, h]
/-- The counts of a runner in their block. -/
structure KW (U u : World) (cb : Nat) (cs : List (Int × Int)) : Prop where
  g : U.grownBy u (some cb)
  cb : u.heap[cb]? = some (.cells (ctL cs).toArray 133)
theorem KW.lt {U u : World} {cb : Nat} {cs : List (Int × Int)} (h : KW U u cb cs) : cb < u.heap.size := (Array.getElem?_eq_some_iff.1 h.cb).1
theorem KW.step {U u u' : World} {cb : Nat} {cs : List (Int × Int)} (h : KW U u cb cs) (hb : Below u.heap.size u u') : KW U u' cb cs :=
  ⟨h.g.trans ⟨hb.os, hb.tape, hb.output, hb.size, fun k hk _ => hb.block k hk⟩, (hb.block cb h.lt).trans h.cb⟩
theorem KW.c0 {U u : World} {cb : Nat} {cs : List (Int × Int)} (h : KW U u cb cs) (k : Nat) (hk : k < cs.length) : u.cell? ⟨cb, k * 2, none⟩ = some (.int .i64 cs[k].1) := by
  simp [World.cell?, h.cb, ctL_0 cs k hk]
theorem KW.c1 {U u : World} {cb : Nat} {cs : List (Int × Int)} (h : KW U u cb cs) (k : Nat) (hk : k < cs.length) : u.cell? ⟨cb, k * 2 + 1, none⟩ = some (.int .i64 cs[k].2) := by
  simp [World.cell?, h.cb, ctL_1 cs k hk]
theorem KW.fz {U u : World} {cb : Nat} {cs : List (Int × Int)} (h : KW U u cb cs) (o : Nat) : u.frozen? ⟨cb, o, none⟩ = false := by simp [World.frozen?, h.cb]
theorem KW.put {U u : World} {cb : Nat} {cs : List (Int × Int)} (h : KW U u cb cs) (k : Nat) (hk : k < cs.length) (x y : Int) : KW U ((u.setCell ⟨cb, k * 2, none⟩ (.int .i64 x)).setCell ⟨cb, k * 2 + 1, none⟩ (.int .i64 y)) cb (cs.set k (x, y)) := by
  refine ⟨h.g.trans ⟨rfl, rfl, rfl, by simp [World.setCell], fun j hj hne => ?_⟩, ?_⟩
  · have hn : j ≠ cb := fun e => hne (by rw [e])
    rw [Below.heap_setCell _ _ _ _ (by simpa using hn), Below.heap_setCell _ _ _ _ (by simpa using hn)]
  · rw [heap_put _ _ _ _ _ _ _ (heap_put _ _ _ _ _ _ _ h.cb), ← ctL_set cs k hk x y]
    simp
set_option maxRecDepth 100000 in
set_option maxHeartbeats 4000000 in
theorem come_any {U u : World} {cb : Nat} {cs : List (Int × Int)} (h : KW U u cb cs) (k : Nat) (hk : k < cs.length) (v : VMC) : Calls Tryz.prog 84 #[.pointer (some ⟨cb, k * 2, none⟩), .agg #[.string v.name, .int .i64 v.tenant, .int .i64 v.cpu, .int .i64 v.mem, .int .i64 v.zone, .int .i64 v.apart, .string v.node, .int .i64 v.epoch]] u fun e w' => e = .returned (.tuple #[]) ∧ KW U w' cb (cs.set k (wrap64 (cs[k].1 + v.cpu), wrap64 (cs[k].2 + v.mem))) := by
  have HK : Hid (KW U (u.alloc (.cells #[.string v.name, .int .i64 v.tenant, .int .i64 v.cpu, .int .i64 v.mem, .int .i64 v.zone, .int .i64 v.apart, .string v.node, .int .i64 v.epoch] 71)) cb cs) := h.step (bx1 _ _)
  have HV : Hid (LG u (u.alloc (.cells #[.string v.name, .int .i64 v.tenant, .int .i64 v.cpu, .int .i64 v.mem, .int .i64 v.zone, .int .i64 v.apart, .string v.node, .int .i64 v.epoch] 71)) u.heap.size #[.string v.name, .int .i64 v.tenant, .int .i64 v.cpu, .int .i64 v.mem, .int .i64 v.zone, .int .i64 v.apart, .string v.node, .int .i64 v.epoch] 71) := LG.new u _ _
  have hne : cb ≠ u.heap.size := Nat.ne_of_lt h.lt
  have HA : Hid (∀ w b k x y, w.cell? ⟨b, k, none⟩ = some (.int .i64 x) → w.frozen? ⟨b, k, none⟩ = false → Calls Tryz.prog 94 #[.pointer (some ⟨b, k, none⟩), .int .i64 y] w fun e w' => e = .returned (.int .i64 (wrap64 (x + y))) ∧ w' = w.setCell ⟨b, k, none⟩ (.int .i64 (wrap64 (x + y)))) := fun w b k x y h1 h2 => atAdd_any b k x y w h1 h2
  have HP : Hid (∀ W x y, KW U W cb cs → KW U ((W.setCell ⟨cb, k * 2, none⟩ (.int .i64 x)).setCell ⟨cb, k * 2 + 1, none⟩ (.int .i64 y)) cb (cs.set k (x, y))) := fun W x y hw => hw.put k hk x y
  have HC0 : Hid (∀ W, KW U W cb cs → W.cell? ⟨cb, k * 2, none⟩ = some (.int .i64 cs[k].1)) := fun W hw => hw.c0 k hk
  have HC1 : Hid (∀ W, KW U W cb cs → W.cell? ⟨cb, k * 2 + 1, none⟩ = some (.int .i64 cs[k].2)) := fun W hw => hw.c1 k hk
  clear h
  generalize cs[k].1 = X at *
  generalize cs[k].2 = Y at *
  go_enter Tryz.func84, Tryz.ntmps84
  go_upto_region 1 with fail
  generalize (u.alloc (.cells #[.string v.name, .int .i64 v.tenant, .int .i64 v.cpu, .int .i64 v.mem, .int .i64 v.zone, .int .i64 v.apart, .string v.node, .int .i64 v.epoch] 71)) = u0 at *
  generalize u.heap.size = b0 at *
  have k2 := HV.out.cel 2 _ rfl
  have k3 := HV.out.cel 3 _ rfl
  have kl := HV.out.lt
  have hcl := HK.out.lt
  have HC2 : Hid (∀ (W : World) (x : Value), W.heap[cb]? = (u0.setCell ⟨cb, k * 2, none⟩ x).heap[cb]? → W.cell? ⟨cb, k * 2 + 1, none⟩ = some (.int .i64 Y) ∧ W.frozen? ⟨cb, k * 2 + 1, none⟩ = false) := fun W x hW => by
    have h1 := heap_put u0 cb (k * 2) x _ _ _ HK.out.cb
    have h2 := HC1.out u0 HK.out
    rw [h1] at hW
    refine ⟨?_, by simp [World.frozen?, hW]⟩
    simp only [World.cell?, HK.out.cb, hW] at h2 ⊢
    rw [Array.getElem?_setIfInBounds_ne (by omega)]
    exact h2
  go_region_with ((go_at_call 94; refine Calls.mono (HA.out _ _ _ _ _ (HC0.out _ (HK.out.step ⟨rfl, rfl, rfl, Nat.le_refl _, fun _ _ => rfl⟩)) (HK.out.fz _)) ?_; rintro e u1 ⟨rfl, rfl⟩))
  go_upto_region 2 with fail
  go_region_with ((go_at_call 94; refine Calls.mono (HA.out _ _ _ _ _ (HC2.out _ _ rfl).1 (HC2.out _ _ rfl).2) ?_; rintro e u1 ⟨rfl, rfl⟩))
  go_wp2
  refine bodyPost_end (v := .tuple #[]) (by simp [results, Tryz.results84, go_sem]) rfl ⟨rfl, ?_⟩
  · have h9 := HP.out _ (wrap64 (X + v.cpu)) (wrap64 (Y + v.mem)) HK.out
    exact ⟨⟨h9.g.os, h9.g.tape, h9.g.output, h9.g.size, h9.g.block⟩, h9.cb⟩

theorem ctL_at (cs : List (Int × Int)) (k : Nat) (hk : k < cs.length) (j : Nat) (hj : j < 2) : (ctL cs)[k * 2 + j]? = [Value.int .i64 cs[k].1, .int .i64 cs[k].2][j]? := by
  match j, hj with
  | 0, _ => exact ctL_0 cs k hk
  | 1, _ => exact ctL_1 cs k hk
theorem nc_made (m : Nat) : (madeCells #[.int .i64 0, .int .i64 0] (m * 2)).toList = ctL (List.replicate m (0, 0)) := by
  apply List.ext_getElem?
  intro i
  by_cases hi : i < m * 2
  · have hq : i = i / 2 * 2 + i % 2 := by omega
    have h2 := ctL_at (List.replicate m (0, 0)) (i / 2) (by rw [List.length_replicate]; omega) (i % 2) (by omega)
    rw [← hq] at h2
    rw [h2, List.getElem_replicate]
    have hl : (madeCells #[.int .i64 0, .int .i64 0] (m * 2)).toList.length = m * 2 := by simp [madeCells]
    rw [List.getElem?_eq_getElem (by omega)]
    have : i % 2 < 2 := Nat.mod_lt _ (by omega)
    generalize hr : i % 2 = r at *
    simp only [madeCells, Array.getElem_toList, Array.getElem_map, Array.getElem_range, List.size_toArray, List.length_cons, List.length_nil]
    rw [show i % (0 + 1 + 1) = r by simpa using hr]
    match r, this with
    | 0, _ => rfl
    | 1, _ => rfl
  · rw [List.getElem?_eq_none (by simp [madeCells]; omega), List.getElem?_eq_none (by rw [ctL_len]; simp; omega)]
theorem nc_zero : (Tryz.prog.info? 133).map (fun i => (i.zero, i.size)) = some (some (.agg #[.int .i64 0, .int .i64 0]), 2) := by kernel_rfl
theorem nc_bytes : ∀ i, Tryz.prog.info? 133 = some i → i.bytes ≤ 16 := by
  intro i h
  have e : (Tryz.prog.info? 133).map (fun i => decide (i.bytes ≤ 16)) = some true := by kernel_rfl
  rw [h] at e
  simpa using e
theorem nc_mk (w : World) (m : Nat) (hm : m ≤ 1048576) : (Instr.makeSlice 111 (.int .i64 m) (.int .i64 m)).run Tryz.prog w = .ok (.slice (some ⟨w.heap.size, 0, none⟩) m m) (w.alloc (.cells (ctL (List.replicate m (0, 0))).toArray 133)) := by
  have h1 := nc_zero
  cases hq : Tryz.prog.info? 133 with
  | none => simp [hq] at h1
  | some i =>
    have hb := nc_bytes i hq
    simp [hq] at h1
    have h3 : i.bytes * m ≤ 16 * 1048576 := Nat.mul_le_mul hb hm
    have hbm : (i.bytes : Int) * (m : Int) ≤ 281474976710656 := by
      rw [← Int.natCast_mul]
      omega
    have hr := run_make (P := Tryz.prog) w 111 133 i _ Tryz.underlying111 hq h1.1 .i64 .i64 m m (by omega) (by omega) hbm (by omega)
    rw [hr, h1.2]
    simp only [Int.toNat_natCast, Value.cells]
    rw [← nc_made]
def stC (s : CL) (cs : List (Int × Int)) (v : VMC) : List (Int × Int) := if 0 ≤ ndX s v.node then cs.set (ndX s v.node).toNat (wrap64 ((cs.getD (ndX s v.node).toNat (0, 0)).1 + v.cpu), wrap64 ((cs.getD (ndX s v.node).toNat (0, 0)).2 + v.mem)) else cs
/-- The counts of a cluster's nodes. -/
def cnK (s : CL) (j : Nat) : List (Int × Int) := (s.vms.take j).foldl (stC s) (List.replicate s.nodes.length (0, 0))
def cnL (s : CL) : List (Int × Int) := s.vms.foldl (stC s) (List.replicate s.nodes.length (0, 0))
theorem cnK_all (s : CL) : cnK s s.vms.length = cnL s := by simp [cnK, cnL]
theorem cnK_succ {s : CL} {k : Nat} (h : k < s.vms.length) : cnK s (k + 1) = stC s (cnK s k) s.vms[k] := by
  unfold cnK
  rw [List.take_succ_eq_append_getElem h, List.foldl_append]
  rfl
theorem stC_len (s : CL) (cs : List (Int × Int)) (v : VMC) : (stC s cs v).length = cs.length := by
  unfold stC
  split <;> simp
theorem cnK_len (s : CL) (k : Nat) : (cnK s k).length = s.nodes.length := by
  unfold cnK
  have : ∀ (l : List VMC) (cs : List (Int × Int)), (l.foldl (stC s) cs).length = cs.length := by
    intro l
    induction l with
    | nil => intro cs; rfl
    | cons v l ih => intro cs; rw [List.foldl_cons, ih, stC_len]
  rw [this, List.length_replicate]
theorem stC_no {s : CL} {cs : List (Int × Int)} {v : VMC} (h : ndX s v.node = -1) : stC s cs v = cs := by simp [stC, h]
theorem stC_yes {s : CL} {cs : List (Int × Int)} {v : VMC} {q : Nat} (h : ndX s v.node = q) (hq : q < cs.length) : stC s cs v = cs.set q (wrap64 (cs[q].1 + v.cpu), wrap64 (cs[q].2 + v.mem)) := by
  simp [stC, h, List.getD, List.getElem?_eq_getElem hq]
/-- A runner behind a pointer. -/
structure RX (w : World) (r : Nat) (s : CL) (a : CA) (cb : Nat) (cs : List (Int × Int)) : Prop where
  cx : CX w r s a
  c5 : w.cell? ⟨r, 5, none⟩ = some (.slice (some ⟨cb, 0, none⟩) s.nodes.length s.nodes.length)
  kb : w.heap[cb]? = some (.cells (ctL cs).toArray 133)
  len : cs.length = s.nodes.length
theorem RX.cl {w : World} {r : Nat} {s : CL} {a : CA} {cb : Nat} {cs : List (Int × Int)} (h : RX w r s a cb cs) : cb < w.heap.size := (Array.getElem?_eq_some_iff.1 h.kb).1
theorem RX.below {w w' : World} {r : Nat} {s : CL} {a : CA} {cb : Nat} {cs : List (Int × Int)} (h : RX w r s a cb cs) (hb : Below w.heap.size w w') : RX w' r s a cb cs :=
  ⟨h.cx.below hb, (World.cell?_of_block (hb.block r h.cx.lt)).trans h.c5, (hb.block cb h.cl).trans h.kb, h.len⟩
theorem RX.kw {w : World} {r : Nat} {s : CL} {a : CA} {cb : Nat} {cs : List (Int × Int)} (h : RX w r s a cb cs) : KW w w cb cs := ⟨⟨rfl, rfl, rfl, Nat.le_refl _, fun _ _ _ => rfl⟩, h.kb⟩
theorem LG.put {w u : World} {b t : Nat} {cs : Array Value} (h : LG w u b cs t) (k : Nat) (v : Value) : LG w (u.setCell ⟨b, k, none⟩ v) b (cs.setIfInBounds k v) t :=
  ⟨h.bel.setCell (by simpa using h.ge) v, heap_put u b k v _ _ _ h.box, h.ge⟩
set_option maxRecDepth 100000 in
set_option maxHeartbeats 8000000 in
theorem newRunner_any {w : World} {s : CL} {a : CA} (h : CLRows w s a) (hl : CLlen s) : Calls Tryz.prog 62 #[clA s a] w fun e w' => ∃ (r : Nat) (a2 : CA) (cb : Nat), e = .returned (.pointer (some ⟨r, 0, none⟩)) ∧ RX w' r s a2 cb (cnL s) ∧ Below w.heap.size w w' := by
  have l0 : s.nodes.length ≤ 1048576 := hl.lnodes.1
  have l1 : s.vms.length ≤ 1048576 := hl.lvms.1
  have l2 : s.tenants.length ≤ 1048576 := hl.ltenants
  clear hl
  obtain ⟨an, kn, av, kv, ae, ke, e⟩ := h.sl
  subst e
  have HN : Hid (NODrow w (.slice an s.nodes.length kn) s.nodes) := h.rnodes
  have HR : Hid (VMCrow w (.slice av s.vms.length kv) s.vms) := h.rvms
  have HT : Hid (TNTrow w (.slice ae s.tenants.length ke) s.tenants) := h.rtenants
  clear h
  have HL0 : Hid (LG w (w.alloc (.cells #[.slice an s.nodes.length kn, .slice av s.vms.length kv, .slice ae s.tenants.length ke, .int .i64 s.over, .int .i64 s.time] 37)) w.heap.size #[.slice an s.nodes.length kn, .slice av s.vms.length kv, .slice ae s.tenants.length ke, .int .i64 s.over, .int .i64 s.time] 37) := LG.new w _ _
  have HSZ : Hid ((w.alloc (.cells #[.slice an s.nodes.length kn, .slice av s.vms.length kv, .slice ae s.tenants.length ke, .int .i64 s.over, .int .i64 s.time] 37)).heap.size = w.heap.size + 1) := (show (w.alloc (.cells #[.slice an s.nodes.length kn, .slice av s.vms.length kv, .slice ae s.tenants.length ke, .int .i64 s.over, .int .i64 s.time] 37)).heap.size = w.heap.size + 1 by simp)
  unfold clA clC
  simp only
  go_enter Tryz.func62, Tryz.ntmps62
  go_upto_region 1 with fail
  generalize (w.alloc (.cells #[.slice an s.nodes.length kn, .slice av s.vms.length kv, .slice ae s.tenants.length ke, .int .i64 s.over, .int .i64 s.time] 37)) = u0 at *
  generalize hbc : w.heap.size = bc at HL0 HSZ ⊢
  have HSB : Hid ((fun w' => LG w w' bc #[.slice an s.nodes.length kn, .slice av s.vms.length kv, .slice ae s.tenants.length ke, .int .i64 s.over, .int .i64 s.time] 37 ∧ bc + 1 ≤ w'.heap.size) u0.drew) := ⟨HL0.out.drew, Nat.le_of_eq HSZ.out.symm⟩
  refine AnyE.start (fun w' => LG w w' bc #[.slice an s.nodes.length kn, .slice av s.vms.length kv, .slice ae s.tenants.length ke, .int .i64 s.over, .int .i64 s.time] 37 ∧ bc + 1 ≤ w'.heap.size) [10, 11, 12, 13, 14] (by kernel_rfl) ?_
  refine AnyE.take (i := 0) (v := .pointer (some ⟨bc, 0, none⟩)) rfl (by kernel_rfl) (by kernel_rfl) (by kernel_rfl) (by kernel_rfl) (by kernel_rfl) (fun _ _ _ h => h) (Or.inl ⟨by kernel_rfl, fun w9 h9 => ?_⟩) HSB.out ?_
  · go_simp
  refine AnyE.take (i := 1) (v := .slice an s.nodes.length kn) rfl (by kernel_rfl) (by kernel_rfl) (by kernel_rfl) (by kernel_rfl) (by kernel_rfl) (fun _ _ _ h => h) (Or.inl ⟨by kernel_rfl, fun w9 h9 => ?_⟩) HSB.out ?_
  · obtain ⟨hlg, _⟩ := h9; have z0 := hlg.cel 0 _ rfl; have z1 := hlg.cel 1 _ rfl; have z2 := hlg.cel 2 _ rfl; go_simp
  refine AnyE.take (i := 3) (v := .pointer (some ⟨bc, 1, none⟩)) rfl (by kernel_rfl) (by kernel_rfl) (by kernel_rfl) (by kernel_rfl) (by kernel_rfl) (fun _ _ _ h => h) (Or.inl ⟨by kernel_rfl, fun w9 h9 => ?_⟩) HSB.out ?_
  · go_simp
  refine AnyE.take (i := 4) (v := .slice av s.vms.length kv) rfl (by kernel_rfl) (by kernel_rfl) (by kernel_rfl) (by kernel_rfl) (by kernel_rfl) (fun _ _ _ h => h) (Or.inl ⟨by kernel_rfl, fun w9 h9 => ?_⟩) HSB.out ?_
  · obtain ⟨hlg, _⟩ := h9; have z0 := hlg.cel 0 _ rfl; have z1 := hlg.cel 1 _ rfl; have z2 := hlg.cel 2 _ rfl; go_simp
  refine AnyE.take (i := 6) (v := .pointer (some ⟨bc, 2, none⟩)) rfl (by kernel_rfl) (by kernel_rfl) (by kernel_rfl) (by kernel_rfl) (by kernel_rfl) (fun _ _ _ h => h) (Or.inl ⟨by kernel_rfl, fun w9 h9 => ?_⟩) HSB.out ?_
  · go_simp
  refine AnyE.take (i := 7) (v := .slice ae s.tenants.length ke) rfl (by kernel_rfl) (by kernel_rfl) (by kernel_rfl) (by kernel_rfl) (by kernel_rfl) (fun _ _ _ h => h) (Or.inl ⟨by kernel_rfl, fun w9 h9 => ?_⟩) HSB.out ?_
  · obtain ⟨hlg, _⟩ := h9; have z0 := hlg.cel 0 _ rfl; have z1 := hlg.cel 1 _ rfl; have z2 := hlg.cel 2 _ rfl; go_simp
  refine AnyE.one 2 (by kernel_rfl) rfl (by kernel_rfl) fun K hK => ?_
  go_simp
  go_wp2_with (go_at_call 80; refine Calls.mono (cloneNOD_any (HN.out.below HSB.out.1.bel) (by assumption)) ?_; rintro e wn ⟨vn, rfl, on, hbn⟩; obtain ⟨an2, kn2, rfl⟩ := nod_sl on; have HOn : Hid (wn.ownsRow (bc + 1) 97 7 (.slice an2 s.nodes.length kn2) s.nodes.length (nodR s.nodes)) := own_weakN on HSB.out.2; have HSn : Hid ((fun w' => LG w w' bc #[.slice an s.nodes.length kn, .slice av s.vms.length kv, .slice ae s.tenants.length ke, .int .i64 s.over, .int .i64 s.time] 37 ∧ bc + 1 ≤ w'.heap.size) wn) := ⟨HSB.out.1.step hbn, Nat.le_trans HSB.out.2 hbn.size⟩; clear hbn on)
  refine hK _ _ (fun _ => HSn.out) ?_
  clear hK K
  refine AnyE.one 5 (by kernel_rfl) rfl (by kernel_rfl) fun K hK => ?_
  go_simp
  go_wp2_with (go_at_call 81; refine Calls.mono (cloneVMC_any (HR.out.below HSn.out.1.bel) (by assumption)) ?_; rintro e wv ⟨vv, rfl, ov, hbv⟩; obtain ⟨av2, kv2, rfl⟩ := vmc_sl ov; have HOv : Hid (wv.ownsRow (bc + 1) 71 8 (.slice av2 s.vms.length kv2) s.vms.length (vmcR s.vms)) := own_weakN ov HSn.out.2; have HSv : Hid ((fun w' => LG w w' bc #[.slice an s.nodes.length kn, .slice av s.vms.length kv, .slice ae s.tenants.length ke, .int .i64 s.over, .int .i64 s.time] 37 ∧ bc + 1 ≤ w'.heap.size) wv) := ⟨HSn.out.1.step hbv, Nat.le_trans HSn.out.2 hbv.size⟩; have HOn := own_belowN HOn.out hbv; have HOn : Hid _ := HOn; clear hbv ov)
  refine hK _ _ (fun _ => HSv.out) ?_
  clear hK K
  refine AnyE.one 8 (by kernel_rfl) rfl (by kernel_rfl) fun K hK => ?_
  go_simp
  go_wp2_with (go_at_call 82; refine Calls.mono (cloneTNT_any (HT.out.below HSv.out.1.bel) (by assumption)) ?_; rintro e we ⟨ve, rfl, oe, hbe⟩; obtain ⟨ae2, ke2, rfl⟩ := tnt_sl oe; have HOe : Hid (we.ownsRow (bc + 1) 76 3 (.slice ae2 s.tenants.length ke2) s.tenants.length (tntR s.tenants)) := own_weakN oe HSv.out.2; have HSe : Hid ((fun w' => LG w w' bc #[.slice an s.nodes.length kn, .slice av s.vms.length kv, .slice ae s.tenants.length ke, .int .i64 s.over, .int .i64 s.time] 37 ∧ bc + 1 ≤ w'.heap.size) we) := ⟨HSv.out.1.step hbe, Nat.le_trans HSv.out.2 hbe.size⟩; have HOn := own_belowN HOn.out hbe; have HOn : Hid _ := HOn; have HOv := own_belowN HOv.out hbe; have HOv : Hid _ := HOv; clear hbe oe; have zz0 := HSe.out.1.cel 0 _ rfl; have zz1 := HSe.out.1.cel 1 _ rfl; have zz2 := HSe.out.1.cel 2 _ rfl; have zf0 := HSe.out.1.frz 0; have zf1 := HSe.out.1.frz 1; have zf2 := HSe.out.1.frz 2; have zl := HSe.out.1.lt)
  refine hK _ _ (fun _ => HSe.out) ?_
  clear hK K
  refine AnyE.take (i := 9) (v := .pointer (some ⟨bc, 0, none⟩)) rfl (by kernel_rfl) (by kernel_rfl) (by kernel_rfl) (by kernel_rfl) (by kernel_rfl) (fun _ _ _ h => h) (Or.inl ⟨by kernel_rfl, fun w9 h9 => ?_⟩) HSe.out ?_
  · go_simp
  refine AnyE.one 10 (by kernel_rfl) rfl (by kernel_rfl) fun K hK => ?_
  go_simp
  skip
  refine hK _ _ (fun h => absurd (by decide) h) ?_
  clear hK K
  refine AnyE.one 11 (by kernel_rfl) rfl (by kernel_rfl) fun K hK => ?_
  go_simp
  refine hK _ _ (fun h => absurd (by decide) h) ?_
  clear hK K
  refine AnyE.one 12 (by kernel_rfl) rfl (by kernel_rfl) fun K hK => ?_
  go_simp
  skip
  refine hK _ _ (fun h => absurd (by decide) h) ?_
  clear hK K
  refine AnyE.one 13 (by kernel_rfl) rfl (by kernel_rfl) fun K hK => ?_
  go_simp
  refine hK _ _ (fun h => absurd (by decide) h) ?_
  clear hK K
  refine AnyE.one 14 (by kernel_rfl) rfl (by kernel_rfl) fun K hK => ?_
  go_simp
  skip
  refine hK _ _ (fun h => absurd (by decide) h) ?_
  clear hK K
  refine AnyE.done (by kernel_rfl) ?_ _
  go_simp
  have HL4 : Hid (LG w (((we.setCell ⟨bc, 0, none⟩ (.slice an2 s.nodes.length kn2)).setCell ⟨bc, 1, none⟩ (.slice av2 s.vms.length kv2)).setCell ⟨bc, 2, none⟩ (.slice ae2 s.tenants.length ke2)) bc #[.slice an2 s.nodes.length kn2, .slice av2 s.vms.length kv2, .slice ae2 s.tenants.length ke2, .int .i64 s.over, .int .i64 s.time] 37) := ((HSe.out.1.put 0 _).put 1 _).put 2 _
  have hk : ∀ k, bc + 1 ≤ k → (((we.setCell ⟨bc, 0, none⟩ (.slice an2 s.nodes.length kn2)).setCell ⟨bc, 1, none⟩ (.slice av2 s.vms.length kv2)).setCell ⟨bc, 2, none⟩ (.slice ae2 s.tenants.length ke2)).heap[k]? = we.heap[k]? := fun k h => by
    rw [Below.heap_setCell _ _ _ _ (by simp only; omega), Below.heap_setCell _ _ _ _ (by simp only; omega), Below.heap_setCell _ _ _ _ (by simp only; omega)]
  have HRW : Hid (CLRows (((we.setCell ⟨bc, 0, none⟩ (.slice an2 s.nodes.length kn2)).setCell ⟨bc, 1, none⟩ (.slice av2 s.vms.length kv2)).setCell ⟨bc, 2, none⟩ (.slice ae2 s.tenants.length ke2)) s ⟨.slice an2 s.nodes.length kn2, .slice av2 s.vms.length kv2, .slice ae2 s.tenants.length ke2⟩) := ⟨NODrow.of (own_heapN HOn.out hk (Nat.le_refl _)), VMCrow.of (own_heapN HOv.out hk (Nat.le_refl _)), TNTrow.of (own_heapN HOe.out hk (Nat.le_refl _))⟩
  generalize (((we.setCell ⟨bc, 0, none⟩ (.slice an2 s.nodes.length kn2)).setCell ⟨bc, 1, none⟩ (.slice av2 s.vms.length kv2)).setCell ⟨bc, 2, none⟩ (.slice ae2 s.tenants.length ke2)) = u4 at *
  clear hk HOn HOv HOe HSe HSv HSn HSB HL0 HSZ HN HR HT zz0 zz1 zz2 zf0 zf1 zf2 zl
  have y0 := HL4.out.cel 0 _ rfl
  have y1 := HL4.out.cel 1 _ rfl
  have y2 := HL4.out.cel 2 _ rfl
  have y3 := HL4.out.cel 3 _ rfl
  have y4 := HL4.out.cel 4 _ rfl
  have yl := HL4.out.lt
  have hmk := nc_mk u4.drew s.nodes.length l0
  have HCB : Hid (bc ≤ u4.heap.size) := hbc ▸ HL4.out.bel.size
  go_upto_region 2 with fail
  go_region
  have HU4 : Hid (CX u4 bc s ⟨.slice an2 s.nodes.length kn2, .slice av2 s.vms.length kv2, .slice ae2 s.tenants.length ke2⟩) := ⟨HL4.out.lt, fun k v hk => HL4.out.cel k v hk, HRW.out⟩
  have HK0 : Hid (KW (((u4.alloc (.cells (ctL (List.replicate s.nodes.length (0, 0))).toArray 133)).alloc (.cells #[.slice an2 s.nodes.length kn2, .slice av2 s.vms.length kv2, .slice ae2 s.tenants.length ke2, .int .i64 s.over, .int .i64 s.time, .slice (some ⟨u4.heap.size, 0, none⟩) s.nodes.length s.nodes.length] 113)).drew) (((u4.alloc (.cells (ctL (List.replicate s.nodes.length (0, 0))).toArray 133)).alloc (.cells #[.slice an2 s.nodes.length kn2, .slice av2 s.vms.length kv2, .slice ae2 s.tenants.length ke2, .int .i64 s.over, .int .i64 s.time, .slice (some ⟨u4.heap.size, 0, none⟩) s.nodes.length s.nodes.length] 113)).drew) u4.heap.size (cnK s 0)) := ⟨⟨rfl, rfl, rfl, Nat.le_refl _, fun _ _ _ => rfl⟩, (bx1 (u4.alloc (.cells (ctL (List.replicate s.nodes.length (0, 0))).toArray 133)) (.cells #[.slice an2 s.nodes.length kn2, .slice av2 s.vms.length kv2, .slice ae2 s.tenants.length ke2, .int .i64 s.over, .int .i64 s.time, .slice (some ⟨u4.heap.size, 0, none⟩) s.nodes.length s.nodes.length] 113)).block u4.heap.size (by simp) |>.trans (heap_new u4 _)⟩
  have HBU : Hid (Below u4.heap.size u4 (((u4.alloc (.cells (ctL (List.replicate s.nodes.length (0, 0))).toArray 133)).alloc (.cells #[.slice an2 s.nodes.length kn2, .slice av2 s.vms.length kv2, .slice ae2 s.tenants.length ke2, .int .i64 s.over, .int .i64 s.time, .slice (some ⟨u4.heap.size, 0, none⟩) s.nodes.length s.nodes.length] 113)).drew)) := bdn ((bx1 u4 _).trans ((bx1 _ _).mono (by simp))) 1
  have HR6 : Hid (LG u4 (((u4.alloc (.cells (ctL (List.replicate s.nodes.length (0, 0))).toArray 133)).alloc (.cells #[.slice an2 s.nodes.length kn2, .slice av2 s.vms.length kv2, .slice ae2 s.tenants.length ke2, .int .i64 s.over, .int .i64 s.time, .slice (some ⟨u4.heap.size, 0, none⟩) s.nodes.length s.nodes.length] 113)).drew) (u4.heap.size + 1) #[.slice an2 s.nodes.length kn2, .slice av2 s.vms.length kv2, .slice ae2 s.tenants.length ke2, .int .i64 s.over, .int .i64 s.time, .slice (some ⟨u4.heap.size, 0, none⟩) s.nodes.length s.nodes.length] 113) := ((LG.mk2 (bx1 u4 _)).cast (by simp)).drew
  have HWU : Hid (Below bc w u4) := hbc ▸ HL4.out.bel
  clear hmk y3 y4 y0 y2
  have y1 : (((u4.alloc (.cells (ctL (List.replicate s.nodes.length (0, 0))).toArray 133)).alloc (.cells #[.slice an2 s.nodes.length kn2, .slice av2 s.vms.length kv2, .slice ae2 s.tenants.length ke2, .int .i64 s.over, .int .i64 s.time, .slice (some ⟨u4.heap.size, 0, none⟩) s.nodes.length s.nodes.length] 113)).drew).cell? ⟨bc, 1, none⟩ = some (.slice av2 s.vms.length kv2) := (HBU.out.cell (p := ⟨bc, 1, none⟩) HL4.out.lt).trans (HL4.out.cel 1 _ rfl)
  have yl2 : bc < (((u4.alloc (.cells (ctL (List.replicate s.nodes.length (0, 0))).toArray 133)).alloc (.cells #[.slice an2 s.nodes.length kn2, .slice av2 s.vms.length kv2, .slice ae2 s.tenants.length ke2, .int .i64 s.over, .int .i64 s.time, .slice (some ⟨u4.heap.size, 0, none⟩) s.nodes.length s.nodes.length] 113)).drew).heap.size := Nat.lt_of_lt_of_le HL4.out.lt HBU.out.size
  clear HL4 HRW yl
  generalize (((u4.alloc (.cells (ctL (List.replicate s.nodes.length (0, 0))).toArray 133)).alloc (.cells #[.slice an2 s.nodes.length kn2, .slice av2 s.vms.length kv2, .slice ae2 s.tenants.length ke2, .int .i64 s.over, .int .i64 s.time, .slice (some ⟨u4.heap.size, 0, none⟩) s.nodes.length s.nodes.length] 113)).drew) = U at *
  generalize hcb : u4.heap.size = cb at *
  go_wp2
  clear y1 yl2
  go_loopw [29] (fun i wr => ∃ k : Nat, k ≤ s.vms.length ∧ i = .int .i64 k ∧ KW U wr cb (cnK s k)) (fun i _ => s.vms.length - (intOf i).toNat)
  case atStart => exact ⟨0, Nat.zero_le _, rfl, HK0.out⟩
  case round =>
    obtain ⟨k, hk, rfl, hkw⟩ := hrel
    have HK : Hid (KW U wr cb (cnK s k)) := hkw
    have HBX : Hid (Below cb u4 wr) := HBU.out.trans ⟨hkw.g.os, hkw.g.tape, hkw.g.output, hkw.g.size, fun j hj => hkw.g.block j (Nat.lt_of_lt_of_le hj (hcb ▸ HBU.out.size)) (fun e => by cases e; omega)⟩
    clear hkw HK0
    have HX : Hid (CX wr bc s ⟨.slice an2 s.nodes.length kn2, .slice av2 s.vms.length kv2, .slice ae2 s.tenants.length ke2⟩) := HU4.out.below (hcb ▸ HBX.out)
    have HR7 : Hid (LG u4 wr (cb + 1) #[.slice an2 s.nodes.length kn2, .slice av2 s.vms.length kv2, .slice ae2 s.tenants.length ke2, .int .i64 s.over, .int .i64 s.time, .slice (some ⟨cb, 0, none⟩) s.nodes.length s.nodes.length] 113) := ⟨hcb ▸ HBX.out, (HK.out.g.block (cb + 1) HR6.out.lt (fun e => by injection e with e; omega)).trans HR6.out.box, HR6.out.ge⟩
    have y1 := HX.out.cel 1 _ rfl
    have yl := HX.out.lt
    by_cases hlt : k < s.vms.length
    · obtain ⟨g, o, cap2, hv, _, hg, hc⟩ := HX.out.rows.rvms.resolve_left (fun h => by rw [h.1] at hlt; simp at hlt)
      injection hv with hv1 hv2 hv3
      subst hv1 hv3
      have hk0 : (0 : Int) ≤ (k : Int) := by omega
      have hk1 : (k : Int) < (s.vms.length : Int) := by omega
      obtain ⟨d0, d1, d2, d3, d4, d5, d6, d7⟩ := hc k hlt
      have HS : Hid (cnK s (k + 1) = stC s (cnK s k) s.vms[k]) := cnK_succ hlt
      generalize s.vms[k] = v at *
      have HX1 : Hid (CX (wr.alloc (.cells #[.string v.name, .int .i64 v.tenant, .int .i64 v.cpu, .int .i64 v.mem, .int .i64 v.zone, .int .i64 v.apart, .string v.node, .int .i64 v.epoch] 71)) bc s ⟨.slice an2 s.nodes.length kn2, .slice (some ⟨g, o, none⟩) s.vms.length kv2, .slice ae2 s.tenants.length ke2⟩) := HX.out.below (bx1 _ _)
      have HK1 : Hid (KW U (wr.alloc (.cells #[.string v.name, .int .i64 v.tenant, .int .i64 v.cpu, .int .i64 v.mem, .int .i64 v.zone, .int .i64 v.apart, .string v.node, .int .i64 v.epoch] 71)) cb (cnK s k)) := HK.out.step (bx1 _ _)
      have HR1 : Hid (LG u4 (wr.alloc (.cells #[.string v.name, .int .i64 v.tenant, .int .i64 v.cpu, .int .i64 v.mem, .int .i64 v.zone, .int .i64 v.apart, .string v.node, .int .i64 v.epoch] 71)) (cb + 1) #[.slice an2 s.nodes.length kn2, .slice (some ⟨g, o, none⟩) s.vms.length kv2, .slice ae2 s.tenants.length ke2, .int .i64 s.over, .int .i64 s.time, .slice (some ⟨cb, 0, none⟩) s.nodes.length s.nodes.length] 113) := HR7.out.next
      have HZ1 : Hid (LG wr (wr.alloc (.cells #[.string v.name, .int .i64 v.tenant, .int .i64 v.cpu, .int .i64 v.mem, .int .i64 v.zone, .int .i64 v.apart, .string v.node, .int .i64 v.epoch] 71)) wr.heap.size #[.string v.name, .int .i64 v.tenant, .int .i64 v.cpu, .int .i64 v.mem, .int .i64 v.zone, .int .i64 v.apart, .string v.node, .int .i64 v.epoch] 71) := LG.new _ _ _
      go_upto_region 6 with fail
      clear d0 d1 d2 d3 d4 d5 d6 d7 hc hg y1 yl HX HR7 hk0 hk1 HBX
      generalize (wr.alloc (.cells #[.string v.name, .int .i64 v.tenant, .int .i64 v.cpu, .int .i64 v.mem, .int .i64 v.zone, .int .i64 v.apart, .string v.node, .int .i64 v.epoch] 71)) = u5 at *
      generalize hb5 : wr.heap.size = b5 at *
      have z6 := HZ1.out.cel 6 _ rfl
      have zl := HZ1.out.lt
      go_upto_region 7 with (go_at_call 83; refine Calls.mono (nodeAt_any HX1.out l0 v.node) ?_; rintro e w6 ⟨rfl, hb6⟩)
      have HX2 : Hid (CX w6 bc s ⟨.slice an2 s.nodes.length kn2, .slice (some ⟨g, o, none⟩) s.vms.length kv2, .slice ae2 s.tenants.length ke2⟩) := HX1.out.below hb6
      have HK2 : Hid (KW U w6 cb (cnK s k)) := HK1.out.step hb6
      have HR2 : Hid (LG u4 w6 (cb + 1) #[.slice an2 s.nodes.length kn2, .slice (some ⟨g, o, none⟩) s.vms.length kv2, .slice ae2 s.tenants.length ke2, .int .i64 s.over, .int .i64 s.time, .slice (some ⟨cb, 0, none⟩) s.nodes.length s.nodes.length] 113) := HR1.out.step hb6
      have HZ2 : Hid (LG wr w6 b5 #[.string v.name, .int .i64 v.tenant, .int .i64 v.cpu, .int .i64 v.mem, .int .i64 v.zone, .int .i64 v.apart, .string v.node, .int .i64 v.epoch] 71) := HZ1.out.step hb6
      clear hb6 HX1 HK1 HR1 HZ1 z6 zl HK
      rcases ndX_or s v.node with ⟨hx, _⟩ | ⟨q, hq, hx, _⟩
      · have E4 : Hid (cnK s (k + 1) = cnK s k) := HS.out.trans (stC_no hx)
        rw [hx]
        clear HS
        go_wp2
        exact ⟨⟨k + 1, hlt, by go_num, by rw [E4.out]; exact HK2.out⟩, by simp [intOf]; omega⟩
      · have hq2 : q < (cnK s k).length := by rw [cnK_len]; exact hq
        have E4 : Hid (cnK s (k + 1) = (cnK s k).set q (wrap64 ((cnK s k)[q].1 + v.cpu), wrap64 ((cnK s k)[q].2 + v.mem))) := HS.out.trans (stC_yes hx hq2)
        rw [hx]
        clear HS hx
        have hq0 : (0 : Int) ≤ (q : Int) := by omega
        have hq1 : (q : Int) < (s.nodes.length : Int) := by omega
        have r5 := HR2.out.cel 5 _ rfl
        have rl := HR2.out.lt
        have z0 := HZ2.out.cel 0 _ rfl
        have z1 := HZ2.out.cel 1 _ rfl
        have z2 := HZ2.out.cel 2 _ rfl
        have z3 := HZ2.out.cel 3 _ rfl
        have z4 := HZ2.out.cel 4 _ rfl
        have z5 := HZ2.out.cel 5 _ rfl
        have z6 := HZ2.out.cel 6 _ rfl
        have z7 := HZ2.out.cel 7 _ rfl
        have zl := HZ2.out.lt
        go_upto_region 8 with fail
        have HC : Hid (∀ w, KW U w cb (cnK s k) → Calls Tryz.prog 84 #[.pointer (some ⟨cb, q * 2, none⟩), .agg #[.string v.name, .int .i64 v.tenant, .int .i64 v.cpu, .int .i64 v.mem, .int .i64 v.zone, .int .i64 v.apart, .string v.node, .int .i64 v.epoch]] w fun e w' => e = .returned (.tuple #[]) ∧ KW U w' cb ((cnK s k).set q (wrap64 ((cnK s k)[q].1 + v.cpu), wrap64 ((cnK s k)[q].2 + v.mem)))) := fun w hw => come_any hw q hq2 v
        go_region_with ((go_at_call 84; refine Calls.mono (HC.out _ (HK2.out.step ⟨rfl, rfl, rfl, Nat.le_refl _, fun _ _ => rfl⟩)) ?_; rintro e w7 ⟨rfl, hk7⟩; have HK7 : Hid (KW U w7 cb ((cnK s k).set q (wrap64 ((cnK s k)[q].1 + v.cpu), wrap64 ((cnK s k)[q].2 + v.mem)))) := hk7; clear hk7))
        all_goals go_wp2
        all_goals exact ⟨⟨k + 1, hlt, by go_num, by rw [E4.out]; exact HK7.out⟩, by simp [intOf]; omega⟩
    · obtain rfl : k = s.vms.length := by omega
      go_wp2
      go_ret
      refine ⟨cb + 1, ⟨.slice an2 s.nodes.length kn2, .slice av2 s.vms.length kv2, .slice ae2 s.tenants.length ke2⟩, cb, rfl, ⟨⟨HR7.out.lt, fun k v hk => ?_, HX.out.rows⟩, HR7.out.cel 5 _ rfl, by rw [← cnK_all]; exact HK.out.cb, by rw [← cnK_all]; exact cnK_len _ _⟩, ?_⟩
      · refine HR7.out.cel k v ?_
        rcases k with _ | _ | _ | _ | _ | k <;> simp_all [clC]
      · exact hbc ▸ HWU.out.trans (HBX.out.mono (hcb ▸ HCB.out))

theorem Below.drewN (w : World) (n : Nat) : Below w.heap.size w (w.drewN n) := bdn (Below.refl _ _) n
/-- A machine of a name that is on a node. -/
def isO (s : CL) (k : Nat) (nm : ByteArray) : Bool := decide (0 ≤ vmX s nm) && ((vmA s (vmX s nm).toNat).node.toList == (ndA s k).name.toList)
def otC (s : CL) (cs : List (Int × Int)) (k : Nat) (nm : ByteArray) : Int := if isO s k nm = true then wrap64 ((cs.getD k (0, 0)).1 - (vmA s (vmX s nm).toNat).cpu) else (cs.getD k (0, 0)).1
def otM (s : CL) (cs : List (Int × Int)) (k : Nat) (nm : ByteArray) : Int := if isO s k nm = true then wrap64 ((cs.getD k (0, 0)).2 - (vmA s (vmX s nm).toNat).mem) else (cs.getD k (0, 0)).2
theorem isO_no {s : CL} {k : Nat} {nm : ByteArray} (h : vmX s nm = -1) : isO s k nm = false := by simp [isO, h]
theorem isO_at {s : CL} {k j : Nat} {nm : ByteArray} (h : vmX s nm = j) (hj : j < s.vms.length) (hk : k < s.nodes.length) : isO s k nm = (s.vms[j].node.toList == s.nodes[k].name.toList) := by
  simp [isO, h, vmA_at hj, ndA_at hk]
theorem RX.sl {w : World} {r : Nat} {s : CL} {a : CA} {cb : Nat} {cs : List (Int × Int)} (h : RX w r s a cb cs) : ∃ an kn av kv ae ke, a = ⟨.slice an s.nodes.length kn, .slice av s.vms.length kv, .slice ae s.tenants.length ke⟩ := h.cx.rows.sl
theorem RX.nodeA {w : World} {r : Nat} {s : CL} {a : CA} {cb : Nat} {cs : List (Int × Int)} (h : RX w r s a cb cs) {k : Nat} (hk : k < s.nodes.length) : ∃ g o kn, a.vnodes = .slice (some ⟨g, o, none⟩) s.nodes.length kn ∧ g < w.heap.size ∧ ∀ u, Below w.heap.size w u → NODat u g o s.nodes := by
  obtain ⟨g, o, cap2, hv, _, hg, hc⟩ := h.cx.rows.rnodes.resolve_left (fun h => by rw [h.1] at hk; simp at hk)
  exact ⟨g, o, cap2, hv, hg, fun u hu => hc.below hu hg⟩
theorem RX.vmA {w : World} {r : Nat} {s : CL} {a : CA} {cb : Nat} {cs : List (Int × Int)} (h : RX w r s a cb cs) {k : Nat} (hk : k < s.vms.length) : ∃ g o kn, a.vvms = .slice (some ⟨g, o, none⟩) s.vms.length kn ∧ g < w.heap.size ∧ ∀ u, Below w.heap.size w u → VMCat u g o s.vms := by
  obtain ⟨g, o, cap2, hv, _, hg, hc⟩ := h.cx.rows.rvms.resolve_left (fun h => by rw [h.1] at hk; simp at hk)
  exact ⟨g, o, cap2, hv, hg, fun u hu => hc.below hu hg⟩
set_option maxRecDepth 100000 in
set_option maxHeartbeats 4000000 in
theorem others_any {w : World} {r : Nat} {s : CL} {a : CA} {cb : Nat} {cs : List (Int × Int)} (h : RX w r s a cb cs) (hl : s.vms.length ≤ 1048576) (k : Nat) (hk : k < s.nodes.length) (nm : ByteArray) : Calls Tryz.prog 95 #[.pointer (some ⟨r, 0, none⟩), .int .i64 k, .string nm] w fun e w' => e = .returned (.tuple #[.int .i64 (otC s cs k nm), .int .i64 (otM s cs k nm)]) ∧ Below w.heap.size w w' := by
  have HX : Hid (RX w r s a cb cs) := h
  have hkc : k < cs.length := by rw [h.len]; exact hk
  have HC : Hid (otC s cs k nm = if isO s k nm = true then wrap64 (cs[k].1 - (vmA s (vmX s nm).toNat).cpu) else cs[k].1) := (show otC s cs k nm = _ by simp [otC, List.getD, List.getElem?_eq_getElem hkc])
  have HM : Hid (otM s cs k nm = if isO s k nm = true then wrap64 (cs[k].2 - (vmA s (vmX s nm).toNat).mem) else cs[k].2) := (show otM s cs k nm = _ by simp [otM, List.getD, List.getElem?_eq_getElem hkc])
  have y0 := h.kw.c0 k hkc
  have y1 := h.kw.c1 k hkc
  have yl := h.cl
  have r5 := h.c5
  have rl := h.cx.lt
  have hk0 : (0 : Int) ≤ (k : Int) := by omega
  have hk1 : (k : Int) < (s.nodes.length : Int) := by omega
  have HLD : Hid (∀ b i x u, u.cell? ⟨b, i, none⟩ = some (.int .i64 x) → Calls Tryz.prog 98 #[.pointer (some ⟨b, i, none⟩)] u fun e w' => e = .returned (.int .i64 x) ∧ w' = u) := fun b i x u hx => atLoad_any b i x u hx
  clear h
  generalize otC s cs k nm = OC at *
  generalize otM s cs k nm = OM at *
  generalize cs[k].1 = X at *
  generalize cs[k].2 = Y at *
  go_enter Tryz.func95, Tryz.ntmps95
  go_upto_region 1 with fail
  go_quiet (first | (go_at_call 98; exact Calls.quiet_of_same (HLD.out _ _ _ _ y0)) | (go_at_call 98; exact Calls.quiet_of_same (HLD.out _ _ _ _ y1)))
  have HX1 : Hid (∀ n, RX (w.drewN n) r s a cb cs) := fun n => HX.out.below (Below.drewN w n)
  have HB1 : Hid (∀ n, Below w.heap.size w (w.drewN n)) := fun n => Below.drewN w n
  clear y0 y1 yl r5 rl
  go_upto_region 3 with (go_at_call 99; refine Calls.mono (vmAt_any (HX1.out _).cx hl nm) ?_; rintro e u1 ⟨rfl, hb1⟩)
  have HX2 : Hid (RX u1 r s a cb cs) := (HX1.out _).below hb1
  have HB2 : Hid (Below w.heap.size w u1) := (HB1.out _).trans (hb1.mono (HB1.out _).size)
  clear hb1 HX1 HB1 HX
  rcases vmX_or s nm with ⟨hx, _⟩ | ⟨j, hj, hx, _⟩
  · have E1 : Hid (OC = X) := HC.out.trans (by rw [isO_no hx]; rfl)
    have E2 : Hid (OM = Y) := HM.out.trans (by rw [isO_no hx]; rfl)
    clear HC HM
    rw [hx]
    clear hx
    go_quiet (fail)
    go_wp2
    exact bodyPost_ret (v := .tuple #[.int .i64 X, .int .i64 Y]) (by simp [results, Tryz.results95, go_sem]) rfl ⟨by rw [E1.out, E2.out], bdn HB2.out _⟩
  · have HO : Hid (isO s k nm = (s.vms[j].node.toList == s.nodes[k].name.toList)) := isO_at hx hj hk
    have HVA : Hid (vmA s (vmX s nm).toNat = s.vms[j]) := by rw [hx]; exact vmA_at hj
    obtain ⟨gn, on, kn, en, hgn, hcn⟩ := HX2.out.nodeA hk
    obtain ⟨gv, ov, kv, ev, hgv, hcv⟩ := HX2.out.vmA hj
    have NN : Hid (∀ u, Below u1.heap.size u1 u → u.cell? ⟨gn, on + k * 7, none⟩ = some (.string s.nodes[k].name)) := fun u hu => (hcn u hu k hk).1
    have VV : Hid (∀ u, Below u1.heap.size u1 u → u.cell? ⟨gv, ov + j * 8 + 6, none⟩ = some (.string s.vms[j].node) ∧ u.cell? ⟨gv, ov + j * 8 + 2, none⟩ = some (.int .i64 s.vms[j].cpu) ∧ u.cell? ⟨gv, ov + j * 8 + 3, none⟩ = some (.int .i64 s.vms[j].mem)) := fun u hu => by
      obtain ⟨_, _, h2, h3, _, _, h6, _⟩ := hcv u hu j hj
      exact ⟨h6, h2, h3⟩
    have r0 := HX2.out.cx.cel 0 a.vnodes rfl
    have r1 := HX2.out.cx.cel 1 a.vvms rfl
    have rl := HX2.out.cx.lt
    rw [en] at r0
    rw [ev] at r1
    clear hcn hcv
    have hj0 : (0 : Int) ≤ (j : Int) := by omega
    have hj1 : (j : Int) < (s.vms.length : Int) := by omega
    have m6 := (VV.out u1 (Below.refl _ _)).1
    have m0 := NN.out u1 (Below.refl _ _)
    rw [hx]
    rw [HVA.out] at HC HM
    clear HVA hx en ev
    generalize s.vms[j] = v at *
    generalize s.nodes[k] = n at *
    cases hq : (v.node.toList == n.name.toList)
    · have E1 : Hid (OC = X) := HC.out.trans (by rw [HO.out, hq]; rfl)
      have E2 : Hid (OM = Y) := HM.out.trans (by rw [HO.out, hq]; rfl)
      clear HC HM HO
      go_quiet (fail)
      go_wp2
      exact bodyPost_ret (v := .tuple #[.int .i64 X, .int .i64 Y]) (by simp [results, Tryz.results95, go_sem]) rfl ⟨by rw [E1.out, E2.out], bdn HB2.out _⟩
    · have E1 : Hid (OC = wrap64 (X - v.cpu)) := HC.out.trans (by rw [HO.out, hq]; rfl)
      have E2 : Hid (OM = wrap64 (Y - v.mem)) := HM.out.trans (by rw [HO.out, hq]; rfl)
      have m2 := (VV.out u1 (Below.refl _ _)).2.1
      have m3 := (VV.out u1 (Below.refl _ _)).2.2
      clear HC HM HO
      go_quiet (fail)
      go_upto_region 4 with fail
      go_quiet (fail)
      go_wp2
      exact bodyPost_ret (v := .tuple #[.int .i64 (wrap64 (X - v.cpu)), .int .i64 (wrap64 (Y - v.mem))]) (by simp [results, Tryz.results95, go_sem]) rfl ⟨by rw [E1.out, E2.out], bdn (bdn HB2.out _) _⟩

def mtB (s : CL) (k : Nat) (v x : VMC) : Bool := onB s k v.name x && decide (x.tenant = v.tenant) && decide (x.apart = v.apart)
theorem cfl_any (s : CL) (k : Nat) (v : VMC) : s.vms.any (cfl s k v) = (decide (v.apart ≠ 0) && s.vms.any (mtB s k v)) := by
  cases h : decide (v.apart ≠ 0)
  · rw [Bool.false_and, List.any_eq_false]
    intro x _
    simp [cfl, h]
  · rw [Bool.true_and]
    congr 1
    funext x
    simp [cfl, mtB, h]
set_option maxRecDepth 100000 in
set_option maxHeartbeats 4000000 in
theorem meetsF_any {w u : World} {p q t r : Nat} {s : CL} {a : CA} {cb : Nat} {cs : List (Int × Int)} (h : RX u r s a cb cs) (k : Nat) (hk : k < s.nodes.length) (v x : VMC) (h1 : LG w u p #[.pointer (some ⟨r, 0, none⟩)] 108) (h2 : LG w u q #[.int .i64 k] 3) (h3 : LG w u t #[.string v.name, .int .i64 v.tenant, .int .i64 v.cpu, .int .i64 v.mem, .int .i64 v.zone, .int .i64 v.apart, .string v.node, .int .i64 v.epoch] 71) : Calls Tryz.prog 100 #[.agg #[.string x.name, .int .i64 x.tenant, .int .i64 x.cpu, .int .i64 x.mem, .int .i64 x.zone, .int .i64 x.apart, .string x.node, .int .i64 x.epoch], .pointer (some ⟨p, 0, none⟩), .pointer (some ⟨q, 0, none⟩), .pointer (some ⟨t, 0, none⟩)] u fun e w' => e = .returned (.bool (mtB s k v x)) ∧ Below u.heap.size u w' := by
  have HE : Hid (mtB s k v x = ((x.node.toList == s.nodes[k].name.toList) && !(x.name.toList == v.name.toList) && decide (x.tenant = v.tenant) && decide (x.apart = v.apart))) := by rw [← ndA_at hk]; exact rfl
  obtain ⟨gn, on, kn, en, hgn, hcn⟩ := h.nodeA hk
  have d0 := (hcn u (Below.refl _ _) k hk).1
  have c0 := h.cx.cel 0 a.vnodes rfl
  rw [en] at c0
  have rl := h.cx.lt
  have e0 := h1.cel 0 _ rfl
  have el := h1.lt
  have f0 := h2.cel 0 _ rfl
  have fl := h2.lt
  have g0 := h3.cel 0 _ rfl
  have g1 := h3.cel 1 _ rfl
  have g5 := h3.cel 5 _ rfl
  have gl := h3.lt
  have hk0 : (0 : Int) ≤ (k : Int) := by omega
  have hk1 : (k : Int) < (s.nodes.length : Int) := by omega
  have HB : Hid (Below u.heap.size u (u.alloc (.cells #[.string x.name, .int .i64 x.tenant, .int .i64 x.cpu, .int .i64 x.mem, .int .i64 x.zone, .int .i64 x.apart, .string x.node, .int .i64 x.epoch] 71))) := bx1 _ _
  clear h h1 h2 h3 hcn en
  generalize mtB s k v x = V at *
  generalize s.nodes[k] = n at *
  cases t1 : (x.node.toList == n.name.toList)
  · skip
    have E2 : Hid (V = false) := (show V = false by rw [HE.out, t1]; rfl)
    clear HE
    go_enter Tryz.func100, Tryz.ntmps100
    go_upto_region 1 with fail
    go_quiet (fail)
    go_wp2
    go_ret
    exact ⟨ret_bool E2.out.symm, bdn HB.out _⟩
  cases t2 : (x.name.toList == v.name.toList)
  rotate_left
  · skip
    have E2 : Hid (V = false) := (show V = false by rw [HE.out, t1, t2]; rfl)
    clear HE
    go_enter Tryz.func100, Tryz.ntmps100
    go_upto_region 1 with fail
    go_quiet (fail)
    go_wp2
    go_ret
    exact ⟨ret_bool E2.out.symm, bdn HB.out _⟩
  cases t3 : (x.tenant == v.tenant)
  · have T3 : Hid (decide (x.tenant = v.tenant) = false) := decide_eq_false (by simpa using t3)
    have E2 : Hid (V = false) := (show V = false by rw [HE.out, t1, t2, T3.out]; rfl)
    clear HE
    go_enter Tryz.func100, Tryz.ntmps100
    go_upto_region 1 with fail
    go_quiet (fail)
    go_wp2
    go_ret
    exact ⟨ret_bool E2.out.symm, bdn HB.out _⟩
  have T3 : Hid (decide (x.tenant = v.tenant) = true) := decide_eq_true (by simpa using t3)
  cases t4 : (x.apart == v.apart)
  · have T4 : Hid (decide (x.apart = v.apart) = false) := decide_eq_false (by simpa using t4)
    have E2 : Hid (V = false) := (show V = false by rw [HE.out, t1, t2, T3.out, T4.out]; rfl)
    clear HE
    go_enter Tryz.func100, Tryz.ntmps100
    go_upto_region 1 with fail
    go_quiet (fail)
    go_wp2
    go_ret
    exact ⟨ret_bool E2.out.symm, bdn HB.out _⟩
  have T4 : Hid (decide (x.apart = v.apart) = true) := decide_eq_true (by simpa using t4)
  have E2 : Hid (V = true) := (show V = true by rw [HE.out, t1, t2, T3.out, T4.out]; rfl)
  clear HE
  go_enter Tryz.func100, Tryz.ntmps100
  go_upto_region 1 with fail
  go_quiet (fail)
  go_wp2
  go_ret
  exact ⟨ret_bool E2.out.symm, bdn HB.out _⟩
set_option maxRecDepth 100000 in
set_option maxHeartbeats 4000000 in
theorem meets_any {w : World} {r : Nat} {s : CL} {a : CA} {cb : Nat} {cs : List (Int × Int)} (h : RX w r s a cb cs) (hl : s.vms.length ≤ 1048576) (k : Nat) (hk : k < s.nodes.length) (v : VMC) : Calls Tryz.prog 96 #[.pointer (some ⟨r, 0, none⟩), .int .i64 k, .agg #[.string v.name, .int .i64 v.tenant, .int .i64 v.cpu, .int .i64 v.mem, .int .i64 v.zone, .int .i64 v.apart, .string v.node, .int .i64 v.epoch]] w fun e w' => e = .returned (.bool (s.vms.any (cfl s k v))) ∧ Below w.heap.size w w' := by
  have HE : Hid (s.vms.any (cfl s k v) = (decide (v.apart ≠ 0) && s.vms.any (mtB s k v))) := cfl_any s k v
  have H1 : Hid (LG w (((w.alloc (.cells #[.pointer (some ⟨r, 0, none⟩)] 108)).alloc (.cells #[.int .i64 k] 3)).alloc (.cells #[.string v.name, .int .i64 v.tenant, .int .i64 v.cpu, .int .i64 v.mem, .int .i64 v.zone, .int .i64 v.apart, .string v.node, .int .i64 v.epoch] 71)) w.heap.size #[.pointer (some ⟨r, 0, none⟩)] 108) := (LG.new w _ _).next.next
  have H2 : Hid (LG w (((w.alloc (.cells #[.pointer (some ⟨r, 0, none⟩)] 108)).alloc (.cells #[.int .i64 k] 3)).alloc (.cells #[.string v.name, .int .i64 v.tenant, .int .i64 v.cpu, .int .i64 v.mem, .int .i64 v.zone, .int .i64 v.apart, .string v.node, .int .i64 v.epoch] 71)) (w.heap.size + 1) #[.int .i64 k] 3) := ((LG.mk2 (LG.new w _ _).bel).cast (by simp)).next
  have H3 : Hid (LG w (((w.alloc (.cells #[.pointer (some ⟨r, 0, none⟩)] 108)).alloc (.cells #[.int .i64 k] 3)).alloc (.cells #[.string v.name, .int .i64 v.tenant, .int .i64 v.cpu, .int .i64 v.mem, .int .i64 v.zone, .int .i64 v.apart, .string v.node, .int .i64 v.epoch] 71)) (w.heap.size + 1 + 1) #[.string v.name, .int .i64 v.tenant, .int .i64 v.cpu, .int .i64 v.mem, .int .i64 v.zone, .int .i64 v.apart, .string v.node, .int .i64 v.epoch] 71) := (LG.mk2 (LG.new w _ _).next.bel).cast (by simp)
  have HX : Hid (RX (((w.alloc (.cells #[.pointer (some ⟨r, 0, none⟩)] 108)).alloc (.cells #[.int .i64 k] 3)).alloc (.cells #[.string v.name, .int .i64 v.tenant, .int .i64 v.cpu, .int .i64 v.mem, .int .i64 v.zone, .int .i64 v.apart, .string v.node, .int .i64 v.epoch] 71)) r s a cb cs) := h.below H1.out.bel
  clear h
  have HI : Hid (Calls Tryz.prog 63 #[a.vvms, .func (.func 100) #[] #[.pointer (some ⟨w.heap.size, 0, none⟩), .pointer (some ⟨w.heap.size + 1, 0, none⟩), .pointer (some ⟨w.heap.size + 1 + 1, 0, none⟩)]] (((w.alloc (.cells #[.pointer (some ⟨r, 0, none⟩)] 108)).alloc (.cells #[.int .i64 k] 3)).alloc (.cells #[.string v.name, .int .i64 v.tenant, .int .i64 v.cpu, .int .i64 v.mem, .int .i64 v.zone, .int .i64 v.apart, .string v.node, .int .i64 v.epoch] 71)) fun e w' => e = .returned (.bool (s.vms.any (mtB s k v))) ∧ Below (((w.alloc (.cells #[.pointer (some ⟨r, 0, none⟩)] 108)).alloc (.cells #[.int .i64 k] 3)).alloc (.cells #[.string v.name, .int .i64 v.tenant, .int .i64 v.cpu, .int .i64 v.mem, .int .i64 v.zone, .int .i64 v.apart, .string v.node, .int .i64 v.epoch] 71)).heap.size (((w.alloc (.cells #[.pointer (some ⟨r, 0, none⟩)] 108)).alloc (.cells #[.int .i64 k] 3)).alloc (.cells #[.string v.name, .int .i64 v.tenant, .int .i64 v.cpu, .int .i64 v.mem, .int .i64 v.zone, .int .i64 v.apart, .string v.node, .int .i64 v.epoch] 71)) w') :=
    containsVMC_any HX.out.cx.rows.rvms hl _ _ (mtB s k v) (fun xs w' => by kernel_rfl) (fun x w' hw => meetsF_any (HX.out.below hw) k hk v x (H1.out.step hw) (H2.out.step hw) (H3.out.step hw))
  obtain ⟨an, kn, av, kv, ae, ke, e⟩ := HX.out.sl
  have y1 := HX.out.cx.cel 1 a.vvms rfl
  have yl := HX.out.cx.lt
  subst e
  simp only at y1 HI
  clear HX
  have e0 := H1.out.cel 0 _ rfl
  have el := H1.out.lt
  have g5 := H3.out.cel 5 _ rfl
  have gl := H3.out.lt
  have HB : Hid (Below w.heap.size w (((w.alloc (.cells #[.pointer (some ⟨r, 0, none⟩)] 108)).alloc (.cells #[.int .i64 k] 3)).alloc (.cells #[.string v.name, .int .i64 v.tenant, .int .i64 v.cpu, .int .i64 v.mem, .int .i64 v.zone, .int .i64 v.apart, .string v.node, .int .i64 v.epoch] 71))) := H1.out.bel
  clear H1 H2 H3
  generalize s.vms.any (cfl s k v) = V at *
  generalize s.vms.any (mtB s k v) = W at *
  cases t1 : (v.apart != 0)
  · have E2 : Hid (V = false) := (show V = false by rw [HE.out, decide_eq_false (by simpa using t1)]; rfl)
    clear HE HI
    go_enter Tryz.func96, Tryz.ntmps96
    go_upto_region 1 with fail
    generalize (((w.alloc (.cells #[.pointer (some ⟨r, 0, none⟩)] 108)).alloc (.cells #[.int .i64 k] 3)).alloc (.cells #[.string v.name, .int .i64 v.tenant, .int .i64 v.cpu, .int .i64 v.mem, .int .i64 v.zone, .int .i64 v.apart, .string v.node, .int .i64 v.epoch] 71)) = u0 at *
    go_wp2
    go_ret
    exact ⟨ret_bool E2.out.symm, HB.out⟩
  · have E2 : Hid (V = W) := (show V = W by rw [HE.out, decide_eq_true (by simpa using t1)]; rfl)
    clear HE
    go_enter Tryz.func96, Tryz.ntmps96
    go_upto_region 1 with fail
    generalize (((w.alloc (.cells #[.pointer (some ⟨r, 0, none⟩)] 108)).alloc (.cells #[.int .i64 k] 3)).alloc (.cells #[.string v.name, .int .i64 v.tenant, .int .i64 v.cpu, .int .i64 v.mem, .int .i64 v.zone, .int .i64 v.apart, .string v.node, .int .i64 v.epoch] 71)) = u0 at *
    go_wp2_with (go_at_call 63; refine Calls.mono HI.out ?_; rintro e u1 ⟨rfl, hu⟩; have HB1 : Hid (Below w.heap.size w u1) := HB.out.trans (hu.mono HB.out.size); clear hu)
    go_ret
    exact ⟨ret_bool E2.out.symm, HB1.out⟩
/-- What fitCode tells. -/
def ftV (s : CL) (cs : List (Int × Int)) (k : Nat) (v : VMC) : Int :=
  if v.zone ≠ 0 ∧ v.zone ≠ (ndA s k).zone then 7
  else if s.vms.any (cfl s k v) then 9
  else if (ndA s k).mem < wrap64 (otM s cs k v.name + v.mem) then 2
  else if wrap64 ((ndA s k).cpu * s.over) < wrap64 (wrap64 (otC s cs k v.name + v.cpu) * 100) then 8 else 0
set_option maxRecDepth 100000 in
set_option maxHeartbeats 4000000 in
theorem fitCode_any {w : World} {r : Nat} {s : CL} {a : CA} {cb : Nat} {cs : List (Int × Int)} (h : RX w r s a cb cs) (hl : s.vms.length ≤ 1048576) (k : Nat) (hk : k < s.nodes.length) (v : VMC) : Calls Tryz.prog 86 #[.pointer (some ⟨r, 0, none⟩), .int .i64 k, .agg #[.string v.name, .int .i64 v.tenant, .int .i64 v.cpu, .int .i64 v.mem, .int .i64 v.zone, .int .i64 v.apart, .string v.node, .int .i64 v.epoch]] w fun e w' => e = .returned (.int .i64 (ftV s cs k v)) ∧ Below w.heap.size w w' := by
  have HE : Hid (ftV s cs k v = if v.zone ≠ 0 ∧ v.zone ≠ s.nodes[k].zone then 7 else if s.vms.any (cfl s k v) then 9 else if s.nodes[k].mem < wrap64 (otM s cs k v.name + v.mem) then 2 else if wrap64 (s.nodes[k].cpu * s.over) < wrap64 (wrap64 (otC s cs k v.name + v.cpu) * 100) then 8 else 0) := by rw [← ndA_at hk]; rfl
  have HV0 : Hid (LG w (w.alloc (.cells #[.string v.name, .int .i64 v.tenant, .int .i64 v.cpu, .int .i64 v.mem, .int .i64 v.zone, .int .i64 v.apart, .string v.node, .int .i64 v.epoch] 71)) w.heap.size #[.string v.name, .int .i64 v.tenant, .int .i64 v.cpu, .int .i64 v.mem, .int .i64 v.zone, .int .i64 v.apart, .string v.node, .int .i64 v.epoch] 71) := LG.new w _ _
  have HX0 : Hid (RX (w.alloc (.cells #[.string v.name, .int .i64 v.tenant, .int .i64 v.cpu, .int .i64 v.mem, .int .i64 v.zone, .int .i64 v.apart, .string v.node, .int .i64 v.epoch] 71)) r s a cb cs) := h.below HV0.out.bel
  clear h
  obtain ⟨gn, on, kn, en, hgn, hcn⟩ := HX0.out.nodeA hk
  obtain ⟨d0, d1, d2, d3, d4, d5, d6⟩ := hcn _ (Below.refl _ _) k hk
  have c0 := HX0.out.cx.cel 0 a.vnodes rfl
  rw [en] at c0
  have rl := HX0.out.cx.lt
  have hk0 : (0 : Int) ≤ (k : Int) := by omega
  have hk1 : (k : Int) < (s.nodes.length : Int) := by omega
  have HOT : Hid (∀ u, RX u r s a cb cs → Calls Tryz.prog 95 #[.pointer (some ⟨r, 0, none⟩), .int .i64 k, .string v.name] u fun e w' => e = .returned (.tuple #[.int .i64 (otC s cs k v.name), .int .i64 (otM s cs k v.name)]) ∧ Below u.heap.size u w') := fun u hu => others_any hu hl k hk v.name
  have HMT : Hid (∀ u, RX u r s a cb cs → Calls Tryz.prog 96 #[.pointer (some ⟨r, 0, none⟩), .int .i64 k, .agg #[.string v.name, .int .i64 v.tenant, .int .i64 v.cpu, .int .i64 v.mem, .int .i64 v.zone, .int .i64 v.apart, .string v.node, .int .i64 v.epoch]] u fun e w' => e = .returned (.bool (s.vms.any (cfl s k v))) ∧ Below u.heap.size u w') := fun u hu => meets_any hu hl k hk v
  clear hcn en
  generalize s.nodes[k] = n at *
  generalize ftV s cs k v = V at *
  generalize otC s cs k v.name = OC at *
  generalize otM s cs k v.name = OM at *
  generalize s.vms.any (cfl s k v) = MT at *
  go_enter Tryz.func86, Tryz.ntmps86
  go_upto_region 1 with fail
  generalize (w.alloc (.cells #[.string v.name, .int .i64 v.tenant, .int .i64 v.cpu, .int .i64 v.mem, .int .i64 v.zone, .int .i64 v.apart, .string v.node, .int .i64 v.epoch] 71)) = u0 at *
  go_upto_region 2 with fail
  have HV1 : Hid (LG w (u0.alloc (.cells #[.string n.name, .int .i64 n.cpu, .int .i64 n.mem, .int .i64 n.zone, .int .i64 n.beat, .bool n.fenced, .bool n.closed] 97)) w.heap.size #[.string v.name, .int .i64 v.tenant, .int .i64 v.cpu, .int .i64 v.mem, .int .i64 v.zone, .int .i64 v.apart, .string v.node, .int .i64 v.epoch] 71) := HV0.out.next
  have HN1 : Hid (LG w (u0.alloc (.cells #[.string n.name, .int .i64 n.cpu, .int .i64 n.mem, .int .i64 n.zone, .int .i64 n.beat, .bool n.fenced, .bool n.closed] 97)) u0.heap.size #[.string n.name, .int .i64 n.cpu, .int .i64 n.mem, .int .i64 n.zone, .int .i64 n.beat, .bool n.fenced, .bool n.closed] 97) := LG.mk2 HV0.out.bel
  have HX1 : Hid (RX (u0.alloc (.cells #[.string n.name, .int .i64 n.cpu, .int .i64 n.mem, .int .i64 n.zone, .int .i64 n.beat, .bool n.fenced, .bool n.closed] 97)) r s a cb cs) := HX0.out.below (bx1 _ _)
  clear c0 rl d0 d1 d2 d3 d4 d5 d6 HV0 HX0 hgn hk0 hk1
  generalize (u0.alloc (.cells #[.string n.name, .int .i64 n.cpu, .int .i64 n.mem, .int .i64 n.zone, .int .i64 n.beat, .bool n.fenced, .bool n.closed] 97)) = u1 at *
  generalize u0.heap.size = bn at *
  generalize hbv : w.heap.size = bv at HV1 ⊢
  have v0 := HV1.out.cel 0 _ rfl
  have vl := HV1.out.lt
  go_upto_region 3 with (go_at_call 95; refine Calls.mono (HOT.out _ HX1.out) ?_; rintro e u2 ⟨rfl, hb⟩)
  have HV2 : Hid (LG w u2 bv #[.string v.name, .int .i64 v.tenant, .int .i64 v.cpu, .int .i64 v.mem, .int .i64 v.zone, .int .i64 v.apart, .string v.node, .int .i64 v.epoch] 71) := HV1.out.step hb
  have HN2 : Hid (LG w u2 bn #[.string n.name, .int .i64 n.cpu, .int .i64 n.mem, .int .i64 n.zone, .int .i64 n.beat, .bool n.fenced, .bool n.closed] 97) := HN1.out.step hb
  have HX2 : Hid (RX u2 r s a cb cs) := HX1.out.below hb
  clear hb HV1 HN1 HX1 HOT v0 vl
  have v0 := HV2.out.cel 0 _ rfl
  have v1 := HV2.out.cel 1 _ rfl
  have v2 := HV2.out.cel 2 _ rfl
  have v3 := HV2.out.cel 3 _ rfl
  have v4 := HV2.out.cel 4 _ rfl
  have v5 := HV2.out.cel 5 _ rfl
  have v6 := HV2.out.cel 6 _ rfl
  have v7 := HV2.out.cel 7 _ rfl
  have vl := HV2.out.lt
  have n3 := HN2.out.cel 3 _ rfl
  have nl := HN2.out.lt
  cases q0 : (v.zone != 0)
  rotate_left
  · cases q1 : (v.zone != n.zone)
    rotate_left
    · have E2 : Hid (V = 7) := HE.out.trans (if_pos ⟨by simpa using q0, by simpa using q1⟩)
      clear HE
      go_wp2
      go_ret
      exact ⟨ret_int E2.out.symm, hbv ▸ HV2.out.bel⟩
    have E : Hid (V = if MT = true then 9 else if n.mem < wrap64 (OM + v.mem) then 2 else if wrap64 (n.cpu * s.over) < wrap64 (wrap64 (OC + v.cpu) * 100) then 8 else 0) := HE.out.trans (if_neg (by simp at q1; simp [q1]))
    clear HE
    cases MT
    rotate_left
    · have E2 : Hid (V = 9) := E.out.trans (if_pos rfl)
      clear E
      go_wp2_with (go_at_call 96; refine Calls.mono (HMT.out _ HX2.out) ?_; rintro e u3 ⟨rfl, hb⟩)
      go_ret
      exact ⟨ret_int E2.out.symm, hbv ▸ (HV2.out.step hb).bel⟩
    have E3 : Hid (V = if n.mem < wrap64 (OM + v.mem) then 2 else if wrap64 (n.cpu * s.over) < wrap64 (wrap64 (OC + v.cpu) * 100) then 8 else 0) := E.out.trans (if_neg (by decide))
    clear E
    go_upto_region 7 with (go_at_call 96; refine Calls.mono (HMT.out _ HX2.out) ?_; rintro e u3 ⟨rfl, hb⟩)
    have HV3 : Hid (LG w u3 bv #[.string v.name, .int .i64 v.tenant, .int .i64 v.cpu, .int .i64 v.mem, .int .i64 v.zone, .int .i64 v.apart, .string v.node, .int .i64 v.epoch] 71) := HV2.out.step hb
    have HN3 : Hid (LG w u3 bn #[.string n.name, .int .i64 n.cpu, .int .i64 n.mem, .int .i64 n.zone, .int .i64 n.beat, .bool n.fenced, .bool n.closed] 97) := HN2.out.step hb
    have HX3 : Hid (RX u3 r s a cb cs) := HX2.out.below hb
    clear hb HV2 HN2 HX2 HMT v0 v1 v2 v3 v4 v5 v6 v7 vl n3 nl
    have v2 := HV3.out.cel 2 _ rfl
    have v3 := HV3.out.cel 3 _ rfl
    have vl := HV3.out.lt
    have n1 := HN3.out.cel 1 _ rfl
    have n2 := HN3.out.cel 2 _ rfl
    have nl := HN3.out.lt
    have r3 := HX3.out.cx.cel 3 (.int .i64 s.over) rfl
    have rl := HX3.out.cx.lt
    cases t1 : decide (n.mem < wrap64 (OM + v.mem))
    rotate_left
    · have E2 : Hid (V = 2) := E3.out.trans (if_pos (of_decide_eq_true t1))
      clear E3
      go_wp2
      go_ret
      exact ⟨ret_int E2.out.symm, hbv ▸ HV3.out.bel⟩
    go_upto_region 9 with fail
    have hw1 : IntKind.i64.wrap (OC + v.cpu) = wrap64 (OC + v.cpu) := by simp [wrap64, IntKind.wrap_i64]
    have hw2 : IntKind.i64.wrap (wrap64 (OC + v.cpu) * 100) = wrap64 (wrap64 (OC + v.cpu) * 100) := by simp [wrap64, IntKind.wrap_i64]
    have hw3 : IntKind.i64.wrap (n.cpu * s.over) = wrap64 (n.cpu * s.over) := by simp [wrap64, IntKind.wrap_i64]
    clear v3 n2
    cases t2 : decide (wrap64 (n.cpu * s.over) < wrap64 (wrap64 (OC + v.cpu) * 100))
    · have E2 : Hid (V = 0) := E3.out.trans ((if_neg (of_decide_eq_false t1)).trans (if_neg (of_decide_eq_false t2)))
      clear E3 t1
      go_quiet (fail)
      go_wp2
      go_ret
      exact ⟨ret_int E2.out.symm, hbv ▸ (bdn HV3.out.bel _)⟩
    · have E2 : Hid (V = 8) := E3.out.trans ((if_neg (of_decide_eq_false t1)).trans (if_pos (of_decide_eq_true t2)))
      clear E3 t1
      go_quiet (fail)
      go_wp2
      go_ret
      exact ⟨ret_int E2.out.symm, hbv ▸ (bdn HV3.out.bel _)⟩
  have E : Hid (V = if MT = true then 9 else if n.mem < wrap64 (OM + v.mem) then 2 else if wrap64 (n.cpu * s.over) < wrap64 (wrap64 (OC + v.cpu) * 100) then 8 else 0) := HE.out.trans (if_neg (by simp at q0; simp [q0]))
  clear HE
  cases MT
  rotate_left
  · have E2 : Hid (V = 9) := E.out.trans (if_pos rfl)
    clear E
    go_wp2_with (go_at_call 96; refine Calls.mono (HMT.out _ HX2.out) ?_; rintro e u3 ⟨rfl, hb⟩)
    go_ret
    exact ⟨ret_int E2.out.symm, hbv ▸ (HV2.out.step hb).bel⟩
  have E3 : Hid (V = if n.mem < wrap64 (OM + v.mem) then 2 else if wrap64 (n.cpu * s.over) < wrap64 (wrap64 (OC + v.cpu) * 100) then 8 else 0) := E.out.trans (if_neg (by decide))
  clear E
  go_upto_region 7 with (go_at_call 96; refine Calls.mono (HMT.out _ HX2.out) ?_; rintro e u3 ⟨rfl, hb⟩)
  have HV3 : Hid (LG w u3 bv #[.string v.name, .int .i64 v.tenant, .int .i64 v.cpu, .int .i64 v.mem, .int .i64 v.zone, .int .i64 v.apart, .string v.node, .int .i64 v.epoch] 71) := HV2.out.step hb
  have HN3 : Hid (LG w u3 bn #[.string n.name, .int .i64 n.cpu, .int .i64 n.mem, .int .i64 n.zone, .int .i64 n.beat, .bool n.fenced, .bool n.closed] 97) := HN2.out.step hb
  have HX3 : Hid (RX u3 r s a cb cs) := HX2.out.below hb
  clear hb HV2 HN2 HX2 HMT v0 v1 v2 v3 v4 v5 v6 v7 vl n3 nl
  have v2 := HV3.out.cel 2 _ rfl
  have v3 := HV3.out.cel 3 _ rfl
  have vl := HV3.out.lt
  have n1 := HN3.out.cel 1 _ rfl
  have n2 := HN3.out.cel 2 _ rfl
  have nl := HN3.out.lt
  have r3 := HX3.out.cx.cel 3 (.int .i64 s.over) rfl
  have rl := HX3.out.cx.lt
  cases t1 : decide (n.mem < wrap64 (OM + v.mem))
  rotate_left
  · have E2 : Hid (V = 2) := E3.out.trans (if_pos (of_decide_eq_true t1))
    clear E3
    go_wp2
    go_ret
    exact ⟨ret_int E2.out.symm, hbv ▸ HV3.out.bel⟩
  go_upto_region 9 with fail
  have hw1 : IntKind.i64.wrap (OC + v.cpu) = wrap64 (OC + v.cpu) := by simp [wrap64, IntKind.wrap_i64]
  have hw2 : IntKind.i64.wrap (wrap64 (OC + v.cpu) * 100) = wrap64 (wrap64 (OC + v.cpu) * 100) := by simp [wrap64, IntKind.wrap_i64]
  have hw3 : IntKind.i64.wrap (n.cpu * s.over) = wrap64 (n.cpu * s.over) := by simp [wrap64, IntKind.wrap_i64]
  clear v3 n2
  cases t2 : decide (wrap64 (n.cpu * s.over) < wrap64 (wrap64 (OC + v.cpu) * 100))
  · have E2 : Hid (V = 0) := E3.out.trans ((if_neg (of_decide_eq_false t1)).trans (if_neg (of_decide_eq_false t2)))
    clear E3 t1
    go_quiet (fail)
    go_wp2
    go_ret
    exact ⟨ret_int E2.out.symm, hbv ▸ (bdn HV3.out.bel _)⟩
  · have E2 : Hid (V = 8) := E3.out.trans ((if_neg (of_decide_eq_false t1)).trans (if_pos (of_decide_eq_true t2)))
    clear E3 t1
    go_quiet (fail)
    go_wp2
    go_ret
    exact ⟨ret_int E2.out.symm, hbv ▸ (bdn HV3.out.bel _)⟩
end Go.Proofs.YtalpcjclahkgnaaGreat
