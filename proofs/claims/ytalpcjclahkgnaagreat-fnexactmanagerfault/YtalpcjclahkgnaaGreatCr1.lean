import Derived.Test.YtalpcjclahkgnaaGreatCs1
import Derived.Test.YtalpcjclahkgnaaGreatIdxZ
namespace Go.Proofs.YtalpcjclahkgnaaGreat
open Go.ChangeShapes Go.WideShapes Go.ChangeAt Go.RowKit

/-- A cluster behind a pointer. -/
structure CX (w : World) (b : Nat) (s : CL) (a : CA) : Prop where
  lt : b < w.heap.size
  cel : ∀ k v, (clC s a)[k]? = some v → w.cell? ⟨b, k, none⟩ = some v
  rows : CLRows w s a
theorem CX.below {w w' : World} {b : Nat} {s : CL} {a : CA} (h : CX w b s a) (hb : Below w.heap.size w w') : CX w' b s a :=
  ⟨Nat.lt_of_lt_of_le h.lt hb.size, fun k v hk => (World.cell?_of_block (hb.block b h.lt)).trans (h.cel k v hk), h.rows.below hb⟩
set_option maxRecDepth 100000 in
set_option maxHeartbeats 4000000 in
theorem nodeAtF_any (z : NOD) (nm : ByteArray) (c : Nat) (w : World) (hc : w.cell? ⟨c, 0, none⟩ = some (.string nm)) (hl : c < w.heap.size) : Calls Tryz.prog 93 #[.agg #[.string z.name, .int .i64 z.cpu, .int .i64 z.mem, .int .i64 z.zone, .int .i64 z.beat, .bool z.fenced, .bool z.closed], .pointer (some ⟨c, 0, none⟩)] w fun e w' => e = .returned (.bool (z.name.toList == nm.toList)) ∧ Below w.heap.size w w' := by
  have HB : Hid (Below w.heap.size w (w.alloc (.cells #[.string z.name, .int .i64 z.cpu, .int .i64 z.mem, .int .i64 z.zone, .int .i64 z.beat, .bool z.fenced, .bool z.closed] 97))) := bx1 _ _
  go_enter Tryz.func93, Tryz.ntmps93
  go_wp2
  go_ret
  exact ⟨rfl, HB.out⟩
set_option maxRecDepth 100000 in
set_option maxHeartbeats 4000000 in
theorem vmAtF_any (z : VMC) (nm : ByteArray) (c : Nat) (w : World) (hc : w.cell? ⟨c, 0, none⟩ = some (.string nm)) (hl : c < w.heap.size) : Calls Tryz.prog 102 #[.agg #[.string z.name, .int .i64 z.tenant, .int .i64 z.cpu, .int .i64 z.mem, .int .i64 z.zone, .int .i64 z.apart, .string z.node, .int .i64 z.epoch], .pointer (some ⟨c, 0, none⟩)] w fun e w' => e = .returned (.bool (z.name.toList == nm.toList)) ∧ Below w.heap.size w w' := by
  have HB : Hid (Below w.heap.size w (w.alloc (.cells #[.string z.name, .int .i64 z.tenant, .int .i64 z.cpu, .int .i64 z.mem, .int .i64 z.zone, .int .i64 z.apart, .string z.node, .int .i64 z.epoch] 71))) := bx1 _ _
  go_enter Tryz.func102, Tryz.ntmps102
  go_wp2
  go_ret
  exact ⟨rfl, HB.out⟩
set_option maxRecDepth 100000 in
set_option maxHeartbeats 4000000 in
theorem nodeAt_any {w : World} {b : Nat} {s : CL} {a : CA} (h : CX w b s a) (hl : s.nodes.length ≤ 1048576) (nm : ByteArray) : Calls Tryz.prog 83 #[.pointer (some ⟨b, 0, none⟩), .string nm] w fun e w' => e = .returned (.int .i64 (ndX s nm)) ∧ Below w.heap.size w w' := by
  have HL0 : Hid (LG w (w.alloc (.cells #[.string nm] 9)) w.heap.size #[.string nm] 9) := LG.new w _ _
  have HX : Hid (CX (w.alloc (.cells #[.string nm] 9)) b s a) := h.below HL0.out.bel
  clear h
  obtain ⟨an, kn, av, kv, ae, ke, e⟩ := HX.out.rows.sl
  have k0 := HX.out.cel 0 a.vnodes rfl
  have HI : Hid (Calls Tryz.prog 92 #[a.vnodes, .func (.func 93) #[] #[.pointer (some ⟨w.heap.size, 0, none⟩)]] (w.alloc (.cells #[.string nm] 9)) fun e w' => e = .returned (.int .i64 (ndX s nm)) ∧ Below (w.alloc (.cells #[.string nm] 9)).heap.size (w.alloc (.cells #[.string nm] 9)) w') :=
    indexNOD_any HX.out.rows.rnodes hl _ _ (fun n => n.name.toList == nm.toList) (fun xs w' => by kernel_rfl) (fun x w' hw => nodeAtF_any x nm _ w' ((HL0.out.step hw).cel 0 _ rfl) (HL0.out.step hw).lt)
  have hlt := HX.out.lt
  subst e
  simp only at k0 HI
  clear HX
  generalize ndX s nm = V at *
  go_enter Tryz.func83, Tryz.ntmps83
  go_upto_region 1 with fail
  generalize (w.alloc (.cells #[.string nm] 9)) = u0 at *
  generalize w.heap.size = b0 at *
  go_wp2_with (go_at_call 92; refine Calls.mono HI.out ?_; rintro e u1 ⟨rfl, hu⟩; have HL1 : Hid (LG w u1 b0 _ _) := HL0.out.step hu; clear hu)
  go_ret
  exact ⟨rfl, HL1.out.bel⟩
set_option maxRecDepth 100000 in
set_option maxHeartbeats 4000000 in
theorem vmAt_any {w : World} {b : Nat} {s : CL} {a : CA} (h : CX w b s a) (hl : s.vms.length ≤ 1048576) (nm : ByteArray) : Calls Tryz.prog 99 #[.pointer (some ⟨b, 0, none⟩), .string nm] w fun e w' => e = .returned (.int .i64 (vmX s nm)) ∧ Below w.heap.size w w' := by
  have HL0 : Hid (LG w (w.alloc (.cells #[.string nm] 9)) w.heap.size #[.string nm] 9) := LG.new w _ _
  have HX : Hid (CX (w.alloc (.cells #[.string nm] 9)) b s a) := h.below HL0.out.bel
  clear h
  obtain ⟨an, kn, av, kv, ae, ke, e⟩ := HX.out.rows.sl
  have k0 := HX.out.cel 1 a.vvms rfl
  have HI : Hid (Calls Tryz.prog 85 #[a.vvms, .func (.func 102) #[] #[.pointer (some ⟨w.heap.size, 0, none⟩)]] (w.alloc (.cells #[.string nm] 9)) fun e w' => e = .returned (.int .i64 (vmX s nm)) ∧ Below (w.alloc (.cells #[.string nm] 9)).heap.size (w.alloc (.cells #[.string nm] 9)) w') :=
    indexVMC_any HX.out.rows.rvms hl _ _ (fun n => n.name.toList == nm.toList) (fun xs w' => by kernel_rfl) (fun x w' hw => vmAtF_any x nm _ w' ((HL0.out.step hw).cel 0 _ rfl) (HL0.out.step hw).lt)
  have hlt := HX.out.lt
  subst e
  simp only at k0 HI
  clear HX
  generalize vmX s nm = V at *
  go_enter Tryz.func99, Tryz.ntmps99
  go_upto_region 1 with fail
  generalize (w.alloc (.cells #[.string nm] 9)) = u0 at *
  generalize w.heap.size = b0 at *
  go_wp2_with (go_at_call 85; refine Calls.mono HI.out ?_; rintro e u1 ⟨rfl, hu⟩; have HL1 : Hid (LG w u1 b0 _ _) := HL0.out.step hu; clear hu)
  go_ret
  exact ⟨rfl, HL1.out.bel⟩
end Go.Proofs.YtalpcjclahkgnaaGreat
