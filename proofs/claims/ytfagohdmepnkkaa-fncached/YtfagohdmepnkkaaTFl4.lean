import Derived.Test.YtfagohdmepnkkaaTFl3
namespace Go.Proofs.Ytfagohdmepnkkaa
open Go.ChangeShapes Go.WideShapes Go.ChangeAt Go.RowKit

theorem all_ok {zs : List TE} {nx : Int} (h : tlbC zs nx = 0) : ∀ x ∈ zs, teOk x = true := by
  intro x hx
  obtain ⟨k, hk, rfl⟩ := List.getElem_of_mem hx
  unfold tlbC at h
  split at h
  · rename_i h2
    have h3 := List.all_eq_true.1 h2.2.2.2 k (List.mem_range.2 hk)
    rw [tok_eq hk, Bool.and_eq_true] at h3
    exact h3.1
  · cases h
theorem cfFlush : ∀ (xs : Array Value) (w' : World), (callFunc 84 xs).run Try.prog w' = .ok (.enter 84 xs) w' := by
  intro xs w'
  kernel_rfl
theorem al4f (w : World) (a b c d : Obj) : ((((w.alloc a).alloc b).alloc c).alloc d).heap[w.heap.size]? = some a ∧ ((((w.alloc a).alloc b).alloc c).alloc d).heap[w.heap.size + 1]? = some b ∧ ((((w.alloc a).alloc b).alloc c).alloc d).heap[w.heap.size + 1 + 1]? = some c ∧ ((((w.alloc a).alloc b).alloc c).alloc d).heap[w.heap.size + 1 + 1 + 1]? = some d := by
  obtain ⟨h0, h1, h2, h3⟩ := al3 w a b c
  have z : (((w.alloc a).alloc b).alloc c).heap.size = w.heap.size + 3 := h3
  refine ⟨(Below.heap_alloc _ _ _ (by omega)).trans h0, (Below.heap_alloc _ _ _ (by omega)).trans h1, (Below.heap_alloc _ _ _ (by omega)).trans h2, ?_⟩
  have := heap_new (((w.alloc a).alloc b).alloc c) d
  rw [z] at this
  exact this
/-- The four boxes of the program's TlbFlush. -/
structure FlX (w u : World) (v : Value) (nx asid va : Int) : Prop where
  bel : Below w.heap.size w u
  b0 : BoxT u w.heap.size v nx
  b1 : u.heap[w.heap.size + 1]? = some (.cells #[.int .i64 asid] 2 (0, 0))
  b2 : u.heap[w.heap.size + 1 + 1]? = some (.cells #[.int .i64 va] 2 (0, 0))
  b3 : u.heap[w.heap.size + 1 + 1 + 1]? = some (.cells #[.slice none 0 0, .int .i64 0] 61 (0, 0))
theorem FlX.lt {w u : World} {v : Value} {nx asid va : Int} (h : FlX w u v nx asid va) : w.heap.size + 1 + 1 + 1 < u.heap.size := (Array.getElem?_eq_some_iff.1 h.b3).1
theorem FlX.keep {w u u' : World} {v : Value} {nx asid va : Int} {B : Nat} (h : FlX w u v nx asid va) (hb : Below B u u') (hB : w.heap.size + 1 + 1 + 1 < B) : FlX w u' v nx asid va :=
  ⟨h.bel.trans (hb.mono (by omega)), h.b0.below hb (by omega), (hb.block _ (by omega)).trans h.b1, (hb.block _ (by omega)).trans h.b2, (hb.block _ (by omega)).trans h.b3⟩
theorem FlX.step {w u u' : World} {v : Value} {nx asid va : Int} (h : FlX w u v nx asid va) (hb : Below u.heap.size u u') : FlX w u' v nx asid va := h.keep hb h.lt
theorem FlX.new (w : World) (ao : Option Addr) (n cap : Nat) (nx asid va : Int) : FlX w ((((w.alloc (.cells #[.slice ao n cap, .int .i64 nx] 61)).alloc (.cells #[.int .i64 asid] 2)).alloc (.cells #[.int .i64 va] 2)).alloc (.cells #[.slice none 0 0, .int .i64 0] 61)) (.slice ao n cap) nx asid va := by
  obtain ⟨h0, h1, h2, h3⟩ := al4f w (.cells #[.slice ao n cap, .int .i64 nx] 61) (.cells #[.int .i64 asid] 2) (.cells #[.int .i64 va] 2) (.cells #[.slice none 0 0, .int .i64 0] 61)
  exact ⟨((((Below.refl _ _).alloc (Nat.le_refl _) _).alloc (by simp) _).alloc (by simp; omega) _).alloc (by simp; omega) _, h0, h1, h2, h3⟩
theorem celO {u : World} {b t : Nat} {a0 : Value} (h : u.heap[b]? = some (.cells #[a0] t (0, 0))) : u.cell? ⟨b, 0, none⟩ = some a0 := by simp [World.cell?, h]
set_option maxRecDepth 100000 in
set_option maxHeartbeats 4000000 in
theorem implFlush_bad {w : World} {ao : Option Addr} {cap : Nat} {zs : List TE} (h : TErow w (.slice ao zs.length cap) zs) (nx asid va : Int) (hl : zs.length ≤ 1048576) (hc : tlbC zs nx = 1) :
    Calls Try.prog 33 #[tlA (.slice ao zs.length cap) nx, .int .i64 asid, .int .i64 va] w fun r w' => r = .returned (tlA (.slice none 0 0) 0) ∧ Below w.heap.size w w' := by
  have HX0 : Hid (FlX w ((((w.alloc (.cells #[.slice ao zs.length cap, .int .i64 nx] 61)).alloc (.cells #[.int .i64 asid] 2)).alloc (.cells #[.int .i64 va] 2)).alloc (.cells #[.slice none 0 0, .int .i64 0] 61)) (.slice ao zs.length cap) nx asid va) := FlX.new w ao zs.length cap nx asid va
  have HF := implFaultT_any (h.below (HX0.out.bel)) nx hl
  rw [hc] at HF
  have HFH : Hid _ := HF
  clear h HF hc
  unfold tlA at *
  go_enter Try.func33, Try.ntmps33
  go_wp2_with (go_at_call 31; refine Calls.mono HFH.out ?_; rintro r u1 ⟨rfl, hu1⟩; have HX : Hid (FlX w u1 (.slice ao zs.length cap) nx asid va) := HX0.out.step hu1; obtain ⟨k0, k1⟩ := cel2 HX.out.b3; have kf : ∀ x, u1.frozen? ⟨w.heap.size + 1 + 1 + 1, x, none⟩ = false := (fun x => by simp [World.frozen?, HX.out.b3]); have yl := HX.out.lt; clear hu1 HFH HX0)
  refine bodyPost_ret (v := .agg #[.slice none 0 0, .int .i64 0]) ?_ rfl ⟨rfl, (HX.out.bel.setCell (by simp only; omega) _).setCell (by simp only; omega) _⟩
  simp [results, Try.results33, go_sem, k0, k1]
set_option maxRecDepth 100000 in
set_option maxHeartbeats 4000000 in
theorem implFlush_good {w : World} {B : Nat} {ao : Option Addr} {cap : Nat} {zs : List TE} (h : w.ownsRow B 66 5 (.slice ao zs.length cap) zs.length (teR zs)) (nx asid va : Int) (hl : zs.length ≤ 16) (hc : tlbC zs nx = 0) :
    Calls Try.prog 33 #[tlA (.slice ao zs.length cap) nx, .int .i64 asid, .int .i64 va] w fun r w' => ∃ ao2 cap2, r = .returned (tlA (.slice ao2 (zs.filter fun x => !flP asid va x).length cap2) 0) ∧ w'.ownsRow w.heap.size 66 5 (.slice ao2 (zs.filter fun x => !flP asid va x).length cap2) (zs.filter fun x => !flP asid va x).length (teR (zs.filter fun x => !flP asid va x)) ∧ Below w.heap.size w w' := by
  have HX0 : Hid (FlX w ((((w.alloc (.cells #[.slice ao zs.length cap, .int .i64 nx] 61)).alloc (.cells #[.int .i64 asid] 2)).alloc (.cells #[.int .i64 va] 2)).alloc (.cells #[.slice none 0 0, .int .i64 0] 61)) (.slice ao zs.length cap) nx asid va) := FlX.new w ao zs.length cap nx asid va
  have HRW : Hid (w.ownsRow B 66 5 (.slice ao zs.length cap) zs.length (teR zs)) := h
  have HOK : Hid (∀ x ∈ zs, teOk x = true) := all_ok hc
  have HF := implFaultT_any ((TErow.of h).below (HX0.out.bel)) nx (by omega)
  rw [hc] at HF
  have HFH : Hid _ := HF
  clear h HF hc
  unfold tlA at *
  go_enter Try.func33, Try.ntmps33
  go_wp2_with (first
    | (go_at_call 31; refine Calls.mono HFH.out ?_; rintro r u1 ⟨rfl, hu1⟩; have HX : Hid (FlX w u1 (.slice ao zs.length cap) nx asid va) := HX0.out.step hu1; obtain ⟨c0, c1⟩ := HX.out.b0.cel; clear hu1 HFH HX0)
    | (go_at_call 83; refine Calls.mono (cloneT_any (te_below HRW.out HX.out.bel) hl) ?_; rintro r u2 ⟨ao2, cap2, rfl, ho, hb⟩; have HO : Hid (u2.ownsRow u1.heap.size 66 5 (.slice ao2 zs.length cap2) zs.length (teR zs)) := ho; have HB2 : Hid (Below u1.heap.size u1 u2) := hb; have HD : Hid _ := delT ho hb.size hl 84 #[.pointer (some ⟨w.heap.size + 1, 0, none⟩), .pointer (some ⟨w.heap.size + 1 + 1, 0, none⟩)] (flP asid va) cfFlush (fun x hx w' hw => by
        have hX2 : FlX w w' (.slice ao zs.length cap) nx asid va := (HX.out.step hb).keep hw HX.out.lt
        exact flushFn_any x (HOK.out x hx) asid va _ _ w' (celO hX2.b1) (celO hX2.b2) (by have := hX2.lt; omega) (by have := hX2.lt; omega)); clear ho hb)
    | (go_at_call 82; refine Calls.mono HD.out ?_; rintro r u3 ⟨rfl, ho, hb⟩; have HX3 : Hid (FlX w u3 (.slice ao zs.length cap) nx asid va) := (HX.out.step HB2.out).keep hb HX.out.lt; have HO3 : Hid (u3.ownsRow u1.heap.size 66 5 (.slice ao2 (zs.filter fun x => !flP asid va x).length cap2) (zs.filter fun x => !flP asid va x).length (teR (zs.filter fun x => !flP asid va x))) := ho; obtain ⟨k0, k1⟩ := cel2 HX3.out.b3; have kf : ∀ x, u3.frozen? ⟨w.heap.size + 1 + 1 + 1, x, none⟩ = false := (fun x => by simp [World.frozen?, HX3.out.b3]); have yl := HX.out.lt; clear ho hb HD))
  generalize (zs.filter fun x => !flP asid va x) = L at *
  have hn : (Value.slice ao2 L.length cap2).ownBlock ≠ some (w.heap.size + 1 + 1 + 1) := fun q => by have := (HO3.out.lt _ q).1; omega
  obtain ⟨r0, r1⟩ := (putBoxT HX3.out.b3 (.slice ao2 L.length cap2) 0).cel
  exact bodyPost_ret (v := .agg #[.slice ao2 L.length cap2, .int .i64 0]) (by simp [results, Try.results33, go_sem, r0, r1]) rfl ⟨ao2, cap2, rfl, te_weak (own_set (own_set HO3.out hn) hn) (by omega), (HX3.out.bel.setCell (by simp only; omega) _).setCell (by simp only; omega) _⟩
end Go.Proofs.Ytfagohdmepnkkaa
