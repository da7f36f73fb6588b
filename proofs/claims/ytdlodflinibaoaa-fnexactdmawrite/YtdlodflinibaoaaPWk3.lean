import Derived.Test.YtdlodflinibaoaaPWk2
import Derived.Test.YtdlodflinibaoaaSWalk
namespace Go.Proofs.Ytdlodflinibaoaa
open Go.ChangeShapes Go.WideShapes Go.ChangeAt Go.RowKit

set_option maxRecDepth 100000 in
theorem mHoldsM (b n : Nat) (w : World) : (method 305 97 (.slice (some ⟨b, 0, none⟩) n n) "loop.example/g00038/impl.holds").run Try.prog w = .ok (167, .slice (some ⟨b, 0, none⟩) n n) w := by kernel_rfl
set_option maxRecDepth 100000 in
theorem mReadM (b n : Nat) (w : World) : (method 305 97 (.slice (some ⟨b, 0, none⟩) n n) "loop.example/g00038/impl.readEntry").run Try.prog w = .ok (169, .slice (some ⟨b, 0, none⟩) n n) w := by kernel_rfl
set_option maxRecDepth 100000 in
theorem mPutM (b n : Nat) (w : World) : (method 305 97 (.slice (some ⟨b, 0, none⟩) n n) "loop.example/g00038/impl.putEntry").run Try.prog w = .ok (168, .slice (some ⟨b, 0, none⟩) n n) w := by kernel_rfl
theorem readEntryM (b n : Nat) (s : ByteArray) (k : Nat) (w : World) (h : MemAt w b s) (hn : s.size = n * 256) (hs : s.size ≤ 65536) (hk : k + 4 ≤ s.size) (h4 : k % 4 = 0) :
    Calls Try.prog 169 #[mv b n, .int .i64 k] w fun e w' => e = .returned (.tuple #[.int .i64 (wv s k), .int .i64 0]) ∧ ∃ q, w' = w.drewN q := by
  have hw := memWord_any b n s k w h hn hs hk h4
  unfold mv at hw ⊢
  clear h hn hs hk h4
  go_enter Try.func169, Try.ntmps169
  go_wp2_with (go_at_call 99; refine Calls.mono hw ?_; rintro e u ⟨rfl, q, rfl⟩)
  go_ret2
  exact ⟨rfl, q, rfl⟩
theorem putEntryM (b n : Nat) (s : ByteArray) (k : Nat) (x : Int) (w : World) (h : MemAt w b s) (hn : s.size = n * 256) (hs : s.size ≤ 65536) (hk : k + 4 ≤ s.size) (h4 : k % 4 = 0) :
    Calls Try.prog 168 #[mv b n, .int .i64 k, .int .i64 x] w fun e w' => e = .returned (.int .i64 0) ∧ MemAt w' b (setv s k x) ∧ w.grownBy w' (some b) := by
  have hw := memPut_any b n s k x w h hn hs hk h4
  unfold mv at hw ⊢
  clear h hn hs hk h4
  go_enter Try.func168, Try.ntmps168
  go_wp2_with (go_at_call 100; refine Calls.mono hw ?_; rintro e u ⟨rfl, hu, hg⟩)
  go_ret
  exact ⟨rfl, hu, hg⟩

/-- A walk under way over a memory: w0 is the world ahead of its box. -/
structure WSt (w0 : World) (b B n : Nat) (s : ByteArray) (wr : World) (rv : Value) (zs : List Int) (x : WS) : Prop where
  grw : w0.grownBy wr (some b)
  mem : MemAt wr b s
  box : WBx wr B (.iface 97 (mv b n)) rv x
  own : wr.ownsRow (B + 1) 2 1 rv zs.length (zs.map (Value.int .i64))
  lo : w0.heap.size ≤ B
  ne : b < B
theorem ibl (w : World) (k : Nat) (hk : w.heap.size ≤ k) : w.heap.size ≤ k := hk
theorem WSt.below {w0 wr u : World} {b B n : Nat} {s : ByteArray} {rv : Value} {zs : List Int} {x : WS} (h : WSt w0 b B n s wr rv zs x) (hb : Below wr.heap.size wr u) : WSt w0 b B n s u rv zs x :=
  ⟨gb_below h.grw hb, h.mem.below hb h.mem.lt, h.box.block (hb.block _ h.box.lt), own_below h.own hb, h.lo, h.ne⟩
theorem WSt.drew {w0 wr : World} {b B n : Nat} {s : ByteArray} {rv : Value} {zs : List Int} {x : WS} (h : WSt w0 b B n s wr rv zs x) (q : Nat) : WSt w0 b B n s (wr.drewN q) rv zs x :=
  h.below (bdn (Below.refl _ _) q)
theorem rowNe {w : World} {B e n : Nat} {v : Value} {xs : List Value} (h : w.ownsRow (B + 1) e 1 v n xs) (k : Nat) (hk : k ≤ B) : v.ownBlock ≠ some k := fun e => by have := (h.lt _ e).1; omega
theorem WSt.put4 {w0 wr : World} {b B n : Nat} {s : ByteArray} {rv : Value} {zs : List Int} {x : WS} (h : WSt w0 b B n s wr rv zs x) (y : Int) : WSt w0 b B n s (wr.setCell ⟨B, 4, none⟩ (.int .i64 y)) rv zs { x with at_ := y } :=
  ⟨gb_set h.grw h.lo, (Below.heap_setCell _ _ _ _ (by have := h.ne; simp; omega)).trans h.mem, h.box.put4 y, own_set h.own (rowNe h.own B (Nat.le_refl _)), h.lo, h.ne⟩
theorem WSt.put5 {w0 wr : World} {b B n : Nat} {s : ByteArray} {rv : Value} {zs : List Int} {x : WS} (h : WSt w0 b B n s wr rv zs x) (y : Int) : WSt w0 b B n s (wr.setCell ⟨B, 5, none⟩ (.int .i64 y)) rv zs { x with e := y } :=
  ⟨gb_set h.grw h.lo, (Below.heap_setCell _ _ _ _ (by have := h.ne; simp; omega)).trans h.mem, h.box.put5 y, own_set h.own (rowNe h.own B (Nat.le_refl _)), h.lo, h.ne⟩
theorem WSt.put6 {w0 wr : World} {b B n : Nat} {s : ByteArray} {rv : Value} {zs : List Int} {x : WS} (h : WSt w0 b B n s wr rv zs x) (y : Bool) : WSt w0 b B n s (wr.setCell ⟨B, 6, none⟩ (.bool y)) rv zs { x with lg := y } :=
  ⟨gb_set h.grw h.lo, (Below.heap_setCell _ _ _ _ (by have := h.ne; simp; omega)).trans h.mem, h.box.put6 y, own_set h.own (rowNe h.own B (Nat.le_refl _)), h.lo, h.ne⟩
theorem WSt.put9 {w0 wr : World} {b B n : Nat} {s : ByteArray} {rv : Value} {zs : List Int} {x : WS} (h : WSt w0 b B n s wr rv zs x) (y : Bool) : WSt w0 b B n s (wr.setCell ⟨B, 9, none⟩ (.bool y)) rv zs x :=
  ⟨gb_set h.grw h.lo, (Below.heap_setCell _ _ _ _ (by have := h.ne; simp; omega)).trans h.mem, h.box.put9 y, own_set h.own (rowNe h.own B (Nat.le_refl _)), h.lo, h.ne⟩
theorem WSt.put8 {w0 wr : World} {b B n : Nat} {s : ByteArray} {rv : Value} {zs : List Int} {x : WS} (h : WSt w0 b B n s wr rv zs x) (y : Int) : WSt w0 b B n s (wr.setCell ⟨B, 8, none⟩ (.int .i64 y)) rv zs { x with pa := y } :=
  ⟨gb_set h.grw h.lo, (Below.heap_setCell _ _ _ _ (by have := h.ne; simp; omega)).trans h.mem, h.box.put8 y, own_set h.own (rowNe h.own B (Nat.le_refl _)), h.lo, h.ne⟩
/-- Behind a write into the memory. -/
theorem WSt.memput {w0 wr u : World} {b B n : Nat} {s s' : ByteArray} {rv : Value} {zs : List Int} {x : WS} (h : WSt w0 b B n s wr rv zs x) (hu : wr.grownBy u (some b)) (hm : MemAt u b s') : WSt w0 b B n s' u rv zs x :=
  ⟨gb_grow h.grw hu (fun k e => .inr e), hm, h.box.block (hu.block _ h.box.lt (fun e => by have := h.ne; have := Option.some.inj e; omega)),
    h.own.kept hu (.inr (rowNe h.own b (Nat.le_of_lt h.ne))), h.lo, h.ne⟩
/-- Behind an append to the reads and its store. -/
theorem WSt.put7 {w0 wr w2 : World} {b B n : Nat} {s : ByteArray} {rv rv' : Value} {zs : List Int} {x : WS} {y : Int} (h : WSt w0 b B n s wr rv zs x) (hg : wr.grownBy w2 rv.ownBlock) (ho : w2.ownsRow (B + 1) 2 1 rv' (zs.length + 1) (zs.map (Value.int .i64) ++ [.int .i64 y])) :
    WSt w0 b B n s (w2.setCell ⟨B, 7, none⟩ rv') rv' (zs ++ [y]) x := by
  have e1 : w2.heap[B]? = wr.heap[B]? := hg.block _ h.box.lt (fun e => rowNe h.own B (Nat.le_refl _) e.symm)
  have e2 : w2.heap[b]? = wr.heap[b]? := hg.block _ h.mem.lt (fun e => rowNe h.own b (Nat.le_of_lt h.ne) e.symm)
  refine ⟨gb_set (gb_grow h.grw hg (fun k e => .inl ?_)) h.lo, (Below.heap_setCell _ _ _ _ (by have := h.ne; simp; omega)).trans (e2.trans h.mem), (h.box.block e1).put7, ?_, h.lo, h.ne⟩
  · have h1 := (h.own.lt k e).1
    have h2 := h.lo
    omega
  · have hk := own_set (p := ⟨B, 7, none⟩) (x := rv') ho (rowNe ho B (Nat.le_refl _))
    simpa using hk
theorem WSt.sl {w0 wr : World} {b B n : Nat} {s : ByteArray} {rv : Value} {zs : List Int} {x : WS} (h : WSt w0 b B n s wr rv zs x) : ∃ ao cap, rv = .slice ao zs.length cap := by
  rcases h.own.2 with ⟨rfl, e⟩ | ⟨g, cap, cur, rfl, _⟩
  · exact ⟨none, 0, by rw [e]⟩
  · exact ⟨_, cap, rfl⟩

set_option maxRecDepth 100000 in
set_option maxHeartbeats 1000000 in
/-- The table is not in memory. -/
theorem readM_no {w0 wr : World} {b B n : Nat} {s : ByteArray} {rv : Value} {zs : List Int} {x : WS} (h : WSt w0 b B n s wr rv zs x) (t i : Int) (ht : (n : Int) ≤ t) :
    Calls Try.prog 125 #[.pointer (some ⟨B, 0, none⟩), .int .i64 t, .int .i64 i] wr fun e u => e = .returned (.int .i64 2) ∧ u = wr := by
  obtain ⟨c0, c1, c2, c3, c4, c5, c6, c7, c8, cf⟩ := h.box.cells
  have hd : (decide (0 ≤ t) && decide (t < (n : Int))) = false := by simp; omega
  have hh := fun w => memHolds_any b n t w
  rw [hd] at hh
  have m1 := mHoldsM b n
  unfold mv at c0 hh
  clear h hd
  go_enter Try.func125, Try.ntmps125
  go_wp2_with (go_at_call 167; refine Calls.mono (hh _) ?_; rintro e u ⟨rfl, hu⟩; subst hu)
  go_ret
  exact ⟨rfl, rfl⟩
set_option maxRecDepth 100000 in
set_option maxHeartbeats 4000000 in
theorem readM_yes {w0 wr : World} {b B n : Nat} {s : ByteArray} {rv : Value} {zs : List Int} {x : WS} (h : WSt w0 b B n s wr rv zs x) (hn : s.size = n * 256) (hs : s.size ≤ 65536) (t i : Nat) (T I : Int) (hT : T = t) (hI : I = i) (ht : t < n) (hi : i ≤ 31) (hz : zs.length ≤ 10) :
    Calls Try.prog 125 #[.pointer (some ⟨B, 0, none⟩), .int .i64 T, .int .i64 I] wr fun e u => e = .returned (.int .i64 0) ∧ ∃ rv', WSt w0 b B n s u rv' (zs ++ [(t : Int)]) { x with at_ := ((t * 256 + 4 * i : Nat) : Int), e := wv s (t * 256 + 4 * i) } := by
  subst hT hI
  obtain ⟨i0, hi0, hz0, hz1, hz2⟩ := info_parts Try.info2
  obtain ⟨c0, c1, c2, c3, c4, c5, c6, c7, c8, cf⟩ := h.box.cells
  have hd : (decide (0 ≤ (t : Int)) && decide ((t : Int) < (n : Int))) = true := by simp; omega
  have hh := fun w => memHolds_any b n t w
  rw [hd] at hh
  have hP : Hid _ := entryPlace_any (t : Int) (i : Int) wr (by omega) (by omega) (by omega) (by omega)
  have ek : (t : Int) * 256 + (i : Int) * 4 = ((t * 256 + 4 * i : Nat) : Int) := by omega
  have EK : Hid _ := ek
  have HS : Hid (WSt w0 b B n s (wr.setCell ⟨B, 4, none⟩ (.int .i64 ((t : Int) * 256 + (i : Int) * 4))) rv zs { x with at_ := (t : Int) * 256 + (i : Int) * 4 }) := h.put4 _
  have hR := readEntryM b n s (t * 256 + 4 * i) ((wr.setCell ⟨B, 4, none⟩ (.int .i64 ((t : Int) * 256 + (i : Int) * 4))).drew) HS.out.mem hn hs (by omega) (by omega)
  rw [← ek] at hR
  have HR : Hid _ := hR
  clear ek hR
  obtain ⟨ao, cap, hv⟩ := h.sl
  have HV : Hid _ := hv
  rw [hv] at c7
  have m1 := mHoldsM b n
  have m2 := mReadM b n
  unfold mv at c0 hh HR
  clear h hd hn hs hv
  go_enter Try.func125, Try.ntmps125
  go_wp2_with (first | (go_at_call 167; refine Calls.mono (hh _) ?_; rintro e u ⟨rfl, hu⟩; rw [hu]; clear hu u) | (go_at_call 133; refine Calls.mono hP.out ?_; rintro e u ⟨rfl, hu⟩; rw [hu]; clear hu u))
  go_region_with (go_at_call 169; refine Calls.mono HR.out ?_; rintro e u ⟨rfl, q, hu⟩; have HU : Hid (WSt w0 b B n s u rv zs { x with at_ := (t : Int) * 256 + (i : Int) * 4 }) := HS.out.below (by rw [hu]; exact ⟨rfl, rfl, rfl, Nat.le_refl _, fun _ _ => rfl⟩); clear hu)
  · obtain ⟨d0, d1, d2, d3, d4, d5, d6, d7, d8, df⟩ := HU.out.box.cells
    rw [HV.out] at d7
    have HW : Hid (WSt w0 b B n s ((u.setCell ⟨B, 5, none⟩ (.int .i64 (wv s (t * 256 + 4 * i)))).alloc (.cells #[.int .i64 t] 2)) rv zs { x with at_ := (t : Int) * 256 + (i : Int) * 4, e := wv s (t * 256 + 4 * i) }) := (HU.out.put5 _).below ((Below.refl _ _).alloc (Nat.le_refl _) _)
    clear c0 c1 c2 c3 c4 c5 c6 c7 c8 cf
    go_wp2_with (at_builtin; refine wpList_append_own _ rfl _ _ 91 rfl (B + 1) 2 i0 (.int .i64 0) 1 8 Try.underlying91 hi0 hz0 hz1 hz2 rfl (by decide) rv zs.length (zs.map (Value.int .i64)) (by rw [HV.out]; rfl) HW.out.own ⟨(u.setCell ⟨B, 5, none⟩ (.int .i64 (wv s (t * 256 + 4 * i)))).heap.size, 0, none⟩ 1 1 [.int .i64 t] (by first | (simp [World.setCell, Act.eval]; done) | (simp [World.setCell, Act.eval, Act.put]; done) | (simp [Act.eval]; done) | (simp [Act.eval, Act.put]; done)) rfl ?c1 ?c2 ?c3 ?c4 ?c5 ?_)
    case c2 => rfl
    case c3 => unfold maxLen; omega
    case c4 => omega
    case c5 => have := HU.out.box.lt; omega
    intro v' w2 hown2 hgrow _
    have hb2 := hgrow.block _ HW.out.box.lt (fun e => rowNe HW.out.own B (Nat.le_refl _) e.symm)
    obtain ⟨f0, f1, f2, f3, f4, f5, f6, f7, f8, ff⟩ := (HW.out.box.block hb2).cells
    rw [HV.out] at f7
    have HP : Hid _ := HW.out.put7 hgrow hown2
    obtain ⟨ao', cap', hv1⟩ := HP.out.sl
    have hv' : v' = .slice ao' (zs.length + 1) cap' := by simpa using hv1
    clear hv1
    subst hv'
    clear hown2 hgrow hb2 d0 d1 d2 d3 d4 d5 d6 d7 d8 df
    go_wp2
    go_ret
    have hfin := HP.out
    rw [EK.out] at hfin
    exact ⟨rfl, _, hfin⟩
  · obtain ⟨d0, d1, d2, d3, d4, d5, d6, d7, d8, df⟩ := HU.out.box.cells
    rw [HV.out] at d7
    have HW : Hid (WSt w0 b B n s ((u.setCell ⟨B, 5, none⟩ (.int .i64 (wv s (t * 256 + 4 * i)))).alloc (.cells #[.int .i64 t] 2)) rv zs { x with at_ := (t : Int) * 256 + (i : Int) * 4, e := wv s (t * 256 + 4 * i) }) := (HU.out.put5 _).below ((Below.refl _ _).alloc (Nat.le_refl _) _)
    clear c0 c1 c2 c3 c4 c5 c6 c7 c8 cf
    go_wp2_with (at_builtin; refine wpList_append_own _ rfl _ _ 91 rfl (B + 1) 2 i0 (.int .i64 0) 1 8 Try.underlying91 hi0 hz0 hz1 hz2 rfl (by decide) rv zs.length (zs.map (Value.int .i64)) (by rw [HV.out]; rfl) HW.out.own ⟨(u.setCell ⟨B, 5, none⟩ (.int .i64 (wv s (t * 256 + 4 * i)))).heap.size, 0, none⟩ 1 1 [.int .i64 t] (by first | (simp [World.setCell, Act.eval]; done) | (simp [World.setCell, Act.eval, Act.put]; done) | (simp [Act.eval]; done) | (simp [Act.eval, Act.put]; done)) rfl ?e1 ?e2 ?e3 ?e4 ?e5 ?_)
    case e2 => rfl
    case e3 => unfold maxLen; omega
    case e4 => omega
    case e5 => have := HU.out.box.lt; omega
    intro v' w2 hown2 hgrow _
    have hb2 := hgrow.block _ HW.out.box.lt (fun e => rowNe HW.out.own B (Nat.le_refl _) e.symm)
    obtain ⟨f0, f1, f2, f3, f4, f5, f6, f7, f8, ff⟩ := (HW.out.box.block hb2).cells
    rw [HV.out] at f7
    have HP : Hid _ := HW.out.put7 hgrow hown2
    obtain ⟨ao', cap', hv1⟩ := HP.out.sl
    have hv' : v' = .slice ao' (zs.length + 1) cap' := by simpa using hv1
    clear hv1
    subst hv'
    clear hown2 hgrow hb2 d0 d1 d2 d3 d4 d5 d6 d7 d8 df
    go_wp2
    go_ret
    have hfin := HP.out
    rw [EK.out] at hfin
    exact ⟨rfl, _, hfin⟩
end Go.Proofs.Ytdlodflinibaoaa
