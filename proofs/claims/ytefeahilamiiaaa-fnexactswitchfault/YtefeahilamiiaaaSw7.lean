import Derived.Test.YtefeahilamiiaaaSw6
import Derived.Test.YtefeahilamiiaaaIdxSE
import Derived.Test.YtefeahilamiiaaaIdxPQ
namespace Go.Proofs.Ytefeahilamiiaaa
open Go.ChangeShapes Go.WideShapes Go.ChangeAt Go.RowKit

/-- A switch in its box. -/
structure SX (w : World) (b : Nat) (s : SW) (a : SA) : Prop where
  box : w.heap[b]? = some (.cells (swC s a) 46 (0, 0))
  row : SRows w s a
theorem SX.lt {w : World} {b : Nat} {s : SW} {a : SA} (h : SX w b s a) : b < w.heap.size := (Array.getElem?_eq_some_iff.1 h.box).1
theorem SX.below {w w' : World} {b : Nat} {s : SW} {a : SA} (h : SX w b s a) (hb : Below w.heap.size w w') : SX w' b s a := ⟨(hb.block b h.lt).trans h.box, h.row.below hb⟩
theorem SX.c0 {w : World} {b : Nat} {s : SW} {a : SA} (h : SX w b s a) : w.cell? ⟨b, 0, none⟩ = some a.vp := celN h.box 0 _ rfl
theorem SX.c1 {w : World} {b : Nat} {s : SW} {a : SA} (h : SX w b s a) : w.cell? ⟨b, 1, none⟩ = some a.ve := celN h.box 1 _ rfl
theorem SX.c2 {w : World} {b : Nat} {s : SW} {a : SA} (h : SX w b s a) : w.cell? ⟨b, 2, none⟩ = some (.int .i64 s.time) := celN h.box 2 _ rfl
theorem SX.c3 {w : World} {b : Nat} {s : SW} {a : SA} (h : SX w b s a) : w.cell? ⟨b, 3, none⟩ = some (.int .i64 s.age) := celN h.box 3 _ rfl
theorem SX.sp {w : World} {b : Nat} {s : SW} {a : SA} (h : SX w b s a) : ∃ ao cap, a.vp = .slice ao s.ps.length cap := by
  obtain ⟨ao, cap, e⟩ := h.row.pq.sl
  exact ⟨ao, cap, by rw [e, h.row.po.len]⟩
set_option maxRecDepth 100000 in
set_option maxHeartbeats 4000000 in
theorem hasPort_any {w : World} {b : Nat} {s : SW} {a : SA} (h : SX w b s a) (hl : s.ps.length ≤ 1048576) (n : Int) : Calls Try.prog 79 #[.pointer (some ⟨b, 0, none⟩), .int .i64 n] w fun e w' => e = .returned (.bool (inW s.ps.length n 1)) ∧ w' = w := by
  obtain ⟨ao, cap, e⟩ := h.sp
  have c0 := h.c0
  have cl := h.lt
  rw [e] at c0
  clear h e
  have HW : Hid (∀ u, Calls Try.prog 84 #[.int .i64 s.ps.length, .int .i64 n, .int .i64 1] u fun e w' => e = .returned (.bool (inW s.ps.length n 1)) ∧ w' = u) := fun u => isWithin_any s.ps.length n 1 u hl ⟨by omega, by omega⟩
  generalize inW s.ps.length n 1 = R at *
  go_enter Try.func79, Try.ntmps79
  go_wp2_with fail
  refine Calls.mono (HW.out _) ?_
  rintro e u1 ⟨rfl, hw1⟩
  rw [hw1]
  clear hw1
  go_wp2
  go_ret
  exact ⟨rfl, rfl⟩
def kyB (n a : Int) (e : SE) : Bool := e.net == n && e.addr == a
set_option maxRecDepth 100000 in
set_option maxHeartbeats 4000000 in
theorem known1_any {w : World} {bn ba : Nat} {n a : Int} (h1 : w.cell? ⟨bn, 0, none⟩ = some (.int .i64 n)) (h2 : w.cell? ⟨ba, 0, none⟩ = some (.int .i64 a)) (l1 : bn < w.heap.size) (l2 : ba < w.heap.size) (e : SE) : Calls Try.prog 81 #[.agg #[.int .i64 e.net, .int .i64 e.addr, .int .i64 e.port, .int .i64 e.seen], .pointer (some ⟨bn, 0, none⟩), .pointer (some ⟨ba, 0, none⟩)] w fun r w' => r = .returned (.bool (kyB n a e)) ∧ Below w.heap.size w w' := by
  have HL0 : Hid (LG w (w.alloc (.cells #[.int .i64 e.net, .int .i64 e.addr, .int .i64 e.port, .int .i64 e.seen] 75)) w.heap.size #[.int .i64 e.net, .int .i64 e.addr, .int .i64 e.port, .int .i64 e.seen] 75) := LG.new w _ _
  have d1 : (w.alloc (.cells #[.int .i64 e.net, .int .i64 e.addr, .int .i64 e.port, .int .i64 e.seen] 75)).cell? ⟨bn, 0, none⟩ = some (.int .i64 n) := ((bx1 _ _).cell (p := ⟨bn, 0, none⟩) l1).trans h1
  have d2 : (w.alloc (.cells #[.int .i64 e.net, .int .i64 e.addr, .int .i64 e.port, .int .i64 e.seen] 75)).cell? ⟨ba, 0, none⟩ = some (.int .i64 a) := ((bx1 _ _).cell (p := ⟨ba, 0, none⟩) l2).trans h2
  have m1 : bn < (w.alloc (.cells #[.int .i64 e.net, .int .i64 e.addr, .int .i64 e.port, .int .i64 e.seen] 75)).heap.size := by simp; omega
  have m2 : ba < (w.alloc (.cells #[.int .i64 e.net, .int .i64 e.addr, .int .i64 e.port, .int .i64 e.seen] 75)).heap.size := by simp; omega
  have E : Hid (kyB n a e = (e.net == n && e.addr == a)) := rfl
  clear h1 h2 l1 l2
  cases q1 : (e.net == n)
  · rw [q1] at E
    go_enter Try.func81, Try.ntmps81
    go_upto_region 1 with fail
    generalize (w.alloc (.cells #[.int .i64 e.net, .int .i64 e.addr, .int .i64 e.port, .int .i64 e.seen] 75)) = u0 at *
    generalize w.heap.size = b0 at *
    have k0 := HL0.out.cel 0 _ rfl
    have k1 := HL0.out.cel 1 _ rfl
    have kl := HL0.out.lt
    go_wp2
    go_ret
    exact ⟨ret_bool (by rw [E.out]; rfl), HL0.out.bel⟩
  · rw [q1] at E
    go_enter Try.func81, Try.ntmps81
    go_upto_region 1 with fail
    generalize (w.alloc (.cells #[.int .i64 e.net, .int .i64 e.addr, .int .i64 e.port, .int .i64 e.seen] 75)) = u0 at *
    generalize w.heap.size = b0 at *
    have k0 := HL0.out.cel 0 _ rfl
    have k1 := HL0.out.cel 1 _ rfl
    have kl := HL0.out.lt
    go_wp2
    go_ret
    exact ⟨ret_bool (by rw [E.out]; rfl), HL0.out.bel⟩
theorem cfK : ∀ (xs : Array Value) (w' : World), (callFunc 81 xs).run Try.prog w' = .ok (.enter 81 xs) w' := by
  intro xs w'
  kernel_rfl
theorem cfP : ∀ (xs : Array Value) (w' : World), (callFunc 58 xs).run Try.prog w' = .ok (.enter 58 xs) w' := by
  intro xs w'
  kernel_rfl
set_option maxRecDepth 100000 in
set_option maxHeartbeats 4000000 in
theorem known_any {w : World} {b : Nat} {s : SW} {a : SA} (h : SX w b s a) (hl : s.es.length ≤ 1048576) (n ad : Int) : Calls Try.prog 72 #[.pointer (some ⟨b, 0, none⟩), .int .i64 n, .int .i64 ad] w fun e w' => e = .returned (.int .i64 (ixSE (kyB n ad) s.es)) ∧ Below w.heap.size w w' := by
  have HX : Hid (SX w b s a) := h
  obtain ⟨ae, ke, ee⟩ := h.row.se.sl
  have HW2 : Hid (TB w ((w.alloc (.cells #[.int .i64 n] 2)).alloc (.cells #[.int .i64 ad] 2)) w.heap.size (w.heap.size + 1) #[.int .i64 n] 2 #[.int .i64 ad] 2) := TB.new w _ _ _ _
  have HE : Hid (a.ve = .slice ae s.es.length ke) := ee
  clear h ee
  go_enter Try.func72, Try.ntmps72
  go_upto_region 1 with fail
  generalize ((w.alloc (.cells #[.int .i64 n] 2)).alloc (.cells #[.int .i64 ad] 2)) = u0 at *
  generalize w.heap.size + 1 = b2 at *
  have HX2 : Hid (SX u0 b s a) := HX.out.below HW2.out.bel
  have c1 := HX2.out.c1
  rw [HE.out] at c1
  have cl := HX2.out.lt
  have HIX : Hid (Calls Try.prog 80 #[.slice ae s.es.length ke, .func (.func 81) #[] #[.pointer (some ⟨w.heap.size, 0, none⟩), .pointer (some ⟨b2, 0, none⟩)]] u0 fun r w' => r = .returned (.int .i64 (ixSE (kyB n ad) s.es)) ∧ Below u0.heap.size u0 w') := indexSE_any (HE.out ▸ HX2.out.row.se) hl _ #[.pointer (some ⟨w.heap.size, 0, none⟩), .pointer (some ⟨b2, 0, none⟩)] (kyB n ad) cfK (fun x w' hb => known1_any ((hb.cell (p := ⟨w.heap.size, 0, none⟩) HW2.out.lt1).trans (HW2.out.c1 0 _ rfl)) ((hb.cell (p := ⟨b2, 0, none⟩) HW2.out.lt2).trans (HW2.out.c2 0 _ rfl)) (Nat.lt_of_lt_of_le HW2.out.lt1 hb.size) (Nat.lt_of_lt_of_le HW2.out.lt2 hb.size) x)
  go_wp2_with fail
  refine Calls.mono HIX.out ?_
  rintro e u1 ⟨rfl, hb1⟩
  have HB1 : Hid (Below w.heap.size w u1) := HW2.out.bel.trans (hb1.mono HW2.out.bel.size)
  clear hb1
  go_wp2
  go_ret
  exact ⟨rfl, HB1.out⟩
def entB (n : Nat) (t : Int) (e : SE) : Bool := ntB e.net && oaB e.addr && inW n e.port 1 && decide (0 ≤ e.seen) && decide (e.seen ≤ t)
set_option maxRecDepth 100000 in
set_option maxHeartbeats 4000000 in
theorem entryRight_any {w : World} {b : Nat} {s : SW} {a : SA} (h : SX w b s a) (hl : s.ps.length ≤ 1048576) (e : SE) : Calls Try.prog 71 #[.pointer (some ⟨b, 0, none⟩), .agg #[.int .i64 e.net, .int .i64 e.addr, .int .i64 e.port, .int .i64 e.seen]] w fun r w' => r = .returned (.bool (entB s.ps.length s.time e)) ∧ Below w.heap.size w w' := by
  have HX : Hid (SX w b s a) := h
  have HN : Hid (∀ u, Calls Try.prog 78 #[.int .i64 e.net] u fun r w' => r = .returned (.bool (ntB e.net)) ∧ w' = u) := fun u => isNet_any e.net u
  have HO : Hid (∀ u, Calls Try.prog 75 #[.int .i64 e.addr] u fun r w' => r = .returned (.bool (oaB e.addr)) ∧ w' = u) := fun u => oneAddr_any e.addr u
  have HH : Hid (∀ u, Aft w u → Calls Try.prog 79 #[.pointer (some ⟨b, 0, none⟩), .int .i64 e.port] u fun r w' => r = .returned (.bool (inW s.ps.length e.port 1)) ∧ w' = u) := fun u hu => hasPort_any (HX.out.below hu.out) hl e.port
  have HL0 : Hid (LG w (w.alloc (.cells #[.int .i64 e.net, .int .i64 e.addr, .int .i64 e.port, .int .i64 e.seen] 75)) w.heap.size #[.int .i64 e.net, .int .i64 e.addr, .int .i64 e.port, .int .i64 e.seen] 75) := LG.new w _ _
  have E : Hid (entB s.ps.length s.time e = (ntB e.net && oaB e.addr && inW s.ps.length e.port 1 && decide (0 ≤ e.seen) && decide (e.seen ≤ s.time))) := rfl
  clear h
  cases h0 : ntB e.net
  · rw [h0] at E HN
    go_enter Try.func71, Try.ntmps71
    go_upto_region 1 with fail
    generalize (w.alloc (.cells #[.int .i64 e.net, .int .i64 e.addr, .int .i64 e.port, .int .i64 e.seen] 75)) = u0 at *
    generalize w.heap.size = b0 at *
    have HSB : Hid (LG w u0.drew b0 #[.int .i64 e.net, .int .i64 e.addr, .int .i64 e.port, .int .i64 e.seen] 75 ∧ SX u0.drew b s a) := ⟨HL0.out.drew, ⟨(HX.out.below HL0.out.bel).box, (HX.out.row.below HL0.out.bel).below (Below.refl _ _).drew⟩⟩
    have HBW : Hid (Below w.heap.size w u0.drew) := HSB.out.1.bel
    refine wp_region_held (S := fun w9 => LG w w9 b0 #[.int .i64 e.net, .int .i64 e.addr, .int .i64 e.port, .int .i64 e.seen] 75 ∧ SX w9 b s a) (by kernel_rfl) ?_
    change wpAnyH _ _ _ _ _ _ _ _ (World.drew _)
    refine wpAnyH_take (i := 0) (v := .pointer (some ⟨b0, 0, none⟩)) rfl (by kernel_rfl) (by kernel_rfl) (by kernel_rfl) (fun _ _ _ h => h) (Or.inl ⟨by kernel_rfl, fun w9 h9 => ?_⟩) HSB.out ?_
    · clear h9; go_simp
    refine wpAnyH_take (i := 1) (v := .int .i64 e.net) rfl (by kernel_rfl) (by kernel_rfl) (by kernel_rfl) (fun _ _ _ h => h) (Or.inl ⟨by kernel_rfl, fun w9 h9 => ?_⟩) HSB.out ?_
    · have x0 := h9.1.cel 0 _ rfl; have x1 := h9.1.cel 1 _ rfl; have x2 := h9.1.cel 2 _ rfl; have x3 := h9.1.cel 3 _ rfl; have xl := h9.1.lt; have y2 := h9.2.c2; have yl := h9.2.lt; clear h9; go_simp
    refine held_one 2 (by kernel_rfl) rfl (by kernel_rfl) fun K hK => ?_
    go_simp
    go_wp2_with (go_at_call 78; refine Calls.mono (HN.out _) ?_; rintro r u9 ⟨rfl, hw9⟩; rw [hw9]; clear hw9)
    refine hK _ _ HSB.out ?_
    clear hK K
    refine wpAnyH_take (i := 3) (v := .bool false) rfl (by kernel_rfl) (by kernel_rfl) (by kernel_rfl) (fun _ _ _ h => h) (Or.inl ⟨by kernel_rfl, fun w9 h9 => ?_⟩) HSB.out ?_
    · clear h9; go_simp
    refine wpAnyH_take (i := 4) (v := undef) rfl (by kernel_rfl) (by kernel_rfl) (by kernel_rfl) (fun _ _ _ h => h) (Or.inr ⟨by kernel_rfl, rfl⟩) HSB.out ?_
    refine wpAnyH_take (i := 5) (v := undef) rfl (by kernel_rfl) (by kernel_rfl) (by kernel_rfl) (fun _ _ _ h => h) (Or.inr ⟨by kernel_rfl, rfl⟩) HSB.out ?_
    refine wpAnyH_take (i := 6) (v := undef) rfl (by kernel_rfl) (by kernel_rfl) (by kernel_rfl) (fun _ _ _ h => h) (Or.inr ⟨by kernel_rfl, rfl⟩) HSB.out ?_
    refine wpAnyH_take (i := 7) (v := .bool false) rfl (by kernel_rfl) (by kernel_rfl) (by kernel_rfl) (fun _ _ _ h => h) (Or.inl ⟨by kernel_rfl, fun w9 h9 => ?_⟩) HSB.out ?_
    · clear h9; go_simp
    refine wpAnyH_take (i := 8) (v := .bool false) rfl (by kernel_rfl) (by kernel_rfl) (by kernel_rfl) (fun _ _ _ h => h) (Or.inl ⟨by kernel_rfl, fun w9 h9 => ?_⟩) HSB.out ?_
    · clear h9; go_simp
    refine wpAnyH_take (i := 9) (v := undef) rfl (by kernel_rfl) (by kernel_rfl) (by kernel_rfl) (fun _ _ _ h => h) (Or.inr ⟨by kernel_rfl, rfl⟩) HSB.out ?_
    refine wpAnyH_take (i := 10) (v := undef) rfl (by kernel_rfl) (by kernel_rfl) (by kernel_rfl) (fun _ _ _ h => h) (Or.inr ⟨by kernel_rfl, rfl⟩) HSB.out ?_
    refine wpAnyH_take (i := 11) (v := undef) rfl (by kernel_rfl) (by kernel_rfl) (by kernel_rfl) (fun _ _ _ h => h) (Or.inr ⟨by kernel_rfl, rfl⟩) HSB.out ?_
    refine wpAnyH_take (i := 12) (v := undef) rfl (by kernel_rfl) (by kernel_rfl) (by kernel_rfl) (fun _ _ _ h => h) (Or.inr ⟨by kernel_rfl, rfl⟩) HSB.out ?_
    refine wpAnyH_take (i := 13) (v := .bool false) rfl (by kernel_rfl) (by kernel_rfl) (by kernel_rfl) (fun _ _ _ h => h) (Or.inl ⟨by kernel_rfl, fun w9 h9 => ?_⟩) HSB.out ?_
    · clear h9; go_simp
    refine wpAnyH_take (i := 14) (v := .bool false) rfl (by kernel_rfl) (by kernel_rfl) (by kernel_rfl) (fun _ _ _ h => h) (Or.inl ⟨by kernel_rfl, fun w9 h9 => ?_⟩) HSB.out ?_
    · clear h9; go_simp
    refine wpAnyH_take (i := 15) (v := undef) rfl (by kernel_rfl) (by kernel_rfl) (by kernel_rfl) (fun _ _ _ h => h) (Or.inr ⟨by kernel_rfl, rfl⟩) HSB.out ?_
    refine wpAnyH_take (i := 16) (v := undef) rfl (by kernel_rfl) (by kernel_rfl) (by kernel_rfl) (fun _ _ _ h => h) (Or.inr ⟨by kernel_rfl, rfl⟩) HSB.out ?_
    refine wpAnyH_take (i := 17) (v := undef) rfl (by kernel_rfl) (by kernel_rfl) (by kernel_rfl) (fun _ _ _ h => h) (Or.inr ⟨by kernel_rfl, rfl⟩) HSB.out ?_
    refine wpAnyH_take (i := 18) (v := .bool false) rfl (by kernel_rfl) (by kernel_rfl) (by kernel_rfl) (fun _ _ _ h => h) (Or.inl ⟨by kernel_rfl, fun w9 h9 => ?_⟩) HSB.out ?_
    · clear h9; go_simp
    refine wpAnyH_take (i := 19) (v := .bool false) rfl (by kernel_rfl) (by kernel_rfl) (by kernel_rfl) (fun _ _ _ h => h) (Or.inl ⟨by kernel_rfl, fun w9 h9 => ?_⟩) HSB.out ?_
    · clear h9; go_simp
    refine wpAnyH_take (i := 20) (v := undef) rfl (by kernel_rfl) (by kernel_rfl) (by kernel_rfl) (fun _ _ _ h => h) (Or.inr ⟨by kernel_rfl, rfl⟩) HSB.out ?_
    refine wpAnyH_take (i := 21) (v := undef) rfl (by kernel_rfl) (by kernel_rfl) (by kernel_rfl) (fun _ _ _ h => h) (Or.inr ⟨by kernel_rfl, rfl⟩) HSB.out ?_
    refine wpAnyH_take (i := 22) (v := undef) rfl (by kernel_rfl) (by kernel_rfl) (by kernel_rfl) (fun _ _ _ h => h) (Or.inr ⟨by kernel_rfl, rfl⟩) HSB.out ?_
    refine wpAnyH_take (i := 23) (v := undef) rfl (by kernel_rfl) (by kernel_rfl) (by kernel_rfl) (fun _ _ _ h => h) (Or.inr ⟨by kernel_rfl, rfl⟩) HSB.out ?_
    refine wpAnyH_take (i := 24) (v := undef) rfl (by kernel_rfl) (by kernel_rfl) (by kernel_rfl) (fun _ _ _ h => h) (Or.inr ⟨by kernel_rfl, rfl⟩) HSB.out ?_
    refine wpAnyH_take (i := 25) (v := undef) rfl (by kernel_rfl) (by kernel_rfl) (by kernel_rfl) (fun _ _ _ h => h) (Or.inr ⟨by kernel_rfl, rfl⟩) HSB.out ?_
    refine wpAnyH_take (i := 26) (v := undef) rfl (by kernel_rfl) (by kernel_rfl) (by kernel_rfl) (fun _ _ _ h => h) (Or.inr ⟨by kernel_rfl, rfl⟩) HSB.out ?_
    refine wpAnyH_take (i := 27) (v := .bool false) rfl (by kernel_rfl) (by kernel_rfl) (by kernel_rfl) (fun _ _ _ h => h) (Or.inl ⟨by kernel_rfl, fun w9 h9 => ?_⟩) HSB.out ?_
    · clear h9; go_simp
    refine wpAnyH_take (i := 28) (v := .bool false) rfl (by kernel_rfl) (by kernel_rfl) (by kernel_rfl) (fun _ _ _ h => h) (Or.inl ⟨by kernel_rfl, fun w9 h9 => ?_⟩) HSB.out ?_
    · clear h9; go_simp
    refine wpAnyH_done (by kernel_rfl) ?_ _
    go_simp
    go_wp2
    go_ret
    exact ⟨ret_bool (by rw [E.out]; simp), HBW.out⟩
  · rw [h0] at E HN
    cases h1 : oaB e.addr
    · rw [h1] at E HO
      go_enter Try.func71, Try.ntmps71
      go_upto_region 1 with fail
      generalize (w.alloc (.cells #[.int .i64 e.net, .int .i64 e.addr, .int .i64 e.port, .int .i64 e.seen] 75)) = u0 at *
      generalize w.heap.size = b0 at *
      have HSB : Hid (LG w u0.drew b0 #[.int .i64 e.net, .int .i64 e.addr, .int .i64 e.port, .int .i64 e.seen] 75 ∧ SX u0.drew b s a) := ⟨HL0.out.drew, ⟨(HX.out.below HL0.out.bel).box, (HX.out.row.below HL0.out.bel).below (Below.refl _ _).drew⟩⟩
      have HBW : Hid (Below w.heap.size w u0.drew) := HSB.out.1.bel
      refine wp_region_held (S := fun w9 => LG w w9 b0 #[.int .i64 e.net, .int .i64 e.addr, .int .i64 e.port, .int .i64 e.seen] 75 ∧ SX w9 b s a) (by kernel_rfl) ?_
      change wpAnyH _ _ _ _ _ _ _ _ (World.drew _)
      refine wpAnyH_take (i := 0) (v := .pointer (some ⟨b0, 0, none⟩)) rfl (by kernel_rfl) (by kernel_rfl) (by kernel_rfl) (fun _ _ _ h => h) (Or.inl ⟨by kernel_rfl, fun w9 h9 => ?_⟩) HSB.out ?_
      · clear h9; go_simp
      refine wpAnyH_take (i := 1) (v := .int .i64 e.net) rfl (by kernel_rfl) (by kernel_rfl) (by kernel_rfl) (fun _ _ _ h => h) (Or.inl ⟨by kernel_rfl, fun w9 h9 => ?_⟩) HSB.out ?_
      · have x0 := h9.1.cel 0 _ rfl; have x1 := h9.1.cel 1 _ rfl; have x2 := h9.1.cel 2 _ rfl; have x3 := h9.1.cel 3 _ rfl; have xl := h9.1.lt; have y2 := h9.2.c2; have yl := h9.2.lt; clear h9; go_simp
      refine held_one 2 (by kernel_rfl) rfl (by kernel_rfl) fun K hK => ?_
      go_simp
      go_wp2_with (go_at_call 78; refine Calls.mono (HN.out _) ?_; rintro r u9 ⟨rfl, hw9⟩; rw [hw9]; clear hw9)
      refine hK _ _ HSB.out ?_
      clear hK K
      refine wpAnyH_take (i := 3) (v := .bool true) rfl (by kernel_rfl) (by kernel_rfl) (by kernel_rfl) (fun _ _ _ h => h) (Or.inl ⟨by kernel_rfl, fun w9 h9 => ?_⟩) HSB.out ?_
      · clear h9; go_simp
      refine wpAnyH_take (i := 4) (v := .pointer (some ⟨b0, 1, none⟩)) rfl (by kernel_rfl) (by kernel_rfl) (by kernel_rfl) (fun _ _ _ h => h) (Or.inl ⟨by kernel_rfl, fun w9 h9 => ?_⟩) HSB.out ?_
      · clear h9; go_simp
      refine wpAnyH_take (i := 5) (v := .int .i64 e.addr) rfl (by kernel_rfl) (by kernel_rfl) (by kernel_rfl) (fun _ _ _ h => h) (Or.inl ⟨by kernel_rfl, fun w9 h9 => ?_⟩) HSB.out ?_
      · have x0 := h9.1.cel 0 _ rfl; have x1 := h9.1.cel 1 _ rfl; have x2 := h9.1.cel 2 _ rfl; have x3 := h9.1.cel 3 _ rfl; have xl := h9.1.lt; have y2 := h9.2.c2; have yl := h9.2.lt; clear h9; go_simp
      refine held_one 6 (by kernel_rfl) rfl (by kernel_rfl) fun K hK => ?_
      go_simp
      go_wp2_with (go_at_call 75; refine Calls.mono (HO.out _) ?_; rintro r u9 ⟨rfl, hw9⟩; rw [hw9]; clear hw9)
      refine hK _ _ HSB.out ?_
      clear hK K
      refine wpAnyH_take (i := 7) (v := .bool false) rfl (by kernel_rfl) (by kernel_rfl) (by kernel_rfl) (fun _ _ _ h => h) (Or.inl ⟨by kernel_rfl, fun w9 h9 => ?_⟩) HSB.out ?_
      · clear h9; go_simp
      refine wpAnyH_take (i := 8) (v := .bool false) rfl (by kernel_rfl) (by kernel_rfl) (by kernel_rfl) (fun _ _ _ h => h) (Or.inl ⟨by kernel_rfl, fun w9 h9 => ?_⟩) HSB.out ?_
      · clear h9; go_simp
      refine wpAnyH_take (i := 9) (v := undef) rfl (by kernel_rfl) (by kernel_rfl) (by kernel_rfl) (fun _ _ _ h => h) (Or.inr ⟨by kernel_rfl, rfl⟩) HSB.out ?_
      refine wpAnyH_take (i := 10) (v := undef) rfl (by kernel_rfl) (by kernel_rfl) (by kernel_rfl) (fun _ _ _ h => h) (Or.inr ⟨by kernel_rfl, rfl⟩) HSB.out ?_
      refine wpAnyH_take (i := 11) (v := undef) rfl (by kernel_rfl) (by kernel_rfl) (by kernel_rfl) (fun _ _ _ h => h) (Or.inr ⟨by kernel_rfl, rfl⟩) HSB.out ?_
      refine wpAnyH_take (i := 12) (v := undef) rfl (by kernel_rfl) (by kernel_rfl) (by kernel_rfl) (fun _ _ _ h => h) (Or.inr ⟨by kernel_rfl, rfl⟩) HSB.out ?_
      refine wpAnyH_take (i := 13) (v := .bool false) rfl (by kernel_rfl) (by kernel_rfl) (by kernel_rfl) (fun _ _ _ h => h) (Or.inl ⟨by kernel_rfl, fun w9 h9 => ?_⟩) HSB.out ?_
      · clear h9; go_simp
      refine wpAnyH_take (i := 14) (v := .bool false) rfl (by kernel_rfl) (by kernel_rfl) (by kernel_rfl) (fun _ _ _ h => h) (Or.inl ⟨by kernel_rfl, fun w9 h9 => ?_⟩) HSB.out ?_
      · clear h9; go_simp
      refine wpAnyH_take (i := 15) (v := undef) rfl (by kernel_rfl) (by kernel_rfl) (by kernel_rfl) (fun _ _ _ h => h) (Or.inr ⟨by kernel_rfl, rfl⟩) HSB.out ?_
      refine wpAnyH_take (i := 16) (v := undef) rfl (by kernel_rfl) (by kernel_rfl) (by kernel_rfl) (fun _ _ _ h => h) (Or.inr ⟨by kernel_rfl, rfl⟩) HSB.out ?_
      refine wpAnyH_take (i := 17) (v := undef) rfl (by kernel_rfl) (by kernel_rfl) (by kernel_rfl) (fun _ _ _ h => h) (Or.inr ⟨by kernel_rfl, rfl⟩) HSB.out ?_
      refine wpAnyH_take (i := 18) (v := .bool false) rfl (by kernel_rfl) (by kernel_rfl) (by kernel_rfl) (fun _ _ _ h => h) (Or.inl ⟨by kernel_rfl, fun w9 h9 => ?_⟩) HSB.out ?_
      · clear h9; go_simp
      refine wpAnyH_take (i := 19) (v := .bool false) rfl (by kernel_rfl) (by kernel_rfl) (by kernel_rfl) (fun _ _ _ h => h) (Or.inl ⟨by kernel_rfl, fun w9 h9 => ?_⟩) HSB.out ?_
      · clear h9; go_simp
      refine wpAnyH_take (i := 20) (v := undef) rfl (by kernel_rfl) (by kernel_rfl) (by kernel_rfl) (fun _ _ _ h => h) (Or.inr ⟨by kernel_rfl, rfl⟩) HSB.out ?_
      refine wpAnyH_take (i := 21) (v := undef) rfl (by kernel_rfl) (by kernel_rfl) (by kernel_rfl) (fun _ _ _ h => h) (Or.inr ⟨by kernel_rfl, rfl⟩) HSB.out ?_
      refine wpAnyH_take (i := 22) (v := undef) rfl (by kernel_rfl) (by kernel_rfl) (by kernel_rfl) (fun _ _ _ h => h) (Or.inr ⟨by kernel_rfl, rfl⟩) HSB.out ?_
      refine wpAnyH_take (i := 23) (v := undef) rfl (by kernel_rfl) (by kernel_rfl) (by kernel_rfl) (fun _ _ _ h => h) (Or.inr ⟨by kernel_rfl, rfl⟩) HSB.out ?_
      refine wpAnyH_take (i := 24) (v := undef) rfl (by kernel_rfl) (by kernel_rfl) (by kernel_rfl) (fun _ _ _ h => h) (Or.inr ⟨by kernel_rfl, rfl⟩) HSB.out ?_
      refine wpAnyH_take (i := 25) (v := undef) rfl (by kernel_rfl) (by kernel_rfl) (by kernel_rfl) (fun _ _ _ h => h) (Or.inr ⟨by kernel_rfl, rfl⟩) HSB.out ?_
      refine wpAnyH_take (i := 26) (v := undef) rfl (by kernel_rfl) (by kernel_rfl) (by kernel_rfl) (fun _ _ _ h => h) (Or.inr ⟨by kernel_rfl, rfl⟩) HSB.out ?_
      refine wpAnyH_take (i := 27) (v := .bool false) rfl (by kernel_rfl) (by kernel_rfl) (by kernel_rfl) (fun _ _ _ h => h) (Or.inl ⟨by kernel_rfl, fun w9 h9 => ?_⟩) HSB.out ?_
      · clear h9; go_simp
      refine wpAnyH_take (i := 28) (v := .bool false) rfl (by kernel_rfl) (by kernel_rfl) (by kernel_rfl) (fun _ _ _ h => h) (Or.inl ⟨by kernel_rfl, fun w9 h9 => ?_⟩) HSB.out ?_
      · clear h9; go_simp
      refine wpAnyH_done (by kernel_rfl) ?_ _
      go_simp
      go_wp2
      go_ret
      exact ⟨ret_bool (by rw [E.out]; simp), HBW.out⟩
    · rw [h1] at E HO
      cases h2 : inW s.ps.length e.port 1
      · rw [h2] at E HH
        go_enter Try.func71, Try.ntmps71
        go_upto_region 1 with fail
        generalize (w.alloc (.cells #[.int .i64 e.net, .int .i64 e.addr, .int .i64 e.port, .int .i64 e.seen] 75)) = u0 at *
        generalize w.heap.size = b0 at *
        have HSB : Hid (LG w u0.drew b0 #[.int .i64 e.net, .int .i64 e.addr, .int .i64 e.port, .int .i64 e.seen] 75 ∧ SX u0.drew b s a) := ⟨HL0.out.drew, ⟨(HX.out.below HL0.out.bel).box, (HX.out.row.below HL0.out.bel).below (Below.refl _ _).drew⟩⟩
        have HBW : Hid (Below w.heap.size w u0.drew) := HSB.out.1.bel
        refine wp_region_held (S := fun w9 => LG w w9 b0 #[.int .i64 e.net, .int .i64 e.addr, .int .i64 e.port, .int .i64 e.seen] 75 ∧ SX w9 b s a) (by kernel_rfl) ?_
        change wpAnyH _ _ _ _ _ _ _ _ (World.drew _)
        refine wpAnyH_take (i := 0) (v := .pointer (some ⟨b0, 0, none⟩)) rfl (by kernel_rfl) (by kernel_rfl) (by kernel_rfl) (fun _ _ _ h => h) (Or.inl ⟨by kernel_rfl, fun w9 h9 => ?_⟩) HSB.out ?_
        · clear h9; go_simp
        refine wpAnyH_take (i := 1) (v := .int .i64 e.net) rfl (by kernel_rfl) (by kernel_rfl) (by kernel_rfl) (fun _ _ _ h => h) (Or.inl ⟨by kernel_rfl, fun w9 h9 => ?_⟩) HSB.out ?_
        · have x0 := h9.1.cel 0 _ rfl; have x1 := h9.1.cel 1 _ rfl; have x2 := h9.1.cel 2 _ rfl; have x3 := h9.1.cel 3 _ rfl; have xl := h9.1.lt; have y2 := h9.2.c2; have yl := h9.2.lt; clear h9; go_simp
        refine held_one 2 (by kernel_rfl) rfl (by kernel_rfl) fun K hK => ?_
        go_simp
        go_wp2_with (go_at_call 78; refine Calls.mono (HN.out _) ?_; rintro r u9 ⟨rfl, hw9⟩; rw [hw9]; clear hw9)
        refine hK _ _ HSB.out ?_
        clear hK K
        refine wpAnyH_take (i := 3) (v := .bool true) rfl (by kernel_rfl) (by kernel_rfl) (by kernel_rfl) (fun _ _ _ h => h) (Or.inl ⟨by kernel_rfl, fun w9 h9 => ?_⟩) HSB.out ?_
        · clear h9; go_simp
        refine wpAnyH_take (i := 4) (v := .pointer (some ⟨b0, 1, none⟩)) rfl (by kernel_rfl) (by kernel_rfl) (by kernel_rfl) (fun _ _ _ h => h) (Or.inl ⟨by kernel_rfl, fun w9 h9 => ?_⟩) HSB.out ?_
        · clear h9; go_simp
        refine wpAnyH_take (i := 5) (v := .int .i64 e.addr) rfl (by kernel_rfl) (by kernel_rfl) (by kernel_rfl) (fun _ _ _ h => h) (Or.inl ⟨by kernel_rfl, fun w9 h9 => ?_⟩) HSB.out ?_
        · have x0 := h9.1.cel 0 _ rfl; have x1 := h9.1.cel 1 _ rfl; have x2 := h9.1.cel 2 _ rfl; have x3 := h9.1.cel 3 _ rfl; have xl := h9.1.lt; have y2 := h9.2.c2; have yl := h9.2.lt; clear h9; go_simp
        refine held_one 6 (by kernel_rfl) rfl (by kernel_rfl) fun K hK => ?_
        go_simp
        go_wp2_with (go_at_call 75; refine Calls.mono (HO.out _) ?_; rintro r u9 ⟨rfl, hw9⟩; rw [hw9]; clear hw9)
        refine hK _ _ HSB.out ?_
        clear hK K
        refine wpAnyH_take (i := 7) (v := .bool true) rfl (by kernel_rfl) (by kernel_rfl) (by kernel_rfl) (fun _ _ _ h => h) (Or.inl ⟨by kernel_rfl, fun w9 h9 => ?_⟩) HSB.out ?_
        · clear h9; go_simp
        refine wpAnyH_take (i := 8) (v := .bool true) rfl (by kernel_rfl) (by kernel_rfl) (by kernel_rfl) (fun _ _ _ h => h) (Or.inl ⟨by kernel_rfl, fun w9 h9 => ?_⟩) HSB.out ?_
        · clear h9; go_simp
        refine wpAnyH_take (i := 9) (v := .pointer (some ⟨b, 0, none⟩)) rfl (by kernel_rfl) (by kernel_rfl) (by kernel_rfl) (fun _ _ _ h => h) (Or.inl ⟨by kernel_rfl, fun w9 h9 => ?_⟩) HSB.out ?_
        · clear h9; go_simp
        refine wpAnyH_take (i := 10) (v := .pointer (some ⟨b0, 2, none⟩)) rfl (by kernel_rfl) (by kernel_rfl) (by kernel_rfl) (fun _ _ _ h => h) (Or.inl ⟨by kernel_rfl, fun w9 h9 => ?_⟩) HSB.out ?_
        · clear h9; go_simp
        refine wpAnyH_take (i := 11) (v := .int .i64 e.port) rfl (by kernel_rfl) (by kernel_rfl) (by kernel_rfl) (fun _ _ _ h => h) (Or.inl ⟨by kernel_rfl, fun w9 h9 => ?_⟩) HSB.out ?_
        · have x0 := h9.1.cel 0 _ rfl; have x1 := h9.1.cel 1 _ rfl; have x2 := h9.1.cel 2 _ rfl; have x3 := h9.1.cel 3 _ rfl; have xl := h9.1.lt; have y2 := h9.2.c2; have yl := h9.2.lt; clear h9; go_simp
        refine held_one 12 (by kernel_rfl) rfl (by kernel_rfl) fun K hK => ?_
        go_simp
        go_wp2_with (go_at_call 79; refine Calls.mono (HH.out _ HSB.out.1.aft) ?_; rintro r u9 ⟨rfl, hw9⟩; rw [hw9]; clear hw9)
        refine hK _ _ HSB.out ?_
        clear hK K
        refine wpAnyH_take (i := 13) (v := .bool false) rfl (by kernel_rfl) (by kernel_rfl) (by kernel_rfl) (fun _ _ _ h => h) (Or.inl ⟨by kernel_rfl, fun w9 h9 => ?_⟩) HSB.out ?_
        · clear h9; go_simp
        refine wpAnyH_take (i := 14) (v := .bool false) rfl (by kernel_rfl) (by kernel_rfl) (by kernel_rfl) (fun _ _ _ h => h) (Or.inl ⟨by kernel_rfl, fun w9 h9 => ?_⟩) HSB.out ?_
        · clear h9; go_simp
        refine wpAnyH_take (i := 15) (v := undef) rfl (by kernel_rfl) (by kernel_rfl) (by kernel_rfl) (fun _ _ _ h => h) (Or.inr ⟨by kernel_rfl, rfl⟩) HSB.out ?_
        refine wpAnyH_take (i := 16) (v := undef) rfl (by kernel_rfl) (by kernel_rfl) (by kernel_rfl) (fun _ _ _ h => h) (Or.inr ⟨by kernel_rfl, rfl⟩) HSB.out ?_
        refine wpAnyH_take (i := 17) (v := undef) rfl (by kernel_rfl) (by kernel_rfl) (by kernel_rfl) (fun _ _ _ h => h) (Or.inr ⟨by kernel_rfl, rfl⟩) HSB.out ?_
        refine wpAnyH_take (i := 18) (v := .bool false) rfl (by kernel_rfl) (by kernel_rfl) (by kernel_rfl) (fun _ _ _ h => h) (Or.inl ⟨by kernel_rfl, fun w9 h9 => ?_⟩) HSB.out ?_
        · clear h9; go_simp
        refine wpAnyH_take (i := 19) (v := .bool false) rfl (by kernel_rfl) (by kernel_rfl) (by kernel_rfl) (fun _ _ _ h => h) (Or.inl ⟨by kernel_rfl, fun w9 h9 => ?_⟩) HSB.out ?_
        · clear h9; go_simp
        refine wpAnyH_take (i := 20) (v := undef) rfl (by kernel_rfl) (by kernel_rfl) (by kernel_rfl) (fun _ _ _ h => h) (Or.inr ⟨by kernel_rfl, rfl⟩) HSB.out ?_
        refine wpAnyH_take (i := 21) (v := undef) rfl (by kernel_rfl) (by kernel_rfl) (by kernel_rfl) (fun _ _ _ h => h) (Or.inr ⟨by kernel_rfl, rfl⟩) HSB.out ?_
        refine wpAnyH_take (i := 22) (v := undef) rfl (by kernel_rfl) (by kernel_rfl) (by kernel_rfl) (fun _ _ _ h => h) (Or.inr ⟨by kernel_rfl, rfl⟩) HSB.out ?_
        refine wpAnyH_take (i := 23) (v := undef) rfl (by kernel_rfl) (by kernel_rfl) (by kernel_rfl) (fun _ _ _ h => h) (Or.inr ⟨by kernel_rfl, rfl⟩) HSB.out ?_
        refine wpAnyH_take (i := 24) (v := undef) rfl (by kernel_rfl) (by kernel_rfl) (by kernel_rfl) (fun _ _ _ h => h) (Or.inr ⟨by kernel_rfl, rfl⟩) HSB.out ?_
        refine wpAnyH_take (i := 25) (v := undef) rfl (by kernel_rfl) (by kernel_rfl) (by kernel_rfl) (fun _ _ _ h => h) (Or.inr ⟨by kernel_rfl, rfl⟩) HSB.out ?_
        refine wpAnyH_take (i := 26) (v := undef) rfl (by kernel_rfl) (by kernel_rfl) (by kernel_rfl) (fun _ _ _ h => h) (Or.inr ⟨by kernel_rfl, rfl⟩) HSB.out ?_
        refine wpAnyH_take (i := 27) (v := .bool false) rfl (by kernel_rfl) (by kernel_rfl) (by kernel_rfl) (fun _ _ _ h => h) (Or.inl ⟨by kernel_rfl, fun w9 h9 => ?_⟩) HSB.out ?_
        · clear h9; go_simp
        refine wpAnyH_take (i := 28) (v := .bool false) rfl (by kernel_rfl) (by kernel_rfl) (by kernel_rfl) (fun _ _ _ h => h) (Or.inl ⟨by kernel_rfl, fun w9 h9 => ?_⟩) HSB.out ?_
        · clear h9; go_simp
        refine wpAnyH_done (by kernel_rfl) ?_ _
        go_simp
        go_wp2
        go_ret
        exact ⟨ret_bool (by rw [E.out]; simp), HBW.out⟩
      · rw [h2] at E HH
        cases h3 : decide (0 ≤ e.seen)
        · rw [h3] at E
          go_enter Try.func71, Try.ntmps71
          go_upto_region 1 with fail
          generalize (w.alloc (.cells #[.int .i64 e.net, .int .i64 e.addr, .int .i64 e.port, .int .i64 e.seen] 75)) = u0 at *
          generalize w.heap.size = b0 at *
          have HSB : Hid (LG w u0.drew b0 #[.int .i64 e.net, .int .i64 e.addr, .int .i64 e.port, .int .i64 e.seen] 75 ∧ SX u0.drew b s a) := ⟨HL0.out.drew, ⟨(HX.out.below HL0.out.bel).box, (HX.out.row.below HL0.out.bel).below (Below.refl _ _).drew⟩⟩
          have HBW : Hid (Below w.heap.size w u0.drew) := HSB.out.1.bel
          refine wp_region_held (S := fun w9 => LG w w9 b0 #[.int .i64 e.net, .int .i64 e.addr, .int .i64 e.port, .int .i64 e.seen] 75 ∧ SX w9 b s a) (by kernel_rfl) ?_
          change wpAnyH _ _ _ _ _ _ _ _ (World.drew _)
          refine wpAnyH_take (i := 0) (v := .pointer (some ⟨b0, 0, none⟩)) rfl (by kernel_rfl) (by kernel_rfl) (by kernel_rfl) (fun _ _ _ h => h) (Or.inl ⟨by kernel_rfl, fun w9 h9 => ?_⟩) HSB.out ?_
          · clear h9; go_simp
          refine wpAnyH_take (i := 1) (v := .int .i64 e.net) rfl (by kernel_rfl) (by kernel_rfl) (by kernel_rfl) (fun _ _ _ h => h) (Or.inl ⟨by kernel_rfl, fun w9 h9 => ?_⟩) HSB.out ?_
          · have x0 := h9.1.cel 0 _ rfl; have x1 := h9.1.cel 1 _ rfl; have x2 := h9.1.cel 2 _ rfl; have x3 := h9.1.cel 3 _ rfl; have xl := h9.1.lt; have y2 := h9.2.c2; have yl := h9.2.lt; clear h9; go_simp
          refine held_one 2 (by kernel_rfl) rfl (by kernel_rfl) fun K hK => ?_
          go_simp
          go_wp2_with (go_at_call 78; refine Calls.mono (HN.out _) ?_; rintro r u9 ⟨rfl, hw9⟩; rw [hw9]; clear hw9)
          refine hK _ _ HSB.out ?_
          clear hK K
          refine wpAnyH_take (i := 3) (v := .bool true) rfl (by kernel_rfl) (by kernel_rfl) (by kernel_rfl) (fun _ _ _ h => h) (Or.inl ⟨by kernel_rfl, fun w9 h9 => ?_⟩) HSB.out ?_
          · clear h9; go_simp
          refine wpAnyH_take (i := 4) (v := .pointer (some ⟨b0, 1, none⟩)) rfl (by kernel_rfl) (by kernel_rfl) (by kernel_rfl) (fun _ _ _ h => h) (Or.inl ⟨by kernel_rfl, fun w9 h9 => ?_⟩) HSB.out ?_
          · clear h9; go_simp
          refine wpAnyH_take (i := 5) (v := .int .i64 e.addr) rfl (by kernel_rfl) (by kernel_rfl) (by kernel_rfl) (fun _ _ _ h => h) (Or.inl ⟨by kernel_rfl, fun w9 h9 => ?_⟩) HSB.out ?_
          · have x0 := h9.1.cel 0 _ rfl; have x1 := h9.1.cel 1 _ rfl; have x2 := h9.1.cel 2 _ rfl; have x3 := h9.1.cel 3 _ rfl; have xl := h9.1.lt; have y2 := h9.2.c2; have yl := h9.2.lt; clear h9; go_simp
          refine held_one 6 (by kernel_rfl) rfl (by kernel_rfl) fun K hK => ?_
          go_simp
          go_wp2_with (go_at_call 75; refine Calls.mono (HO.out _) ?_; rintro r u9 ⟨rfl, hw9⟩; rw [hw9]; clear hw9)
          refine hK _ _ HSB.out ?_
          clear hK K
          refine wpAnyH_take (i := 7) (v := .bool true) rfl (by kernel_rfl) (by kernel_rfl) (by kernel_rfl) (fun _ _ _ h => h) (Or.inl ⟨by kernel_rfl, fun w9 h9 => ?_⟩) HSB.out ?_
          · clear h9; go_simp
          refine wpAnyH_take (i := 8) (v := .bool true) rfl (by kernel_rfl) (by kernel_rfl) (by kernel_rfl) (fun _ _ _ h => h) (Or.inl ⟨by kernel_rfl, fun w9 h9 => ?_⟩) HSB.out ?_
          · clear h9; go_simp
          refine wpAnyH_take (i := 9) (v := .pointer (some ⟨b, 0, none⟩)) rfl (by kernel_rfl) (by kernel_rfl) (by kernel_rfl) (fun _ _ _ h => h) (Or.inl ⟨by kernel_rfl, fun w9 h9 => ?_⟩) HSB.out ?_
          · clear h9; go_simp
          refine wpAnyH_take (i := 10) (v := .pointer (some ⟨b0, 2, none⟩)) rfl (by kernel_rfl) (by kernel_rfl) (by kernel_rfl) (fun _ _ _ h => h) (Or.inl ⟨by kernel_rfl, fun w9 h9 => ?_⟩) HSB.out ?_
          · clear h9; go_simp
          refine wpAnyH_take (i := 11) (v := .int .i64 e.port) rfl (by kernel_rfl) (by kernel_rfl) (by kernel_rfl) (fun _ _ _ h => h) (Or.inl ⟨by kernel_rfl, fun w9 h9 => ?_⟩) HSB.out ?_
          · have x0 := h9.1.cel 0 _ rfl; have x1 := h9.1.cel 1 _ rfl; have x2 := h9.1.cel 2 _ rfl; have x3 := h9.1.cel 3 _ rfl; have xl := h9.1.lt; have y2 := h9.2.c2; have yl := h9.2.lt; clear h9; go_simp
          refine held_one 12 (by kernel_rfl) rfl (by kernel_rfl) fun K hK => ?_
          go_simp
          go_wp2_with (go_at_call 79; refine Calls.mono (HH.out _ HSB.out.1.aft) ?_; rintro r u9 ⟨rfl, hw9⟩; rw [hw9]; clear hw9)
          refine hK _ _ HSB.out ?_
          clear hK K
          refine wpAnyH_take (i := 13) (v := .bool true) rfl (by kernel_rfl) (by kernel_rfl) (by kernel_rfl) (fun _ _ _ h => h) (Or.inl ⟨by kernel_rfl, fun w9 h9 => ?_⟩) HSB.out ?_
          · clear h9; go_simp
          refine wpAnyH_take (i := 14) (v := .bool true) rfl (by kernel_rfl) (by kernel_rfl) (by kernel_rfl) (fun _ _ _ h => h) (Or.inl ⟨by kernel_rfl, fun w9 h9 => ?_⟩) HSB.out ?_
          · clear h9; go_simp
          refine wpAnyH_take (i := 15) (v := .pointer (some ⟨b0, 3, none⟩)) rfl (by kernel_rfl) (by kernel_rfl) (by kernel_rfl) (fun _ _ _ h => h) (Or.inl ⟨by kernel_rfl, fun w9 h9 => ?_⟩) HSB.out ?_
          · clear h9; go_simp
          refine wpAnyH_take (i := 16) (v := .int .i64 e.seen) rfl (by kernel_rfl) (by kernel_rfl) (by kernel_rfl) (fun _ _ _ h => h) (Or.inl ⟨by kernel_rfl, fun w9 h9 => ?_⟩) HSB.out ?_
          · have x0 := h9.1.cel 0 _ rfl; have x1 := h9.1.cel 1 _ rfl; have x2 := h9.1.cel 2 _ rfl; have x3 := h9.1.cel 3 _ rfl; have xl := h9.1.lt; have y2 := h9.2.c2; have yl := h9.2.lt; clear h9; go_simp
          refine wpAnyH_take (i := 17) (v := .bool false) rfl (by kernel_rfl) (by kernel_rfl) (by kernel_rfl) (fun _ _ _ h => h) (Or.inl ⟨by kernel_rfl, fun w9 h9 => ?_⟩) HSB.out ?_
          · clear h9; go_simp
          refine wpAnyH_take (i := 18) (v := .bool false) rfl (by kernel_rfl) (by kernel_rfl) (by kernel_rfl) (fun _ _ _ h => h) (Or.inl ⟨by kernel_rfl, fun w9 h9 => ?_⟩) HSB.out ?_
          · clear h9; go_simp
          refine wpAnyH_take (i := 19) (v := .bool false) rfl (by kernel_rfl) (by kernel_rfl) (by kernel_rfl) (fun _ _ _ h => h) (Or.inl ⟨by kernel_rfl, fun w9 h9 => ?_⟩) HSB.out ?_
          · clear h9; go_simp
          refine wpAnyH_take (i := 20) (v := undef) rfl (by kernel_rfl) (by kernel_rfl) (by kernel_rfl) (fun _ _ _ h => h) (Or.inr ⟨by kernel_rfl, rfl⟩) HSB.out ?_
          refine wpAnyH_take (i := 21) (v := undef) rfl (by kernel_rfl) (by kernel_rfl) (by kernel_rfl) (fun _ _ _ h => h) (Or.inr ⟨by kernel_rfl, rfl⟩) HSB.out ?_
          refine wpAnyH_take (i := 22) (v := undef) rfl (by kernel_rfl) (by kernel_rfl) (by kernel_rfl) (fun _ _ _ h => h) (Or.inr ⟨by kernel_rfl, rfl⟩) HSB.out ?_
          refine wpAnyH_take (i := 23) (v := undef) rfl (by kernel_rfl) (by kernel_rfl) (by kernel_rfl) (fun _ _ _ h => h) (Or.inr ⟨by kernel_rfl, rfl⟩) HSB.out ?_
          refine wpAnyH_take (i := 24) (v := undef) rfl (by kernel_rfl) (by kernel_rfl) (by kernel_rfl) (fun _ _ _ h => h) (Or.inr ⟨by kernel_rfl, rfl⟩) HSB.out ?_
          refine wpAnyH_take (i := 25) (v := undef) rfl (by kernel_rfl) (by kernel_rfl) (by kernel_rfl) (fun _ _ _ h => h) (Or.inr ⟨by kernel_rfl, rfl⟩) HSB.out ?_
          refine wpAnyH_take (i := 26) (v := undef) rfl (by kernel_rfl) (by kernel_rfl) (by kernel_rfl) (fun _ _ _ h => h) (Or.inr ⟨by kernel_rfl, rfl⟩) HSB.out ?_
          refine wpAnyH_take (i := 27) (v := .bool false) rfl (by kernel_rfl) (by kernel_rfl) (by kernel_rfl) (fun _ _ _ h => h) (Or.inl ⟨by kernel_rfl, fun w9 h9 => ?_⟩) HSB.out ?_
          · clear h9; go_simp
          refine wpAnyH_take (i := 28) (v := .bool false) rfl (by kernel_rfl) (by kernel_rfl) (by kernel_rfl) (fun _ _ _ h => h) (Or.inl ⟨by kernel_rfl, fun w9 h9 => ?_⟩) HSB.out ?_
          · clear h9; go_simp
          refine wpAnyH_done (by kernel_rfl) ?_ _
          go_simp
          go_wp2
          go_ret
          exact ⟨ret_bool (by rw [E.out]; simp), HBW.out⟩
        · rw [h3] at E
          go_enter Try.func71, Try.ntmps71
          go_upto_region 1 with fail
          generalize (w.alloc (.cells #[.int .i64 e.net, .int .i64 e.addr, .int .i64 e.port, .int .i64 e.seen] 75)) = u0 at *
          generalize w.heap.size = b0 at *
          have HSB : Hid (LG w u0.drew b0 #[.int .i64 e.net, .int .i64 e.addr, .int .i64 e.port, .int .i64 e.seen] 75 ∧ SX u0.drew b s a) := ⟨HL0.out.drew, ⟨(HX.out.below HL0.out.bel).box, (HX.out.row.below HL0.out.bel).below (Below.refl _ _).drew⟩⟩
          have HBW : Hid (Below w.heap.size w u0.drew) := HSB.out.1.bel
          refine wp_region_held (S := fun w9 => LG w w9 b0 #[.int .i64 e.net, .int .i64 e.addr, .int .i64 e.port, .int .i64 e.seen] 75 ∧ SX w9 b s a) (by kernel_rfl) ?_
          change wpAnyH _ _ _ _ _ _ _ _ (World.drew _)
          refine wpAnyH_take (i := 0) (v := .pointer (some ⟨b0, 0, none⟩)) rfl (by kernel_rfl) (by kernel_rfl) (by kernel_rfl) (fun _ _ _ h => h) (Or.inl ⟨by kernel_rfl, fun w9 h9 => ?_⟩) HSB.out ?_
          · clear h9; go_simp
          refine wpAnyH_take (i := 1) (v := .int .i64 e.net) rfl (by kernel_rfl) (by kernel_rfl) (by kernel_rfl) (fun _ _ _ h => h) (Or.inl ⟨by kernel_rfl, fun w9 h9 => ?_⟩) HSB.out ?_
          · have x0 := h9.1.cel 0 _ rfl; have x1 := h9.1.cel 1 _ rfl; have x2 := h9.1.cel 2 _ rfl; have x3 := h9.1.cel 3 _ rfl; have xl := h9.1.lt; have y2 := h9.2.c2; have yl := h9.2.lt; clear h9; go_simp
          refine held_one 2 (by kernel_rfl) rfl (by kernel_rfl) fun K hK => ?_
          go_simp
          go_wp2_with (go_at_call 78; refine Calls.mono (HN.out _) ?_; rintro r u9 ⟨rfl, hw9⟩; rw [hw9]; clear hw9)
          refine hK _ _ HSB.out ?_
          clear hK K
          refine wpAnyH_take (i := 3) (v := .bool true) rfl (by kernel_rfl) (by kernel_rfl) (by kernel_rfl) (fun _ _ _ h => h) (Or.inl ⟨by kernel_rfl, fun w9 h9 => ?_⟩) HSB.out ?_
          · clear h9; go_simp
          refine wpAnyH_take (i := 4) (v := .pointer (some ⟨b0, 1, none⟩)) rfl (by kernel_rfl) (by kernel_rfl) (by kernel_rfl) (fun _ _ _ h => h) (Or.inl ⟨by kernel_rfl, fun w9 h9 => ?_⟩) HSB.out ?_
          · clear h9; go_simp
          refine wpAnyH_take (i := 5) (v := .int .i64 e.addr) rfl (by kernel_rfl) (by kernel_rfl) (by kernel_rfl) (fun _ _ _ h => h) (Or.inl ⟨by kernel_rfl, fun w9 h9 => ?_⟩) HSB.out ?_
          · have x0 := h9.1.cel 0 _ rfl; have x1 := h9.1.cel 1 _ rfl; have x2 := h9.1.cel 2 _ rfl; have x3 := h9.1.cel 3 _ rfl; have xl := h9.1.lt; have y2 := h9.2.c2; have yl := h9.2.lt; clear h9; go_simp
          refine held_one 6 (by kernel_rfl) rfl (by kernel_rfl) fun K hK => ?_
          go_simp
          go_wp2_with (go_at_call 75; refine Calls.mono (HO.out _) ?_; rintro r u9 ⟨rfl, hw9⟩; rw [hw9]; clear hw9)
          refine hK _ _ HSB.out ?_
          clear hK K
          refine wpAnyH_take (i := 7) (v := .bool true) rfl (by kernel_rfl) (by kernel_rfl) (by kernel_rfl) (fun _ _ _ h => h) (Or.inl ⟨by kernel_rfl, fun w9 h9 => ?_⟩) HSB.out ?_
          · clear h9; go_simp
          refine wpAnyH_take (i := 8) (v := .bool true) rfl (by kernel_rfl) (by kernel_rfl) (by kernel_rfl) (fun _ _ _ h => h) (Or.inl ⟨by kernel_rfl, fun w9 h9 => ?_⟩) HSB.out ?_
          · clear h9; go_simp
          refine wpAnyH_take (i := 9) (v := .pointer (some ⟨b, 0, none⟩)) rfl (by kernel_rfl) (by kernel_rfl) (by kernel_rfl) (fun _ _ _ h => h) (Or.inl ⟨by kernel_rfl, fun w9 h9 => ?_⟩) HSB.out ?_
          · clear h9; go_simp
          refine wpAnyH_take (i := 10) (v := .pointer (some ⟨b0, 2, none⟩)) rfl (by kernel_rfl) (by kernel_rfl) (by kernel_rfl) (fun _ _ _ h => h) (Or.inl ⟨by kernel_rfl, fun w9 h9 => ?_⟩) HSB.out ?_
          · clear h9; go_simp
          refine wpAnyH_take (i := 11) (v := .int .i64 e.port) rfl (by kernel_rfl) (by kernel_rfl) (by kernel_rfl) (fun _ _ _ h => h) (Or.inl ⟨by kernel_rfl, fun w9 h9 => ?_⟩) HSB.out ?_
          · have x0 := h9.1.cel 0 _ rfl; have x1 := h9.1.cel 1 _ rfl; have x2 := h9.1.cel 2 _ rfl; have x3 := h9.1.cel 3 _ rfl; have xl := h9.1.lt; have y2 := h9.2.c2; have yl := h9.2.lt; clear h9; go_simp
          refine held_one 12 (by kernel_rfl) rfl (by kernel_rfl) fun K hK => ?_
          go_simp
          go_wp2_with (go_at_call 79; refine Calls.mono (HH.out _ HSB.out.1.aft) ?_; rintro r u9 ⟨rfl, hw9⟩; rw [hw9]; clear hw9)
          refine hK _ _ HSB.out ?_
          clear hK K
          refine wpAnyH_take (i := 13) (v := .bool true) rfl (by kernel_rfl) (by kernel_rfl) (by kernel_rfl) (fun _ _ _ h => h) (Or.inl ⟨by kernel_rfl, fun w9 h9 => ?_⟩) HSB.out ?_
          · clear h9; go_simp
          refine wpAnyH_take (i := 14) (v := .bool true) rfl (by kernel_rfl) (by kernel_rfl) (by kernel_rfl) (fun _ _ _ h => h) (Or.inl ⟨by kernel_rfl, fun w9 h9 => ?_⟩) HSB.out ?_
          · clear h9; go_simp
          refine wpAnyH_take (i := 15) (v := .pointer (some ⟨b0, 3, none⟩)) rfl (by kernel_rfl) (by kernel_rfl) (by kernel_rfl) (fun _ _ _ h => h) (Or.inl ⟨by kernel_rfl, fun w9 h9 => ?_⟩) HSB.out ?_
          · clear h9; go_simp
          refine wpAnyH_take (i := 16) (v := .int .i64 e.seen) rfl (by kernel_rfl) (by kernel_rfl) (by kernel_rfl) (fun _ _ _ h => h) (Or.inl ⟨by kernel_rfl, fun w9 h9 => ?_⟩) HSB.out ?_
          · have x0 := h9.1.cel 0 _ rfl; have x1 := h9.1.cel 1 _ rfl; have x2 := h9.1.cel 2 _ rfl; have x3 := h9.1.cel 3 _ rfl; have xl := h9.1.lt; have y2 := h9.2.c2; have yl := h9.2.lt; clear h9; go_simp
          refine wpAnyH_take (i := 17) (v := .bool true) rfl (by kernel_rfl) (by kernel_rfl) (by kernel_rfl) (fun _ _ _ h => h) (Or.inl ⟨by kernel_rfl, fun w9 h9 => ?_⟩) HSB.out ?_
          · clear h9; go_simp
          refine wpAnyH_take (i := 18) (v := .bool true) rfl (by kernel_rfl) (by kernel_rfl) (by kernel_rfl) (fun _ _ _ h => h) (Or.inl ⟨by kernel_rfl, fun w9 h9 => ?_⟩) HSB.out ?_
          · clear h9; go_simp
          refine wpAnyH_take (i := 19) (v := .bool true) rfl (by kernel_rfl) (by kernel_rfl) (by kernel_rfl) (fun _ _ _ h => h) (Or.inl ⟨by kernel_rfl, fun w9 h9 => ?_⟩) HSB.out ?_
          · clear h9; go_simp
          refine wpAnyH_take (i := 20) (v := .pointer (some ⟨b0, 3, none⟩)) rfl (by kernel_rfl) (by kernel_rfl) (by kernel_rfl) (fun _ _ _ h => h) (Or.inl ⟨by kernel_rfl, fun w9 h9 => ?_⟩) HSB.out ?_
          · clear h9; go_simp
          refine wpAnyH_take (i := 21) (v := .int .i64 e.seen) rfl (by kernel_rfl) (by kernel_rfl) (by kernel_rfl) (fun _ _ _ h => h) (Or.inl ⟨by kernel_rfl, fun w9 h9 => ?_⟩) HSB.out ?_
          · have x0 := h9.1.cel 0 _ rfl; have x1 := h9.1.cel 1 _ rfl; have x2 := h9.1.cel 2 _ rfl; have x3 := h9.1.cel 3 _ rfl; have xl := h9.1.lt; have y2 := h9.2.c2; have yl := h9.2.lt; clear h9; go_simp
          refine wpAnyH_take (i := 22) (v := .pointer (some ⟨b, 0, none⟩)) rfl (by kernel_rfl) (by kernel_rfl) (by kernel_rfl) (fun _ _ _ h => h) (Or.inl ⟨by kernel_rfl, fun w9 h9 => ?_⟩) HSB.out ?_
          · clear h9; go_simp
          refine wpAnyH_take (i := 23) (v := .pointer (some ⟨b, 0, none⟩)) rfl (by kernel_rfl) (by kernel_rfl) (by kernel_rfl) (fun _ _ _ h => h) (Or.inl ⟨by kernel_rfl, fun w9 h9 => ?_⟩) HSB.out ?_
          · clear h9; go_simp
          refine wpAnyH_take (i := 24) (v := .pointer (some ⟨b, 2, none⟩)) rfl (by kernel_rfl) (by kernel_rfl) (by kernel_rfl) (fun _ _ _ h => h) (Or.inl ⟨by kernel_rfl, fun w9 h9 => ?_⟩) HSB.out ?_
          · clear h9; go_simp
          refine wpAnyH_take (i := 25) (v := .int .i64 s.time) rfl (by kernel_rfl) (by kernel_rfl) (by kernel_rfl) (fun _ _ _ h => h) (Or.inl ⟨by kernel_rfl, fun w9 h9 => ?_⟩) HSB.out ?_
          · have x0 := h9.1.cel 0 _ rfl; have x1 := h9.1.cel 1 _ rfl; have x2 := h9.1.cel 2 _ rfl; have x3 := h9.1.cel 3 _ rfl; have xl := h9.1.lt; have y2 := h9.2.c2; have yl := h9.2.lt; clear h9; go_simp
          refine wpAnyH_take (i := 26) (v := .bool (decide (e.seen ≤ s.time))) rfl (by kernel_rfl) (by kernel_rfl) (by kernel_rfl) (fun _ _ _ h => h) (Or.inl ⟨by kernel_rfl, fun w9 h9 => ?_⟩) HSB.out ?_
          · clear h9; go_simp
          refine wpAnyH_take (i := 27) (v := .bool (decide (e.seen ≤ s.time))) rfl (by kernel_rfl) (by kernel_rfl) (by kernel_rfl) (fun _ _ _ h => h) (Or.inl ⟨by kernel_rfl, fun w9 h9 => ?_⟩) HSB.out ?_
          · clear h9; go_simp
          refine wpAnyH_take (i := 28) (v := .bool (decide (e.seen ≤ s.time))) rfl (by kernel_rfl) (by kernel_rfl) (by kernel_rfl) (fun _ _ _ h => h) (Or.inl ⟨by kernel_rfl, fun w9 h9 => ?_⟩) HSB.out ?_
          · clear h9; go_simp
          refine wpAnyH_done (by kernel_rfl) ?_ _
          go_simp
          go_wp2
          go_ret
          exact ⟨ret_bool (by rw [E.out]; simp), HBW.out⟩
def se9 : SE := ⟨0, 0, 0, 0⟩
def tk (n : Nat) (t : Int) (es : List SE) (j : Nat) : Bool := entB n t (es.getD j se9) && !decide (ixSE (kyB (es.getD j se9).net (es.getD j se9).addr) es < (j : Int))
def tabB (n : Nat) (t : Int) (es : List SE) : Bool := allB (tk n t es) es.length
theorem gde {zs : List SE} {k : Nat} (h : k < zs.length) : zs.getD k se9 = zs[k] := by simp [List.getD, List.getElem?_eq_getElem h]
set_option maxRecDepth 100000 in
set_option maxHeartbeats 4000000 in
theorem tableRight_any {w : World} {b : Nat} {s : SW} {a : SA} (h : SX w b s a) (hl : SLen s) : Calls Try.prog 56 #[.pointer (some ⟨b, 0, none⟩)] w fun r w' => r = .returned (.bool (tabB s.ps.length s.time s.es)) ∧ Below w.heap.size w w' := by
  have HX : Hid (SX w b s a) := h
  obtain ⟨ao, cap, ee⟩ := h.row.se.sl
  have HR : Hid (SErow w (.slice ao s.es.length cap) s.es) := (show SErow w _ s.es by rw [← ee]; exact h.row.se)
  have HLN : Hid (SLen s) := hl
  have hle := hl.e
  have c1 := h.c1
  have cl := h.lt
  rw [ee] at c1
  clear h ee hl
  go_enter Try.func56, Try.ntmps56
  go_wp2
  clear c1 cl
  go_loopw [10] (fun i wr => ∃ k : Nat, k ≤ s.es.length ∧ i = .int .i64 k ∧ allB (tk s.ps.length s.time s.es) k = true ∧ Below w.heap.size w wr) (fun i _ => s.es.length - (intOf i).toNat)
  case atStart => exact ⟨0, Nat.zero_le _, rfl, rfl, Below.refl _ _⟩
  case round =>
    obtain ⟨k, hk, rfl, hok, hb⟩ := hrel
    have HOK : Hid (allB (tk s.ps.length s.time s.es) k = true) := hok
    have HB : Hid (Below w.heap.size w wr) := hb
    clear hok
    by_cases hlt : k < s.es.length
    · obtain ⟨g, o, cap2, hv, _, hg, hc⟩ := HR.out.resolve_left (fun h => by rw [h.1] at hlt; simp at hlt)
      injection hv with hv1 hv2 hv3
      subst hv1 hv3
      obtain ⟨d0, d1, d2, d3⟩ := hc.below hb hg k hlt
      have hgw : g < wr.heap.size := Nat.lt_of_lt_of_le hg hb.size
      have HT : Hid (tk s.ps.length s.time s.es k = (entB s.ps.length s.time s.es[k] && !decide (ixSE (kyB s.es[k].net s.es[k].addr) s.es < (k : Int)))) := (show tk _ _ _ k = _ by unfold tk; rw [gde hlt])
      have hk0 : (0 : Int) ≤ (k : Int) := by omega
      have hk1 : (k : Int) < (s.es.length : Int) := by omega
      generalize s.es[k] = z at *
      have HX1 : Hid (LG w (wr.alloc (.cells #[.int .i64 z.net, .int .i64 z.addr, .int .i64 z.port, .int .i64 z.seen] 75)) wr.heap.size #[.int .i64 z.net, .int .i64 z.addr, .int .i64 z.port, .int .i64 z.seen] 75) := ⟨hb.trans ((bx1 _ _).mono hb.size), heap_new _ _, hb.size⟩
      have HEN : Hid (∀ u, Aft w u → Calls Try.prog 71 #[.pointer (some ⟨b, 0, none⟩), .agg #[.int .i64 z.net, .int .i64 z.addr, .int .i64 z.port, .int .i64 z.seen]] u fun r w' => r = .returned (.bool (entB s.ps.length s.time z)) ∧ Below u.heap.size u w') := fun u hu => entryRight_any (HX.out.below hu.out) HLN.out.p.len z
      have HKN : Hid (∀ u, Aft w u → Calls Try.prog 72 #[.pointer (some ⟨b, 0, none⟩), .int .i64 z.net, .int .i64 z.addr] u fun r w' => r = .returned (.int .i64 (ixSE (kyB z.net z.addr) s.es)) ∧ Below u.heap.size u w') := fun u hu => known_any (HX.out.below hu.out) hle z.net z.addr
      generalize ixSE (kyB z.net z.addr) s.es = X at *
      clear hc hb hv2
      go_upto_region 4 with fail
      generalize (wr.alloc (.cells #[.int .i64 z.net, .int .i64 z.addr, .int .i64 z.port, .int .i64 z.seen] 75)) = v1 at *
      generalize wr.heap.size = bn at *
      clear d0 d1 d2 d3 hgw hk0 hk1
      have k0 := HX1.out.cel 0 _ rfl
      have k1 := HX1.out.cel 1 _ rfl
      have k2 := HX1.out.cel 2 _ rfl
      have k3 := HX1.out.cel 3 _ rfl
      have kl := HX1.out.lt
      cases h1 : entB s.ps.length s.time z
      · rw [h1] at HEN HT
        have HBD : Hid (tabB s.ps.length s.time s.es = false) := allB_bad hlt (HT.out.trans (by simp))
        go_wp2_with fail
        refine Calls.mono (HEN.out _ HX1.out.aft) ?_
        rintro r u2 ⟨rfl, hu⟩
        have HX2 : Hid (LG w u2 bn #[.int .i64 z.net, .int .i64 z.addr, .int .i64 z.port, .int .i64 z.seen] 75) := HX1.out.step hu
        clear hu
        go_wp2
        go_ret
        exact ⟨ret_bool HBD.out.symm, HX2.out.bel⟩
      · rw [h1] at HEN HT
        cases h2 : decide (X < (k : Int))
        all_goals rw [h2] at HT
        · have HGD : Hid (allB (tk s.ps.length s.time s.es) (k + 1) = true) := (show _ = true by rw [allB_succ, HOK.out, HT.out]; rfl)
          go_wp2_with fail
          refine Calls.mono (HEN.out _ HX1.out.aft) ?_
          rintro r u2 ⟨rfl, hu⟩
          have HX2 : Hid (LG w u2 bn #[.int .i64 z.net, .int .i64 z.addr, .int .i64 z.port, .int .i64 z.seen] 75) := HX1.out.step hu
          clear hu k0 k1 k2 k3 kl
          have k0 := HX2.out.cel 0 _ rfl
          have k1 := HX2.out.cel 1 _ rfl
          have kl := HX2.out.lt
          go_wp2_with fail
          refine Calls.mono (HKN.out _ HX2.out.aft) ?_
          rintro r u3 ⟨rfl, hu⟩
          have HX3 : Hid (LG w u3 bn #[.int .i64 z.net, .int .i64 z.addr, .int .i64 z.port, .int .i64 z.seen] 75) := HX2.out.step hu
          clear hu
          go_wp2
          exact ⟨⟨k + 1, hlt, by go_num, HGD.out, HX3.out.bel⟩, by simp [intOf]; omega⟩
        · have HBD : Hid (tabB s.ps.length s.time s.es = false) := allB_bad hlt (HT.out.trans (by simp))
          go_wp2_with fail
          refine Calls.mono (HEN.out _ HX1.out.aft) ?_
          rintro r u2 ⟨rfl, hu⟩
          have HX2 : Hid (LG w u2 bn #[.int .i64 z.net, .int .i64 z.addr, .int .i64 z.port, .int .i64 z.seen] 75) := HX1.out.step hu
          clear hu k0 k1 k2 k3 kl
          have k0 := HX2.out.cel 0 _ rfl
          have k1 := HX2.out.cel 1 _ rfl
          have kl := HX2.out.lt
          go_wp2_with fail
          refine Calls.mono (HKN.out _ HX2.out.aft) ?_
          rintro r u3 ⟨rfl, hu⟩
          have HX3 : Hid (LG w u3 bn #[.int .i64 z.net, .int .i64 z.addr, .int .i64 z.port, .int .i64 z.seen] 75) := HX2.out.step hu
          clear hu
          go_wp2
          go_ret
          exact ⟨ret_bool HBD.out.symm, HX3.out.bel⟩
    · obtain rfl : k = s.es.length := by omega
      go_wp2
      go_ret
      exact ⟨ret_bool HOK.out.symm, HB.out⟩
def bdB (s : SW) : Bool := !decide ((s.ps.length : Int) < 1) && !decide (16 < (s.ps.length : Int)) && !decide (16 < (s.es.length : Int)) && decide (0 ≤ s.time) && decide (s.time ≤ 1099511627776) && decide (1 ≤ s.age) && decide (s.age ≤ 1000000)
set_option maxRecDepth 100000 in
set_option maxHeartbeats 4000000 in
theorem bounded_any {w : World} {b : Nat} {s : SW} {a : SA} (h : SX w b s a) : Calls Try.prog 55 #[.pointer (some ⟨b, 0, none⟩)] w fun r w' => r = .returned (.bool (bdB s)) ∧ w' = w := by
  obtain ⟨ap, kp, e1⟩ := h.sp
  obtain ⟨ae, ke, e2⟩ := h.row.se.sl
  have c0 := h.c0
  have c1 := h.c1
  have c2 := h.c2
  have c3 := h.c3
  have cl := h.lt
  rw [e1] at c0
  rw [e2] at c1
  clear h e1 e2
  have E : Hid (bdB s = (!decide ((s.ps.length : Int) < 1) && !decide (16 < (s.ps.length : Int)) && !decide (16 < (s.es.length : Int)) && decide (0 ≤ s.time) && decide (s.time ≤ 1099511627776) && decide (1 ≤ s.age) && decide (s.age ≤ 1000000))) := rfl
  cases h0 : decide ((s.ps.length : Int) < 1)
  · rw [h0] at E
    cases h1 : decide (16 < (s.ps.length : Int))
    · rw [h1] at E
      cases h2 : decide (16 < (s.es.length : Int))
      · rw [h2] at E
        cases h3 : decide (0 ≤ s.time)
        · rw [h3] at E
          go_enter Try.func55, Try.ntmps55
          go_wp2
          go_ret
          exact ⟨ret_bool (by rw [E.out]; simp), rfl⟩
        · rw [h3] at E
          cases h4 : decide (s.time ≤ 1099511627776)
          · rw [h4] at E
            go_enter Try.func55, Try.ntmps55
            go_wp2
            go_ret
            exact ⟨ret_bool (by rw [E.out]; simp), rfl⟩
          · rw [h4] at E
            cases h5 : decide (1 ≤ s.age)
            · rw [h5] at E
              go_enter Try.func55, Try.ntmps55
              go_wp2
              go_ret
              exact ⟨ret_bool (by rw [E.out]; simp), rfl⟩
            · rw [h5] at E
              go_enter Try.func55, Try.ntmps55
              go_wp2
              go_ret
              exact ⟨ret_bool (by rw [E.out]; simp), rfl⟩
      · rw [h2] at E
        go_enter Try.func55, Try.ntmps55
        go_wp2
        go_ret
        exact ⟨ret_bool (by rw [E.out]; simp), rfl⟩
    · rw [h1] at E
      go_enter Try.func55, Try.ntmps55
      go_wp2
      go_ret
      exact ⟨ret_bool (by rw [E.out]; simp), rfl⟩
  · rw [h0] at E
    go_enter Try.func55, Try.ntmps55
    go_wp2
    go_ret
    exact ⟨ret_bool (by rw [E.out]; simp), rfl⟩
end Go.Proofs.Ytefeahilamiiaaa
