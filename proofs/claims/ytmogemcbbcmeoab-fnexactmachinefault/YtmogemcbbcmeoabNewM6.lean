import Derived.Test.YtmogemcbbcmeoabNewM3
import Derived.Test.YtmogemcbbcmeoabRegInv
namespace Go.Proofs.Ytmogemcbbcmeoab
open Go.ChangeShapes Go.WideShapes Go.ChangeAt Go.RowKit

/-- A new row of zeros. -/
def Zr (lo : Nat) (u : World) (v : Value) (n : Nat) : Prop := ∃ b, v = .slice (some ⟨b, 0, none⟩) n n ∧ lo < b ∧ u.heap[b]? = some (zc n)
theorem Zr.grow {lo : Nat} {u u' : World} {v : Value} {n : Nat} (h : Zr lo u v n) (hb : Below u.heap.size u u') : Zr lo u' v n := by
  obtain ⟨b, h1, h2, h3⟩ := h
  exact ⟨b, h1, h2, (hb.block b (Array.getElem?_eq_some_iff.1 h3).1).trans h3⟩
theorem Zr.new {lo : Nat} {u : World} {n : Nat} (h : lo < u.heap.size) : Zr lo (u.alloc (zc n)) (.slice (some ⟨u.heap.size, 0, none⟩) n n) n := ⟨_, rfl, h, heap_new _ _⟩
theorem Zr.ne {lo : Nat} {u : World} {v : Value} {n m : Nat} (h : Zr lo u v n) : v.ownBlock ≠ (Value.slice (some ⟨u.heap.size, 0, none⟩) m m).ownBlock := by
  obtain ⟨b, rfl, _, h3⟩ := h
  have := (Array.getElem?_eq_some_iff.1 h3).1
  simp [Value.ownBlock]
  omega
def zBox : Obj := .cells #[.int .i64 0, .slice none 0 0, .int .i64 0, .slice none 0 0, .slice none 0 0, .string ⟨#[]⟩, .int .i64 0, .int .i64 0, .int .i64 0, .slice none 0 0, .slice none 0 0, .int .i64 0] 48 (0, 0)
/-- What holds whichever operations have come up. -/
structure NS (w : World) (s : ByteArray) (b0 b1 b2 b3 b4 b5 b6 : Bool) (v7 v8 v9 v10 v11 v12 v13 : Value) (u : World) : Prop where
  bel : Below w.heap.size w u
  box : u.heap[w.heap.size]? = some zBox
  c7 : b0 = true → Zr w.heap.size u v7 16
  c8 : b1 = true → Zr w.heap.size u v8 12
  c9 : b2 = true → Zr w.heap.size u v9 16
  d78 : b0 = true → b1 = true → v7.ownBlock ≠ v8.ownBlock
  d79 : b0 = true → b2 = true → v7.ownBlock ≠ v9.ownBlock
  d89 : b1 = true → b2 = true → v8.ownBlock ≠ v9.ownBlock
  c10 : b3 = true → v10 = .string s
  c11 : b4 = true → ∃ b, v11 = .slice (some ⟨b, 0, none⟩) 1 1 ∧ u.heap[b]? = some (.cells #[.string s] 9 (0, 0))
  c12 : b5 = true → v12 = .string s
  c13 : b6 = true → v13 = macA 1 s v7 v8 v9
  up6 : b6 = true → b0 = true ∧ b1 = true ∧ b2 = true ∧ b5 = true
  up5 : b5 = true → b4 = true
  up4 : b4 = true → b3 = true
theorem NS.lt {w : World} {s : ByteArray} {b0 b1 b2 b3 b4 b5 b6 : Bool} {v7 v8 v9 v10 v11 v12 v13 : Value} {u : World} (h : NS w s b0 b1 b2 b3 b4 b5 b6 v7 v8 v9 v10 v11 v12 v13 u) : w.heap.size < u.heap.size := (Array.getElem?_eq_some_iff.1 h.box).1
theorem NS.grow {w : World} {s : ByteArray} {b0 b1 b2 b3 b4 b5 b6 : Bool} {v7 v8 v9 v10 v11 v12 v13 : Value} {u u' : World} (h : NS w s b0 b1 b2 b3 b4 b5 b6 v7 v8 v9 v10 v11 v12 v13 u) (hb : Below u.heap.size u u') : NS w s b0 b1 b2 b3 b4 b5 b6 v7 v8 v9 v10 v11 v12 v13 u' :=
  ⟨h.bel.trans (hb.mono h.bel.size), (hb.block _ h.lt).trans h.box, fun e => (h.c7 e).grow hb, fun e => (h.c8 e).grow hb, fun e => (h.c9 e).grow hb, h.d78, h.d79, h.d89, h.c10, fun e => by
    obtain ⟨b, h1, h2⟩ := h.c11 e
    exact ⟨b, h1, (hb.block b (Array.getElem?_eq_some_iff.1 h2).1).trans h2⟩, h.c12, h.c13, h.up6, h.up5, h.up4⟩
/-- What is there in the end. -/
structure NF (w : World) (s : ByteArray) (v7 v8 v9 : Value) (u : World) : Prop where
  bel : Below w.heap.size w u
  lt : w.heap.size < u.heap.size
  c7 : Zr w.heap.size u v7 16
  c8 : Zr w.heap.size u v8 12
  c9 : Zr w.heap.size u v9 16
  d78 : v7.ownBlock ≠ v8.ownBlock
  d79 : v7.ownBlock ≠ v9.ownBlock
  d89 : v8.ownBlock ≠ v9.ownBlock
  k0 : u.cell? ⟨w.heap.size, 0, none⟩ = some (.int .i64 0)
  k1 : u.cell? ⟨w.heap.size, 1, none⟩ = some v7
  k2 : u.cell? ⟨w.heap.size, 2, none⟩ = some (.int .i64 1)
  k3 : u.cell? ⟨w.heap.size, 3, none⟩ = some v8
  k4 : u.cell? ⟨w.heap.size, 4, none⟩ = some v9
  k5 : u.cell? ⟨w.heap.size, 5, none⟩ = some (.string s)
  k6 : u.cell? ⟨w.heap.size, 6, none⟩ = some (.int .i64 0)
  k7 : u.cell? ⟨w.heap.size, 7, none⟩ = some (.int .i64 0)
  k8 : u.cell? ⟨w.heap.size, 8, none⟩ = some (.int .i64 0)
  k9 : u.cell? ⟨w.heap.size, 9, none⟩ = some (.slice none 0 0)
  k10 : u.cell? ⟨w.heap.size, 10, none⟩ = some (.slice none 0 0)
  k11 : u.cell? ⟨w.heap.size, 11, none⟩ = some (.int .i64 0)
def NInv (w : World) (s : ByteArray) (x1 x3 x4 x5 x6 : Value) (L : Array Bool) (a : Act) (u : World) : Prop := ∃ (b0 b1 b2 b3 b4 b5 b6 b7 : Bool) (v7 v8 v9 v10 v11 v12 v13 : Value), L = #[b0, b1, b2, b3, b4, b5, b6, b7] ∧
  a = { tmps := #[.string s, x1, .pointer (some ⟨w.heap.size, 0, none⟩), x3, x4, x5, x6, v7, v8, v9, v10, v11, v12, v13], defers := [] } ∧
  ((b7 = false ∧ NS w s b0 b1 b2 b3 b4 b5 b6 v7 v8 v9 v10 v11 v12 v13 u) ∨ (b7 = true ∧ b0 = true ∧ b1 = true ∧ b2 = true ∧ b3 = true ∧ b4 = true ∧ b5 = true ∧ b6 = true ∧ NF w s v7 v8 v9 u))
theorem blk_set {u : World} {b : Nat} {cs : Array Value} {t : TypeId} {z : Nat × Nat} (h : u.heap[b]? = some (.cells cs t z)) (o : Nat) (v : Value) : (u.setCell ⟨b, o, none⟩ v).heap[b]? = some (.cells (cs.setIfInBounds o v) t z) := by
  simp [World.setCell, Array.getElem?_modify, h]
theorem st12 {B : Nat} {w u : World} {b : Nat} {t : TypeId} {a0 a1 a2 a3 a4 a5 a6 a7 a8 a9 a10 a11 : Value} (hb : Below B w u) (hB : B ≤ b) (h : u.heap[b]? = some (.cells #[a0, a1, a2, a3, a4, a5, a6, a7, a8, a9, a10, a11] t (0, 0))) (v0 v1 v2 v3 v4 v5 v6 v7 v8 v9 v10 v11 : Value) {U : World}
    (hU : ((((((((((((u.setCell ⟨b, 0, none⟩ v0).setCell ⟨b, 1, none⟩ v1).setCell ⟨b, 2, none⟩ v2).setCell ⟨b, 3, none⟩ v3).setCell ⟨b, 4, none⟩ v4).setCell ⟨b, 5, none⟩ v5).setCell ⟨b, 6, none⟩ v6).setCell ⟨b, 7, none⟩ v7).setCell ⟨b, 8, none⟩ v8).setCell ⟨b, 9, none⟩ v9).setCell ⟨b, 10, none⟩ v10).setCell ⟨b, 11, none⟩ v11) = U) : Below B w U ∧ U.heap[b]? = some (.cells #[v0, v1, v2, v3, v4, v5, v6, v7, v8, v9, v10, v11] t (0, 0)) ∧ (∀ k, k ≠ b → U.heap[k]? = u.heap[k]?) := by
  subst hU
  refine ⟨?_, ?_, fun k hk => ?_⟩
  · exact ((((((((((((hb.setCell (p := ⟨b, 0, none⟩) hB _).setCell (p := ⟨b, 1, none⟩) hB _).setCell (p := ⟨b, 2, none⟩) hB _).setCell (p := ⟨b, 3, none⟩) hB _).setCell (p := ⟨b, 4, none⟩) hB _).setCell (p := ⟨b, 5, none⟩) hB _).setCell (p := ⟨b, 6, none⟩) hB _).setCell (p := ⟨b, 7, none⟩) hB _).setCell (p := ⟨b, 8, none⟩) hB _).setCell (p := ⟨b, 9, none⟩) hB _).setCell (p := ⟨b, 10, none⟩) hB _).setCell (p := ⟨b, 11, none⟩) hB _)
  · have h0 := blk_set h 0 v0
    have h1 := blk_set h0 1 v1
    have h2 := blk_set h1 2 v2
    have h3 := blk_set h2 3 v3
    have h4 := blk_set h3 4 v4
    have h5 := blk_set h4 5 v5
    have h6 := blk_set h5 6 v6
    have h7 := blk_set h6 7 v7
    have h8 := blk_set h7 8 v8
    have h9 := blk_set h8 9 v9
    have h10 := blk_set h9 10 v10
    have h11 := blk_set h10 11 v11
    simpa using h11
  · iterate 12 rw [Below.heap_setCell _ _ _ _ hk]
set_option maxRecDepth 100000 in
set_option maxHeartbeats 4000000 in
theorem implNew_yes (s : ByteArray) (hs : s.size ≤ 1099511627776) (h : memOk s = true) : AnsN 23 s 1 s (zl 16) (zl 12) (zl 16) := by
  intro w
  have hc : Hid _ := memC_ok h
  have HS : Hid _ := hs
  clear h hs
  go_enter Try.func23, Try.ntmps23
  go_wp2_with (go_at_call 56; refine (implMemFault_any _ _ HS.out).mono ?_; rintro e u1 ⟨rfl, hu1⟩; rw [hu1, hc.out]; clear hu1)
  refine wp_region_any (by kernel_rfl) ?_
  refine wpAny_inv (NInv w s undef (.string s) (.int .i64 0) (.bool false) undef) ?hs ?hd _ _ _ _ (by decide) ?st
  case st =>
    exact ⟨false, false, false, false, false, false, false, false, undef, undef, undef, undef, undef, undef, undef, rfl, rfl, .inl ⟨rfl, ⟨((Below.refl _ _).alloc (Nat.le_refl _) _).drew, (heap_new _ _), (fun e => by cases e), (fun e => by cases e), (fun e => by cases e), (fun e => by cases e), (fun e => by cases e), (fun e => by cases e), (fun e => by cases e), (fun e => by cases e), (fun e => by cases e), (fun e => by cases e), (fun e => by cases e), (fun e => by cases e), (fun e => by cases e)⟩⟩⟩
  case hd =>
    rintro L a u ⟨b0, b1, b2, b3, b4, b5, b6, b7, v7, v8, v9, v10, v11, v12, v13, rfl, rfl, hI⟩ hr
    rcases hI with ⟨rfl, hN⟩ | ⟨rfl, rfl, rfl, rfl, rfl, rfl, rfl, rfl, hF⟩
    · exfalso
      clear hN
      revert hr
      revert b0 b1 b2 b3 b4 b5 b6
      decide +kernel
    · obtain ⟨p7, rfl, l7, h7⟩ := hF.c7
      obtain ⟨p8, rfl, l8, h8⟩ := hF.c8
      obtain ⟨p9, rfl, l9, h9⟩ := hF.c9
      have HF : Hid (NF w s (.slice (some ⟨p7, 0, none⟩) 16 16) (.slice (some ⟨p8, 0, none⟩) 12 12) (.slice (some ⟨p9, 0, none⟩) 16 16) u) := hF
      have k0 := hF.k0
      have k1 := hF.k1
      have k2 := hF.k2
      have k3 := hF.k3
      have k4 := hF.k4
      have k5 := hF.k5
      have k6 := hF.k6
      have k7 := hF.k7
      have k8 := hF.k8
      have k9 := hF.k9
      have k10 := hF.k10
      have k11 := hF.k11
      have e78 : p7 ≠ p8 := by have := hF.d78; simpa [Value.ownBlock] using this
      have e79 : p7 ≠ p9 := by have := hF.d79; simpa [Value.ownBlock] using this
      have e89 : p8 ≠ p9 := by have := hF.d89; simpa [Value.ownBlock] using this
      have hlt := hF.lt
      clear hF hr
      go_wp2
      refine bodyPost_ret (v := macA 1 s (.slice (some ⟨p7, 0, none⟩) 16 16) (.slice (some ⟨p8, 0, none⟩) 12 12) (.slice (some ⟨p9, 0, none⟩) 16 16)) ?_ rfl ⟨_, _, _, rfl, R3.zero h7 h8 h9 (by omega) (by omega) (by omega) e78 e79 e89, HF.out.bel⟩
      simp [results, Try.results23, go_sem, macA, k0, k1, k2, k3, k4, k5, k6, k7, k8, k9, k10, k11]
  case hs =>
    rintro L a u i ⟨b0, b1, b2, b3, b4, b5, b6, b7, v7, v8, v9, v10, v11, v12, v13, rfl, rfl, hI⟩ hi
    obtain ⟨hf, o, ho, hall⟩ := mem_ready.1 hi
    have hi8 : i < 8 := (Array.getElem?_eq_some_iff.1 ho).1
    have m1 := mk16
    have m2 := mk12
    rcases hI with ⟨rfl, hN⟩ | ⟨rfl, rfl, rfl, rfl, rfl, rfl, rfl, rfl, hF⟩
    · have hlt := hN.lt
      obtain rfl | rfl | rfl | rfl | rfl | rfl | rfl | rfl : i = 0 ∨ i = 1 ∨ i = 2 ∨ i = 3 ∨ i = 4 ∨ i = 5 ∨ i = 6 ∨ i = 7 := by omega
      · obtain rfl : b0 = false := hf
        have g := hN.grow ((Below.refl _ _).alloc (Nat.le_refl _) (zc 16))
        have hn : NS w s true b1 b2 b3 b4 b5 b6 (.slice (some ⟨u.heap.size, 0, none⟩) 16 16) v8 v9 v10 v11 v12 v13 (u.alloc (zc 16)) :=
          ⟨g.bel, g.box, fun _ => Zr.new hlt, g.c8, g.c9, fun _ e => (hN.c8 e).ne.symm, fun _ e => (hN.c9 e).ne.symm, g.d89, g.c10, g.c11, g.c12, fun e => (by have q := (hN.up6 e).1; cases q), fun e => (by have q := (hN.up6 e).1; cases q), g.up5, g.up4⟩
        have HN : Hid (NS w s true b1 b2 b3 b4 b5 b6 (.slice (some ⟨u.heap.size, 0, none⟩) 16 16) v8 v9 v10 v11 v12 v13 (u.alloc (zc 16))) := hn
        clear hN hall hi g hn
        refine wpOp_step rfl (fun K hK => ?_)
        go_simp
        exact hK _ _ ⟨true, b1, b2, b3, b4, b5, b6, false, _, v8, v9, v10, v11, v12, v13, rfl, rfl, .inl ⟨rfl, HN.out⟩⟩
      · obtain rfl : b1 = false := hf
        have g := hN.grow ((Below.refl _ _).alloc (Nat.le_refl _) (zc 12))
        have hn : NS w s b0 true b2 b3 b4 b5 b6 v7 (.slice (some ⟨u.heap.size, 0, none⟩) 12 12) v9 v10 v11 v12 v13 (u.alloc (zc 12)) :=
          ⟨g.bel, g.box, g.c7, fun _ => Zr.new hlt, g.c9, fun e _ => (hN.c7 e).ne, g.d79, fun _ e => (hN.c9 e).ne.symm, g.c10, g.c11, g.c12, fun e => (by have q := (hN.up6 e).2.1; cases q), fun e => (by have q := (hN.up6 e).2.1; cases q), g.up5, g.up4⟩
        have HN : Hid (NS w s b0 true b2 b3 b4 b5 b6 v7 (.slice (some ⟨u.heap.size, 0, none⟩) 12 12) v9 v10 v11 v12 v13 (u.alloc (zc 12))) := hn
        clear hN hall hi g hn
        refine wpOp_step rfl (fun K hK => ?_)
        go_simp
        exact hK _ _ ⟨b0, true, b2, b3, b4, b5, b6, false, v7, _, v9, v10, v11, v12, v13, rfl, rfl, .inl ⟨rfl, HN.out⟩⟩
      · obtain rfl : b2 = false := hf
        have g := hN.grow ((Below.refl _ _).alloc (Nat.le_refl _) (zc 16))
        have hn : NS w s b0 b1 true b3 b4 b5 b6 v7 v8 (.slice (some ⟨u.heap.size, 0, none⟩) 16 16) v10 v11 v12 v13 (u.alloc (zc 16)) :=
          ⟨g.bel, g.box, g.c7, g.c8, fun _ => Zr.new hlt, g.d78, fun e _ => (hN.c7 e).ne, fun e _ => (hN.c8 e).ne, g.c10, g.c11, g.c12, fun e => (by have q := (hN.up6 e).2.2.1; cases q), fun e => (by have q := (hN.up6 e).2.2.1; cases q), g.up5, g.up4⟩
        have HN : Hid (NS w s b0 b1 true b3 b4 b5 b6 v7 v8 (.slice (some ⟨u.heap.size, 0, none⟩) 16 16) v10 v11 v12 v13 (u.alloc (zc 16))) := hn
        clear hN hall hi g hn
        refine wpOp_step rfl (fun K hK => ?_)
        go_simp
        exact hK _ _ ⟨b0, b1, true, b3, b4, b5, b6, false, v7, v8, _, v10, v11, v12, v13, rfl, rfl, .inl ⟨rfl, HN.out⟩⟩
      · obtain rfl : b3 = false := hf
        have HN : Hid (NS w s b0 b1 b2 true b4 b5 b6 v7 v8 v9 (.string s) v11 v12 v13 u) := ⟨hN.bel, hN.box, hN.c7, hN.c8, hN.c9, hN.d78, hN.d79, hN.d89, fun _ => rfl, hN.c11, hN.c12, hN.c13, hN.up6, hN.up5, fun _ => rfl⟩
        clear hN hall hi
        refine wpOp_step rfl (fun K hK => ?_)
        go_simp
        exact hK _ _ ⟨b0, b1, b2, true, b4, b5, b6, false, v7, v8, v9, _, v11, v12, v13, rfl, rfl, .inl ⟨rfl, HN.out⟩⟩
      · obtain rfl : b4 = false := hf
        cases ho
        have hb3 : b3 = true := hall { on := 3, ground := .data } (by simp) rfl
        obtain rfl := hN.c10 hb3
        have g := hN.grow ((Below.refl _ _).alloc (Nat.le_refl _) (.cells #[.string s] 9 (0, 0)))
        have HN : Hid (NS w s b0 b1 b2 b3 true b5 b6 v7 v8 v9 (.string s) (.slice (some ⟨u.heap.size, 0, none⟩) 1 1) v12 v13 (u.alloc (.cells #[.string s] 9 (0, 0)))) := ⟨g.bel, g.box, g.c7, g.c8, g.c9, g.d78, g.d79, g.d89, g.c10, fun _ => ⟨_, rfl, heap_new _ _⟩, g.c12, g.c13, g.up6, fun _ => rfl, fun _ => hb3⟩
        clear hN hall hi g
        refine wpOp_step rfl (fun K hK => ?_)
        go_simp
        exact hK _ _ ⟨b0, b1, b2, b3, true, b5, b6, false, v7, v8, v9, _, _, v12, v13, rfl, rfl, .inl ⟨rfl, HN.out⟩⟩
      · obtain rfl : b5 = false := hf
        cases ho
        have hb4 : b4 = true := hall { on := 4, ground := .data } (by simp) rfl
        obtain ⟨q, rfl, hq⟩ := hN.c11 hb4
        have HJ : Hid _ := joined1 s q u hq HS.out
        have HN : Hid (NS w s b0 b1 b2 b3 b4 false b6 v7 v8 v9 v10 (.slice (some ⟨q, 0, none⟩) 1 1) v12 v13 u) := hN
        clear hN hall hi hq
        refine wpOp_step rfl (fun K hK => ?_)
        go_simp
        refine Calls.mono HJ.out ?_
        rintro e u5 ⟨rfl, hu5⟩
        have g := HN.out.grow hu5
        have hn : NS w s b0 b1 b2 b3 b4 true b6 v7 v8 v9 v10 (.slice (some ⟨q, 0, none⟩) 1 1) (.string s) v13 u5 := ⟨g.bel, g.box, g.c7, g.c8, g.c9, g.d78, g.d79, g.d89, g.c10, g.c11, fun _ => rfl, fun e => (by have q := (g.up6 e).2.2.2; cases q), fun e => (by have q := (g.up6 e).2.2.2; cases q), fun _ => hb4, g.up4⟩
        exact hK _ _ ⟨b0, b1, b2, b3, b4, true, b6, false, v7, v8, v9, v10, _, _, v13, rfl, rfl, .inl ⟨rfl, hn⟩⟩
      · obtain rfl : b6 = false := hf
        cases ho
        have hb0 : b0 = true := hall { on := 0, ground := .data } (by simp) rfl
        have hb1 : b1 = true := hall { on := 1, ground := .data } (by simp) rfl
        have hb2 : b2 = true := hall { on := 2, ground := .data } (by simp) rfl
        have hb5 : b5 = true := hall { on := 5, ground := .data } (by simp) rfl
        obtain rfl := hN.c12 hb5
        obtain ⟨p7, rfl, l7, h7⟩ := hN.c7 hb0
        obtain ⟨p8, rfl, l8, h8⟩ := hN.c8 hb1
        obtain ⟨p9, rfl, l9, h9⟩ := hN.c9 hb2
        have HN : Hid (NS w s b0 b1 b2 b3 b4 b5 true (.slice (some ⟨p7, 0, none⟩) 16 16) (.slice (some ⟨p8, 0, none⟩) 12 12) (.slice (some ⟨p9, 0, none⟩) 16 16) v10 v11 (.string s) (macA 1 s (.slice (some ⟨p7, 0, none⟩) 16 16) (.slice (some ⟨p8, 0, none⟩) 12 12) (.slice (some ⟨p9, 0, none⟩) 16 16)) u) := ⟨hN.bel, hN.box, hN.c7, hN.c8, hN.c9, hN.d78, hN.d79, hN.d89, hN.c10, hN.c11, hN.c12, fun _ => rfl, fun _ => ⟨hb0, hb1, hb2, hb5⟩, hN.up5, hN.up4⟩
        unfold macA at HN
        clear hN hall hi h7 h8 h9
        refine wpOp_step rfl (fun K hK => ?_)
        go_simp
        exact hK _ _ ⟨b0, b1, b2, b3, b4, b5, true, false, _, _, _, v10, v11, _, _, rfl, rfl, .inl ⟨rfl, HN.out⟩⟩
      · cases ho
        have hb6 : b6 = true := hall { on := 6, ground := .data } (by simp) rfl
        obtain ⟨hb0, hb1, hb2, hb5⟩ := hN.up6 hb6
        have hb4 := hN.up5 hb5
        have hb3 := hN.up4 hb4
        obtain rfl := hN.c13 hb6
        obtain ⟨p7, rfl, l7, h7⟩ := hN.c7 hb0
        obtain ⟨p8, rfl, l8, h8⟩ := hN.c8 hb1
        obtain ⟨p9, rfl, l9, h9⟩ := hN.c9 hb2
        have d78 := hN.d78 hb0 hb1
        have d79 := hN.d79 hb0 hb2
        have d89 := hN.d89 hb1 hb2
        have hbx := hN.box
        have HB : Hid (Below w.heap.size w u) := hN.bel
        obtain ⟨c0, c1, c2, c3, c4, c5, c6, c7, c8, c9, c10, c11, cf⟩ := cel12 hbx
        clear hN hall hi
        unfold zBox at hbx
        have HBX : Hid (u.heap[w.heap.size]? = some (.cells #[.int .i64 0, .slice none 0 0, .int .i64 0, .slice none 0 0, .slice none 0 0, .string ⟨#[]⟩, .int .i64 0, .int .i64 0, .int .i64 0, .slice none 0 0, .slice none 0 0, .int .i64 0] 48 (0, 0))) := hbx
        clear hbx
        unfold macA
        refine wpOp_step rfl (fun K hK => ?_)
        go_simp
        refine hK _ _ ⟨b0, b1, b2, b3, b4, b5, b6, true, _, _, _, v10, v11, v12, _, rfl, rfl, .inr ⟨rfl, hb0, hb1, hb2, hb3, hb4, hb5, hb6, ?_⟩⟩
        obtain ⟨e1, e2, e3⟩ := st12 HB.out (Nat.le_refl _) HBX.out (.int .i64 0) (.slice (some ⟨p7, 0, none⟩) 16 16) (.int .i64 1) (.slice (some ⟨p8, 0, none⟩) 12 12) (.slice (some ⟨p9, 0, none⟩) 16 16) (.string s) (.int .i64 0) (.int .i64 0) (.int .i64 0) (.slice none 0 0) (.slice none 0 0) (.int .i64 0) rfl
        obtain ⟨f0, f1, f2, f3, f4, f5, f6, f7, f8, f9, f10, f11, _⟩ := cel12 e2
        exact ⟨e1, (Array.getElem?_eq_some_iff.1 e2).1, ⟨p7, rfl, l7, (e3 p7 (by omega)).trans h7⟩, ⟨p8, rfl, l8, (e3 p8 (by omega)).trans h8⟩, ⟨p9, rfl, l9, (e3 p9 (by omega)).trans h9⟩, d78, d79, d89, f0, f1, f2, f3, f4, f5, f6, f7, f8, f9, f10, f11⟩
    · exfalso
      obtain rfl | rfl | rfl | rfl | rfl | rfl | rfl | rfl : i = 0 ∨ i = 1 ∨ i = 2 ∨ i = 3 ∨ i = 4 ∨ i = 5 ∨ i = 6 ∨ i = 7 := by omega
      all_goals cases hf
end Go.Proofs.Ytmogemcbbcmeoab
