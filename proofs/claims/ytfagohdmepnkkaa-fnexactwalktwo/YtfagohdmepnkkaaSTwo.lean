import Derived.Test.YtfagohdmepnkkaaWalkYesS
import Derived.Test.YtfagohdmepnkkaaPWk2
import Derived.Deep.RegionHeld
namespace Go.Proofs.Ytfagohdmepnkkaa
open Go.ChangeShapes Go.WideShapes Go.ChangeAt Go.RowKit

/-- The specification's two walks at work: its box. -/
structure TS where
  mem : ByteArray
  host : Nat
  steps : Int
  bad : Int
def TBx (w : World) (G : Nat) (x : TS) : Prop := w.heap[G]? = some (.cells #[.string x.mem, .int .i64 x.host, .int .i64 x.steps, .int .i64 x.bad] 77 (0, 0))
theorem TBx.lt {w : World} {G : Nat} {x : TS} (h : TBx w G x) : G < w.heap.size := (Array.getElem?_eq_some_iff.1 h).1
theorem TBx.cells {w : World} {G : Nat} {x : TS} (h : TBx w G x) : w.cell? ⟨G, 0, none⟩ = some (.string x.mem) ∧ w.cell? ⟨G, 1, none⟩ = some (.int .i64 x.host) ∧ w.cell? ⟨G, 2, none⟩ = some (.int .i64 x.steps) ∧ w.cell? ⟨G, 3, none⟩ = some (.int .i64 x.bad) ∧ ∀ o, w.frozen? ⟨G, o, none⟩ = false := by
  unfold TBx at h
  simp [World.cell?, World.frozen?, h]
theorem TBx.block {w u : World} {G : Nat} {x : TS} (h : TBx w G x) (hu : u.heap[G]? = w.heap[G]?) : TBx u G x := hu.trans h
theorem TBx.put0 {w : World} {G : Nat} {x : TS} (h : TBx w G x) (y : ByteArray) : TBx (w.setCell ⟨G, 0, none⟩ (.string y)) G { x with mem := y } := by
  unfold TBx at h ⊢
  simp [World.setCell, Array.getElem?_modify, h]
theorem TBx.put2 {w : World} {G : Nat} {x : TS} (h : TBx w G x) (y : Int) : TBx (w.setCell ⟨G, 2, none⟩ (.int .i64 y)) G { x with steps := y } := by
  unfold TBx at h ⊢
  simp [World.setCell, Array.getElem?_modify, h]
theorem TBx.put3 {w : World} {G : Nat} {x : TS} (h : TBx w G x) (y : Int) : TBx (w.setCell ⟨G, 3, none⟩ (.int .i64 y)) G { x with bad := y } := by
  unfold TBx at h ⊢
  simp [World.setCell, Array.getElem?_modify, h]
theorem gb_at {w0 w : World} {G : Nat} (h : w0.grownBy w (some G)) (o : Nat) (v : Value) : w0.grownBy (w.setCell ⟨G, o, none⟩ v) (some G) :=
  ⟨h.os, h.tape, h.output, by simp [World.setCell]; exact h.size, fun k hk hn => (Below.heap_setCell _ _ _ _ (fun e => hn (congrArg some e))).trans (h.block k hk hn)⟩
theorem gb_drew {w0 w : World} {r : Option Nat} (h : w0.grownBy w r) : w0.grownBy w.drew r := ⟨h.os, h.tape, h.output, h.size, h.block⟩
theorem own_sl3 {w : World} {B n : Nat} {v : Value} {xs : List Value} (h : w.ownsRow B 2 1 v n xs) : ∃ ao cap, v = .slice ao n cap := by
  rcases h.2 with ⟨rfl, e⟩ | ⟨g, cap, cur, rfl, _⟩
  · exact ⟨none, 0, by rw [e]⟩
  · exact ⟨_, cap, rfl⟩
set_option maxRecDepth 100000 in
set_option maxHeartbeats 4000000 in
theorem place_ok {w : World} {G : Nat} {x : TS} (h : TBx w G x) (g : Nat) (acc : Int) (hm : memOk x.mem = true) (hh : x.host ≤ 255) (hg : g ≤ 262143) (a1 : 1 ≤ acc) (a2 : acc ≤ 3) (hst0 : 0 ≤ x.steps) (hst : x.steps ≤ 1000) :
    Calls Try.prog 38 #[.pointer (some ⟨G, 0, none⟩), .int .i64 g, .int .i64 acc] w fun e u => w.grownBy u (some G) ∧
      ((walkV x.mem x.host g acc false).fault = 0 → e = .returned (.int .i64 (walkV x.mem x.host g acc false).pa) ∧ TBx u G { x with mem := (walkV x.mem x.host g acc false).mem, steps := x.steps + (walkV x.mem x.host g acc false).reads.length }) ∧
      (¬ (walkV x.mem x.host g acc false).fault = 0 → e = .returned (.int .i64 (-1)) ∧ TBx u G { x with steps := x.steps + (walkV x.mem x.host g acc false).reads.length, bad := g }) := by
  obtain ⟨mem, host, steps, bad⟩ := x
  obtain ⟨c0, c1, c2, c3, cf⟩ := h.cells
  simp only at *
  have HW : Hid _ := fun w' => specWalk_yes mem host g acc false w' hm hh hg a1 a2
  have hlen := walkV_len mem host g acc false
  have hlt := h.lt
  have HT : Hid (TBx w G ⟨mem, host, steps, bad⟩) := h
  obtain ⟨r, hr⟩ : ∃ r, walkV mem host g acc false = r := ⟨_, rfl⟩
  rw [hr] at HW hlen ⊢
  clear hr h hm hg
  go_enter Try.func38, Try.ntmps38
  go_wp2
  go_region_held (fun w' => w'.cell? ⟨G, 0, none⟩ = some (.string mem) ∧ w'.cell? ⟨G, 1, none⟩ = some (.int .i64 host)) (go_keep) ((first | (go_at_call 29; refine Calls.mono (HW.out w.drew) ?_; rintro e u1 ⟨v, rfl, ho1, hb1⟩; obtain ⟨ao, cap, rfl⟩ := own_sl3 ho1; have HB1 : Hid (Below w.heap.size w u1) := ⟨hb1.os, hb1.tape, hb1.output, hb1.size, hb1.block⟩; have hT1 := HT.out.block (HB1.out.block G hlt); have HT1 : Hid (TBx u1 G ⟨mem, host, steps, bad⟩) := hT1; obtain ⟨d0, d1, d2, d3, df⟩ := hT1.cells; have hlt1 := hT1.lt; have hne1 : ¬ u1.heap.size = G := (by omega); have hne2 : ¬ G = u1.heap.size := (by omega); (try simp only at d0 d1 d2 d3); clear ho1 hb1 hT1; simp only [wkA]) | (go_at_call 29; refine Calls.mono (HW.out (w.alloc (.cells #[.int .i64 0, .int .i64 0, .int .i64 0, .bool false, .slice none 0 0, .string ⟨#[]⟩] 56)).drew) ?_; rintro e u1 ⟨v, rfl, ho1, hb1⟩; obtain ⟨ao, cap, rfl⟩ := own_sl3 ho1; have hb2 : Below (w.alloc (.cells #[.int .i64 0, .int .i64 0, .int .i64 0, .bool false, .slice none 0 0, .string ⟨#[]⟩] 56)).heap.size (w.alloc (.cells #[.int .i64 0, .int .i64 0, .int .i64 0, .bool false, .slice none 0 0, .string ⟨#[]⟩] 56)) u1 := ⟨hb1.os, hb1.tape, hb1.output, hb1.size, hb1.block⟩; have HB1 : Hid (Below w.heap.size w u1) := ((Below.refl _ _).alloc (Nat.le_refl _) _).trans (hb2.mono (by simp)); have hT1 := HT.out.block (HB1.out.block G hlt); have HT1 : Hid (TBx u1 G ⟨mem, host, steps, bad⟩) := hT1; obtain ⟨d0, d1, d2, d3, df⟩ := hT1.cells; have hx1 := (hb2.block w.heap.size (by simp)).trans (heap_new _ _); have HX1 : Hid _ := hx1; obtain ⟨e0, e1, e2, e3, e4, e5, ef⟩ := cel6 hx1; have hlt1 := hT1.lt; have hne1 : ¬ w.heap.size = G := (by omega); have hne2 : ¬ G = w.heap.size := (by omega); (try simp only at d0 d1 d2 d3); clear ho1 hb1 hb2 hT1 hx1; simp only [wkA])))
  · have HX0 : Hid ((u1.alloc (.cells #[.int .i64 r.fault, .int .i64 r.pa, .int .i64 r.entry, .bool r.large, .slice ao r.reads.length cap, .string r.mem] 56)).heap[u1.heap.size]? = _) := heap_new _ _
    have HV0 : Hid (TBx (u1.alloc (.cells #[.int .i64 r.fault, .int .i64 r.pa, .int .i64 r.entry, .bool r.large, .slice ao r.reads.length cap, .string r.mem] 56)) G ⟨mem, host, steps, bad⟩) := HT1.out.block (Below.heap_alloc _ _ _ hlt1)
    have HG0 : Hid (w.grownBy (u1.alloc (.cells #[.int .i64 r.fault, .int .i64 r.pa, .int .i64 r.entry, .bool r.large, .slice ao r.reads.length cap, .string r.mem] 56)) (some G)) := gb_below (gb_below (gb_refl w (some G)) HB1.out) ((Below.refl _ _).alloc (Nat.le_refl _) _)
    generalize u1.alloc (.cells #[.int .i64 r.fault, .int .i64 r.pa, .int .i64 r.entry, .bool r.large, .slice ao r.reads.length cap, .string r.mem] 56) = V at HX0 HV0 HG0 ⊢
    generalize u1.heap.size = BX at HX0 hne1 ⊢
    have hneX : ¬ BX = G := hne1
    have HX : Hid (V.heap[BX]? = some (.cells #[.int .i64 r.fault, .int .i64 r.pa, .int .i64 r.entry, .bool r.large, .slice ao r.reads.length cap, .string r.mem] 56 (0, 0))) := HX0.out
    have HV : Hid (TBx V G ⟨mem, host, steps, bad⟩) := HV0.out
    have HG : Hid (w.grownBy V (some G)) := HG0.out
    clear HX0 HV0 HG0 HB1 HT1 d0 d1 d2 d3 df hlt1 hne1 hne2 c0 c1 c2 c3 cf HW
    obtain ⟨x0, x1, x2, x3, x4, x5, xf⟩ := cel6 HX.out
    obtain ⟨k0, k1, k2, k3, kf⟩ := HV.out.cells
    (try simp only at k0 k1 k2 k3)
    have hw2 : IntKind.i64.wrap (steps + (r.reads.length : Int)) = steps + (r.reads.length : Int) := by rw [IntKind.wrap_i64]; omega
    have hne3 : ¬ G = BX := fun e => hneX e.symm
    by_cases hf : r.fault = 0
    · go_wp2
      go_region
      all_goals go_wp2
      go_ret
      exact ⟨gb_drew (gb_at (gb_at HG.out _ _) _ _), fun _ => ⟨rfl, (HV.out.put2 _).put0 _⟩, fun h => absurd hf h⟩
    · have hf2 : (r.fault != 0) = true := by simpa using hf
      go_wp2
      go_region
      all_goals go_wp2
      go_ret
      exact ⟨gb_drew (gb_at (gb_at HG.out _ _) _ _), fun h => absurd h hf, fun _ => ⟨rfl, (HV.out.put2 _).put3 _⟩⟩
  · have HX0 : Hid (((((((u1.setCell ⟨w.heap.size, 0, none⟩ (.int .i64 r.fault)).setCell ⟨w.heap.size, 1, none⟩ (.int .i64 r.pa)).setCell ⟨w.heap.size, 2, none⟩ (.int .i64 r.entry)).setCell ⟨w.heap.size, 3, none⟩ (.bool r.large)).setCell ⟨w.heap.size, 4, none⟩ (.slice ao r.reads.length cap)).setCell ⟨w.heap.size, 5, none⟩ (.string r.mem)).heap[w.heap.size]? = some (.cells #[.int .i64 r.fault, .int .i64 r.pa, .int .i64 r.entry, .bool r.large, .slice ao r.reads.length cap, .string r.mem] 56 (0, 0))) := by
      have h0 := HX1.out
      show _ = _
      simp [World.setCell, Array.getElem?_modify, h0]
    have HV0 : Hid (TBx ((((((u1.setCell ⟨w.heap.size, 0, none⟩ (.int .i64 r.fault)).setCell ⟨w.heap.size, 1, none⟩ (.int .i64 r.pa)).setCell ⟨w.heap.size, 2, none⟩ (.int .i64 r.entry)).setCell ⟨w.heap.size, 3, none⟩ (.bool r.large)).setCell ⟨w.heap.size, 4, none⟩ (.slice ao r.reads.length cap)).setCell ⟨w.heap.size, 5, none⟩ (.string r.mem)) G ⟨mem, host, steps, bad⟩) := HT1.out.block (by
      rw [Below.heap_setCell _ _ _ _ hne2, Below.heap_setCell _ _ _ _ hne2, Below.heap_setCell _ _ _ _ hne2, Below.heap_setCell _ _ _ _ hne2, Below.heap_setCell _ _ _ _ hne2, Below.heap_setCell _ _ _ _ hne2])
    have HG0 : Hid (w.grownBy ((((((u1.setCell ⟨w.heap.size, 0, none⟩ (.int .i64 r.fault)).setCell ⟨w.heap.size, 1, none⟩ (.int .i64 r.pa)).setCell ⟨w.heap.size, 2, none⟩ (.int .i64 r.entry)).setCell ⟨w.heap.size, 3, none⟩ (.bool r.large)).setCell ⟨w.heap.size, 4, none⟩ (.slice ao r.reads.length cap)).setCell ⟨w.heap.size, 5, none⟩ (.string r.mem)) (some G)) := by
      have hl := Nat.le_refl w.heap.size
      exact gb_set (gb_set (gb_set (gb_set (gb_set (gb_set (gb_below (gb_refl w (some G)) HB1.out) hl) hl) hl) hl) hl) hl
    generalize ((((((u1.setCell ⟨w.heap.size, 0, none⟩ (.int .i64 r.fault)).setCell ⟨w.heap.size, 1, none⟩ (.int .i64 r.pa)).setCell ⟨w.heap.size, 2, none⟩ (.int .i64 r.entry)).setCell ⟨w.heap.size, 3, none⟩ (.bool r.large)).setCell ⟨w.heap.size, 4, none⟩ (.slice ao r.reads.length cap)).setCell ⟨w.heap.size, 5, none⟩ (.string r.mem)) = V at HX0 HV0 HG0 ⊢
    generalize w.heap.size = BX at HX0 hne1 ⊢
    have hneX : ¬ BX = G := hne1
    have HX : Hid (V.heap[BX]? = some (.cells #[.int .i64 r.fault, .int .i64 r.pa, .int .i64 r.entry, .bool r.large, .slice ao r.reads.length cap, .string r.mem] 56 (0, 0))) := HX0.out
    have HV : Hid (TBx V G ⟨mem, host, steps, bad⟩) := HV0.out
    have HG : Hid (w.grownBy V (some G)) := HG0.out
    clear HX0 HV0 HG0 HB1 HT1 d0 d1 d2 d3 df hlt1 hne1 hne2 c0 c1 c2 c3 cf HW e0 e1 e2 e3 e4 e5 ef HX1
    obtain ⟨x0, x1, x2, x3, x4, x5, xf⟩ := cel6 HX.out
    obtain ⟨k0, k1, k2, k3, kf⟩ := HV.out.cells
    (try simp only at k0 k1 k2 k3)
    have hw2 : IntKind.i64.wrap (steps + (r.reads.length : Int)) = steps + (r.reads.length : Int) := by rw [IntKind.wrap_i64]; omega
    have hne3 : ¬ G = BX := fun e => hneX e.symm
    by_cases hf : r.fault = 0
    · go_wp2
      go_region
      all_goals go_wp2
      go_ret
      exact ⟨gb_drew (gb_at (gb_at HG.out _ _) _ _), fun _ => ⟨rfl, (HV.out.put2 _).put0 _⟩, fun h => absurd hf h⟩
    · have hf2 : (r.fault != 0) = true := by simpa using hf
      go_wp2
      go_region
      all_goals go_wp2
      go_ret
      exact ⟨gb_drew (gb_at (gb_at HG.out _ _) _ _), fun h => absurd h hf, fun _ => ⟨rfl, (HV.out.put2 _).put3 _⟩⟩
end Go.Proofs.Ytfagohdmepnkkaa
