import Derived.Test.YtggciigjhlbhhaaTp1
import Derived.Test.YtggciigjhlbhhaaCr2
import Derived.Test.YtggciigjhlbhhaaHl
import Derived.Deep.DeepCutAuto
namespace Go.Proofs.Ytggciigjhlbhhaa
open Go.ChangeShapes Go.WideShapes Go.ChangeAt Go.RowKit

/-- A descriptor's buffer. -/
def bf (d : DV) : BU := ⟨d.pos, d.len, d.write⟩
def d0 : DV := ⟨0, 0, false, false, false, false, false, 0⟩
/-- A ring read on: so many more, from the c-th one on, behind the buffers zs. -/
def rgR (s : ByteArray) (R S P : Nat) : Nat → Nat → List BU → Int × DV × List BU
  | 0, _, zs => (9, d0, zs)
  | f + 1, c, zs => if (dAt s (R + (P + c) % S * 16)).indirect = true then (3, d0, zs) else if adC s zs (bf (dAt s (R + (P + c) % S * 16))) = 0 then (if (dAt s (R + (P + c) % S * 16)).next = true then rgR s R S P f (c + 1) (zs ++ [bf (dAt s (R + (P + c) % S * 16))]) else (0, dAt s (R + (P + c) % S * 16), zs ++ [bf (dAt s (R + (P + c) % S * 16))])) else (adC s zs (bf (dAt s (R + (P + c) % S * 16))), dAt s (R + (P + c) % S * 16), zs)
theorem dAt_len (s : ByteArray) (k : Nat) : i64B (bf (dAt s k)).len := by
  have := wv_b s (k + 4)
  show i64B (wv s (k + 4))
  unfold i64B
  omega
theorem bxF {u : World} {b t : Nat} {cs : Array Value} (h : u.heap[b]? = some (.cells cs t (0, 0))) (k : Nat) : u.frozen? ⟨b, k, none⟩ = false := by simp [World.frozen?, h]
theorem bxC {u : World} {b t : Nat} {cs : Array Value} (h : u.heap[b]? = some (.cells cs t (0, 0))) (k : Nat) (v : Value) (hv : cs[k]? = some v) : u.cell? ⟨b, k, none⟩ = some v := by simp [World.cell?, h, hv]
/-- The state of readRing between two rounds. -/
structure RR (w u : World) (p : PV) (Bc mb n : Nat) (v : Value) (zs : List BU) (s : ByteArray) (ds : Array Value) : Prop where
  b1 : u.heap[w.heap.size]? = some (.cells #[.int .i64 p.size, .int .i64 p.ring, .int .i64 p.pos, .bool p.wrap] 37 (0, 0))
  b2 : u.heap[w.heap.size + 1]? = some (.cells ds 68 (0, 0))
  cr : CR u Bc mb n v zs s
  fr : FrT w u Bc
  lt : Bc < w.heap.size
theorem RR.l2 {w u : World} {p : PV} {Bc mb n : Nat} {v : Value} {zs : List BU} {s : ByteArray} {ds : Array Value} (h : RR w u p Bc mb n v zs s ds) : w.heap.size + 1 < u.heap.size := (Array.getElem?_eq_some_iff.1 h.b2).1
theorem RR.step {w u u' : World} {p : PV} {Bc mb n : Nat} {v : Value} {zs : List BU} {s : ByteArray} {ds : Array Value} (h : RR w u p Bc mb n v zs s ds) (hb : Below u.heap.size u u') : RR w u' p Bc mb n v zs s ds := ⟨(hb.block _ (by have := h.l2; omega)).trans h.b1, (hb.block _ h.l2).trans h.b2, h.cr.below hb, h.fr.trans (FrT.of_below hb), h.lt⟩
theorem RR.add {w u u' : World} {p : PV} {Bc mb n : Nat} {v v' : Value} {zs zs' : List BU} {s : ByteArray} {ds : Array Value} (h : RR w u p Bc mb n v zs s ds) (hc : CR u' Bc mb n v' zs' s) (hf : FrT u u' Bc) : RR w u' p Bc mb n v' zs' s ds := ⟨hf.box h.b1 (by have := h.lt; omega) (by decide), hf.box h.b2 (by have := h.lt; omega) (by decide), hc, h.fr.trans hf, h.lt⟩
theorem RR.cels {w u : World} {S R P : Int} {W : Bool} {Bc mb n : Nat} {v : Value} {zs : List BU} {s : ByteArray} {ds : Array Value} (h : RR w u ⟨S, R, P, W⟩ Bc mb n v zs s ds) : u.cell? ⟨Bc, 0, none⟩ = some (.slice (some ⟨mb, 0, none⟩) n n) ∧ u.cell? ⟨w.heap.size, 0, none⟩ = some (.int .i64 S) ∧ u.cell? ⟨w.heap.size, 1, none⟩ = some (.int .i64 R) ∧ u.cell? ⟨w.heap.size, 2, none⟩ = some (.int .i64 P) ∧ u.cell? ⟨w.heap.size, 3, none⟩ = some (.bool W) := ⟨h.cr.cel.1, bxC h.b1 0 _ rfl, bxC h.b1 1 _ rfl, bxC h.b1 2 _ rfl, bxC h.b1 3 _ rfl⟩
/-- A cell of a descriptor's box put. -/
theorem CR.put {w u : World} {Bc mb n : Nat} {v : Value} {zs : List BU} {s : ByteArray} {B : Nat} {cs : Array Value} (h : CR u Bc mb n v zs s) (hf : FrT w u Bc) (hb : u.heap[B]? = some (.cells cs 68 (0, 0))) (hw : w.heap.size ≤ B) (o : Nat) (x : Value) : CR (u.setCell ⟨B, o, none⟩ x) Bc mb n v zs s ∧ FrT w (u.setCell ⟨B, o, none⟩ x) Bc ∧ (u.setCell ⟨B, o, none⟩ x).heap[B]? = some (.cells (cs.setIfInBounds o x) 68 (0, 0)) ∧ ∀ k, k ≠ B → (u.setCell ⟨B, o, none⟩ x).heap[k]? = u.heap[k]? := by
  have hoth : ∀ k, k ≠ B → (u.setCell ⟨B, o, none⟩ x).heap[k]? = u.heap[k]? := fun k hk => Below.heap_setCell _ _ _ _ (by simp; omega)
  have hcB : Bc ≠ B := fun e => by
    have hm := h.box
    rw [e, hb] at hm
    injection hm with hm
    injection hm with _ hm
    exact absurd hm (by decide)
  have hmb : mb ≠ B := fun e => by
    have hm := h.mem
    unfold MemAt at hm
    rw [e, hb] at hm
    injection hm with hm
    injection hm with _ hm
    exact absurd hm (by decide)
  have hrow : v.ownBlock ≠ some B := fun e => by
    obtain ⟨_, hr | ⟨g, cap, cur, hv, _, hgg, _⟩⟩ := h.row
    · rw [hr.1] at e; cases e
    · rw [hv] at e
      have e2 : g = B := by simpa [Value.ownBlock] using e
      subst e2
      rw [hb] at hgg
      injection hgg with hgg
      injection hgg with _ hgg
      exact absurd hgg (by decide)
  refine ⟨⟨(hoth _ hcB).trans h.box, ?_, (hoth _ hmb).trans h.mem⟩, ?_, ?_, hoth⟩
  · exact h.row.kept (row := some B) ⟨rfl, rfl, rfl, by simp [World.setCell], fun k _ hn => Below.heap_setCell _ _ _ _ (fun e => hn (congrArg some e))⟩ (.inr hrow)
  · exact ⟨hf.os, hf.tape, hf.output, by simp [World.setCell]; exact hf.size, fun k hk hn hc => (hoth k (by omega)).trans (hf.block k hk hn hc)⟩
  · simp [World.setCell, Array.getElem?_modify, hb]
theorem RR.put {w u : World} {p : PV} {Bc mb n : Nat} {v : Value} {zs : List BU} {s : ByteArray} {ds : Array Value} (h : RR w u p Bc mb n v zs s ds) (o : Nat) (x : Value) : RR w (u.setCell ⟨w.heap.size + 1, o, none⟩ x) p Bc mb n v zs s (ds.setIfInBounds o x) := by
  obtain ⟨h1, h2, h3, h4⟩ := h.cr.put h.fr h.b2 (Nat.le_add_right _ _) o x
  exact ⟨(h4 _ (by omega)).trans h.b1, h3, h1, h2, h.lt⟩
/-- .. and the descriptor that was read, in its box. -/
structure RD (w u : World) (p : PV) (Bc mb n : Nat) (v : Value) (zs : List BU) (s : ByteArray) (ds : Array Value) (B3 : Nat) (cs : Array Value) : Prop where
  rr : RR w u p Bc mb n v zs s ds
  box : u.heap[B3]? = some (.cells cs 68 (0, 0))
  ge : w.heap.size + 2 ≤ B3
theorem RD.lt {w u : World} {p : PV} {Bc mb n : Nat} {v : Value} {zs : List BU} {s : ByteArray} {B3 : Nat} {ds cs : Array Value} (h : RD w u p Bc mb n v zs s ds B3 cs) : B3 < u.heap.size := (Array.getElem?_eq_some_iff.1 h.box).1
theorem RD.new {w u : World} {p : PV} {Bc mb n : Nat} {v : Value} {zs : List BU} {s : ByteArray} {ds : Array Value} (h : RR w u p Bc mb n v zs s ds) (cs : Array Value) : RD w (u.alloc (.cells cs 68)) p Bc mb n v zs s ds u.heap.size cs := ⟨h.step (bx1 _ _), heap_new _ _, by have := h.l2; omega⟩
theorem RD.step {w u u' : World} {p : PV} {Bc mb n : Nat} {v : Value} {zs : List BU} {s : ByteArray} {B3 : Nat} {ds cs : Array Value} (h : RD w u p Bc mb n v zs s ds B3 cs) (hb : Below u.heap.size u u') : RD w u' p Bc mb n v zs s ds B3 cs := ⟨h.rr.step hb, (hb.block _ h.lt).trans h.box, h.ge⟩
theorem RD.add {w u u' : World} {p : PV} {Bc mb n : Nat} {v v' : Value} {zs zs' : List BU} {s : ByteArray} {B3 : Nat} {ds cs : Array Value} (h : RD w u p Bc mb n v zs s ds B3 cs) (hc : CR u' Bc mb n v' zs' s) (hf : FrT u u' Bc) : RD w u' p Bc mb n v' zs' s ds B3 cs := ⟨h.rr.add hc hf, hf.box h.box (by have := h.rr.lt; have := h.ge; omega) (by decide), h.ge⟩
theorem RD.put {w u : World} {p : PV} {Bc mb n : Nat} {v : Value} {zs : List BU} {s : ByteArray} {B3 : Nat} {ds cs : Array Value} (h : RD w u p Bc mb n v zs s ds B3 cs) (o : Nat) (x : Value) : RD w (u.setCell ⟨B3, o, none⟩ x) p Bc mb n v zs s ds B3 (cs.setIfInBounds o x) := by
  have hge := h.ge
  obtain ⟨h1, h2, h3, h4⟩ := h.rr.cr.put h.rr.fr h.box (by omega) o x
  exact ⟨⟨(h4 _ (by omega)).trans h.rr.b1, (h4 _ (by omega)).trans h.rr.b2, h1, h2, h.rr.lt⟩, h3, hge⟩
set_option maxRecDepth 100000 in
set_option maxHeartbeats 4000000 in
theorem readRing_any {w : World} {Bc mb n : Nat} {v : Value} {s : ByteArray} (S R P : Nat) (W : Bool) (h : CR w Bc mb n v [] s) (hn : s.size = n * 256) (hs : s.size ≤ 65536) (hS : 1 ≤ S) (hS2 : S ≤ 16) (hP : P < S) (hR4 : R % 4 = 0) (hR : R + S * 16 ≤ s.size) :
    Calls Try.prog 58 #[.pointer (some ⟨Bc, 0, none⟩), pA ⟨S, R, P, W⟩] w fun e w' => ∃ dd v', e = .returned (.tuple #[dA dd, .int .i64 (rgR s R S P S 0 []).1]) ∧ ((rgR s R S P S 0 []).1 = 0 → dd = (rgR s R S P S 0 []).2.1) ∧ CR w' Bc mb n v' (rgR s R S P S 0 []).2.2 s ∧ FrT w w' Bc := by
  have HPB : Hid (∀ (c : Nat) (u : World), c ≤ 16 → Calls Try.prog 57 #[.agg #[.int .i64 S, .int .i64 R, .int .i64 P, .bool W], .int .i64 c] u fun e w' => e = .returned (.int .i64 ((R + (P + c) % S * 16 : Nat) : Int)) ∧ Below u.heap.size u w') := fun c u hc => placeBehind_any R S P c W u (by omega) hS hS2 hP hc
  have HRD : Hid (∀ (c : Nat) (u : World), MemAt u mb s → Calls Try.prog 56 #[mv mb n, .int .i64 ((R + (P + c) % S * 16 : Nat) : Int)] u fun e w' => e = .returned (dA (dAt s (R + (P + c) % S * 16))) ∧ Below u.heap.size u w') := fun c u hm => by
    have := Nat.mod_lt (P + c) (show 0 < S by omega)
    exact readDesc_any mb n s (R + (P + c) % S * 16) u hm hn hs (by omega) (by omega)
  have HAD : Hid (∀ {u : World} {v : Value} {zs : List BU} (k : Nat), CR u Bc mb n v zs s → zs.length ≤ 1000 → Calls Try.prog 71 #[.pointer (some ⟨Bc, 0, none⟩), buA (bf (dAt s k))] u fun e w' => e = .returned (.int .i64 (adC s zs (bf (dAt s k)))) ∧ ∃ v', CR w' Bc mb n v' (adZ s zs (bf (dAt s k))) s ∧ FrT u w' Bc) := fun k hc hl => crAdd_any hc _ hn hs (dAt_len s k) hl
  have HR0 : Hid (RR w ((w.alloc (.cells #[.int .i64 S, .int .i64 R, .int .i64 P, .bool W] 37)).alloc (.cells dZ 68)) ⟨S, R, P, W⟩ Bc mb n v [] s dZ) := ⟨(TwoBx.of w _ _ _ _ (Below.refl _ _)).b1, (TwoBx.of w _ _ _ _ (Below.refl _ _)).b2, h.below ((bx1 _ _).alloc (by simp) _), FrT.of_below ((bx1 _ _).alloc (by simp) _), h.lt⟩
  have hS3 : (S : Int) ≤ 16 := by omega
  clear h hn hs hP hR4 hR
  unfold pA mv at *
  unfold dZ at HR0
  simp only
  go_enter Try.func58, Try.ntmps58
  go_wp2_with fail
  generalize ((w.alloc (.cells #[.int .i64 S, .int .i64 R, .int .i64 P, .bool W] 37)).alloc (.cells #[.int .i64 0, .int .i64 0, .bool false, .bool false, .bool false, .bool false, .bool false, .int .i64 0] 68)) = W0 at *
  go_loopw [11] (fun i wr => ∃ (c : Nat) (v' : Value) (zs : List BU), c ≤ S ∧ i = .int .i64 c ∧ RR w wr ⟨S, R, P, W⟩ Bc mb n v' zs s #[.int .i64 0, .int .i64 0, .bool false, .bool false, .bool false, .bool false, .bool false, .int .i64 0] ∧ zs.length = c ∧ Hid (rgR s R S P S 0 [] = rgR s R S P (S - c) c zs)) (fun i _ => S - (intOf i).toNat)
  case atStart => exact ⟨0, v, [], Nat.zero_le _, rfl, HR0.out, rfl, rfl⟩
  case round =>
    obtain ⟨c, v', zs, hc, rfl, hrr, hzl, hE⟩ := hrel
    have HRR : Hid _ := hrr
    clear HR0
    by_cases hlt : c < S
    · obtain ⟨f, hf⟩ : ∃ f, S - c = f + 1 := ⟨S - c - 1, by omega⟩
      rw [hf] at hE
      have hcb : (c : Int) < (S : Int) := by omega
      obtain ⟨c0, k0, k1, k2, k3⟩ := hrr.cels
      have ltc := hrr.cr.lt
      have lt2 := hrr.l2
      clear hrr
      have HP1 : Hid _ := fun u => HPB.out c u (by omega)
      have HR1 : Hid _ := fun (u : World) hm => HRD.out c u hm
      have HA1 : Hid _ := fun (u : World) (hm : CR u Bc mb n v' zs s) => HAD.out (R + (P + c) % S * 16) hm (by omega)
      clear HPB HRD HAD
      have HEE : Hid (rgR s R S P (f + 1) c zs = if (dAt s (R + (P + c) % S * 16)).indirect = true then (3, d0, zs) else if adC s zs (bf (dAt s (R + (P + c) % S * 16))) = 0 then (if (dAt s (R + (P + c) % S * 16)).next = true then rgR s R S P f (c + 1) (zs ++ [bf (dAt s (R + (P + c) % S * 16))]) else (0, dAt s (R + (P + c) % S * 16), zs ++ [bf (dAt s (R + (P + c) % S * 16))])) else (adC s zs (bf (dAt s (R + (P + c) % S * 16))), dAt s (R + (P + c) % S * 16), zs)) := rfl
      generalize dAt s (R + (P + c) % S * 16) = dd at *
      generalize R + (P + c) % S * 16 = AT at *
      obtain ⟨e1, e2, e3, e4, e5, e6, e7, e8⟩ := dd
      unfold bf at HA1 HEE
      unfold dA at HR1
      unfold buA at HA1
      simp only at HA1 HEE HR1
      go_upto_region 4 with fail
      go_cut [7] (fun s7 wc => ∃ B3, s7 = .pointer (some ⟨B3, 0, none⟩) ∧ RD w wc ⟨S, R, P, W⟩ Bc mb n v' zs s #[.int .i64 0, .int .i64 0, .bool false, .bool false, .bool false, .bool false, .bool false, .int .i64 0] B3 #[.int .i64 e1, .int .i64 e2, .bool e3, .bool e4, .bool e5, .bool e6, .bool e7, .int .i64 e8])
      case first =>
        have HXR : Hid (RR w wr.drew ⟨S, R, P, W⟩ Bc mb n v' zs s #[.int .i64 0, .int .i64 0, .bool false, .bool false, .bool false, .bool false, .bool false, .int .i64 0]) := HRR.out.step ((Below.refl _ _).drew)
        have HK : Hid _ := HXR.out.cels
        clear c0 k0 k1 k2 k3
        have ltX : Bc < wr.drew.heap.size := ltc
        refine wp_region_held (S := fun w' => w'.cell? ⟨Bc, 0, none⟩ = some (.slice (some ⟨mb, 0, none⟩) n n) ∧ w'.cell? ⟨w.heap.size, 0, none⟩ = some (.int .i64 S) ∧ w'.cell? ⟨w.heap.size, 1, none⟩ = some (.int .i64 R) ∧ w'.cell? ⟨w.heap.size, 2, none⟩ = some (.int .i64 P) ∧ w'.cell? ⟨w.heap.size, 3, none⟩ = some (.bool W)) (by kernel_rfl) ?_
        change wpAnyH _ _ _ _ _ _ _ _ (World.drew _)
        generalize wr.drew = X at *
        refine wpAnyH_take (i := 0) (v := .pointer (some ⟨Bc, 0, none⟩)) rfl (by kernel_rfl) (by kernel_rfl) (by kernel_rfl) (fun _ _ _ h => h) (Or.inl ⟨by kernel_rfl, fun w9 h9 => ?_⟩) HK.out ?_
        · clear h9
          go_simp
        refine wpAnyH_take (i := 1) (v := .pointer (some ⟨Bc, 0, none⟩)) rfl (by kernel_rfl) (by kernel_rfl) (by kernel_rfl) (fun _ _ _ h => h) (Or.inl ⟨by kernel_rfl, fun w9 h9 => ?_⟩) HK.out ?_
        · clear h9
          go_simp
        refine wpAnyH_take (i := 2) (v := .pointer (some ⟨Bc, 0, none⟩)) rfl (by kernel_rfl) (by kernel_rfl) (by kernel_rfl) (fun _ _ _ h => h) (Or.inl ⟨by kernel_rfl, fun w9 h9 => ?_⟩) HK.out ?_
        · clear h9
          go_simp
        refine wpAnyH_take (i := 3) (v := .slice (some ⟨mb, 0, none⟩) n n) rfl (by kernel_rfl) (by kernel_rfl) (by kernel_rfl) (fun _ _ _ h => h) (Or.inl ⟨by kernel_rfl, fun w9 h9 => ?_⟩) HK.out ?_
        · obtain ⟨d0, d1, d2, d3, d4⟩ := h9
          go_simp
        refine wpAnyH_take (i := 4) (v := .agg #[.int .i64 S, .int .i64 R, .int .i64 P, .bool W]) rfl (by kernel_rfl) (by kernel_rfl) (by kernel_rfl) (fun _ _ _ h => h) (Or.inl ⟨by kernel_rfl, fun w9 h9 => ?_⟩) HK.out ?_
        · obtain ⟨d0, d1, d2, d3, d4⟩ := h9
          go_simp
        refine wpAnyH_take (i := 5) (v := .int .i64 c) rfl (by kernel_rfl) (by kernel_rfl) (by kernel_rfl) (fun _ _ _ h => h) (Or.inl ⟨by kernel_rfl, fun w9 h9 => ?_⟩) HK.out ?_
        · clear h9
          go_simp
        refine wpAnyH_all (rs := [6, 8]) (by kernel_rfl) (by simp) (all_two (held_step rfl (by kernel_rfl) fun K hK => ?_) (held_step rfl (by kernel_rfl) fun K hK => ?_))
        · go_simp
          refine Calls.mono (HP1.out _) ?_
          rintro e y1 ⟨rfl, hu⟩
          have H1 : Hid _ := HXR.out.step hu
          clear hu
          go_simp
          refine hK _ _ H1.out.cels ?_
          clear hK K
          refine wpAnyH_all (rs := [7, 8]) (by kernel_rfl) (by simp) (all_two (held_step rfl (by kernel_rfl) fun K hK => ?_) (held_step rfl (by kernel_rfl) fun K hK => ?_))
          · go_simp
            refine Calls.mono (HR1.out _ H1.out.cr.mem) ?_
            rintro e y2 ⟨rfl, hu⟩
            have H2 : Hid _ := H1.out.step hu
            clear hu
            go_simp
            refine hK _ _ H2.out.cels ?_
            clear hK K
            refine held_one 8 (by kernel_rfl) rfl (by kernel_rfl) fun K hK => ?_
            go_simp
            have H3 : Hid _ := RD.new H2.out #[.int .i64 0, .int .i64 0, .bool false, .bool false, .bool false, .bool false, .bool false, .int .i64 0]
            refine hK _ _ H3.out.rr.cels ?_
            clear hK K
            generalize (y2.alloc (.cells #[.int .i64 0, .int .i64 0, .bool false, .bool false, .bool false, .bool false, .bool false, .int .i64 0] 68)) = V at *
            generalize y2.heap.size = B3 at *
            have HP : Hid _ := (((((((H3.out.put 0 (.int .i64 e1)).put 1 (.int .i64 e2)).put 2 (.bool e3)).put 3 (.bool e4)).put 4 (.bool e5)).put 5 (.bool e6)).put 6 (.bool e7)).put 7 (.int .i64 e8)
            have z0 := bxC H3.out.box 0 _ rfl
            have z1 := bxC H3.out.box 1 _ rfl
            have z2 := bxC H3.out.box 2 _ rfl
            have z3 := bxC H3.out.box 3 _ rfl
            have z4 := bxC H3.out.box 4 _ rfl
            have z5 := bxC H3.out.box 5 _ rfl
            have z6 := bxC H3.out.box 6 _ rfl
            have z7 := bxC H3.out.box 7 _ rfl
            have zf := fun k => bxF H3.out.box k
            have zl := H3.out.lt
            refine held_one 9 (by kernel_rfl) rfl (by kernel_rfl) fun K hK => ?_
            go_simp
            refine hK _ _ HP.out.rr.cels ?_
            clear hK K
            refine wpAnyH_done (by kernel_rfl) ?_ _
            go_simp
            go_wp2_with fail
            go_meet
            case rel => exact ⟨_, rfl, HP.out⟩
          · go_simp
            have H3 : Hid _ := RD.new H1.out #[.int .i64 0, .int .i64 0, .bool false, .bool false, .bool false, .bool false, .bool false, .int .i64 0]
            refine hK _ _ H3.out.rr.cels ?_
            clear hK K
            refine held_one 7 (by kernel_rfl) rfl (by kernel_rfl) fun K hK => ?_
            go_simp
            refine Calls.mono (HR1.out _ H3.out.rr.cr.mem) ?_
            rintro e y2 ⟨rfl, hu⟩
            have H4 : Hid _ := H3.out.step hu
            clear hu
            go_simp
            refine hK _ _ H4.out.rr.cels ?_
            clear hK K
            have HP : Hid _ := (((((((H4.out.put 0 (.int .i64 e1)).put 1 (.int .i64 e2)).put 2 (.bool e3)).put 3 (.bool e4)).put 4 (.bool e5)).put 5 (.bool e6)).put 6 (.bool e7)).put 7 (.int .i64 e8)
            have z0 := bxC H4.out.box 0 _ rfl
            have z1 := bxC H4.out.box 1 _ rfl
            have z2 := bxC H4.out.box 2 _ rfl
            have z3 := bxC H4.out.box 3 _ rfl
            have z4 := bxC H4.out.box 4 _ rfl
            have z5 := bxC H4.out.box 5 _ rfl
            have z6 := bxC H4.out.box 6 _ rfl
            have z7 := bxC H4.out.box 7 _ rfl
            have zf := fun k => bxF H4.out.box k
            have zl := H4.out.lt
            refine held_one 9 (by kernel_rfl) rfl (by kernel_rfl) fun K hK => ?_
            go_simp
            refine hK _ _ HP.out.rr.cels ?_
            clear hK K
            refine wpAnyH_done (by kernel_rfl) ?_ _
            go_simp
            go_wp2_with fail
            go_meet
            case rel => exact ⟨_, rfl, HP.out⟩
        · go_simp
          have H3 : Hid _ := RD.new HXR.out #[.int .i64 0, .int .i64 0, .bool false, .bool false, .bool false, .bool false, .bool false, .int .i64 0]
          refine hK _ _ H3.out.rr.cels ?_
          clear hK K
          refine held_one 6 (by kernel_rfl) rfl (by kernel_rfl) fun K hK => ?_
          go_simp
          refine Calls.mono (HP1.out _) ?_
          rintro e y1 ⟨rfl, hu⟩
          have H4 : Hid _ := H3.out.step hu
          clear hu
          go_simp
          refine hK _ _ H4.out.rr.cels ?_
          clear hK K
          refine held_one 7 (by kernel_rfl) rfl (by kernel_rfl) fun K hK => ?_
          go_simp
          refine Calls.mono (HR1.out _ H4.out.rr.cr.mem) ?_
          rintro e y2 ⟨rfl, hu⟩
          have H5 : Hid _ := H4.out.step hu
          clear hu
          go_simp
          refine hK _ _ H5.out.rr.cels ?_
          clear hK K
          have HP : Hid _ := (((((((H5.out.put 0 (.int .i64 e1)).put 1 (.int .i64 e2)).put 2 (.bool e3)).put 3 (.bool e4)).put 4 (.bool e5)).put 5 (.bool e6)).put 6 (.bool e7)).put 7 (.int .i64 e8)
          have z0 := bxC H5.out.box 0 _ rfl
          have z1 := bxC H5.out.box 1 _ rfl
          have z2 := bxC H5.out.box 2 _ rfl
          have z3 := bxC H5.out.box 3 _ rfl
          have z4 := bxC H5.out.box 4 _ rfl
          have z5 := bxC H5.out.box 5 _ rfl
          have z6 := bxC H5.out.box 6 _ rfl
          have z7 := bxC H5.out.box 7 _ rfl
          have zf := fun k => bxF H5.out.box k
          have zl := H5.out.lt
          refine held_one 9 (by kernel_rfl) rfl (by kernel_rfl) fun K hK => ?_
          go_simp
          refine hK _ _ HP.out.rr.cels ?_
          clear hK K
          refine wpAnyH_done (by kernel_rfl) ?_ _
          go_simp
          go_wp2_with fail
          go_meet
          case rel => exact ⟨_, rfl, HP.out⟩
      case rest =>
        obtain ⟨B3, rfl, hrd⟩ := hcut
        have HD3 : Hid _ := hrd
        clear hrd HRR c0 k0 k1 k2 k3 ltc lt2 HP1 HR1
        have z0 := bxC HD3.out.box 0 _ rfl
        have z1 := bxC HD3.out.box 1 _ rfl
        have z2 := bxC HD3.out.box 2 _ rfl
        have z3 := bxC HD3.out.box 3 _ rfl
        have z4 := bxC HD3.out.box 4 _ rfl
        have z5 := bxC HD3.out.box 5 _ rfl
        have z6 := bxC HD3.out.box 6 _ rfl
        have z7 := bxC HD3.out.box 7 _ rfl
        have zl := HD3.out.lt
        have l2 := HD3.out.rr.l2
        cases e5
        · rw [if_neg (by simp)] at HEE
          go_wp2_with fail
          refine Calls.mono (HA1.out _ HD3.out.rr.cr) ?_
          rintro e y3 ⟨rfl, v2, hcr, hfr⟩
          have HD4 : Hid _ := HD3.out.add hcr hfr
          clear hcr hfr HD3 z0 z1 z2 z3 z4 z5 z6 z7 zl l2 HA1
          have z0 := bxC HD4.out.box 0 _ rfl
          have z1 := bxC HD4.out.box 1 _ rfl
          have z2 := bxC HD4.out.box 2 _ rfl
          have z3 := bxC HD4.out.box 3 _ rfl
          have z4 := bxC HD4.out.box 4 _ rfl
          have z5 := bxC HD4.out.box 5 _ rfl
          have z6 := bxC HD4.out.box 6 _ rfl
          have z7 := bxC HD4.out.box 7 _ rfl
          have r0 := bxC HD4.out.rr.b2 0 _ rfl
          have r1 := bxC HD4.out.rr.b2 1 _ rfl
          have r2 := bxC HD4.out.rr.b2 2 _ rfl
          have r3 := bxC HD4.out.rr.b2 3 _ rfl
          have r4 := bxC HD4.out.rr.b2 4 _ rfl
          have r5 := bxC HD4.out.rr.b2 5 _ rfl
          have r6 := bxC HD4.out.rr.b2 6 _ rfl
          have r7 := bxC HD4.out.rr.b2 7 _ rfl
          have rf := fun k => bxF HD4.out.rr.b2 k
          have zl := HD4.out.lt
          have l2 := HD4.out.rr.l2
          have HZZ : Hid (adZ s zs ⟨e1, e2, e3⟩ = if adC s zs ⟨e1, e2, e3⟩ = 0 then zs ++ [⟨e1, e2, e3⟩] else zs) := rfl
          generalize adC s zs ⟨e1, e2, e3⟩ = AC at *
          by_cases hac : AC = 0
          · subst hac
            rw [if_pos rfl] at HEE HZZ
            rw [HZZ.out] at HD4
            clear HZZ
            cases e4
            · rw [if_neg (by simp)] at HEE
              have EE : Hid _ := hE.out.trans HEE.out
              clear HEE hE
              go_wp2_with fail
              have HF : Hid _ := (((((((HD4.out.rr.put 0 (.int .i64 e1)).put 1 (.int .i64 e2)).put 2 (.bool e3)).put 3 (.bool false)).put 4 (.bool false)).put 5 (.bool e6)).put 6 (.bool e7)).put 7 (.int .i64 e8)
              refine bodyPost_ret (v := .tuple #[.agg #[.int .i64 e1, .int .i64 e2, .bool e3, .bool false, .bool false, .bool e6, .bool e7, .int .i64 e8], .int .i64 0]) ?_ rfl ?_
              · simp [results, Try.results58, go_sem, r0, r1, r2, r3, r4, r5, r6, r7]
              · rw [EE.out]
                exact ⟨⟨e1, e2, e3, false, false, e6, e7, e8⟩, _, rfl, fun _ => rfl, HF.out.cr, HF.out.fr⟩
            · rw [if_pos rfl] at HEE
              have EE : Hid _ := hE.out.trans HEE.out
              clear HEE hE
              go_wp2_with fail
              refine ⟨⟨c + 1, v2, zs ++ [⟨e1, e2, e3⟩], by omega, by simp, HD4.out.rr, by simp [hzl], ?_⟩, ?_⟩
              · rw [show S - (c + 1) = f by omega]
                exact EE.out
              · simp [intOf]
                omega
          · rw [if_neg hac] at HEE HZZ
            rw [HZZ.out] at HD4
            clear HZZ
            have EE : Hid _ := hE.out.trans HEE.out
            clear HEE hE
            have hb2 : (AC != 0) = true := by simp [hac]
            have HAC : Hid _ := hac
            clear hac
            go_wp2_with fail
            have HF : Hid _ := (((((((HD4.out.rr.put 0 (.int .i64 e1)).put 1 (.int .i64 e2)).put 2 (.bool e3)).put 3 (.bool e4)).put 4 (.bool false)).put 5 (.bool e6)).put 6 (.bool e7)).put 7 (.int .i64 e8)
            refine bodyPost_ret (v := .tuple #[.agg #[.int .i64 e1, .int .i64 e2, .bool e3, .bool e4, .bool false, .bool e6, .bool e7, .int .i64 e8], .int .i64 AC]) ?_ rfl ?_
            · simp [results, Try.results58, go_sem, r0, r1, r2, r3, r4, r5, r6, r7]
            · rw [EE.out]
              exact ⟨⟨e1, e2, e3, e4, false, e6, e7, e8⟩, _, rfl, fun h => absurd h HAC.out, HF.out.cr, HF.out.fr⟩
        · rw [if_pos rfl] at HEE
          have EE : Hid _ := hE.out.trans HEE.out
          clear HEE hE HA1
          have r0 := bxC HD3.out.rr.b2 0 _ rfl
          have r1 := bxC HD3.out.rr.b2 1 _ rfl
          have r2 := bxC HD3.out.rr.b2 2 _ rfl
          have r3 := bxC HD3.out.rr.b2 3 _ rfl
          have r4 := bxC HD3.out.rr.b2 4 _ rfl
          have r5 := bxC HD3.out.rr.b2 5 _ rfl
          have r6 := bxC HD3.out.rr.b2 6 _ rfl
          have r7 := bxC HD3.out.rr.b2 7 _ rfl
          have rf := fun k => bxF HD3.out.rr.b2 k
          go_wp2_with fail
          have HF : Hid _ := (((((((HD3.out.rr.put 0 (.int .i64 0)).put 1 (.int .i64 0)).put 2 (.bool false)).put 3 (.bool false)).put 4 (.bool false)).put 5 (.bool false)).put 6 (.bool false)).put 7 (.int .i64 0)
          refine bodyPost_ret (v := .tuple #[.agg #[.int .i64 0, .int .i64 0, .bool false, .bool false, .bool false, .bool false, .bool false, .int .i64 0], .int .i64 3]) ?_ rfl ?_
          · simp [results, Try.results58, go_sem, r0, r1, r2, r3, r4, r5, r6, r7]
          · rw [EE.out]
            exact ⟨d0, _, rfl, fun h => absurd h (show ¬ (3 : Int) = 0 by decide), HF.out.cr, HF.out.fr⟩
    · obtain rfl : c = S := by omega
      have EE : Hid (rgR s R c P c 0 [] = (9, d0, zs)) := (show rgR s R c P c 0 [] = (9, d0, zs) by rw [hE.out, Nat.sub_self]; rfl)
      clear hE HPB HRD HAD
      have l2 := hrr.l2
      have r0 := bxC HRR.out.b2 0 _ rfl
      have r1 := bxC HRR.out.b2 1 _ rfl
      have r2 := bxC HRR.out.b2 2 _ rfl
      have r3 := bxC HRR.out.b2 3 _ rfl
      have r4 := bxC HRR.out.b2 4 _ rfl
      have r5 := bxC HRR.out.b2 5 _ rfl
      have r6 := bxC HRR.out.b2 6 _ rfl
      have r7 := bxC HRR.out.b2 7 _ rfl
      have rf := fun k => bxF HRR.out.b2 k
      clear hrr
      go_wp2_with fail
      have HF : Hid _ := (((((((HRR.out.put 0 (.int .i64 0)).put 1 (.int .i64 0)).put 2 (.bool false)).put 3 (.bool false)).put 4 (.bool false)).put 5 (.bool false)).put 6 (.bool false)).put 7 (.int .i64 0)
      refine bodyPost_ret (v := .tuple #[.agg #[.int .i64 0, .int .i64 0, .bool false, .bool false, .bool false, .bool false, .bool false, .int .i64 0], .int .i64 9]) ?_ rfl ?_
      · simp [results, Try.results58, go_sem, r0, r1, r2, r3, r4, r5, r6, r7]
      · rw [EE.out]
        exact ⟨d0, _, rfl, fun h => absurd h (show ¬ (9 : Int) = 0 by decide), HF.out.cr, HF.out.fr⟩
end Go.Proofs.Ytggciigjhlbhhaa
