import Derived.Test.YthhbfghbpapklabGv2
import Derived.Test.YthhbfghbpapklabPb4
import Derived.Test.YthhbfghbpapklabTc3
namespace Go.Proofs.Ythhbfghbpapklab
open Go.ChangeShapes Go.WideShapes Go.ChangeAt Go.RowKit

theorem adC_in {s : ByteArray} {zs : List BU} {z : BU} (h : adC s zs z = 0) : inW s.size z.pos z.len = true := by
  unfold adC at h
  split at h
  · assumption
  · exact absurd h (by decide)
theorem rdT_in (s : ByteArray) (K : DV → List BU → Int × List BU) (T S : Nat) (hK : ∀ d zs, (∀ z ∈ zs, inW s.size z.pos z.len = true) → ∀ z ∈ (K d zs).2, inW s.size z.pos z.len = true) : ∀ f a zs, (∀ z ∈ zs, inW s.size z.pos z.len = true) → ∀ z ∈ (rdT s K T S f a zs).2, inW s.size z.pos z.len = true
  | 0, a, zs, hz, z, h => by
    unfold rdT at h
    split at h <;> simp at h
  | f + 1, a, zs, hz, z, h => by
    unfold rdT at h
    split at h
    · simp at h
    · split at h
      · exact hK _ _ hz z h
      · split at h
        · rename_i hc
          have hz2 : ∀ x ∈ zs ++ [bf (dAt s (T + a * 16))], inW s.size x.pos x.len = true := fun x hx => by
            rcases List.mem_append.1 hx with hx | hx
            · exact hz x hx
            · obtain rfl : x = bf (dAt s (T + a * 16)) := by simpa using hx
              exact adC_in hc
          split at h
          · exact rdT_in s K T S hK f _ _ hz2 z h
          · exact hz2 z h
        · simp at h
theorem rcR_in (s : ByteArray) (T S a : Nat) : ∀ z ∈ (rcR s T S a).2, inW s.size z.pos z.len = true := by
  refine rdT_in s (KK s false) T S (fun d zs hz => ?_) S a [] (by simp)
  intro z h
  unfold KK at h
  split at h
  · exact rdT_in s _ _ _ (fun _ _ _ x hx => by simp at hx) _ _ _ hz z h
  · simp at h
theorem tcR_ok {s : ByteArray} {S D A T : Nat} {u g h : Int} {p : QV} {zs : List BU} (hq : tcR s S D A T u g = (0, h, p, zs)) : p = ⟨S, D, A, u, ((T + 1) % 65536 : Nat), g⟩ ∧ hsB S h = true ∧ (∀ z ∈ zs, inW s.size z.pos z.len = true) ∧ zs.length ≤ S + 16 := by
  unfold tcR at hq
  split at hq
  · unfold twR at hq
    have hlen := rcH_len s ⟨S, D, A, u, T, g⟩ (wv s (A + 8 + T % S * 4))
    have hc : (rcH s ⟨S, D, A, u, T, g⟩ (wv s (A + 8 + T % S * 4))).1 = 0 := congrArg Prod.fst hq
    have hh : wv s (A + 8 + T % S * 4) = h := congrArg (fun x => x.2.1) hq
    have hp : (⟨S, D, A, u, ((T + 1) % 65536 : Nat), g⟩ : QV) = p := congrArg (fun x => x.2.2.1) hq
    have hz : (rcH s ⟨S, D, A, u, T, g⟩ (wv s (A + 8 + T % S * 4))).2 = zs := congrArg (fun x => x.2.2.2) hq
    rw [hh] at hc hz hlen
    rw [← hz]
    refine ⟨hp.symm, ?_, ?_, by simpa using hlen⟩
    · unfold rcH at hc
      split at hc
      · assumption
      · exact absurd hc (by decide)
    · intro z h9
      unfold rcH at h9
      split at h9
      · split at h9
        · exact rcR_in s _ _ _ z h9
        · simp at h9
      · simp at h9
  · rename_i hw
    exact absurd (congrArg Prod.fst hq) hw
theorem inW_len {n : Nat} {z : BU} (h : inW n z.pos z.len = true) (hn : n ≤ 65536) : 0 ≤ z.len ∧ z.len ≤ 65536 := by
  have := inW_iff.1 h
  omega
/-- A receiving card at work on a chain. -/
structure RV (w u : World) (b mb n t : Nat) (q : QV) (sg : Bool) (rest : Array Value) (s : ByteArray) (g : Nat) (f : ByteArray) (B3 : Nat) (cs : Array Value) : Prop where
  pt : PT u b mb n t q sg rest s
  da : DA u g 0 f
  bx : u.heap[B3]? = some (.cells cs 76 (0, 0))
  fr : Fr2 w u b mb
  ge : w.heap.size ≤ B3
  ltb : b < w.heap.size
  ltg : g < w.heap.size
  ltm : mb < w.heap.size
theorem RV.lt {w u : World} {b mb n t : Nat} {q : QV} {sg : Bool} {rest : Array Value} {s : ByteArray} {g : Nat} {f : ByteArray} {B3 : Nat} {cs : Array Value} (h : RV w u b mb n t q sg rest s g f B3 cs) : B3 < u.heap.size := (Array.getElem?_eq_some_iff.1 h.bx).1
theorem RV.step {w u u' : World} {b mb n t : Nat} {q : QV} {sg : Bool} {rest : Array Value} {s : ByteArray} {g : Nat} {f : ByteArray} {B3 : Nat} {cs : Array Value} (h : RV w u b mb n t q sg rest s g f B3 cs) (hb : Below u.heap.size u u') : RV w u' b mb n t q sg rest s g f B3 cs := ⟨h.pt.below hb, h.da.below hb, (hb.block _ h.lt).trans h.bx, h.fr.below hb, h.ge, h.ltb, h.ltg, h.ltm⟩
theorem RV.mem {w u u' : World} {b mb n t : Nat} {q : QV} {sg : Bool} {rest : Array Value} {s s' : ByteArray} {g : Nat} {f : ByteArray} {B3 : Nat} {cs : Array Value} (h : RV w u b mb n t q sg rest s g f B3 cs) (hg : u.grownBy u' (some mb)) (hm : MemAt u' mb s') (hn : g ≠ mb) : RV w u' b mb n t q sg rest s' g f B3 cs := ⟨h.pt.put hg hm, h.da.grown hg hn, (hg.block _ h.lt (by have := h.ge; have := h.ltm; simp; omega)).trans h.bx, h.fr.growM hg, h.ge, h.ltb, h.ltg, h.ltm⟩
theorem RV.put {w u : World} {b mb n t : Nat} {q : QV} {sg : Bool} {rest : Array Value} {s : ByteArray} {g : Nat} {f : ByteArray} {B3 : Nat} {cs : Array Value} (h : RV w u b mb n t q sg rest s g f B3 cs) (o : Nat) (x : Value) : RV w (u.setCell ⟨B3, o, none⟩ x) b mb n t q sg rest s g f B3 (cs.setIfInBounds o x) := by
  have hge := h.ge
  have h1 := h.ltb
  have h2 := h.ltg
  have h3 := h.ltm
  have hoth : ∀ k, k ≠ B3 → (u.setCell ⟨B3, o, none⟩ x).heap[k]? = u.heap[k]? := fun k hk => Below.heap_setCell _ _ _ _ (by simp; omega)
  refine ⟨⟨(hoth _ (by omega)).trans h.pt.box, (hoth _ (by omega)).trans h.pt.mem, h.pt.ne⟩, ⟨fun j v hv => (World.cell?_of_block (a := ⟨g, 0 + j, none⟩) (hoth g (by omega))).trans (h.da.cel j v hv), by simpa [World.setCell] using h.da.lt⟩, ?_, ⟨h.fr.os, h.fr.tape, h.fr.output, by simpa [World.setCell] using h.fr.size, fun k hk h4 h5 => (hoth k (by omega)).trans (h.fr.block k hk h4 h5)⟩, hge, h1, h2, h3⟩
  simp [World.setCell, Array.getElem?_modify, h.bx]
theorem RV.new {w u : World} {b mb n t : Nat} {q : QV} {sg : Bool} {rest : Array Value} {s : ByteArray} {g : Nat} {f : ByteArray} (hp : PT u b mb n t q sg rest s) (hd : DA u g 0 f) (hw : Below w.heap.size w u) (h1 : b < w.heap.size) (h2 : g < w.heap.size) (h3 : mb < w.heap.size) (cs : Array Value) : RV w (u.alloc (.cells cs 76)) b mb n t q sg rest s g f u.heap.size cs := ⟨hp.below (bx1 _ _), hd.below (bx1 _ _), heap_new _ _, ((Fr2.refl w b mb).below hw).below (bx1 _ _), hw.size, h1, h2, h3⟩
/-- What the card does with a frame. -/
def rvR (s : ByteArray) (S D A U T G : Nat) (sg : Bool) (f : ByteArray) : Int × ByteArray × QV × Bool :=
  if (tcR s S D A T U G).1 = 0 then (if rmS (tcR s S D A T U G).2.2.2 < f.size then (4, s, ⟨S, D, A, U, T, G⟩, sg) else (0, gcM (spK s f (tcR s S D A T U G).2.2.2 (tcR s S D A T U G).2.2.2.length).1 S U G (tcR s S D A T U G).2.1 f.size, ⟨S, D, A, U, ((T + 1) % 65536 : Nat), ((G + 1) % 65536 : Nat)⟩, sg || (wv (gcM (spK s f (tcR s S D A T U G).2.2.2 (tcR s S D A T U G).2.2.2.length).1 S U G (tcR s S D A T U G).2.1 f.size) A % 2 == 0))) else ((tcR s S D A T U G).1, s, ⟨S, D, A, U, T, G⟩, sg)
end Go.Proofs.Ythhbfghbpapklab
