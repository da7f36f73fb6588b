import Derived.Test.YtaobbddecmhpnaaImZ
import Derived.Test.YtaobbddecmhpnaaRowIG3
namespace Go.Proofs.Ytaobbddecmhpnaa
open Go.ChangeShapes Go.WideShapes Go.ChangeAt Go.RowKit

/-- The rows of images. -/
structure IGin (w : World) (gs : List IG) (ms : List IM) : Prop where
  len : gs.length = ms.length
  el : ∀ k (hq : k < gs.length) (hc : k < ms.length), gs[k].n = ms[k].n ∧ gs[k].b = ms[k].b ∧ ∃ q, IRows w ms[k] ⟨gs[k].t, gs[k].d, gs[k].s, q⟩
theorem IGin.below {w w' : World} {gs : List IG} {ms : List IM} (h : IGin w gs ms) (hb : Below w.heap.size w w') : IGin w' gs ms :=
  ⟨h.len, fun k hq hc => ⟨(h.el k hq hc).1, (h.el k hq hc).2.1, (h.el k hq hc).2.2.imp fun _ x => x.below hb⟩⟩
theorem SNown.kept {w w' : World} {B g : Nat} {qs : List SN} {cs : List SP} {k : Nat} (h : SNown w B qs cs k) (hg : w.grownBy w' (some g)) (hB : g < B) : SNown w' B qs cs k :=
  ⟨h.len, fun j hq hc hj => ⟨(h.el j hq hc hj).1, (h.el j hq hc hj).2.kept (row := some g) hg (.inr (fun e => by have := ((h.el j hq hc hj).2.lt _ e).1; omega))⟩, h.rest⟩
theorem IOwn.kept {w w' : World} {B g : Nat} {m : IM} {a : IA} (h : IOwn w B m a) (hg : w.grownBy w' (some g)) (hB : g < B) : IOwn w' B m a :=
  ⟨h.t.kept (row := some g) hg (.inr (fun e => by have := (h.t.lt _ e).1; omega)), h.d.kept (row := some g) hg (.inr (fun e => by have := (h.d.lt _ e).1; omega)), h.sn.kept (row := some g) hg (.inr (fun e => by have := (h.sn.lt _ e).1; omega)), h.si.kept hg hB⟩
/-- The rows of new images. -/
structure IGown (w : World) (B : Nat) (gs : List IG) (ms : List IM) (k : Nat) : Prop where
  len : gs.length = ms.length
  el : ∀ j (hq : j < gs.length) (hc : j < ms.length), j < k → gs[j].n = ms[j].n ∧ gs[j].b = ms[j].b ∧ ∃ q, IOwn w B ms[j] ⟨gs[j].t, gs[j].d, gs[j].s, q⟩
  rest : ∀ j (hq : j < gs.length), k ≤ j → gs[j] = ig0
theorem IGown.inn {w : World} {B : Nat} {gs : List IG} {ms : List IM} (h : IGown w B gs ms ms.length) : IGin w gs ms :=
  ⟨h.len, fun k hq hc => ⟨(h.el k hq hc hc).1, (h.el k hq hc hc).2.1, (h.el k hq hc hc).2.2.imp fun _ x => x.rows⟩⟩
theorem IGown.below {w w' : World} {B : Nat} {gs : List IG} {ms : List IM} {k : Nat} (h : IGown w B gs ms k) (hb : Below w.heap.size w w') : IGown w' B gs ms k :=
  ⟨h.len, fun j hq hc hj => ⟨(h.el j hq hc hj).1, (h.el j hq hc hj).2.1, (h.el j hq hc hj).2.2.imp fun _ x => x.below hb⟩, h.rest⟩
theorem IGown.put {w w' : World} {B g : Nat} {gs : List IG} {ms : List IM} {k : Nat} (h : IGown w B gs ms k) (hg : w.grownBy w' (some g)) (hB : g < B) (hk : k < ms.length) {a : IA} (hv : IOwn w B ms[k] a) : IGown w' B (gs.set k ⟨ms[k].n, ms[k].b, a.vt, a.vd, a.vs⟩) ms (k + 1) := by
  refine ⟨by rw [List.length_set]; exact h.len, fun j hq hc hj => ?_, fun j hq hj => ?_⟩
  · by_cases e : j = k
    · subst e
      rw [List.getElem_set_self]
      exact ⟨rfl, rfl, a.qs, hv.kept hg hB⟩
    · rw [List.getElem_set_ne (fun e2 => e e2.symm)]
      have h2 := h.el j (by simpa using hq) hc (by omega)
      exact ⟨h2.1, h2.2.1, h2.2.2.imp fun _ x => x.kept hg hB⟩
  · rw [List.getElem_set_ne (by omega)]
    exact h.rest j (by simpa using hq) (by omega)
theorem IOwn.sl2 {w : World} {B : Nat} {m : IM} {a : IA} (h : IOwn w B m a) : ∃ al kl am km ac kc qs, a = ⟨.slice al m.t.length kl, .slice am m.d.length km, .slice ac qs.length kc, qs⟩ := by
  obtain ⟨vt, vd, vs, qs⟩ := a
  obtain ⟨al, kl, e1⟩ := i_sl h.t
  obtain ⟨am, km, e2⟩ := s_sl h.d
  obtain ⟨ac, kc, e3⟩ := sn_sl h.sn
  simp only at e1 e2 e3
  subst e1 e2 e3
  exact ⟨_, _, _, _, _, _, _, rfl⟩
end Go.Proofs.Ytaobbddecmhpnaa
