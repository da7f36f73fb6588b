import Derived.Test.YtfagohdmepnkkaaOwnB
import Derived.Deep.QuietTactic
import Derived.BigRegion
import Derived.Deep.RegionHeld3
import Derived.Laws.MakeOwn
import Derived.Deep.RegionWith
import Derived.BigQuiet
namespace Go.Proofs.Ytfagohdmepnkkaa
open Go.ChangeShapes Go.WideShapes Go.ChangeAt Go.RowKit

structure TE where
  asid : Int
  page : Int
  frame : Int
  flags : Int
  large : Bool
def teA (m : TE) : Value := .agg #[.int .i64 m.asid, .int .i64 m.page, .int .i64 m.frame, .int .i64 m.flags, .bool m.large]
def teC (m : TE) : List Value := [.int .i64 m.asid, .int .i64 m.page, .int .i64 m.frame, .int .i64 m.flags, .bool m.large]
def teR (zs : List TE) : List Value := zs.flatMap teC
theorem teR_app (xs ys : List TE) : teR (xs ++ ys) = teR xs ++ teR ys := by simp [teR]
theorem teR_len (zs : List TE) : (teR zs).length = zs.length * 5 := by
  induction zs with
  | nil => rfl
  | cons z zs ih =>
    have e : teR (z :: zs) = teC z ++ teR zs := rfl
    rw [e, List.length_append, ih]
    simp [teC]
    omega
theorem teR_at (zs : List TE) (k : Nat) (hk : k < zs.length) (j : Nat) (hj : j < 5) : (teR zs)[k * 5 + j]? = (teC zs[k])[j]? := by
  induction zs generalizing k with
  | nil => simp at hk
  | cons z zs ih =>
    have e : teR (z :: zs) = teC z ++ teR zs := rfl
    have hl : (teC z).length = 5 := rfl
    rw [e]
    cases k with
    | zero =>
      rw [List.getElem?_append_left (by omega)]
      simp
    | succ k =>
      rw [List.getElem?_append_right (by omega), hl, show (k + 1) * 5 + j - 5 = k * 5 + j by omega, ih k (by simpa using hk)]
      simp
theorem te_sl {w : World} {B n : Nat} {v : Value} {xs : List Value} (h : w.ownsRow B 66 5 v n xs) : ∃ ao cap, v = .slice ao n cap := by
  rcases h.2 with ⟨rfl, e⟩ | ⟨g, cap, cur, rfl, _⟩
  · exact ⟨none, 0, by rw [e]⟩
  · exact ⟨_, cap, rfl⟩
theorem te_below {w w' : World} {B n : Nat} {v : Value} {xs : List Value} (h : w.ownsRow B 66 5 v n xs) (hb : Below w.heap.size w w') : w'.ownsRow B 66 5 v n xs :=
  h.kept (row := none) ⟨hb.os, hb.tape, hb.output, hb.size, fun k hk _ => hb.block k hk⟩ (by cases v.ownBlock <;> simp)
theorem te_weak {w : World} {B B' : Nat} {v : Value} {n : Nat} {xs : List Value} (h : w.ownsRow B 66 5 v n xs) (hb : B' ≤ B) : w.ownsRow B' 66 5 v n xs := by
  obtain ⟨hl, h | ⟨g, cap, cur, hv, hg, h1, h2, h3, h4, h5⟩⟩ := h
  · exact ⟨hl, .inl h⟩
  · exact ⟨hl, .inr ⟨g, cap, cur, hv, Nat.le_trans hb hg, h1, h2, h3, h4, h5⟩⟩
theorem te_cast {w : World} {B n n' : Nat} {v : Value} {xs xs' : List Value} (h : w.ownsRow B 66 5 v n xs) (hn : n = n') (hx : xs = xs') : w.ownsRow B 66 5 v n' xs' := by
  subst hn
  subst hx
  exact h
/-- Where a row lies. -/
def TEat (w : World) (g o : Nat) (zs : List TE) : Prop := ∀ (k : Nat) (hk : k < zs.length), w.cell? ⟨g, o + k * 5, none⟩ = some (.int .i64 zs[k].asid) ∧ w.cell? ⟨g, o + k * 5 + 1, none⟩ = some (.int .i64 zs[k].page) ∧ w.cell? ⟨g, o + k * 5 + 2, none⟩ = some (.int .i64 zs[k].frame) ∧ w.cell? ⟨g, o + k * 5 + 3, none⟩ = some (.int .i64 zs[k].flags) ∧ w.cell? ⟨g, o + k * 5 + 4, none⟩ = some (.bool zs[k].large)
/-- A row that may be read. -/
def TErow (w : World) (v : Value) (zs : List TE) : Prop := (zs = [] ∧ ∃ ao cap, v = .slice ao 0 cap) ∨ ∃ g o cap, v = .slice (some ⟨g, o, none⟩) zs.length cap ∧ zs.length ≤ cap ∧ g < w.heap.size ∧ TEat w g o zs
theorem TEat.below {w w' : World} {g o : Nat} {zs : List TE} (h : TEat w g o zs) {B : Nat} (hb : Below B w w') (hg : g < B) : TEat w' g o zs := by
  intro k hk
  have h2 := h k hk
  have e : ∀ x, w'.cell? ⟨g, x, none⟩ = w.cell? ⟨g, x, none⟩ := fun x => World.cell?_of_block (hb.block g hg)
  simp only [e]
  exact h2
theorem TErow.below {w w' : World} {v : Value} {zs : List TE} (h : TErow w v zs) (hb : Below w.heap.size w w') : TErow w' v zs := by
  rcases h with h | ⟨g, o, cap, hv, hc, hg, ha⟩
  · exact .inl h
  · exact .inr ⟨g, o, cap, hv, hc, Nat.lt_of_lt_of_le hg hb.size, ha.below hb hg⟩
theorem TErow.sl {w : World} {v : Value} {zs : List TE} (h : TErow w v zs) : ∃ ao cap, v = .slice ao zs.length cap := by
  rcases h with ⟨rfl, ao, cap, rfl⟩ | ⟨g, o, cap, rfl, _⟩
  · exact ⟨_, _, rfl⟩
  · exact ⟨_, _, rfl⟩
theorem TErow.of {w : World} {B : Nat} {v : Value} {zs : List TE} (h : w.ownsRow B 66 5 v zs.length (teR zs)) : TErow w v zs := by
  rcases h.2 with ⟨rfl, e⟩ | ⟨g, cap, cur, rfl, hB, hg, hc, rest⟩
  · exact .inl ⟨List.length_eq_zero_iff.1 e, _, _, by rfl⟩
  · have h2 : w.ownsRow B 66 5 (.slice (some ⟨g, 0, none⟩) zs.length cap) zs.length (teR zs) := h
    refine .inr ⟨g, 0, cap, rfl, hc, (Array.getElem?_eq_some_iff.1 hg).1, fun k hk => ?_⟩
    simp only [Nat.zero_add]
    have a0 := h2.cellAt (k * 5 + 0) (by omega)
    have a1 := h2.cellAt (k * 5 + 1) (by omega)
    have a2 := h2.cellAt (k * 5 + 2) (by omega)
    have a3 := h2.cellAt (k * 5 + 3) (by omega)
    have a4 := h2.cellAt (k * 5 + 4) (by omega)
    rw [teR_at zs k hk _ (by omega)] at a0 a1 a2 a3 a4
    exact ⟨a0, a1, a2, a3, a4⟩

theorem teR_set (zs : List TE) (k : Nat) (m : TE) (hk : k < zs.length) : ((((((teR zs).set (k * 5) (.int .i64 m.asid)).set (k * 5 + 1) (.int .i64 m.page)).set (k * 5 + 2) (.int .i64 m.frame)).set (k * 5 + 3) (.int .i64 m.flags)).set (k * 5 + 4) (.bool m.large)) = teR (zs.set k m) := by
  induction zs generalizing k with
  | nil => simp at hk
  | cons z zs ih =>
    have e : teR (z :: zs) = teC z ++ teR zs := rfl
    have hl : (teC z).length = 5 := rfl
    cases k with
    | zero =>
      rw [e, List.set_cons_zero]
      show _ = teC m ++ teR zs
      rfl
    | succ k =>
      rw [e, List.set_cons_succ]
      show _ = teC z ++ teR (zs.set k m)
      rw [List.set_append_right _ _ (by omega), List.set_append_right _ _ (by omega), List.set_append_right _ _ (by omega), List.set_append_right _ _ (by omega), List.set_append_right _ _ (by omega), hl,
        show (k + 1) * 5 - 5 = k * 5 by omega, show (k + 1) * 5 + 1 - 5 = k * 5 + 1 by omega, show (k + 1) * 5 + 2 - 5 = k * 5 + 2 by omega, show (k + 1) * 5 + 3 - 5 = k * 5 + 3 by omega, show (k + 1) * 5 + 4 - 5 = k * 5 + 4 by omega, ih k (by simpa using hk)]
theorem gbTE {w0 w u : World} {r : Option Nat} (h : w0.grownBy w r) (hg : w.grownBy u r) : w0.grownBy u r :=
  ⟨hg.os.trans h.os, hg.tape.trans h.tape, hg.output.trans h.output, Nat.le_trans h.size hg.size, fun k hk hn => (hg.block k (Nat.lt_of_lt_of_le hk h.size) hn).trans (h.block k hk hn)⟩
theorem te_cells {w : World} {B g cap m : Nat} {zs : List TE} (h : w.ownsRow B 66 5 (.slice (some ⟨g, 0, none⟩) m cap) m (teR zs)) (hm : zs.length = m) (k : Nat) (hk : k < zs.length) : ∃ y : TE, w.cell? ⟨g, k * 5, none⟩ = some (.int .i64 y.asid) ∧ w.cell? ⟨g, k * 5 + 1, none⟩ = some (.int .i64 y.page) ∧ w.cell? ⟨g, k * 5 + 2, none⟩ = some (.int .i64 y.frame) ∧ w.cell? ⟨g, k * 5 + 3, none⟩ = some (.int .i64 y.flags) ∧ w.cell? ⟨g, k * 5 + 4, none⟩ = some (.bool y.large) := by
  subst hm
  rcases TErow.of h with ⟨e, _⟩ | ⟨g2, o, cap2, hv, _, _, hc⟩
  · rw [e] at hk
    simp at hk
  · injection hv with e1
    injection e1 with e2
    obtain ⟨rfl, rfl⟩ : g = g2 ∧ 0 = o := ⟨congrArg Addr.block e2, congrArg Addr.off e2⟩
    have h3 := hc k hk
    simp only [Nat.zero_add] at h3
    exact ⟨zs[k], h3⟩
/-- An element put. -/
theorem own_setTE {w : World} {B g cap : Nat} {zs : List TE} (h : w.ownsRow B 66 5 (.slice (some ⟨g, 0, none⟩) zs.length cap) zs.length (teR zs)) (k : Nat) (hk : k < zs.length) (m : TE) :
    (((((w.setCell ⟨g, k * 5, none⟩ (.int .i64 m.asid)).setCell ⟨g, k * 5 + 1, none⟩ (.int .i64 m.page)).setCell ⟨g, k * 5 + 2, none⟩ (.int .i64 m.frame)).setCell ⟨g, k * 5 + 3, none⟩ (.int .i64 m.flags)).setCell ⟨g, k * 5 + 4, none⟩ (.bool m.large)).ownsRow B 66 5 (.slice (some ⟨g, 0, none⟩) zs.length cap) zs.length (teR (zs.set k m)) ∧
    w.grownBy (((((w.setCell ⟨g, k * 5, none⟩ (.int .i64 m.asid)).setCell ⟨g, k * 5 + 1, none⟩ (.int .i64 m.page)).setCell ⟨g, k * 5 + 2, none⟩ (.int .i64 m.frame)).setCell ⟨g, k * 5 + 3, none⟩ (.int .i64 m.flags)).setCell ⟨g, k * 5 + 4, none⟩ (.bool m.large)) (some g) := by
  have s1 := h.stored (k * 5) (.int .i64 m.asid)
  have s2 := s1.1.stored (k * 5 + 1) (.int .i64 m.page)
  have s3 := s2.1.stored (k * 5 + 2) (.int .i64 m.frame)
  have s4 := s3.1.stored (k * 5 + 3) (.int .i64 m.flags)
  have s5 := s4.1.stored (k * 5 + 4) (.bool m.large)
  rw [teR_set zs k m hk] at s5
  exact ⟨s5.1, (gbTE (gbTE (gbTE (gbTE s1.2 s2.2) s3.2) s4.2) s5.2)⟩

def te0 : TE := ⟨0, 0, 0, 0, false⟩

/-- Whether an entry is right. -/
def teOk (z : TE) : Bool := decide (0 ≤ z.asid ∧ z.asid ≤ 255 ∧ 0 ≤ z.page ∧ z.page ≤ 1023 ∧ 0 ≤ z.frame ∧ z.frame ≤ 1023 ∧ 0 ≤ z.flags ∧ z.flags ≤ 255) && (!z.large || (decide (z.page % 32 = 0) && decide (z.frame % 32 = 0)))
theorem teOk_bad {a p f g : Int} {l : Bool} (h : ¬ (0 ≤ a ∧ a ≤ 255 ∧ 0 ≤ p ∧ p ≤ 1023 ∧ 0 ≤ f ∧ f ≤ 1023 ∧ 0 ≤ g ∧ g ≤ 255)) : teOk ⟨a, p, f, g, l⟩ = false := by
  unfold teOk
  rw [decide_eq_false h]
  rfl
theorem teOk_in {a p f g : Int} {l : Bool} (h : 0 ≤ a ∧ a ≤ 255 ∧ 0 ≤ p ∧ p ≤ 1023 ∧ 0 ≤ f ∧ f ≤ 1023 ∧ 0 ≤ g ∧ g ≤ 255) : teOk ⟨a, p, f, g, l⟩ = (!l || (decide (p % 32 = 0) && decide (f % 32 = 0))) := by
  unfold teOk
  rw [decide_eq_true h]
  rfl
set_option maxRecDepth 100000 in
set_option maxHeartbeats 4000000 in
theorem specEntry_any (z : TE) (w : World) : Calls Try.prog 81 #[teA z] w fun e w' => e = .returned (.bool (teOk z)) ∧ Below w.heap.size w w' := by
  obtain ⟨a, p, f, g, l⟩ := z
  unfold teA
  go_enter Try.func81, Try.ntmps81
  go_wp2
  all_goals go_ret
  all_goals refine ⟨ret_bool ?_, (Below.refl _ _).alloc (Nat.le_refl _) _⟩
  all_goals first
    | rw [teOk_bad (by omega)]
    | (rw [teOk_in (by omega)]; simp [*] <;> rfl)
set_option maxRecDepth 100000 in
set_option maxHeartbeats 4000000 in
theorem implEntry_any (z : TE) (w : World) : Calls Try.prog 79 #[teA z] w fun e w' => e = .returned (.bool (teOk z)) ∧ Below w.heap.size w w' := by
  obtain ⟨a, p, f, g, l⟩ := z
  unfold teA
  go_enter Try.func79, Try.ntmps79
  go_wp2
  all_goals go_ret
  all_goals refine ⟨ret_bool ?_, (Below.refl _ _).alloc (Nat.le_refl _) _⟩
  all_goals first
    | rw [teOk_bad (by omega)]
    | (rw [teOk_in (by omega)]; simp [*] <;> rfl)
/-- Whether two entries stand for one page of one space. -/
def same (x y : TE) : Bool := decide (x.asid = y.asid) && decide (x.page = y.page) && (x.large == y.large)
theorem cel5 {u : World} {b t : Nat} {a0 a1 a2 a3 a4 : Value} (h : u.heap[b]? = some (.cells #[a0, a1, a2, a3, a4] t (0, 0))) : u.cell? ⟨b, 0, none⟩ = some a0 ∧ u.cell? ⟨b, 1, none⟩ = some a1 ∧ u.cell? ⟨b, 2, none⟩ = some a2 ∧ u.cell? ⟨b, 3, none⟩ = some a3 ∧ u.cell? ⟨b, 4, none⟩ = some a4 := by
  simp [World.cell?, h]
/-- A box that holds an entry. -/
def BoxE (w : World) (b : Nat) (e : TE) : Prop := w.heap[b]? = some (.cells #[.int .i64 e.asid, .int .i64 e.page, .int .i64 e.frame, .int .i64 e.flags, .bool e.large] 66 (0, 0))
theorem BoxE.lt {w : World} {b : Nat} {e : TE} (h : BoxE w b e) : b < w.heap.size := (Array.getElem?_eq_some_iff.1 h).1
set_option maxRecDepth 100000 in
set_option maxHeartbeats 4000000 in
theorem spotFn_any (x e : TE) (b : Nat) (w : World) (h : BoxE w b e) : Calls Try.prog 115 #[teA x, .pointer (some ⟨b, 0, none⟩)] w fun r w' => r = .returned (.bool (same x e)) ∧ Below w.heap.size w w' := by
  obtain ⟨a, p, f, g, l⟩ := x
  obtain ⟨a2, p2, f2, g2, l2⟩ := e
  have hb := h.lt
  obtain ⟨c0, c1, c2, c3, c4⟩ := cel5 h
  clear h
  unfold teA
  go_enter Try.func115, Try.ntmps115
  go_wp2
  all_goals go_ret
  all_goals refine ⟨ret_bool ?_, (Below.refl _ _).alloc (Nat.le_refl _) _⟩
  all_goals simp [same, *]

/-- The number of the first that is so, or -1. -/
def idxI (p : TE → Bool) (zs : List TE) : Int := match zs.findIdx? p with | some k => (k : Int) | none => -1
theorem idxI_at {p : TE → Bool} {zs : List TE} {k : Nat} (hk : k < zs.length) (h : p zs[k] = true) (hn : ∀ j (hj : j < k), p (zs[j]'(Nat.lt_trans hj hk)) = false) : idxI p zs = k := by
  have : zs.findIdx? p = some k := List.findIdx?_eq_some_iff_getElem.2 ⟨hk, h, fun j hj => by rw [hn j hj]; decide⟩
  simp [idxI, this]
theorem idxI_none {p : TE → Bool} {zs : List TE} (hn : ∀ j (hj : j < zs.length), p zs[j] = false) : idxI p zs = -1 := by
  have : zs.findIdx? p = none := List.findIdx?_eq_none_iff.2 fun x hx => by
    obtain ⟨j, hj, rfl⟩ := List.getElem_of_mem hx
    exact hn j hj
  simp [idxI, this]
set_option maxRecDepth 100000 in
set_option maxHeartbeats 4000000 in
/-- The first of a row for which a function answers yes. -/
theorem indexFunc_any {w : World} {v : Value} {zs : List TE} (h : TErow w v zs) (hl : zs.length ≤ 1048576) (F : Nat) (caps : Array Value) (p : TE → Bool) (hcf : ∀ (xs : Array Value) (w' : World), (callFunc F xs).run Try.prog w' = .ok (.enter F xs) w')
    (hf : ∀ (x : TE) (w' : World), Below w.heap.size w w' → Calls Try.prog F (#[teA x] ++ caps) w' fun r w'' => r = .returned (.bool (p x)) ∧ Below w'.heap.size w' w'') :
    Calls Try.prog 86 #[v, .func (.func F) #[] caps] w fun r w' => r = .returned (.int .i64 (idxI p zs)) ∧ Below w.heap.size w w' := by
  obtain ⟨ao, cap, rfl⟩ := h.sl
  have HR : Hid (TErow w (.slice ao zs.length cap) zs) := h
  have HF : Hid (∀ (x : TE) (w' : World), Below w.heap.size w w' → Calls Try.prog F (#[teA x] ++ caps) w' fun r w'' => r = .returned (.bool (p x)) ∧ Below w'.heap.size w' w'') := hf
  clear h hf
  go_enter Try.func86, Try.ntmps86
  go_wp2
  go_loopw [8] (fun i wr => ∃ k : Nat, k ≤ zs.length ∧ i = .int .i64 k ∧ (∀ j (hj : j < k) (hz : j < zs.length), p zs[j] = false) ∧ Below w.heap.size w wr) (fun i _ => zs.length - (intOf i).toNat)
  case atStart => exact ⟨0, Nat.zero_le _, rfl, fun j hj => absurd hj (Nat.not_lt_zero _), Below.refl _ _⟩
  case round =>
    obtain ⟨k, hk, rfl, hno, hb⟩ := hrel
    have HN : Hid (∀ j (hj : j < k) (hz : j < zs.length), p zs[j] = false) := hno
    have HB : Hid (Below w.heap.size w wr) := hb
    by_cases hlt : k < zs.length
    · obtain ⟨g, o, cap2, hv, _, hg, hc⟩ := HR.out.resolve_left (fun h => by rw [h.1] at hlt; simp at hlt)
      injection hv with hv1 hv2 hv3
      subst hv1 hv3
      obtain ⟨d0, d1, d2, d3, d4⟩ := hc.below hb hg k hlt
      obtain ⟨z, hz⟩ : ∃ z, zs[k] = z := ⟨_, rfl⟩
      rw [hz] at d0 d1 d2 d3 d4
      have HZ : Hid (zs[k] = z) := hz
      have hk0 : (0 : Int) ≤ (k : Int) := by omega
      have hk1 : (k : Int) < (zs.length : Int) := by omega
      clear hc hno hb hz
      go_wp2_with fail
      refine Calls.mono (HF.out z _ HB.out) ?_
      rintro r u5 ⟨rfl, hu5⟩
      have HB5 : Hid (Below w.heap.size w u5) := HB.out.trans (hu5.mono HB.out.size)
      clear hu5
      cases hp : p z
      · go_wp2
        refine ⟨⟨k + 1, hlt, by simp, fun j hj hz => ?_, HB5.out⟩, ?_⟩
        · by_cases hjk : j = k
          · subst hjk
            rw [HZ.out]
            exact hp
          · exact HN.out j (by omega) hz
        simp [intOf]
        omega
      · go_wp2
        go_ret
        refine ⟨ret_int (idxI_at hlt (by rw [HZ.out]; exact hp) (fun j hj => HN.out j hj (by omega))).symm, HB5.out⟩
    · obtain rfl : k = zs.length := by omega
      clear hno hb
      go_wp2
      go_ret
      exact ⟨ret_int (idxI_none (fun j hj => HN.out j hj hj)).symm, HB.out⟩
theorem cfSpot : ∀ (xs : Array Value) (w' : World), (callFunc 115 xs).run Try.prog w' = .ok (.enter 115 xs) w' := by
  intro xs w'
  kernel_rfl
set_option maxRecDepth 100000 in
set_option maxHeartbeats 4000000 in
theorem tlbSpot_any {w : World} {v : Value} {zs : List TE} (h : TErow w v zs) (e : TE) (hl : zs.length ≤ 1048576) : Calls Try.prog 80 #[v, teA e] w fun r w' => r = .returned (.int .i64 (idxI (fun x => same x e) zs)) ∧ Below w.heap.size w w' := by
  obtain ⟨ao, cap, rfl⟩ := h.sl
  have hal : Below w.heap.size w (w.alloc (.cells #[.int .i64 e.asid, .int .i64 e.page, .int .i64 e.frame, .int .i64 e.flags, .bool e.large] 66)) := (Below.refl _ _).alloc (Nat.le_refl _) _
  have hbox : BoxE (w.alloc (.cells #[.int .i64 e.asid, .int .i64 e.page, .int .i64 e.frame, .int .i64 e.flags, .bool e.large] 66)) w.heap.size e := heap_new _ _
  have HI : Hid _ := indexFunc_any (h.below hal) hl 115 #[.pointer (some ⟨w.heap.size, 0, none⟩)] (fun x => same x e) cfSpot (fun x w' hw' => spotFn_any x e w.heap.size w' ((hw'.block _ hbox.lt).trans hbox))
  have HA : Hid _ := hal
  unfold teA
  clear h hbox hal
  go_enter Try.func80, Try.ntmps80
  go_wp2_with (go_at_call 86; refine Calls.mono HI.out ?_; rintro r u5 ⟨rfl, hu5⟩)
  go_ret
  exact ⟨rfl, HA.out.trans (hu5.mono HA.out.size)⟩

theorem idxI_no {p : TE → Bool} {zs : List TE} (h : zs.any p = false) : idxI p zs = -1 :=
  idxI_none fun j hj => by
    have := List.any_eq_false.1 h zs[j] (List.getElem_mem hj)
    simpa using this
theorem idxI_yes {p : TE → Bool} {zs : List TE} (h : zs.any p = true) : 0 ≤ idxI p zs ∧ idxI p zs < zs.length := by
  unfold idxI
  cases hq : zs.findIdx? p with
  | none =>
    obtain ⟨x, hx, hp⟩ := List.any_eq_true.1 h
    have := List.findIdx?_eq_none_iff.1 hq x hx
    rw [hp] at this
    cases this
  | some k =>
    have := (List.findIdx?_eq_some_iff_getElem.1 hq).1
    simp only
    omega
/-- Whether entry k is right, and unlike all ahead of it. -/
def tok (zs : List TE) (k : Nat) : Bool := teOk (zs.getD k te0) && !((zs.take k).any fun x => same x (zs.getD k te0))
def allOk (zs : List TE) (k : Nat) : Bool := (List.range k).all (tok zs)
theorem allOk_succ (zs : List TE) (k : Nat) : allOk zs (k + 1) = (allOk zs k && tok zs k) := by simp [allOk, List.range_succ]
theorem allOk_bad {zs : List TE} {k m : Nat} (hk : k < m) (h : tok zs k = false) : allOk zs m = false := by
  unfold allOk
  rw [List.all_eq_false]
  exact ⟨k, List.mem_range.2 hk, by rw [h]; decide⟩
theorem tok_eq {zs : List TE} {k : Nat} (hk : k < zs.length) : tok zs k = (teOk zs[k] && !((zs.take k).any fun x => same x zs[k])) := by
  simp [tok, List.getD, List.getElem?_eq_getElem hk]
/-- What TlbFault answers. -/
def tlbC (zs : List TE) (nx : Int) : Int := if zs.length ≤ 16 ∧ 0 ≤ nx ∧ nx ≤ 15 ∧ allOk zs zs.length = true then 0 else 1
theorem tlbC_no {zs : List TE} {nx : Int} {k : Nat} (hk : k < zs.length) (h : tok zs k = false) : tlbC zs nx = 1 := by
  unfold tlbC
  rw [if_neg]
  intro h2
  rw [allOk_bad hk h] at h2
  exact absurd h2.2.2.2 (by decide)
def tlA (v : Value) (nx : Int) : Value := .agg #[v, .int .i64 nx]
def BoxT (w : World) (b : Nat) (v : Value) (nx : Int) : Prop := w.heap[b]? = some (.cells #[v, .int .i64 nx] 61 (0, 0))
theorem BoxT.cel {w : World} {b : Nat} {v : Value} {nx : Int} (h : BoxT w b v nx) : w.cell? ⟨b, 0, none⟩ = some v ∧ w.cell? ⟨b, 1, none⟩ = some (.int .i64 nx) := by
  unfold BoxT at h
  simp [World.cell?, h]
theorem BoxT.lt {w : World} {b : Nat} {v : Value} {nx : Int} (h : BoxT w b v nx) : b < w.heap.size := (Array.getElem?_eq_some_iff.1 h).1
theorem BoxT.below {w w' : World} {b B : Nat} {v : Value} {nx : Int} (h : BoxT w b v nx) (hb : Below B w w') (hB : b < B) : BoxT w' b v nx := (hb.block b hB).trans h
theorem BoxE.below {w w' : World} {b B : Nat} {e : TE} (h : BoxE w b e) (hb : Below B w w') (hB : b < B) : BoxE w' b e := (hb.block b hB).trans h
set_option maxRecDepth 100000 in
set_option maxHeartbeats 4000000 in
theorem implFaultT_any {w : World} {v : Value} {zs : List TE} (h : TErow w v zs) (nx : Int) (hl : zs.length ≤ 1048576) : Calls Try.prog 31 #[tlA v nx] w fun r w' => r = .returned (.int .i64 (tlbC zs nx)) ∧ Below w.heap.size w w' := by
  obtain ⟨ao, cap, rfl⟩ := h.sl
  unfold tlA
  by_cases hz : zs.length ≤ 16 ∧ 0 ≤ nx ∧ nx ≤ 15
  · obtain ⟨z1, z2, z3⟩ := hz
    have HR : Hid (TErow w (.slice ao zs.length cap) zs) := h
    clear h
    go_enter Try.func31, Try.ntmps31
    go_wp2
    go_loopw [22] (fun i wr => ∃ k : Nat, k ≤ zs.length ∧ i = .int .i64 k ∧ allOk zs k = true ∧ BoxT wr w.heap.size (.slice ao zs.length cap) nx ∧ Below w.heap.size w wr) (fun i _ => zs.length - (intOf i).toNat)
    case atStart => exact ⟨0, Nat.zero_le _, rfl, rfl, heap_new _ _, (Below.refl _ _).alloc (Nat.le_refl _) _⟩
    case round =>
      obtain ⟨k, hk, rfl, hok, hbx, hb⟩ := hrel
      have HOK : Hid (allOk zs k = true) := hok
      have HB : Hid (Below w.heap.size w wr) := hb
      have HX : Hid (BoxT wr w.heap.size (.slice ao zs.length cap) nx) := hbx
      have hxl := hbx.lt
      clear hok hbx
      by_cases hlt : k < zs.length
      · obtain ⟨g, o, cap2, hv, hcp, hg, hc⟩ := HR.out.resolve_left (fun h => by rw [h.1] at hlt; simp at hlt)
        injection hv with hv1 hv2 hv3
        subst hv1 hv3
        obtain ⟨d0, d1, d2, d3, d4⟩ := hc.below hb hg k hlt
        obtain ⟨c0, c1⟩ := HX.out.cel
        have htk := tok_eq hlt
        obtain ⟨z, hz⟩ : ∃ z, zs[k] = z := ⟨_, rfl⟩
        rw [hz] at d0 d1 d2 d3 d4 htk
        have HTK : Hid (tok zs k = (teOk z && !((zs.take k).any fun x => same x z))) := htk
        have hk0 : (0 : Int) ≤ (k : Int) := by omega
        have hk1 : (k : Int) < (zs.length : Int) := by omega
        have hk2 : (k : Int) ≤ (cap : Int) := by omega
        have HC : Hid (TEat wr g o zs) := hc.below hb hg
        have HE : Hid _ := fun w' => implEntry_any z w'
        unfold teA at HE
        clear hc hb htk hz
        have HT : Hid (TErow (wr.alloc (.cells #[.int .i64 z.asid, .int .i64 z.page, .int .i64 z.frame, .int .i64 z.flags, .bool z.large] 66)) (.slice (some ⟨g, o, none⟩) k cap) (zs.take k)) := by
          have h1 : TErow wr (.slice (some ⟨g, o, none⟩) k cap) (zs.take k) := by
            have hl2 : (zs.take k).length = k := by rw [List.length_take]; omega
            refine .inr ⟨g, o, cap, by rw [hl2], by omega, Nat.lt_of_lt_of_le hg HB.out.size, fun j hj => ?_⟩
            have h2 := HC.out j (by omega)
            rw [List.getElem_take]
            exact h2
          exact h1.below ((Below.refl _ _).alloc (Nat.le_refl _) _)
        have HBE : Hid (BoxE (wr.alloc (.cells #[.int .i64 z.asid, .int .i64 z.page, .int .i64 z.frame, .int .i64 z.flags, .bool z.large] 66)) wr.heap.size z) := heap_new _ _
        have HBT : Hid (BoxT (wr.alloc (.cells #[.int .i64 z.asid, .int .i64 z.page, .int .i64 z.frame, .int .i64 z.flags, .bool z.large] 66)) w.heap.size (.slice (some ⟨g, o, none⟩) zs.length cap) nx) := HX.out.below ((Below.refl _ _).alloc (Nat.le_refl _) _) hxl
        have HBW : Hid (Below w.heap.size w (wr.alloc (.cells #[.int .i64 z.asid, .int .i64 z.page, .int .i64 z.frame, .int .i64 z.flags, .bool z.large] 66))) := HB.out.alloc HB.out.size _
        clear HC
        go_wp2_with fail
        generalize wr.alloc (.cells #[.int .i64 z.asid, .int .i64 z.page, .int .i64 z.frame, .int .i64 z.flags, .bool z.large] 66) = W at *
        clear d0 d1 d2 d3 d4 c0 c1
        obtain ⟨c0, c1⟩ := HBT.out.cel
        obtain ⟨e0, e1, e2, e3, e4⟩ := cel5 HBE.out
        have hbl := HBE.out.lt
        have hbt := HBT.out.lt
        cases ht : teOk z
        · rw [ht] at HE
          refine wp_region_any (by kernel_rfl) ?_
          change wpAny _ _ _ _ _ _ _ (World.drew _)
          refine wpAny_ready (rs := [0]) (by kernel_rfl) (by simp) ?_
          refine AllReady.cons rfl (fun K hK => ?_) AllReady.nil
          go_simp
          refine hK _ _ ?_
          clear hK K
          refine wpAny_ready (rs := [1]) (by kernel_rfl) (by simp) ?_
          refine AllReady.cons rfl (fun K hK => ?_) AllReady.nil
          go_simp
          go_wp2_with (go_at_call 79; refine Calls.mono (HE.out W.drew) ?_; rintro e u5 ⟨rfl, hu5⟩; have hb5 : Below W.heap.size W u5 := ⟨hu5.os, hu5.tape, hu5.output, hu5.size, hu5.block⟩; have HB5 : Hid (Below W.heap.size W u5) := hb5; clear hu5 hb5)
          refine wpAny_take (i := 2) (v := .bool true) rfl (by kernel_rfl) (by kernel_rfl) (by kernel_rfl) (fun _ _ _ h => h) (Or.inl ⟨by rfl, fun w9 => ?_⟩) ?_
          · go_simp
          refine wpAny_take (i := 3) (v := .bool true) rfl (by kernel_rfl) (by kernel_rfl) (by kernel_rfl) (fun _ _ _ h => h) (Or.inl ⟨by rfl, fun w9 => ?_⟩) ?_
          · go_simp
          refine wpAny_take (i := 4) (v := undef) rfl (by kernel_rfl) (by kernel_rfl) (by kernel_rfl) (fun _ _ _ h => h) (Or.inr ⟨by kernel_rfl, rfl⟩) ?_
          refine wpAny_take (i := 5) (v := undef) rfl (by kernel_rfl) (by kernel_rfl) (by kernel_rfl) (fun _ _ _ h => h) (Or.inr ⟨by kernel_rfl, rfl⟩) ?_
          refine wpAny_take (i := 6) (v := undef) rfl (by kernel_rfl) (by kernel_rfl) (by kernel_rfl) (fun _ _ _ h => h) (Or.inr ⟨by kernel_rfl, rfl⟩) ?_
          refine wpAny_take (i := 7) (v := undef) rfl (by kernel_rfl) (by kernel_rfl) (by kernel_rfl) (fun _ _ _ h => h) (Or.inr ⟨by kernel_rfl, rfl⟩) ?_
          refine wpAny_take (i := 8) (v := undef) rfl (by kernel_rfl) (by kernel_rfl) (by kernel_rfl) (fun _ _ _ h => h) (Or.inr ⟨by kernel_rfl, rfl⟩) ?_
          refine wpAny_take (i := 9) (v := undef) rfl (by kernel_rfl) (by kernel_rfl) (by kernel_rfl) (fun _ _ _ h => h) (Or.inr ⟨by kernel_rfl, rfl⟩) ?_
          refine wpAny_take (i := 10) (v := undef) rfl (by kernel_rfl) (by kernel_rfl) (by kernel_rfl) (fun _ _ _ h => h) (Or.inr ⟨by kernel_rfl, rfl⟩) ?_
          refine wpAny_take (i := 11) (v := .bool true) rfl (by kernel_rfl) (by kernel_rfl) (by kernel_rfl) (fun _ _ _ h => h) (Or.inl ⟨by rfl, fun w9 => ?_⟩) ?_
          · go_simp
          refine wpAny_done (by kernel_rfl) ?_ _
          go_simp
          all_goals go_wp2
          all_goals go_ret
          refine ⟨ret_int (tlbC_no hlt (by rw [HTK.out, ht]; rfl)).symm, HBW.out.trans (HB5.out.mono HBW.out.size)⟩
        · rw [ht] at HE
          have hsl : (k : Int) ≤ (zs.length : Int) := by omega
          have hsp := fun (u : World) (hu : Below W.heap.size W u) => tlbSpot_any (HT.out.below hu) z (by rw [List.length_take]; omega)
          cases hd : (zs.take k).any fun x => same x z
          · rw [idxI_no hd] at hsp
            have HSP : Hid _ := hsp
            unfold teA at HSP
            clear hsp
            go_region_held3 (fun w' => w'.cell? ⟨wr.heap.size, 0, none⟩ = some (.int .i64 z.asid) ∧ w'.cell? ⟨wr.heap.size, 1, none⟩ = some (.int .i64 z.page) ∧ w'.cell? ⟨wr.heap.size, 2, none⟩ = some (.int .i64 z.frame) ∧ w'.cell? ⟨wr.heap.size, 3, none⟩ = some (.int .i64 z.flags) ∧ w'.cell? ⟨wr.heap.size, 4, none⟩ = some (.bool z.large) ∧ w'.cell? ⟨w.heap.size, 0, none⟩ = some (.slice (some ⟨g, o, none⟩) zs.length cap)) (go_keep) ((first | (go_at_call 79; refine Calls.mono (HE.out W.drew) ?_; rintro e u5 ⟨rfl, hu5⟩; have hb5 : Below W.heap.size W u5 := ⟨hu5.os, hu5.tape, hu5.output, hu5.size, hu5.block⟩; have HB5 : Hid (Below W.heap.size W u5) := hb5; have f0 := (World.cell?_of_block (a := ⟨wr.heap.size, 0, none⟩) (hb5.block _ hbl)).trans e0; have f1 := (World.cell?_of_block (a := ⟨wr.heap.size, 1, none⟩) (hb5.block _ hbl)).trans e1; have f2 := (World.cell?_of_block (a := ⟨wr.heap.size, 2, none⟩) (hb5.block _ hbl)).trans e2; have f3 := (World.cell?_of_block (a := ⟨wr.heap.size, 3, none⟩) (hb5.block _ hbl)).trans e3; have f4 := (World.cell?_of_block (a := ⟨wr.heap.size, 4, none⟩) (hb5.block _ hbl)).trans e4; have f5 := (World.cell?_of_block (a := ⟨w.heap.size, 0, none⟩) (hb5.block _ hbt)).trans c0; clear hu5 hb5) | (go_at_call 80; have hA := HSP.out u5 HB5.out; refine Calls.mono hA ?_; clear hA; rintro r u6 ⟨rfl, hu6⟩; have HB6 : Hid (Below W.heap.size W u6) := HB5.out.trans (hu6.mono HB5.out.size); have f10 := (World.cell?_of_block (a := ⟨wr.heap.size, 0, none⟩) (HB6.out.block _ hbl)).trans e0; have f11 := (World.cell?_of_block (a := ⟨wr.heap.size, 1, none⟩) (HB6.out.block _ hbl)).trans e1; have f12 := (World.cell?_of_block (a := ⟨wr.heap.size, 2, none⟩) (HB6.out.block _ hbl)).trans e2; have f13 := (World.cell?_of_block (a := ⟨wr.heap.size, 3, none⟩) (HB6.out.block _ hbl)).trans e3; have f14 := (World.cell?_of_block (a := ⟨wr.heap.size, 4, none⟩) (HB6.out.block _ hbl)).trans e4; have f15 := (World.cell?_of_block (a := ⟨w.heap.size, 0, none⟩) (HB6.out.block _ hbt)).trans c0; clear hu6)))
            all_goals go_wp2
            all_goals go_roundw
            case rel => exact ⟨k + 1, hlt, by go_num, by rw [allOk_succ, HOK.out, HTK.out, ht, hd]; rfl, HBT.out.below HB6.out hbt, HBW.out.trans (HB6.out.mono HBW.out.size)⟩
            case measure => simp [intOf]; omega
          · obtain ⟨x0, x1⟩ := idxI_yes hd
            generalize idxI (fun x => same x z) (zs.take k) = x at *
            have HSP : Hid _ := hsp
            unfold teA at HSP
            clear hsp x1
            go_region_held3 (fun w' => w'.cell? ⟨wr.heap.size, 0, none⟩ = some (.int .i64 z.asid) ∧ w'.cell? ⟨wr.heap.size, 1, none⟩ = some (.int .i64 z.page) ∧ w'.cell? ⟨wr.heap.size, 2, none⟩ = some (.int .i64 z.frame) ∧ w'.cell? ⟨wr.heap.size, 3, none⟩ = some (.int .i64 z.flags) ∧ w'.cell? ⟨wr.heap.size, 4, none⟩ = some (.bool z.large) ∧ w'.cell? ⟨w.heap.size, 0, none⟩ = some (.slice (some ⟨g, o, none⟩) zs.length cap)) (go_keep) ((first | (go_at_call 79; refine Calls.mono (HE.out W.drew) ?_; rintro e u5 ⟨rfl, hu5⟩; have hb5 : Below W.heap.size W u5 := ⟨hu5.os, hu5.tape, hu5.output, hu5.size, hu5.block⟩; have HB5 : Hid (Below W.heap.size W u5) := hb5; have f0 := (World.cell?_of_block (a := ⟨wr.heap.size, 0, none⟩) (hb5.block _ hbl)).trans e0; have f1 := (World.cell?_of_block (a := ⟨wr.heap.size, 1, none⟩) (hb5.block _ hbl)).trans e1; have f2 := (World.cell?_of_block (a := ⟨wr.heap.size, 2, none⟩) (hb5.block _ hbl)).trans e2; have f3 := (World.cell?_of_block (a := ⟨wr.heap.size, 3, none⟩) (hb5.block _ hbl)).trans e3; have f4 := (World.cell?_of_block (a := ⟨wr.heap.size, 4, none⟩) (hb5.block _ hbl)).trans e4; have f5 := (World.cell?_of_block (a := ⟨w.heap.size, 0, none⟩) (hb5.block _ hbt)).trans c0; clear hu5 hb5) | (go_at_call 80; have hA := HSP.out u5 HB5.out; refine Calls.mono hA ?_; clear hA; rintro r u6 ⟨rfl, hu6⟩; have HB6 : Hid (Below W.heap.size W u6) := HB5.out.trans (hu6.mono HB5.out.size); have f10 := (World.cell?_of_block (a := ⟨wr.heap.size, 0, none⟩) (HB6.out.block _ hbl)).trans e0; have f11 := (World.cell?_of_block (a := ⟨wr.heap.size, 1, none⟩) (HB6.out.block _ hbl)).trans e1; have f12 := (World.cell?_of_block (a := ⟨wr.heap.size, 2, none⟩) (HB6.out.block _ hbl)).trans e2; have f13 := (World.cell?_of_block (a := ⟨wr.heap.size, 3, none⟩) (HB6.out.block _ hbl)).trans e3; have f14 := (World.cell?_of_block (a := ⟨wr.heap.size, 4, none⟩) (HB6.out.block _ hbl)).trans e4; have f15 := (World.cell?_of_block (a := ⟨w.heap.size, 0, none⟩) (HB6.out.block _ hbt)).trans c0; clear hu6)))
            all_goals go_wp2
            all_goals go_ret
            refine ⟨ret_int (tlbC_no hlt (by rw [HTK.out, ht, hd]; rfl)).symm, HBW.out.trans (HB6.out.mono HBW.out.size)⟩
      · obtain rfl : k = zs.length := by omega
        go_wp2
        go_ret
        refine ⟨ret_int ?_, HB.out⟩
        unfold tlbC
        rw [if_pos ⟨z1, z2, z3, HOK.out⟩]
  · have hC : tlbC zs nx = 1 := if_neg (fun h2 => hz ⟨h2.1, h2.2.1, h2.2.2.1⟩)
    rw [hC]
    clear hC
    go_enter Try.func31, Try.ntmps31
    go_wp2
    all_goals first | omega | skip
    all_goals go_ret
    all_goals exact ⟨rfl, (Below.refl _ _).alloc (Nat.le_refl _) _⟩

theorem any_take {zs : List TE} {p : TE → Bool} {j : Nat} (hj : j < zs.length) : (zs.take (j + 1)).any p = ((zs.take j).any p || p zs[j]) := by
  rw [List.take_succ_eq_append_getElem hj, List.any_append]
  simp only [List.any_cons, List.any_nil, Bool.or_false]
theorem any_more {zs : List TE} {p : TE → Bool} {j k : Nat} (hj : j < k) (hk : k ≤ zs.length) (h : p (zs[j]'(Nat.lt_of_lt_of_le hj hk)) = true) : (zs.take k).any p = true := by
  rw [List.any_eq_true]
  refine ⟨zs[j], ?_, h⟩
  rw [List.mem_take_iff_getElem]
  exact ⟨j, by omega, rfl⟩
set_option maxRecDepth 100000 in
set_option maxHeartbeats 4000000 in
theorem specFaultT_any {w : World} {v : Value} {zs : List TE} (h : TErow w v zs) (nx : Int) (hl : zs.length ≤ 1048576) : Calls Try.prog 32 #[tlA v nx] w fun r w' => r = .returned (.int .i64 (tlbC zs nx)) ∧ Below w.heap.size w w' := by
  obtain ⟨ao, cap, rfl⟩ := h.sl
  unfold tlA
  by_cases hz : zs.length ≤ 16 ∧ 0 ≤ nx ∧ nx ≤ 15
  · obtain ⟨z1, z2, z3⟩ := hz
    have HR : Hid (TErow w (.slice ao zs.length cap) zs) := h
    clear h
    go_enter Try.func32, Try.ntmps32
    go_wp2
    go_loopw [3] (fun i wr => ∃ k : Nat, k ≤ zs.length ∧ i = .int .i64 k ∧ allOk zs k = true ∧ BoxT wr w.heap.size (.slice ao zs.length cap) nx ∧ Below w.heap.size w wr) (fun i _ => zs.length - (intOf i).toNat)
    case atStart => exact ⟨0, Nat.zero_le _, rfl, rfl, heap_new _ _, (Below.refl _ _).alloc (Nat.le_refl _) _⟩
    case round =>
      obtain ⟨k, hk, rfl, hok, hbx, hb⟩ := hrel
      have HOK : Hid (allOk zs k = true) := hok
      have HB : Hid (Below w.heap.size w wr) := hb
      have HX : Hid (BoxT wr w.heap.size (.slice ao zs.length cap) nx) := hbx
      have hxl := hbx.lt
      clear hok hbx
      obtain ⟨c0, c1⟩ := HX.out.cel
      by_cases hlt : k < zs.length
      · obtain ⟨g, o, cap2, hv, hcp, hg, hc⟩ := HR.out.resolve_left (fun h => by rw [h.1] at hlt; simp at hlt)
        injection hv with hv1 hv2 hv3
        subst hv1 hv3
        obtain ⟨d0, d1, d2, d3, d4⟩ := hc.below hb hg k hlt
        have htk := tok_eq hlt
        obtain ⟨z, hz⟩ : ∃ z, zs[k] = z := ⟨_, rfl⟩
        rw [hz] at d0 d1 d2 d3 d4 htk
        have HTK : Hid (tok zs k = (teOk z && !((zs.take k).any fun x => same x z))) := htk
        have hk0 : (0 : Int) ≤ (k : Int) := by omega
        have hk1 : (k : Int) < (zs.length : Int) := by omega
        have HC : Hid (TEat (wr.alloc (.cells #[.int .i64 z.asid, .int .i64 z.page, .int .i64 z.frame, .int .i64 z.flags, .bool z.large] 66)) g o zs) := (hc.below hb hg).below ((Below.refl _ _).alloc (Nat.le_refl _) _) (Nat.lt_of_lt_of_le hg hb.size)
        have HE : Hid _ := fun w' => specEntry_any z w'
        unfold teA at HE
        clear hc hb htk hz
        have HBE : Hid (BoxE (wr.alloc (.cells #[.int .i64 z.asid, .int .i64 z.page, .int .i64 z.frame, .int .i64 z.flags, .bool z.large] 66)) wr.heap.size z) := heap_new _ _
        have HBT : Hid (BoxT (wr.alloc (.cells #[.int .i64 z.asid, .int .i64 z.page, .int .i64 z.frame, .int .i64 z.flags, .bool z.large] 66)) w.heap.size (.slice (some ⟨g, o, none⟩) zs.length cap) nx) := HX.out.below ((Below.refl _ _).alloc (Nat.le_refl _) _) hxl
        have HBW : Hid (Below w.heap.size w (wr.alloc (.cells #[.int .i64 z.asid, .int .i64 z.page, .int .i64 z.frame, .int .i64 z.flags, .bool z.large] 66))) := HB.out.alloc HB.out.size _
        have hgW : g < wr.heap.size + 1 := by have := HB.out.size; omega
        cases ht : teOk z
        · rw [ht] at HE
          go_wp2_with (go_at_call 81; refine Calls.mono (HE.out _) ?_; rintro e u5 ⟨rfl, hu5⟩; have HB5 : Hid (Below (wr.alloc (.cells #[.int .i64 z.asid, .int .i64 z.page, .int .i64 z.frame, .int .i64 z.flags, .bool z.large] 66)).heap.size (wr.alloc (.cells #[.int .i64 z.asid, .int .i64 z.page, .int .i64 z.frame, .int .i64 z.flags, .bool z.large] 66)) u5) := hu5; clear hu5)
          go_ret
          exact ⟨ret_int (tlbC_no hlt (by rw [HTK.out, ht]; rfl)).symm, HBW.out.trans (HB5.out.mono HBW.out.size)⟩
        · rw [ht] at HE
          go_wp2_with (go_at_call 81; refine Calls.mono (HE.out _) ?_; rintro e u5 ⟨rfl, hu5⟩; have HB5 : Hid (Below (wr.alloc (.cells #[.int .i64 z.asid, .int .i64 z.page, .int .i64 z.frame, .int .i64 z.flags, .bool z.large] 66)).heap.size (wr.alloc (.cells #[.int .i64 z.asid, .int .i64 z.page, .int .i64 z.frame, .int .i64 z.flags, .bool z.large] 66)) u5) := hu5; clear hu5)
          have hgs : g < (wr.alloc (.cells #[.int .i64 z.asid, .int .i64 z.page, .int .i64 z.frame, .int .i64 z.flags, .bool z.large] 66)).heap.size := by simp; exact hgW
          generalize wr.alloc (.cells #[.int .i64 z.asid, .int .i64 z.page, .int .i64 z.frame, .int .i64 z.flags, .bool z.large] 66) = W at *
          have HC5 : Hid (TEat u5 g o zs) := HC.out.below HB5.out hgs
          have HT5 : Hid (BoxT u5 w.heap.size (.slice (some ⟨g, o, none⟩) zs.length cap) nx) := HBT.out.below HB5.out HBT.out.lt
          have HE5 : Hid (BoxE u5 wr.heap.size z) := HBE.out.below HB5.out HBE.out.lt
          have HW5 : Hid (Below w.heap.size w u5) := HBW.out.trans (HB5.out.mono HBW.out.size)
          clear HC HBT HBE HBW HB5 d0 d1 d2 d3 d4 c0 c1 HE hgs hgW
          obtain ⟨c0, c1⟩ := HT5.out.cel
          obtain ⟨e0, e1, e2, e3, e4⟩ := cel5 HE5.out
          generalize wr.heap.size = eb at *
          clear e2 e3 c1
          go_loopw [5] (fun i w5 => ∃ j : Nat, j ≤ k ∧ i = .int .i64 j ∧ ((zs.take j).any fun x => same x z) = false ∧ w5.heap = u5.heap ∧ Below u5.heap.size u5 w5) (fun i _ => k - (intOf i).toNat)
          case atStart => exact ⟨0, Nat.zero_le _, rfl, rfl, rfl, Below.refl _ _⟩
          case round =>
            obtain ⟨j, hj, rfl, hna, hh, hb6⟩ := hrel
            have hce : ∀ b x, wr.cell? ⟨b, x, none⟩ = u5.cell? ⟨b, x, none⟩ := fun b x => World.cell?_of_block (by rw [hh])
            rw [← hce] at c0 e0 e1 e4
            have HNA : Hid (((zs.take j).any fun x => same x z) = false) := hna
            have HB6 : Hid (Below u5.heap.size u5 wr) := hb6
            have HH : Hid (wr.heap = u5.heap) := hh
            by_cases hjk : j < k
            · have hjz : j < zs.length := by omega
              obtain ⟨d0, d1, d2, d3, d4⟩ := HC5.out j hjz
              rw [← hce] at d0 d1 d2 d3 d4
              have hat := any_take (p := fun x => same x z) hjz
              obtain ⟨y, hy⟩ : ∃ y, zs[j] = y := ⟨_, rfl⟩
              rw [hy] at d0 d1 d2 d3 d4 hat
              have HAT : Hid (((zs.take (j + 1)).any fun x => same x z) = (((zs.take j).any fun x => same x z) || same y z)) := hat
              have HY : Hid (zs[j] = y) := hy
              have hj0 : (0 : Int) ≤ (j : Int) := by omega
              have hj1 : (j : Int) < (zs.length : Int) := by omega
              have hj2 : (j : Int) < (k : Int) := by omega
              clear hat hy hna hb6 hh hce d2 d3
              by_cases q1 : y.asid = z.asid
              · by_cases q2 : y.page = z.page
                · by_cases q3 : y.large = z.large
                  · have QY : Hid (same y z = true) := (show same y z = true by simp [same, q1, q2, q3])
                    have q3b : (y.large == z.large) = true := by simpa using q3
                    clear q3
                    go_wp2
                    go_quiet (fail)
                    go_wp2
                    go_ret
                    exact ⟨ret_int (tlbC_no hlt (by rw [HTK.out, ht, any_more hjk (by omega) (by rw [HY.out]; exact QY.out)]; rfl)).symm, HW5.out.trans ((bdn HB6.out nq).mono HW5.out.size)⟩
                  · have QN : Hid (same y z = false) := (show same y z = false by simp [same, q3])
                    have q3b : (y.large == z.large) = false := by simpa using q3
                    clear q3
                    go_wp2
                    go_quiet (fail)
                    go_wp2
                    refine ⟨⟨j + 1, by omega, by simp, by rw [HAT.out, HNA.out, QN.out]; rfl, HH.out, bdn HB6.out nq⟩, ?_⟩
                    simp [intOf]
                    omega
                · have QN : Hid (same y z = false) := (show same y z = false by simp [same, q2])
                  have q2b : (y.page == z.page) = false := by simpa using q2
                  clear q2
                  go_wp2
                  go_quiet (fail)
                  go_wp2
                  refine ⟨⟨j + 1, by omega, by simp, by rw [HAT.out, HNA.out, QN.out]; rfl, HH.out, bdn HB6.out nq⟩, ?_⟩
                  simp [intOf]
                  omega
              · have QN : Hid (same y z = false) := (show same y z = false by simp [same, q1])
                have q1b : (y.asid == z.asid) = false := by simpa using q1
                clear q1
                go_wp2
                go_quiet (fail)
                go_wp2
                refine ⟨⟨j + 1, by omega, by simp, by rw [HAT.out, HNA.out, QN.out]; rfl, HH.out, bdn HB6.out nq⟩, ?_⟩
                simp [intOf]
                omega
            · obtain rfl : j = k := by omega
              clear hce
              go_wp2
              refine ⟨⟨j + 1, hlt, by simp, by rw [allOk_succ, HOK.out, HTK.out, ht, HNA.out]; rfl, by unfold BoxT; rw [HH.out]; exact HT5.out, HW5.out.trans (HB6.out.mono HW5.out.size)⟩, ?_⟩
              simp [intOf]
              omega
      · obtain rfl : k = zs.length := by omega
        go_wp2
        go_ret
        refine ⟨ret_int ?_, HB.out⟩
        unfold tlbC
        rw [if_pos ⟨z1, z2, z3, HOK.out⟩]
  · have hC : tlbC zs nx = 1 := if_neg (fun h2 => hz ⟨h2.1, h2.2.1, h2.2.2.1⟩)
    rw [hC]
    clear hC
    go_enter Try.func32, Try.ntmps32
    go_wp2
    all_goals first | omega | skip
    all_goals go_ret
    all_goals exact ⟨rfl, (Below.refl _ _).alloc (Nat.le_refl _) _⟩
end Go.Proofs.Ytfagohdmepnkkaa
