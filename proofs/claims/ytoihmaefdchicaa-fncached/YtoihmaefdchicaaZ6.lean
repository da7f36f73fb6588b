import Derived.Test.YtoihmaefdchicaaZ3
import Derived.Deep.QuietTactic
import Derived.BigRegion
import Derived.Deep.RegionHeld3
import Derived.Laws.MakeOwn
import Derived.Deep.RegionWith
import Derived.BigQuiet
namespace Go.Proofs.Ytoihmaefdchicaa
open Go.ChangeShapes Go.WideShapes Go.ChangeAt Go.RowKit

structure TE where
  asid : Int
  page : Int
  frame : Int
  flags : Int
  large : Bool
def teA (m : TE) : Value := .agg #[.int .i64 m.asid, .int .i64 m.page, .int .i64 m.frame, .int .i64 m.flags, .bool m.large]
def teC (m : TE) : List Value := [.int .i64 m.asid, .int .i64 m.page, .int .i64 m.frame, .int .i64 m.flags, .bool m.large]
def teR (zs : List TE) : List Value := zs.flatMap teC
theorem teR_app (xs ys : List TE) : teR (xs ++ ys) = teR xs ++ teR ys := by simp [teR]
theorem teR_len (zs : List TE) : (teR zs).length = zs.length * 5 := by
  induction zs with
  | nil => rfl
  | cons z zs ih =>
    have e : teR (z :: zs) = teC z ++ teR zs := rfl
    rw [e, List.length_append, ih]
    simp [teC]
    omega
theorem teR_at (zs : List TE) (k : Nat) (hk : k < zs.length) (j : Nat) (hj : j < 5) : (teR zs)[k * 5 + j]? = (teC zs[k])[j]? := by
  induction zs generalizing k with
  | nil => simp at hk
  | cons z zs ih =>
    have e : teR (z :: zs) = teC z ++ teR zs := rfl
    have hl : (teC z).length = 5 := rfl
    rw [e]
    cases k with
    | zero =>
      rw [List.getElem?_append_left (by omega)]
      simp
    | succ k =>
      rw [List.getElem?_append_right (by omega), hl, show (k + 1) * 5 + j - 5 = k * 5 + j by omega, ih k (by simpa using hk)]
      simp
theorem te_sl {w : World} {B n : Nat} {v : Value} {xs : List Value} (h : w.ownsRow B 51 5 v n xs) : ∃ ao cap, v = .slice ao n cap := by
  rcases h.2 with ⟨rfl, e⟩ | ⟨g, cap, cur, rfl, _⟩
  · exact ⟨none, 0, by rw [e]⟩
  · exact ⟨_, cap, rfl⟩
theorem te_below {w w' : World} {B n : Nat} {v : Value} {xs : List Value} (h : w.ownsRow B 51 5 v n xs) (hb : Below w.heap.size w w') : w'.ownsRow B 51 5 v n xs :=
  h.kept (row := none) ⟨hb.os, hb.tape, hb.output, hb.size, fun k hk _ => hb.block k hk⟩ (by cases v.ownBlock <;> simp)
theorem te_weak {w : World} {B B' : Nat} {v : Value} {n : Nat} {xs : List Value} (h : w.ownsRow B 51 5 v n xs) (hb : B' ≤ B) : w.ownsRow B' 51 5 v n xs := by
  obtain ⟨hl, h | ⟨g, cap, cur, hv, hg, h1, h2, h3, h4, h5⟩⟩ := h
  · exact ⟨hl, .inl h⟩
  · exact ⟨hl, .inr ⟨g, cap, cur, hv, Nat.le_trans hb hg, h1, h2, h3, h4, h5⟩⟩
theorem te_cast {w : World} {B n n' : Nat} {v : Value} {xs xs' : List Value} (h : w.ownsRow B 51 5 v n xs) (hn : n = n') (hx : xs = xs') : w.ownsRow B 51 5 v n' xs' := by
  subst hn
  subst hx
  exact h
/-- Where a row lies. -/
def TEat (w : World) (g o : Nat) (zs : List TE) : Prop := ∀ (k : Nat) (hk : k < zs.length), w.cell? ⟨g, o + k * 5, none⟩ = some (.int .i64 zs[k].asid) ∧ w.cell? ⟨g, o + k * 5 + 1, none⟩ = some (.int .i64 zs[k].page) ∧ w.cell? ⟨g, o + k * 5 + 2, none⟩ = some (.int .i64 zs[k].frame) ∧ w.cell? ⟨g, o + k * 5 + 3, none⟩ = some (.int .i64 zs[k].flags) ∧ w.cell? ⟨g, o + k * 5 + 4, none⟩ = some (.bool zs[k].large)
/-- A row that may be read. -/
def TErow (w : World) (v : Value) (zs : List TE) : Prop := (zs = [] ∧ ∃ ao cap, v = .slice ao 0 cap) ∨ ∃ g o cap, v = .slice (some ⟨g, o, none⟩) zs.length cap ∧ zs.length ≤ cap ∧ g < w.heap.size ∧ TEat w g o zs
theorem TEat.below {w w' : World} {g o : Nat} {zs : List TE} (h : TEat w g o zs) {B : Nat} (hb : Below B w w') (hg : g < B) : TEat w' g o zs := by
  intro k hk
  have h2 := h k hk
  have e : ∀ x, w'.cell? ⟨g, x, none⟩ = w.cell? ⟨g, x, none⟩ := fun x => World.cell?_of_block (hb.block g hg)
  simp only [e]
  exact h2
theorem TErow.below {w w' : World} {v : Value} {zs : List TE} (h : TErow w v zs) (hb : Below w.heap.size w w') : TErow w' v zs := by
  rcases h with h | ⟨g, o, cap, hv, hc, hg, ha⟩
  · exact .inl h
  · exact .inr ⟨g, o, cap, hv, hc, Nat.lt_of_lt_of_le hg hb.size, ha.below hb hg⟩
theorem TErow.sl {w : World} {v : Value} {zs : List TE} (h : TErow w v zs) : ∃ ao cap, v = .slice ao zs.length cap := by
  rcases h with ⟨rfl, ao, cap, rfl⟩ | ⟨g, o, cap, rfl, _⟩
  · exact ⟨_, _, rfl⟩
  · exact ⟨_, _, rfl⟩
theorem TErow.of {w : World} {B : Nat} {v : Value} {zs : List TE} (h : w.ownsRow B 51 5 v zs.length (teR zs)) : TErow w v zs := by
  rcases h.2 with ⟨rfl, e⟩ | ⟨g, cap, cur, rfl, hB, hg, hc, rest⟩
  · exact .inl ⟨List.length_eq_zero_iff.1 e, _, _, by rfl⟩
  · have h2 : w.ownsRow B 51 5 (.slice (some ⟨g, 0, none⟩) zs.length cap) zs.length (teR zs) := h
    refine .inr ⟨g, 0, cap, rfl, hc, (Array.getElem?_eq_some_iff.1 hg).1, fun k hk => ?_⟩
    simp only [Nat.zero_add]
    have a0 := h2.cellAt (k * 5 + 0) (by omega)
    have a1 := h2.cellAt (k * 5 + 1) (by omega)
    have a2 := h2.cellAt (k * 5 + 2) (by omega)
    have a3 := h2.cellAt (k * 5 + 3) (by omega)
    have a4 := h2.cellAt (k * 5 + 4) (by omega)
    rw [teR_at zs k hk _ (by omega)] at a0 a1 a2 a3 a4
    exact ⟨a0, a1, a2, a3, a4⟩

theorem teR_set (zs : List TE) (k : Nat) (m : TE) (hk : k < zs.length) : ((((((teR zs).set (k * 5) (.int .i64 m.asid)).set (k * 5 + 1) (.int .i64 m.page)).set (k * 5 + 2) (.int .i64 m.frame)).set (k * 5 + 3) (.int .i64 m.flags)).set (k * 5 + 4) (.bool m.large)) = teR (zs.set k m) := by
  induction zs generalizing k with
  | nil => simp at hk
  | cons z zs ih =>
    have e : teR (z :: zs) = teC z ++ teR zs := rfl
    have hl : (teC z).length = 5 := rfl
    cases k with
    | zero =>
      rw [e, List.set_cons_zero]
      show _ = teC m ++ teR zs
      rfl
    | succ k =>
      rw [e, List.set_cons_succ]
      show _ = teC z ++ teR (zs.set k m)
      rw [List.set_append_right _ _ (by omega), List.set_append_right _ _ (by omega), List.set_append_right _ _ (by omega), List.set_append_right _ _ (by omega), List.set_append_right _ _ (by omega), hl,
        show (k + 1) * 5 - 5 = k * 5 by omega, show (k + 1) * 5 + 1 - 5 = k * 5 + 1 by omega, show (k + 1) * 5 + 2 - 5 = k * 5 + 2 by omega, show (k + 1) * 5 + 3 - 5 = k * 5 + 3 by omega, show (k + 1) * 5 + 4 - 5 = k * 5 + 4 by omega, ih k (by simpa using hk)]
theorem gbTE {w0 w u : World} {r : Option Nat} (h : w0.grownBy w r) (hg : w.grownBy u r) : w0.grownBy u r :=
  ⟨hg.os.trans h.os, hg.tape.trans h.tape, hg.output.trans h.output, Nat.le_trans h.size hg.size, fun k hk hn => (hg.block k (Nat.lt_of_lt_of_le hk h.size) hn).trans (h.block k hk hn)⟩
theorem te_cells {w : World} {B g cap m : Nat} {zs : List TE} (h : w.ownsRow B 51 5 (.slice (some ⟨g, 0, none⟩) m cap) m (teR zs)) (hm : zs.length = m) (k : Nat) (hk : k < zs.length) : ∃ y : TE, w.cell? ⟨g, k * 5, none⟩ = some (.int .i64 y.asid) ∧ w.cell? ⟨g, k * 5 + 1, none⟩ = some (.int .i64 y.page) ∧ w.cell? ⟨g, k * 5 + 2, none⟩ = some (.int .i64 y.frame) ∧ w.cell? ⟨g, k * 5 + 3, none⟩ = some (.int .i64 y.flags) ∧ w.cell? ⟨g, k * 5 + 4, none⟩ = some (.bool y.large) := by
  subst hm
  rcases TErow.of h with ⟨e, _⟩ | ⟨g2, o, cap2, hv, _, _, hc⟩
  · rw [e] at hk
    simp at hk
  · injection hv with e1
    injection e1 with e2
    obtain ⟨rfl, rfl⟩ : g = g2 ∧ 0 = o := ⟨congrArg Addr.block e2, congrArg Addr.off e2⟩
    have h3 := hc k hk
    simp only [Nat.zero_add] at h3
    exact ⟨zs[k], h3⟩
/-- An element put. -/
theorem own_setTE {w : World} {B g cap : Nat} {zs : List TE} (h : w.ownsRow B 51 5 (.slice (some ⟨g, 0, none⟩) zs.length cap) zs.length (teR zs)) (k : Nat) (hk : k < zs.length) (m : TE) :
    (((((w.setCell ⟨g, k * 5, none⟩ (.int .i64 m.asid)).setCell ⟨g, k * 5 + 1, none⟩ (.int .i64 m.page)).setCell ⟨g, k * 5 + 2, none⟩ (.int .i64 m.frame)).setCell ⟨g, k * 5 + 3, none⟩ (.int .i64 m.flags)).setCell ⟨g, k * 5 + 4, none⟩ (.bool m.large)).ownsRow B 51 5 (.slice (some ⟨g, 0, none⟩) zs.length cap) zs.length (teR (zs.set k m)) ∧
    w.grownBy (((((w.setCell ⟨g, k * 5, none⟩ (.int .i64 m.asid)).setCell ⟨g, k * 5 + 1, none⟩ (.int .i64 m.page)).setCell ⟨g, k * 5 + 2, none⟩ (.int .i64 m.frame)).setCell ⟨g, k * 5 + 3, none⟩ (.int .i64 m.flags)).setCell ⟨g, k * 5 + 4, none⟩ (.bool m.large)) (some g) := by
  have s1 := h.stored (k * 5) (.int .i64 m.asid)
  have s2 := s1.1.stored (k * 5 + 1) (.int .i64 m.page)
  have s3 := s2.1.stored (k * 5 + 2) (.int .i64 m.frame)
  have s4 := s3.1.stored (k * 5 + 3) (.int .i64 m.flags)
  have s5 := s4.1.stored (k * 5 + 4) (.bool m.large)
  rw [teR_set zs k m hk] at s5
  exact ⟨s5.1, (gbTE (gbTE (gbTE (gbTE s1.2 s2.2) s3.2) s4.2) s5.2)⟩

def te0 : TE := ⟨0, 0, 0, 0, false⟩

/-- Whether an entry is right. -/
def teOk (z : TE) : Bool := decide (0 ≤ z.asid ∧ z.asid ≤ 255 ∧ 0 ≤ z.page ∧ z.page ≤ 1023 ∧ 0 ≤ z.frame ∧ z.frame ≤ 1023 ∧ 0 ≤ z.flags ∧ z.flags ≤ 255) && (!z.large || (decide (z.page % 32 = 0) && decide (z.frame % 32 = 0)))
theorem teOk_bad {a p f g : Int} {l : Bool} (h : ¬ (0 ≤ a ∧ a ≤ 255 ∧ 0 ≤ p ∧ p ≤ 1023 ∧ 0 ≤ f ∧ f ≤ 1023 ∧ 0 ≤ g ∧ g ≤ 255)) : teOk ⟨a, p, f, g, l⟩ = false := by
  unfold teOk
  rw [decide_eq_false h]
  rfl
theorem teOk_in {a p f g : Int} {l : Bool} (h : 0 ≤ a ∧ a ≤ 255 ∧ 0 ≤ p ∧ p ≤ 1023 ∧ 0 ≤ f ∧ f ≤ 1023 ∧ 0 ≤ g ∧ g ≤ 255) : teOk ⟨a, p, f, g, l⟩ = (!l || (decide (p % 32 = 0) && decide (f % 32 = 0))) := by
  unfold teOk
  rw [decide_eq_true h]
  rfl
set_option maxRecDepth 100000 in
set_option maxHeartbeats 4000000 in
theorem specEntry_any (z : TE) (w : World) : Calls Try.prog 67 #[teA z] w fun e w' => e = .returned (.bool (teOk z)) ∧ Below w.heap.size w w' := by
  obtain ⟨a, p, f, g, l⟩ := z
  unfold teA
  go_enter Try.func67, Try.ntmps67
  go_wp2
  all_goals go_ret
  all_goals refine ⟨ret_bool ?_, (Below.refl _ _).alloc (Nat.le_refl _) _⟩
  all_goals first
    | rw [teOk_bad (by omega)]
    | (rw [teOk_in (by omega)]; simp [*] <;> rfl)
set_option maxRecDepth 100000 in
set_option maxHeartbeats 4000000 in
theorem implEntry_any (z : TE) (w : World) : Calls Try.prog 65 #[teA z] w fun e w' => e = .returned (.bool (teOk z)) ∧ Below w.heap.size w w' := by
  obtain ⟨a, p, f, g, l⟩ := z
  unfold teA
  go_enter Try.func65, Try.ntmps65
  go_wp2
  all_goals go_ret
  all_goals refine ⟨ret_bool ?_, (Below.refl _ _).alloc (Nat.le_refl _) _⟩
  all_goals first
    | rw [teOk_bad (by omega)]
    | (rw [teOk_in (by omega)]; simp [*] <;> rfl)
/-- Whether two entries stand for one page of one space. -/
def same (x y : TE) : Bool := decide (x.asid = y.asid) && decide (x.page = y.page) && (x.large == y.large)
theorem cel5 {u : World} {b t : Nat} {a0 a1 a2 a3 a4 : Value} (h : u.heap[b]? = some (.cells #[a0, a1, a2, a3, a4] t (0, 0))) : u.cell? ⟨b, 0, none⟩ = some a0 ∧ u.cell? ⟨b, 1, none⟩ = some a1 ∧ u.cell? ⟨b, 2, none⟩ = some a2 ∧ u.cell? ⟨b, 3, none⟩ = some a3 ∧ u.cell? ⟨b, 4, none⟩ = some a4 := by
  simp [World.cell?, h]
/-- A box that holds an entry. -/
def BoxE (w : World) (b : Nat) (e : TE) : Prop := w.heap[b]? = some (.cells #[.int .i64 e.asid, .int .i64 e.page, .int .i64 e.frame, .int .i64 e.flags, .bool e.large] 51 (0, 0))
theorem BoxE.lt {w : World} {b : Nat} {e : TE} (h : BoxE w b e) : b < w.heap.size := (Array.getElem?_eq_some_iff.1 h).1
set_option maxRecDepth 100000 in
set_option maxHeartbeats 4000000 in
theorem spotFn_any (x e : TE) (b : Nat) (w : World) (h : BoxE w b e) : Calls Try.prog 88 #[teA x, .pointer (some ⟨b, 0, none⟩)] w fun r w' => r = .returned (.bool (same x e)) ∧ Below w.heap.size w w' := by
  obtain ⟨a, p, f, g, l⟩ := x
  obtain ⟨a2, p2, f2, g2, l2⟩ := e
  have hb := h.lt
  obtain ⟨c0, c1, c2, c3, c4⟩ := cel5 h
  clear h
  unfold teA
  go_enter Try.func88, Try.ntmps88
  go_wp2
  all_goals go_ret
  all_goals refine ⟨ret_bool ?_, (Below.refl _ _).alloc (Nat.le_refl _) _⟩
  all_goals simp [same, *]

/-- The number of the first that is so, or -1. -/
def idxI (p : TE → Bool) (zs : List TE) : Int := match zs.findIdx? p with | some k => (k : Int) | none => -1
theorem idxI_at {p : TE → Bool} {zs : List TE} {k : Nat} (hk : k < zs.length) (h : p zs[k] = true) (hn : ∀ j (hj : j < k), p (zs[j]'(Nat.lt_trans hj hk)) = false) : idxI p zs = k := by
  have : zs.findIdx? p = some k := List.findIdx?_eq_some_iff_getElem.2 ⟨hk, h, fun j hj => by rw [hn j hj]; decide⟩
  simp [idxI, this]
theorem idxI_none {p : TE → Bool} {zs : List TE} (hn : ∀ j (hj : j < zs.length), p zs[j] = false) : idxI p zs = -1 := by
  have : zs.findIdx? p = none := List.findIdx?_eq_none_iff.2 fun x hx => by
    obtain ⟨j, hj, rfl⟩ := List.getElem_of_mem hx
    exact hn j hj
  simp [idxI, this]
set_option maxRecDepth 100000 in
set_option maxHeartbeats 4000000 in
/-- The first of a row for which a function answers yes. -/
theorem indexFunc_any {w : World} {v : Value} {zs : List TE} (h : TErow w v zs) (hl : zs.length ≤ 1048576) (F : Nat) (caps : Array Value) (p : TE → Bool) (hcf : ∀ (xs : Array Value) (w' : World), (callFunc F xs).run Try.prog w' = .ok (.enter F xs) w')
    (hf : ∀ (x : TE) (w' : World), Below w.heap.size w w' → Calls Try.prog F (#[teA x] ++ caps) w' fun r w'' => r = .returned (.bool (p x)) ∧ Below w'.heap.size w' w'') :
    Calls Try.prog 72 #[v, .func (.func F) #[] caps] w fun r w' => r = .returned (.int .i64 (idxI p zs)) ∧ Below w.heap.size w w' := by
  obtain ⟨ao, cap, rfl⟩ := h.sl
  have HR : Hid (TErow w (.slice ao zs.length cap) zs) := h
  have HF : Hid (∀ (x : TE) (w' : World), Below w.heap.size w w' → Calls Try.prog F (#[teA x] ++ caps) w' fun r w'' => r = .returned (.bool (p x)) ∧ Below w'.heap.size w' w'') := hf
  clear h hf
  go_enter Try.func72, Try.ntmps72
  go_wp2
  go_loopw [8] (fun i wr => ∃ k : Nat, k ≤ zs.length ∧ i = .int .i64 k ∧ (∀ j (hj : j < k) (hz : j < zs.length), p zs[j] = false) ∧ Below w.heap.size w wr) (fun i _ => zs.length - (intOf i).toNat)
  case atStart => exact ⟨0, Nat.zero_le _, rfl, fun j hj => absurd hj (Nat.not_lt_zero _), Below.refl _ _⟩
  case round =>
    obtain ⟨k, hk, rfl, hno, hb⟩ := hrel
    have HN : Hid (∀ j (hj : j < k) (hz : j < zs.length), p zs[j] = false) := hno
    have HB : Hid (Below w.heap.size w wr) := hb
    by_cases hlt : k < zs.length
    · obtain ⟨g, o, cap2, hv, _, hg, hc⟩ := HR.out.resolve_left (fun h => by rw [h.1] at hlt; simp at hlt)
      injection hv with hv1 hv2 hv3
      subst hv1 hv3
      obtain ⟨d0, d1, d2, d3, d4⟩ := hc.below hb hg k hlt
      obtain ⟨z, hz⟩ : ∃ z, zs[k] = z := ⟨_, rfl⟩
      rw [hz] at d0 d1 d2 d3 d4
      have HZ : Hid (zs[k] = z) := hz
      have hk0 : (0 : Int) ≤ (k : Int) := by omega
      have hk1 : (k : Int) < (zs.length : Int) := by omega
      clear hc hno hb hz
      go_wp2_with fail
      refine Calls.mono (HF.out z _ HB.out) ?_
      rintro r u5 ⟨rfl, hu5⟩
      have HB5 : Hid (Below w.heap.size w u5) := HB.out.trans (hu5.mono HB.out.size)
      clear hu5
      cases hp : p z
      · go_wp2
        refine ⟨⟨k + 1, hlt, by simp, fun j hj hz => ?_, HB5.out⟩, ?_⟩
        · by_cases hjk : j = k
          · subst hjk
            rw [HZ.out]
            exact hp
          · exact HN.out j (by omega) hz
        simp [intOf]
        omega
      · go_wp2
        go_ret
        refine ⟨ret_int (idxI_at hlt (by rw [HZ.out]; exact hp) (fun j hj => HN.out j hj (by omega))).symm, HB5.out⟩
    · obtain rfl : k = zs.length := by omega
      clear hno hb
      go_wp2
      go_ret
      exact ⟨ret_int (idxI_none (fun j hj => HN.out j hj hj)).symm, HB.out⟩
theorem cfSpot : ∀ (xs : Array Value) (w' : World), (callFunc 88 xs).run Try.prog w' = .ok (.enter 88 xs) w' := by
  intro xs w'
  kernel_rfl
set_option maxRecDepth 100000 in
set_option maxHeartbeats 4000000 in
theorem tlbSpot_any {w : World} {v : Value} {zs : List TE} (h : TErow w v zs) (e : TE) (hl : zs.length ≤ 1048576) : Calls Try.prog 66 #[v, teA e] w fun r w' => r = .returned (.int .i64 (idxI (fun x => same x e) zs)) ∧ Below w.heap.size w w' := by
  obtain ⟨ao, cap, rfl⟩ := h.sl
  have hal : Below w.heap.size w (w.alloc (.cells #[.int .i64 e.asid, .int .i64 e.page, .int .i64 e.frame, .int .i64 e.flags, .bool e.large] 51)) := (Below.refl _ _).alloc (Nat.le_refl _) _
  have hbox : BoxE (w.alloc (.cells #[.int .i64 e.asid, .int .i64 e.page, .int .i64 e.frame, .int .i64 e.flags, .bool e.large] 51)) w.heap.size e := heap_new _ _
  have HI : Hid _ := indexFunc_any (h.below hal) hl 88 #[.pointer (some ⟨w.heap.size, 0, none⟩)] (fun x => same x e) cfSpot (fun x w' hw' => spotFn_any x e w.heap.size w' ((hw'.block _ hbox.lt).trans hbox))
  have HA : Hid _ := hal
  unfold teA
  clear h hbox hal
  go_enter Try.func66, Try.ntmps66
  go_wp2_with (go_at_call 72; refine Calls.mono HI.out ?_; rintro r u5 ⟨rfl, hu5⟩)
  go_ret
  exact ⟨rfl, HA.out.trans (hu5.mono HA.out.size)⟩
end Go.Proofs.Ytoihmaefdchicaa
