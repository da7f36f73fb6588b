import Derived.Test.YtfagohdmepnkkaaSMap3
import Derived.Test.YtfagohdmepnkkaaSMap4
import Derived.Maps.AppendAt
import Derived.Laws.OwnMore
namespace Go.Proofs.Ytfagohdmepnkkaa
open Go.ChangeShapes Go.WideShapes Go.ChangeAt Go.RowKit

/-- What putting one map comes to: a code, the memory, what is left of free. -/
structure MR where
  c : Int
  mem : ByteArray
  free : List Int
/-- The place of a map's second entry, in a table. -/
def atS (t : Nat) (m : PM) : Nat := t * 256 + 4 * (m.va.toNat / 256 % 32)
/-- The second table is known: t. -/
def secV (mem : ByteArray) (t : Nat) (m : PM) (free : List Int) : MR :=
  if wv mem (atS t m) % 2 = 1 then ⟨9, mem, free⟩ else ⟨0, setv mem (atS t m) (enM m), free⟩
def mapV (mem : ByteArray) (root : Nat) (m : PM) (free : List Int) : MR :=
  if pmOk m = false then ⟨1, mem, free⟩
  else if m.large = true then (if wv mem (atM root m) % 2 = 1 then ⟨9, mem, free⟩ else ⟨0, setv mem (atM root m) (enM m), free⟩)
  else if wv mem (atM root m) % 2 = 1 then
    (if ¬ wv mem (atM root m) / 2 % 8 = 0 then ⟨9, mem, free⟩
     else if (mem.size : Int) < (wv mem (atM root m) / 256 + 1) * 256 then ⟨9, mem, free⟩
     else secV mem (wv mem (atM root m) / 256).toNat m free)
  else match free with
    | [] => ⟨4, mem, []⟩
    | f :: fr => secV (setv (zfr mem f.toNat) (atM root m) (f * 256 + 1)) f.toNat m fr
theorem Irow.tl {w : World} {g o n cap : Nat} {f : Int} {fr : List Int} (h : Irow w (.slice (some ⟨g, o, none⟩) n cap) (f :: fr)) (ao2 : Option Addr) (ha : 1 < n → ao2 = some ⟨g, o + 1, none⟩) : w.cell? ⟨g, o, none⟩ = some (.int .i64 f) ∧ g < w.heap.size ∧ n = fr.length + 1 ∧ n ≤ cap ∧ Irow w (.slice ao2 (n - 1) (cap - 1)) fr := by
  rcases h with ⟨e, _⟩ | ⟨g2, o2, cap2, hv, hc, hg, hat⟩
  · cases e
  · injection hv with e1 e2 e3
    injection e1 with e4
    injection e4 with e5 e6
    subst e5 e6 e3
    rw [List.length_cons] at e2 hc
    have h0 := hat 0 (by simp)
    refine ⟨by simpa using h0, hg, e2, by omega, ?_⟩
    cases fr with
    | nil =>
      simp at e2
      subst e2
      exact .inl ⟨rfl, _, _, rfl⟩
    | cons a l =>
      simp only [List.length_cons] at e2 hc
      have h2 := ha (by omega)
      subst h2
      refine .inr ⟨g, o + 1, cap - 1, by simp only [List.length_cons]; rw [show n - 1 = l.length + 1 by omega], by simp only [List.length_cons]; omega, hg, fun k hk => ?_⟩
      have h3 := hat (k + 1) (by simp only [List.length_cons] at hk ⊢; omega)
      rw [show o + 1 + k = o + (k + 1) by omega, h3]
      rfl
/-- A row of numbers of one's own: it may begin anywhere in its block. -/
def Orow (w : World) (B : Nat) (v : Value) (zs : List Int) : Prop := (zs = [] ∧ ∃ ao cap, v = .slice ao 0 cap) ∨ ∃ g o cap cur, v = .slice (some ⟨g, o, none⟩) zs.length cap ∧ B ≤ g ∧ zs.length ≤ cap ∧ w.heap[g]? = some (.cells cur 2 (0, 0)) ∧ ∀ (k : Nat) (hk : k < zs.length), cur[o + k]? = some (.int .i64 zs[k])
theorem Orow.irow {w : World} {B : Nat} {v : Value} {zs : List Int} (h : Orow w B v zs) : Irow w v zs := by
  rcases h with h | ⟨g, o, cap, cur, hv, _, hc, hg, ha⟩
  · exact .inl h
  · exact .inr ⟨g, o, cap, hv, hc, (Array.getElem?_eq_some_iff.1 hg).1, fun k hk => by simp [World.cell?, hg, ha k hk]⟩
theorem Orow.below {w w' : World} {B : Nat} {v : Value} {zs : List Int} (h : Orow w B v zs) (hb : Below w.heap.size w w') : Orow w' B v zs := by
  rcases h with h | ⟨g, o, cap, cur, hv, hB, hc, hg, ha⟩
  · exact .inl h
  · exact .inr ⟨g, o, cap, cur, hv, hB, hc, (hb.block _ (Array.getElem?_eq_some_iff.1 hg).1).trans hg, ha⟩
theorem Orow.of {w : World} {B : Nat} {v : Value} {zs : List Int} (h : w.ownsRow B 2 1 v zs.length (iR zs)) : Orow w B v zs := by
  rcases h.2 with ⟨rfl, e⟩ | ⟨g, cap, cur, rfl, hB, hg, hc, _, _, htk⟩
  · exact .inl ⟨List.length_eq_zero_iff.1 e, _, _, by rfl⟩
  · refine .inr ⟨g, 0, cap, cur, rfl, hB, hc, hg, fun k hk => ?_⟩
    have h1 : (cur.toList.take (zs.length * 1))[k]? = (iR zs)[k]? := by rw [htk]
    rw [List.getElem?_take, if_pos (by omega), Array.getElem?_toList] at h1
    rw [Nat.zero_add, h1]
    simp [iR, List.getElem?_eq_getElem hk]
theorem Orow.tl {w : World} {B g o n cap : Nat} {f : Int} {fr : List Int} (h : Orow w B (.slice (some ⟨g, o, none⟩) n cap) (f :: fr)) (ao2 : Option Addr) (ha : 1 < n → ao2 = some ⟨g, o + 1, none⟩) : Orow w B (.slice ao2 (n - 1) (cap - 1)) fr := by
  rcases h with ⟨e, _⟩ | ⟨g2, o2, cap2, cur, hv, hB, hc, hg, hat⟩
  · cases e
  · injection hv with e1 e2 e3
    injection e1 with e4
    injection e4 with e5 e6
    subst e5 e6 e3
    cases fr with
    | nil =>
      simp only [List.length_cons, List.length_nil] at e2
      subst e2
      exact .inl ⟨rfl, _, _, rfl⟩
    | cons a l =>
      simp only [List.length_cons] at e2 hc
      have h2 := ha (by omega)
      subst h2
      refine .inr ⟨g, o + 1, cap - 1, cur, by simp only [List.length_cons]; rw [show n - 1 = l.length + 1 by omega], hB, by simp only [List.length_cons]; omega, hg, fun k hk => ?_⟩
      have h3 := hat (k + 1) (by simp only [List.length_cons] at hk ⊢; omega)
      rw [show o + 1 + k = o + (k + 1) by omega, h3]
      rfl
theorem par0 (x : Int) (h : ¬ x % 2 = 1) : x % 2 = 0 := by omega
set_option maxRecDepth 10000 in
set_option maxHeartbeats 2000000 in
theorem l03Map_any {w : World} {fv : Value} {free : List Int} (mem : ByteArray) (root : Nat) (m : PM) (hI : Irow w fv free) (hs : mem.size ≤ 65536) (hr : root * 256 + 256 ≤ mem.size) (hfr : ∀ x ∈ free, 0 ≤ x ∧ x * 256 + 256 ≤ (mem.size : Int)) :
    Calls Try.prog 54 #[.string mem, .int .i64 root, pmA m, fv] w fun e w' => ∃ s2 v2, e = .returned (.tuple #[.string s2, v2, .int .i64 (mapV mem root m free).c]) ∧ Below w.heap.size w w' ∧ ((mapV mem root m free).c = 0 → s2 = (mapV mem root m free).mem ∧ ∀ B, Orow w B fv free → Orow w' B v2 (mapV mem root m free).free) := by
  obtain ⟨ao, cap, rfl⟩ := hI.sl
  cases h1 : pmOk m
  · have e : mapV mem root m free = ⟨1, mem, free⟩ := by unfold mapV; rw [if_pos h1]
    rw [e]
    exact (l03Map_form mem root m ao free.length cap w h1).mono fun e w' ⟨⟨s2, v2, q⟩, hb⟩ => ⟨s2, v2, q, hb, fun c => by cases c⟩
  have n1 : ¬ pmOk m = false := by rw [h1]; decide
  cases h2 : m.large
  · have n2 : ¬ m.large = true := by rw [h2]; decide
    by_cases h3 : wv mem (atM root m) % 2 = 1
    · by_cases h4 : wv mem (atM root m) / 2 % 8 = 0
      · by_cases h5 : (mem.size : Int) < (wv mem (atM root m) / 256 + 1) * 256
        · have e : mapV mem root m free = ⟨9, mem, free⟩ := by unfold mapV; rw [if_neg n1, if_neg n2, if_pos h3, if_neg (fun q => q h4), if_pos h5]
          rw [e]
          exact (l03Map_t9 mem root m ao free.length cap w hs hr h1 h2 h3 h4 h5).mono fun e w' ⟨q, hb⟩ => ⟨_, _, q, hb, fun c => by cases c⟩
        · by_cases h6 : wv mem ((wv mem (atM root m) / 256).toNat * 256 + 4 * (m.va.toNat / 256 % 32)) % 2 = 1
          · have e : mapV mem root m free = ⟨9, mem, free⟩ := by unfold mapV; rw [if_neg n1, if_neg n2, if_pos h3, if_neg (fun q => q h4), if_neg h5]; unfold secV atS; rw [if_pos h6]
            rw [e]
            exact (l03Map_y9 mem root m ao free.length cap w hs hr h1 h2 h3 h4 h5 h6).mono fun e w' ⟨q, hb⟩ => ⟨_, _, q, hb, fun c => by cases c⟩
          · have e : mapV mem root m free = ⟨0, setv mem ((wv mem (atM root m) / 256).toNat * 256 + 4 * (m.va.toNat / 256 % 32)) (enM m), free⟩ := by unfold mapV; rw [if_neg n1, if_neg n2, if_pos h3, if_neg (fun q => q h4), if_neg h5]; unfold secV atS; rw [if_neg h6]
            rw [e]
            exact (l03Map_y0 mem root m ao free.length cap w hs hr h1 h2 h3 h4 h5 (par0 _ h6)).mono fun e w' ⟨q, hb⟩ => ⟨_, _, q, hb, fun _ => ⟨rfl, fun B hO => hO.below hb⟩⟩
      · have e : mapV mem root m free = ⟨9, mem, free⟩ := by unfold mapV; rw [if_neg n1, if_neg n2, if_pos h3, if_pos h4]
        rw [e]
        exact (l03Map_s9 mem root m ao free.length cap w hs hr h1 h2 h3 h4).mono fun e w' ⟨q, hb⟩ => ⟨_, _, q, hb, fun c => by cases c⟩
    · have h30 : wv mem (atM root m) % 2 = 0 := par0 _ h3
      cases free with
      | nil =>
        have e : mapV mem root m [] = ⟨4, mem, []⟩ := by unfold mapV; rw [if_neg n1, if_neg n2, if_neg h3]
        rw [e]
        exact (l03Map_c mem root m ao 0 cap w hs hr h1 h2 h30 rfl).mono fun e w' ⟨q, hb⟩ => ⟨_, _, q, hb, fun c => by cases c⟩
      | cons f0 fr =>
        obtain ⟨q0, q1⟩ := hfr f0 (by simp)
        obtain ⟨f, rfl⟩ : ∃ f : Nat, f0 = (f : Int) := ⟨f0.toNat, by omega⟩
        obtain ⟨g, o, cap2, hv, hc0, _, _⟩ := hI.resolve_left (fun q => by cases q.1)
        injection hv with e1 e2 e3
        subst e1 e3
        obtain ⟨ao2, hsl, hao⟩ := sl_tailI g o (fr.length + 1) cap (by omega) (by simpa using hc0)
        obtain ⟨t1, t2, _, _, _⟩ := hI.tl ao2 (by simpa using hao)
        by_cases h6 : wv (setv (zfr mem f) (atM root m) ((f : Int) * 256 + 1)) (f * 256 + 4 * (m.va.toNat / 256 % 32)) % 2 = 1
        · have e : (mapV mem root m ((f : Int) :: fr)).c = 9 := by unfold mapV; rw [if_neg n1, if_neg n2, if_neg h3]; simp only [Int.toNat_natCast]; unfold secV atS; rw [if_pos h6]
          rw [e]
          exact (l03Map_n9 mem root m (some ⟨g, o, none⟩) (fr.length + 1) cap w hs hr h1 h2 h30 g o f t1 t2 (by omega) (by simpa using hc0) rfl (by omega) ao2 hsl h6).mono fun e w' ⟨q, hb⟩ => ⟨_, _, q, hb, fun c => by cases c⟩
        · have e : mapV mem root m ((f : Int) :: fr) = ⟨0, setv (setv (zfr mem f) (atM root m) ((f : Int) * 256 + 1)) (f * 256 + 4 * (m.va.toNat / 256 % 32)) (enM m), fr⟩ := by unfold mapV; rw [if_neg n1, if_neg n2, if_neg h3]; simp only [Int.toNat_natCast]; unfold secV atS; rw [if_neg h6]
          rw [e]
          exact (l03Map_n0 mem root m (some ⟨g, o, none⟩) (fr.length + 1) cap w hs hr h1 h2 h30 g o f t1 t2 (by omega) (by simpa using hc0) rfl (by omega) ao2 hsl (par0 _ h6)).mono fun e w' ⟨q, hb⟩ => ⟨_, _, q, hb, fun _ => ⟨rfl, fun B hO => (hO.tl ao2 (by simpa using hao)).below hb⟩⟩
  · by_cases h3 : wv mem (atM root m) % 2 = 1
    · have e : mapV mem root m free = ⟨9, mem, free⟩ := by unfold mapV; rw [if_neg n1, if_pos h2, if_pos h3]
      rw [e]
      exact (l03Map_l9 mem root m ao free.length cap w hs hr h1 h2 h3).mono fun e w' ⟨q, hb⟩ => ⟨_, _, q, hb, fun c => by cases c⟩
    · have e : mapV mem root m free = ⟨0, setv mem (atM root m) (enM m), free⟩ := by unfold mapV; rw [if_neg n1, if_pos h2, if_neg h3]
      rw [e]
      exact (l03Map_l0 mem root m ao free.length cap w hs hr h1 h2 (par0 _ h3)).mono fun e w' ⟨q, hb⟩ => ⟨_, _, q, hb, fun _ => ⟨rfl, fun B hO => hO.below hb⟩⟩
/-- An append, by what it is known to come to. -/
theorem wl_append_ex {P : Program} {ops : Array Oper} {rest : List Oper} {o : Oper} {a : Act} {w : World} {Q : Exit → Act → World → Prop} (hgd : o.guard = none) (s x : Operand) (t : TypeId)
    (ho : o.op = .call { callee := .builtin .append, args := #[s, x], argTypes := #[t, t] }) (v v2 : Value) (hs : a.eval s = v) (hx : a.eval x = v2) {R : Value → World → Prop}
    (hr : ∃ v' w', (Builtin.append_ #[t, t] o.type #[v, v2]).run P w = .ok v' w' ∧ R v' w') (h : ∀ v' w', R v' w' → wpList P ops Q rest (a.put o.dst v') w') : wpList P ops Q (o :: rest) a w :=
  wpList_plain hgd fun _ hK => by
    obtain ⟨v', w', hr, hR⟩ := hr
    unfold Oper.wp execOp
    simp only [ho, resolve, invoke, builtin, Sem.run_bind, Sem.run_pure, Result.andThen_ok, List.map_toArray, List.map_cons, List.map_nil, hs, hx, hr]
    exact hK _ _ (h v' w' hR)
theorem iR_cells {w : World} {a : Addr} {n cap : Nat} {zs : List Int} (h : Irow w (.slice (some a) n cap) zs) : ∀ j u, (iR zs)[j]? = some u → w.cell? (a.add j) = some u := by
  intro j u hj
  rcases h with ⟨rfl, _⟩ | ⟨g, o, c1, hv, hc, hg, ha⟩
  · simp [iR] at hj
  · injection hv with q1
    injection q1 with q2
    subst q2
    have hjl : j < zs.length := by
      have := (List.getElem?_eq_some_iff.1 hj).1
      simpa [iR] using this
    have e1 : (iR zs)[j]? = some (.int .i64 zs[j]) := by simp [iR, List.getElem?_eq_getElem hjl]
    rw [e1] at hj
    rw [Addr.add_lit, ← hj]
    exact ha j hjl
theorem iR_one (zs : List Int) : ∀ u ∈ iR zs, u.oneCell' = true := by
  intro u hu
  obtain ⟨z, _, rfl⟩ := List.mem_map.1 hu
  rfl
set_option maxRecDepth 100000 in
set_option maxHeartbeats 4000000 in
theorem l01Ints_any {w : World} {v : Value} {zs : List Int} (h : Irow w v zs) (hl : zs.length ≤ 1048576) : Calls Try.prog 53 #[v] w fun e w' => ∃ u, e = .returned u ∧ Orow w' w.heap.size u zs ∧ Below w.heap.size w w' := by
  obtain ⟨ao, cap, rfl⟩ := h.sl
  have H0 : Hid ((w.alloc (.cells #[] 2)).ownsRow w.heap.size 2 1 (.slice (some ⟨w.heap.size, 0, none⟩) 0 0) 0 []) := World.ownsRow_lit _ #[] 0 (by simp) (by decide) rfl
  have hA : Irow (w.alloc (.cells #[] 2)) (.slice ao zs.length cap) zs := h.below ((Below.refl _ _).alloc (Nat.le_refl _) _)
  have HAP : Hid (∃ v' u', (Builtin.append_ #[28, 28] 28 #[.slice (some ⟨w.heap.size, 0, none⟩) 0 0, .slice ao zs.length cap]).run Try.prog (w.alloc (.cells #[] 2)) = .ok v' u' ∧ (u'.ownsRow w.heap.size 2 1 v' zs.length (iR zs) ∧ (w.alloc (.cells #[] 2)).grownBy u' (some w.heap.size))) := by
    obtain ⟨i0, hi0, hz0, hz1, hz2⟩ := info_parts Try.info2
    cases ao with
    | none =>
      have hz : zs = [] := by
        rcases h with ⟨q, _⟩ | ⟨g, o, c1, hv, _⟩
        · exact q
        · injection hv with q1
          cases q1
      subst hz
      refine ⟨.slice (some ⟨w.heap.size, 0, none⟩) 0 0, w.alloc (.cells #[] 2), ?_, H0.out, ⟨rfl, rfl, rfl, Nat.le_refl _, fun _ _ _ => rfl⟩⟩
      simp [Builtin.append_, run_underlying Try.underlying28, sizeOf, typeInfo, hi0, Builtin.lenOf, Builtin.firstCells, storeCells]
    | some a =>
      obtain ⟨v', w', hr, h2, h3, _, _⟩ := run_append_own_at (P := Try.prog) (w.alloc (.cells #[] 2)) w.heap.size 28 28 2 i0 (.int .i64 0) 1 8 Try.underlying28 hi0 hz0 hz1 hz2 rfl (by decide) (.slice (some ⟨w.heap.size, 0, none⟩) 0 0) 0 [] H0.out a zs.length cap (iR zs) (by rw [iR_len]) (iR_cells hA) (iR_one zs) (by unfold maxLen; omega) (by omega) (by simp)
      rw [Nat.zero_add, List.nil_append] at h2
      exact ⟨v', w', hr, h2, h3⟩
  clear h hA H0
  go_enter Try.func53, Try.ntmps53
  go_wp2_with (at_builtin; (refine wl_append_ex rfl _ _ 28 rfl _ _ rfl rfl HAP.out ?_; rintro v' u' ⟨ho, hg⟩; have HO : Hid (u'.ownsRow w.heap.size 2 1 v' zs.length (iR zs)) := ho; have HG : Hid (Below w.heap.size w u') := ((Below.refl w.heap.size w).alloc (Nat.le_refl _) _).grown hg (by simp) (fun j hj => by cases hj; exact Nat.le_refl _); clear ho hg HAP))
  go_ret
  exact ⟨_, rfl, Orow.of HO.out, HG.out⟩
end Go.Proofs.Ytfagohdmepnkkaa
