import Derived.Test.YtpggbbdfbnocfaaFp7a
import Derived.Maps.OwnSet
import Derived.DeepKeys4
import Derived.Test.YtpggbbdfbnocfaaFpY
import Derived.Test.YtpggbbdfbnocfaaFsB
namespace Go.Proofs.Ytpggbbdfbnocfaa
open Go.ChangeShapes Go.WideShapes Go.ChangeAt Go.RowKit
open Go.Maps (Keyed)

theorem laidK : laidOutB Try.prog = true := by kernel_rfl
theorem ktK : Try.prog.keyTypeAt 5 127 = true := by kernel_rfl
theorem ltK : decide (127 < Try.prog.types.size) = true := by kernel_rfl
set_option maxRecDepth 100000 in
theorem wdK : (match Try.prog.underlying 127 with | some (.array _ _) | some (.struct _) => true | _ => false) = true := by kernel_rfl
theorem h5K : 5 + 1 ≤ 10000 := by decide
set_option maxRecDepth 100000 in
theorem lawK : Keyed Try.prog 127 := Keyed.of_law (deep_law_laid laidK h5K (of_decide_eq_true ltK) ktK wdK)
theorem ktyK : Try.prog.keyType 127 = true := by kernel_rfl
theorem clK : Try.prog.cellsOf 127 = 5 := by kernel_rfl
theorem clS : Try.prog.cellsOf 125 = 2 := by kernel_rfl
theorem clI : Try.prog.cellsOf 2 = 1 := by kernel_rfl
/-- A number of int64. -/
def iW (a : Int) : Prop := -9223372036854775808 ≤ a ∧ a ≤ 9223372036854775807
theorem wfI {a : Int} (h : iW a) : (Lit.int .i64 a).wf = true := by
  exact WalkArith.wf_i64 h
structure FLok (F : FL) : Prop where
  pr : iW F.pr
  a : iW F.a
  ap : iW F.ap
  b : iW F.b
  bp : iW F.bp
theorem tySz : ∃ n, Try.prog.types.size + 1 = n + 3 := by
  have h : decide (3 ≤ Try.prog.types.size + 1) = true := by kernel_rfl
  exact ⟨Try.prog.types.size + 1 - 3, by have := of_decide_eq_true h; omega⟩
theorem key_of {F : FL} (h : FLok F) : ∃ kl, keyOf Try.prog 127 (foA F) = some kl := by
  have hI : ∀ n a, iW a → Try.prog.keyLits (n + 1) 2 [.int .i64 a] = some [.int .i64 a] := by
    intro n a ha
    simp [Program.keyLits, Try.underlying2, wfI ha]
  have hS : ∀ n a b, iW a → iW b → Try.prog.keyLits (n + 2) 125 [.int .i64 a, .int .i64 b] = some [.int .i64 a, .int .i64 b] := by
    intro n a b ha hb
    unfold Program.keyLits
    simp [Try.underlying125, clS, clI, hI _ _ ha, hI _ _ hb]
  have hK : ∀ n, Try.prog.keyLits (n + 3) 127 [.int .i64 F.pr, .int .i64 F.a, .int .i64 F.ap, .int .i64 F.b, .int .i64 F.bp] = some [.int .i64 F.pr, .int .i64 F.a, .int .i64 F.ap, .int .i64 F.b, .int .i64 F.bp] := by
    intro n
    unfold Program.keyLits
    simp [Try.underlying127, clK, clS, clI, hI _ _ h.pr, hS _ _ _ h.a h.ap, hS _ _ _ h.b h.bp]
  obtain ⟨n, hn⟩ := tySz
  refine ⟨.string (keyBytes [.int .i64 F.pr, .int .i64 F.a, .int .i64 F.ap, .int .i64 F.b, .int .i64 F.bp]), ?_⟩
  unfold keyOf
  rw [Try.underlying127]
  simp only [ktyK, foA, foC, Value.formed, Try.underlying127, clK, Value.cells, hn]
  rw [hK]
  rfl
theorem foA_inj {F G : FL} (h : foA F = foA G) : F = G := by
  obtain ⟨a, b, c, d, e⟩ := F
  obtain ⟨a', b', c', d', e'⟩ := G
  simp [foA, foC] at h
  obtain ⟨rfl, rfl, rfl, rfl, rfl⟩ := h
  rfl
theorem FL.ext5 {F G : FL} : F = G ↔ F.pr = G.pr ∧ F.a = G.a ∧ F.ap = G.ap ∧ F.b = G.b ∧ F.bp = G.bp := by
  obtain ⟨a, b, c, d, e⟩ := F
  obtain ⟨a', b', c', d', e'⟩ := G
  simp
instance : DecidableEq FL := fun _ _ => decidable_of_iff _ FL.ext5.symm
/-- What is held of a way: a place, and which way. -/
def cwD (i : Int) (g : Bool) : DataW Unit := .agg [.lit (.int .i64 i), .lit (.bool g)]
def cwR (v : Value) : Option (DataW Unit × List MemPlace) :=
  match v with
  | .agg ⟨[.int .i64 a, .bool g]⟩ => some (cwD a g, [])
  | _ => none
theorem cwR_mk (a : Int) (g : Bool) : cwR (.agg #[.int .i64 a, .bool g]) = some (cwD a g, []) := rfl
theorem cwR_inv {v : Value} {d : DataW Unit} {ps : List MemPlace} (h : cwR v = some (d, ps)) : ∃ a g, v = .agg #[.int .i64 a, .bool g] ∧ d = cwD a g := by
  unfold cwR at h
  split at h
  · simp at h
    exact ⟨_, _, rfl, h.1.symm⟩
  · cases h
theorem cwD_inj {a b : Int} {g g' : Bool} (h : cwD a g = cwD b g') : a = b := by
  simp [cwD] at h
  exact h.1
theorem zeroW (w : World) : (zeroValue 133).run Try.prog w = .ok (.agg #[.int .i64 0, .bool false]) w := by kernel_rfl
/-- A map of ways: it knows just those of f, each with its place. -/
def KN (w : World) (b n : Nat) (f : FL → Option Nat) : Prop := ∃ D : DataW Unit, w.ownsMap Try.prog 127 cwR b n D ∧ ∀ F kl, keyOf Try.prog 127 (foA F) = some kl → Maps.has D kl = (f F).isSome ∧ ∀ i, f F = some i → ∃ g, D.atKey kl (cwD 0 false) = cwD (i : Nat) g
theorem KN.made (w : World) : KN (w.alloc (.map #[] 0)) w.heap.size 0 (fun _ => none) :=
  ⟨_, World.ownsMap_made w _ _ _, fun F kl _ => ⟨rfl, fun i h => by cases h⟩⟩
theorem KN.lt {w : World} {b n : Nat} {f : FL → Option Nat} (h : KN w b n f) : b < w.heap.size := by
  obtain ⟨D, h1, _⟩ := h
  exact h1.lt
theorem KN.below {w w' : World} {b n : Nat} {f : FL → Option Nat} (h : KN w b n f) (hb : Below w.heap.size w w') : KN w' b n f := by
  obtain ⟨D, h1, h2⟩ := h
  exact ⟨D, h1.kept (row := none) ⟨hb.os, hb.tape, hb.output, hb.size, fun k hk _ => hb.block k hk⟩ (by simp), h2⟩
theorem KN.look {w : World} {b n : Nat} {f : FL → Option Nat} (h : KN w b n f) {F : FL} (hF : FLok F) : ∃ (i : Int) (g : Bool), (Instr.lookup 113 (.map (some b)) (foA F) true).run Try.prog w = .ok (.tuple #[.agg #[.int .i64 i, .bool g], .bool (f F).isSome]) w ∧ ∀ j, f F = some j → i = (j : Nat) := by
  obtain ⟨D, h1, h2⟩ := h
  obtain ⟨kl, hk⟩ := key_of hF
  obtain ⟨e1, e2⟩ := h2 F kl hk
  obtain ⟨v, ps, hr, hv⟩ := h1.look_ok lawK Try.underlying113 (zeroW w) (cwR_mk 0 false) hk
  obtain ⟨i, g, rfl, hd⟩ := cwR_inv hv
  refine ⟨i, g, by rw [hr, e1], fun j hj => ?_⟩
  obtain ⟨g', hg⟩ := e2 j hj
  rw [hg] at hd
  exact (cwD_inj hd).symm
def upd (f : FL → Option Nat) (F : FL) (i : Nat) : FL → Option Nat := fun G => if G = F then some i else f G
theorem KN.put {w : World} {b n : Nat} {f : FL → Option Nat} (h : KN w b n f) {F : FL} (hF : FLok F) (i : Nat) (g : Bool) (hn : n < maxLen) : ∃ w', (Instr.mapUpdate 113 (.map (some b)) (foA F) (.agg #[.int .i64 (i : Nat), .bool g])).run Try.prog w = .ok () w' ∧ KN w' b (n + 1) (upd f F i) ∧ w.grownBy w' (some b) := by
  obtain ⟨D, h1, h2⟩ := h
  obtain ⟨kl, hk⟩ := key_of hF
  obtain ⟨w', hr, ho, hg⟩ := h1.update lawK Try.underlying113 hn hk (cwR_mk (i : Nat) g)
  refine ⟨w', hr, ⟨_, ho, fun G kl' hk' => ?_⟩, hg⟩
  unfold upd
  by_cases e : G = F
  · subst e
    obtain rfl : kl = kl' := by rw [hk] at hk'; exact Option.some.inj hk'
    rw [if_pos rfl]
    refine ⟨?_, fun j hj => ⟨g, ?_⟩⟩
    · rw [Maps.has_put_same h1.isMap (lawK.key hk)]; rfl
    · obtain rfl := Option.some.inj hj
      exact Maps.atKey_put_same h1.isMap (lawK.key hk) _ _
  · rw [if_neg e]
    have hne : kl' ≠ kl := by
      rintro rfl
      exact e (foA_inj (lawK.inj hk' hk))
    rw [Maps.has_put_other hne, Maps.atKey_put_other hne]
    exact h2 G kl' hk'
theorem KN.mono {w : World} {b n n' : Nat} {f : FL → Option Nat} (h : KN w b n f) (hn : n ≤ n') : KN w b n' f := by
  obtain ⟨D, h1, h2⟩ := h
  exact ⟨D, h1.mono hn, h2⟩
theorem KN.cong {w : World} {b n : Nat} {f f' : FL → Option Nat} (h : KN w b n f) (e : f = f') : KN w b n f' := e ▸ h

def fpk (f : FL) (n : Int) : PK := ⟨f.pr, f.a, f.ap, f.b, f.bp, n⟩
set_option maxRecDepth 100000 in
set_option maxHeartbeats 4000000 in
theorem packet_any (f : FL) (n : Int) (w : World) : Calls Try.prog 91 #[foA f, .int .i64 n] w fun e w' => e = .returned (pkA (fpk f n)) ∧ Below w.heap.size w w' := by
  unfold foA foC
  go_enter Try.func91, Try.ntmps91
  go_wp2
  refine bodyPost_ret (v := pkA (fpk f n)) (by simp [results, Try.results91, go_sem, pkA, pkC, fpk]) rfl ⟨rfl, ?_⟩
  exact ((Below.refl _ _).alloc (Nat.le_refl _) _).alloc (by simp) _
set_option maxRecDepth 100000 in
set_option maxHeartbeats 4000000 in
theorem hidden_any {w : World} {b : Nat} {s : FI} {a : FA} (h : FX w b s a) (hl : s.hs.length ≤ 1048576) (x p n : Int) : Calls Try.prog 97 #[.pointer (some ⟨b, 0, none⟩), .agg #[.int .i64 x, .int .i64 p], .int .i64 n] w fun e w' => e = .returned (.agg #[.int .i64 (if ihB s x = true then s.pub else x), .int .i64 (if ihB s x = true then n else p)]) ∧ Below w.heap.size w w' := by
  have HX : Hid (FX w b s a) := h
  have HH : Hid (∀ u, Aft w u → Calls Try.prog 76 #[.pointer (some ⟨b, 0, none⟩), .int .i64 x] u fun r w' => r = .returned (.bool (ihB s x)) ∧ Below u.heap.size u w') := fun u hu => isHost_any (HX.out.aft hu) hl x
  have HT0 : Hid (TB w ((w.alloc (.cells #[.int .i64 x, .int .i64 p] 125)).alloc (.cells #[.int .i64 0, .int .i64 0] 125)) w.heap.size (w.heap.size + 1) #[.int .i64 x, .int .i64 p] 125 #[.int .i64 0, .int .i64 0] 125) := TB.new w _ _ _ _
  clear h
  cases h0 : ihB s x
  · rw [h0] at HH
    go_enter Try.func97, Try.ntmps97
    go_upto_region 1 with fail
    generalize ((w.alloc (.cells #[.int .i64 x, .int .i64 p] 125)).alloc (.cells #[.int .i64 0, .int .i64 0] 125)) = u0 at *
    generalize e1 : w.heap.size + 1 = b2 at *
    have k0 := HT0.out.c1 0 _ rfl
    have k1 := HT0.out.c1 1 _ rfl
    have kl := HT0.out.lt1
    go_wp2_with fail
    refine Calls.mono (HH.out _ HT0.out.aft) ?_
    rintro e u1 ⟨rfl, hu⟩
    have HT1 : Hid (TB w u1 w.heap.size b2 #[.int .i64 x, .int .i64 p] 125 #[.int .i64 0, .int .i64 0] 125) := HT0.out.step hu
    clear hu k0 k1 kl HT0
    have k0 := HT1.out.c1 0 _ rfl
    have k1 := HT1.out.c1 1 _ rfl
    have kl := HT1.out.lt1
    have j0 := HT1.out.c2 0 _ rfl
    have j1 := HT1.out.c2 1 _ rfl
    have jl := HT1.out.lt2
    have jf := HT1.out.f2
    have y3 := (HX.out.below HT1.out.bel).c3
    have yl := (HX.out.below HT1.out.bel).lt
    go_wp2
    refine bodyPost_ret (v := .agg #[.int .i64 x, .int .i64 p]) ?_ rfl ⟨by first | rfl | (rw [h0]; rfl), ?_⟩
    · simp only [results, Try.results97, go_sem]
      simp [go_sem, j0, j1]
    · have hB := HT1.out.bel
      have hg := HT1.out.ge2
      repeat refine Below.setCell ?_ (by simp only; omega) _
      exact hB
  · rw [h0] at HH
    go_enter Try.func97, Try.ntmps97
    go_upto_region 1 with fail
    generalize ((w.alloc (.cells #[.int .i64 x, .int .i64 p] 125)).alloc (.cells #[.int .i64 0, .int .i64 0] 125)) = u0 at *
    generalize e1 : w.heap.size + 1 = b2 at *
    have k0 := HT0.out.c1 0 _ rfl
    have k1 := HT0.out.c1 1 _ rfl
    have kl := HT0.out.lt1
    go_wp2_with fail
    refine Calls.mono (HH.out _ HT0.out.aft) ?_
    rintro e u1 ⟨rfl, hu⟩
    have HT1 : Hid (TB w u1 w.heap.size b2 #[.int .i64 x, .int .i64 p] 125 #[.int .i64 0, .int .i64 0] 125) := HT0.out.step hu
    clear hu k0 k1 kl HT0
    have k0 := HT1.out.c1 0 _ rfl
    have k1 := HT1.out.c1 1 _ rfl
    have kl := HT1.out.lt1
    have j0 := HT1.out.c2 0 _ rfl
    have j1 := HT1.out.c2 1 _ rfl
    have jl := HT1.out.lt2
    have jf := HT1.out.f2
    have y3 := (HX.out.below HT1.out.bel).c3
    have yl := (HX.out.below HT1.out.bel).lt
    go_wp2
    refine bodyPost_ret (v := .agg #[.int .i64 s.pub, .int .i64 n]) ?_ rfl ⟨by first | rfl | (rw [h0]; rfl), ?_⟩
    · simp only [results, Try.results97, go_sem]
      simp [go_sem, j0, j1]
    · have hB := HT1.out.bel
      have hg := HT1.out.ge2
      repeat refine Below.setCell ?_ (by simp only; omega) _
      exact hB
def ouB (s : FI) (c : CN) : Bool := if (ihB s c.a && ihB s c.b) = true then c.outer == 0 else (ihB s c.a || ihB s c.b) && opB c.outer
set_option maxRecDepth 100000 in
set_option maxHeartbeats 4000000 in
theorem outer_any {w : World} {b : Nat} {s : FI} {a : FA} (h : FX w b s a) (hl : s.hs.length ≤ 1048576) (c : CN) : Calls Try.prog 93 #[.pointer (some ⟨b, 0, none⟩), cnA c] w fun e w' => e = .returned (.bool (ouB s c)) ∧ Below w.heap.size w w' := by
  have HX : Hid (FX w b s a) := h
  have HA : Hid (∀ u, Aft w u → Calls Try.prog 76 #[.pointer (some ⟨b, 0, none⟩), .int .i64 c.a] u fun r w' => r = .returned (.bool (ihB s c.a)) ∧ Below u.heap.size u w') := fun u hu => isHost_any (HX.out.aft hu) hl c.a
  have HB : Hid (∀ u, Aft w u → Calls Try.prog 76 #[.pointer (some ⟨b, 0, none⟩), .int .i64 c.b] u fun r w' => r = .returned (.bool (ihB s c.b)) ∧ Below u.heap.size u w') := fun u hu => isHost_any (HX.out.aft hu) hl c.b
  have HL0 : Hid (LG w (w.alloc (.cells #[.int .i64 c.proto, .int .i64 c.a, .int .i64 c.ap, .int .i64 c.b, .int .i64 c.bp, .int .i64 c.outer, .int .i64 c.state, .bool c.fa, .bool c.fb, .int .i64 c.seen] 59)) w.heap.size #[.int .i64 c.proto, .int .i64 c.a, .int .i64 c.ap, .int .i64 c.b, .int .i64 c.bp, .int .i64 c.outer, .int .i64 c.state, .bool c.fa, .bool c.fb, .int .i64 c.seen] 59) := LG.new w _ _
  have E : Hid (ouB s c = if (ihB s c.a && ihB s c.b) = true then c.outer == 0 else (ihB s c.a || ihB s c.b) && opB c.outer) := rfl
  unfold cnA
  clear h
  cases h1 : ihB s c.a
  · rw [h1] at E HA
    cases h2 : ihB s c.b
    · rw [h2] at E HB
      go_enter Try.func93, Try.ntmps93
      go_upto_region 1 with fail
      generalize (w.alloc (.cells #[.int .i64 c.proto, .int .i64 c.a, .int .i64 c.ap, .int .i64 c.b, .int .i64 c.bp, .int .i64 c.outer, .int .i64 c.state, .bool c.fa, .bool c.fb, .int .i64 c.seen] 59)) = u0 at *
      generalize e1 : w.heap.size = b0 at *
      have HSB : Hid (LG w u0.drew b0 #[.int .i64 c.proto, .int .i64 c.a, .int .i64 c.ap, .int .i64 c.b, .int .i64 c.bp, .int .i64 c.outer, .int .i64 c.state, .bool c.fa, .bool c.fb, .int .i64 c.seen] 59 ∧ FX u0.drew b s a) := ⟨HL0.out.drew, HX.out.below (e1 ▸ HL0.out.drew.bel)⟩
      refine wp_region_held (S := fun w9 => LG w w9 b0 #[.int .i64 c.proto, .int .i64 c.a, .int .i64 c.ap, .int .i64 c.b, .int .i64 c.bp, .int .i64 c.outer, .int .i64 c.state, .bool c.fa, .bool c.fb, .int .i64 c.seen] 59 ∧ FX w9 b s a) (by kernel_rfl) ?_
      change wpAnyH _ _ _ _ _ _ _ _ (World.drew _)
      refine wpAnyH_take (i := 0) (v := .pointer (some ⟨b, 0, none⟩)) rfl (by kernel_rfl) (by kernel_rfl) (by kernel_rfl) (fun _ _ _ h => h) (Or.inl ⟨by kernel_rfl, fun w9 h9 => ?_⟩) HSB.out ?_
      · clear h9; go_simp
      refine wpAnyH_take (i := 1) (v := .pointer (some ⟨b0, 1, none⟩)) rfl (by kernel_rfl) (by kernel_rfl) (by kernel_rfl) (fun _ _ _ h => h) (Or.inl ⟨by kernel_rfl, fun w9 h9 => ?_⟩) HSB.out ?_
      · clear h9; go_simp
      refine wpAnyH_take (i := 2) (v := .int .i64 c.a) rfl (by kernel_rfl) (by kernel_rfl) (by kernel_rfl) (fun _ _ _ h => h) (Or.inl ⟨by kernel_rfl, fun w9 h9 => ?_⟩) HSB.out ?_
      · have x0 := h9.1.cel 1 _ rfl; have x1 := h9.1.cel 3 _ rfl; have x5 := h9.1.cel 5 _ rfl; have xl := h9.1.lt; clear h9; go_simp
      refine wpAnyH_take (i := 4) (v := .pointer (some ⟨b, 0, none⟩)) rfl (by kernel_rfl) (by kernel_rfl) (by kernel_rfl) (fun _ _ _ h => h) (Or.inl ⟨by kernel_rfl, fun w9 h9 => ?_⟩) HSB.out ?_
      · clear h9; go_simp
      refine wpAnyH_take (i := 5) (v := .pointer (some ⟨b0, 3, none⟩)) rfl (by kernel_rfl) (by kernel_rfl) (by kernel_rfl) (fun _ _ _ h => h) (Or.inl ⟨by kernel_rfl, fun w9 h9 => ?_⟩) HSB.out ?_
      · clear h9; go_simp
      refine wpAnyH_take (i := 6) (v := .int .i64 c.b) rfl (by kernel_rfl) (by kernel_rfl) (by kernel_rfl) (fun _ _ _ h => h) (Or.inl ⟨by kernel_rfl, fun w9 h9 => ?_⟩) HSB.out ?_
      · have x0 := h9.1.cel 1 _ rfl; have x1 := h9.1.cel 3 _ rfl; have x5 := h9.1.cel 5 _ rfl; have xl := h9.1.lt; clear h9; go_simp
      refine held_one 3 (by kernel_rfl) rfl (by kernel_rfl) fun K hK => ?_
      go_simp
      go_wp2_with (go_at_call 76; refine Calls.mono (HA.out _ HSB.out.1.aft) ?_; rintro r u9 ⟨rfl, hu9⟩; have HSC : Hid (LG w u9 b0 #[.int .i64 c.proto, .int .i64 c.a, .int .i64 c.ap, .int .i64 c.b, .int .i64 c.bp, .int .i64 c.outer, .int .i64 c.state, .bool c.fa, .bool c.fb, .int .i64 c.seen] 59 ∧ FX u9 b s a) := ⟨HSB.out.1.step hu9, HSB.out.2.below hu9⟩; clear hu9)
      refine hK _ _ HSC.out ?_
      clear hK K
      refine held_one 7 (by kernel_rfl) rfl (by kernel_rfl) fun K hK => ?_
      go_simp
      go_wp2_with (go_at_call 76; refine Calls.mono (HB.out _ HSC.out.1.aft) ?_; rintro r u9 ⟨rfl, hu9⟩; have HSD : Hid (LG w u9 b0 #[.int .i64 c.proto, .int .i64 c.a, .int .i64 c.ap, .int .i64 c.b, .int .i64 c.bp, .int .i64 c.outer, .int .i64 c.state, .bool c.fa, .bool c.fb, .int .i64 c.seen] 59 ∧ FX u9 b s a) := ⟨HSC.out.1.step hu9, HSC.out.2.below hu9⟩; clear hu9)
      refine hK _ _ HSD.out ?_
      clear hK K
      refine wpAnyH_take (i := 8) (v := .bool false) rfl (by kernel_rfl) (by kernel_rfl) (by kernel_rfl) (fun _ _ _ h => h) (Or.inl ⟨by kernel_rfl, fun w9 h9 => ?_⟩) HSD.out ?_
      · clear h9; go_simp
      refine wpAnyH_take (i := 9) (v := .bool false) rfl (by kernel_rfl) (by kernel_rfl) (by kernel_rfl) (fun _ _ _ h => h) (Or.inl ⟨by kernel_rfl, fun w9 h9 => ?_⟩) HSD.out ?_
      · clear h9; go_simp
      refine wpAnyH_done (by kernel_rfl) ?_ _
      go_simp
      have x5 := HSD.out.1.cel 5 _ rfl
      have xl := HSD.out.1.lt
      go_wp2
      go_ret
      exact ⟨ret_bool (by rw [E.out]; simp), e1 ▸ HSD.out.1.bel⟩
    · rw [h2] at E HB
      go_enter Try.func93, Try.ntmps93
      go_upto_region 1 with fail
      generalize (w.alloc (.cells #[.int .i64 c.proto, .int .i64 c.a, .int .i64 c.ap, .int .i64 c.b, .int .i64 c.bp, .int .i64 c.outer, .int .i64 c.state, .bool c.fa, .bool c.fb, .int .i64 c.seen] 59)) = u0 at *
      generalize e1 : w.heap.size = b0 at *
      have HSB : Hid (LG w u0.drew b0 #[.int .i64 c.proto, .int .i64 c.a, .int .i64 c.ap, .int .i64 c.b, .int .i64 c.bp, .int .i64 c.outer, .int .i64 c.state, .bool c.fa, .bool c.fb, .int .i64 c.seen] 59 ∧ FX u0.drew b s a) := ⟨HL0.out.drew, HX.out.below (e1 ▸ HL0.out.drew.bel)⟩
      refine wp_region_held (S := fun w9 => LG w w9 b0 #[.int .i64 c.proto, .int .i64 c.a, .int .i64 c.ap, .int .i64 c.b, .int .i64 c.bp, .int .i64 c.outer, .int .i64 c.state, .bool c.fa, .bool c.fb, .int .i64 c.seen] 59 ∧ FX w9 b s a) (by kernel_rfl) ?_
      change wpAnyH _ _ _ _ _ _ _ _ (World.drew _)
      refine wpAnyH_take (i := 0) (v := .pointer (some ⟨b, 0, none⟩)) rfl (by kernel_rfl) (by kernel_rfl) (by kernel_rfl) (fun _ _ _ h => h) (Or.inl ⟨by kernel_rfl, fun w9 h9 => ?_⟩) HSB.out ?_
      · clear h9; go_simp
      refine wpAnyH_take (i := 1) (v := .pointer (some ⟨b0, 1, none⟩)) rfl (by kernel_rfl) (by kernel_rfl) (by kernel_rfl) (fun _ _ _ h => h) (Or.inl ⟨by kernel_rfl, fun w9 h9 => ?_⟩) HSB.out ?_
      · clear h9; go_simp
      refine wpAnyH_take (i := 2) (v := .int .i64 c.a) rfl (by kernel_rfl) (by kernel_rfl) (by kernel_rfl) (fun _ _ _ h => h) (Or.inl ⟨by kernel_rfl, fun w9 h9 => ?_⟩) HSB.out ?_
      · have x0 := h9.1.cel 1 _ rfl; have x1 := h9.1.cel 3 _ rfl; have x5 := h9.1.cel 5 _ rfl; have xl := h9.1.lt; clear h9; go_simp
      refine wpAnyH_take (i := 4) (v := .pointer (some ⟨b, 0, none⟩)) rfl (by kernel_rfl) (by kernel_rfl) (by kernel_rfl) (fun _ _ _ h => h) (Or.inl ⟨by kernel_rfl, fun w9 h9 => ?_⟩) HSB.out ?_
      · clear h9; go_simp
      refine wpAnyH_take (i := 5) (v := .pointer (some ⟨b0, 3, none⟩)) rfl (by kernel_rfl) (by kernel_rfl) (by kernel_rfl) (fun _ _ _ h => h) (Or.inl ⟨by kernel_rfl, fun w9 h9 => ?_⟩) HSB.out ?_
      · clear h9; go_simp
      refine wpAnyH_take (i := 6) (v := .int .i64 c.b) rfl (by kernel_rfl) (by kernel_rfl) (by kernel_rfl) (fun _ _ _ h => h) (Or.inl ⟨by kernel_rfl, fun w9 h9 => ?_⟩) HSB.out ?_
      · have x0 := h9.1.cel 1 _ rfl; have x1 := h9.1.cel 3 _ rfl; have x5 := h9.1.cel 5 _ rfl; have xl := h9.1.lt; clear h9; go_simp
      refine held_one 3 (by kernel_rfl) rfl (by kernel_rfl) fun K hK => ?_
      go_simp
      go_wp2_with (go_at_call 76; refine Calls.mono (HA.out _ HSB.out.1.aft) ?_; rintro r u9 ⟨rfl, hu9⟩; have HSC : Hid (LG w u9 b0 #[.int .i64 c.proto, .int .i64 c.a, .int .i64 c.ap, .int .i64 c.b, .int .i64 c.bp, .int .i64 c.outer, .int .i64 c.state, .bool c.fa, .bool c.fb, .int .i64 c.seen] 59 ∧ FX u9 b s a) := ⟨HSB.out.1.step hu9, HSB.out.2.below hu9⟩; clear hu9)
      refine hK _ _ HSC.out ?_
      clear hK K
      refine held_one 7 (by kernel_rfl) rfl (by kernel_rfl) fun K hK => ?_
      go_simp
      go_wp2_with (go_at_call 76; refine Calls.mono (HB.out _ HSC.out.1.aft) ?_; rintro r u9 ⟨rfl, hu9⟩; have HSD : Hid (LG w u9 b0 #[.int .i64 c.proto, .int .i64 c.a, .int .i64 c.ap, .int .i64 c.b, .int .i64 c.bp, .int .i64 c.outer, .int .i64 c.state, .bool c.fa, .bool c.fb, .int .i64 c.seen] 59 ∧ FX u9 b s a) := ⟨HSC.out.1.step hu9, HSC.out.2.below hu9⟩; clear hu9)
      refine hK _ _ HSD.out ?_
      clear hK K
      refine wpAnyH_take (i := 8) (v := .bool false) rfl (by kernel_rfl) (by kernel_rfl) (by kernel_rfl) (fun _ _ _ h => h) (Or.inl ⟨by kernel_rfl, fun w9 h9 => ?_⟩) HSD.out ?_
      · clear h9; go_simp
      refine wpAnyH_take (i := 9) (v := .bool true) rfl (by kernel_rfl) (by kernel_rfl) (by kernel_rfl) (fun _ _ _ h => h) (Or.inl ⟨by kernel_rfl, fun w9 h9 => ?_⟩) HSD.out ?_
      · clear h9; go_simp
      refine wpAnyH_done (by kernel_rfl) ?_ _
      go_simp
      have x5 := HSD.out.1.cel 5 _ rfl
      have xl := HSD.out.1.lt
      go_wp2_with (go_at_call 75; refine Calls.mono (openPort_any _ _) ?_; rintro e v2 ⟨rfl, hw1⟩; rw [hw1]; clear hw1)
      go_ret
      exact ⟨ret_bool (by rw [E.out]; simp), e1 ▸ HSD.out.1.bel⟩
  · rw [h1] at E HA
    cases h2 : ihB s c.b
    · rw [h2] at E HB
      go_enter Try.func93, Try.ntmps93
      go_upto_region 1 with fail
      generalize (w.alloc (.cells #[.int .i64 c.proto, .int .i64 c.a, .int .i64 c.ap, .int .i64 c.b, .int .i64 c.bp, .int .i64 c.outer, .int .i64 c.state, .bool c.fa, .bool c.fb, .int .i64 c.seen] 59)) = u0 at *
      generalize e1 : w.heap.size = b0 at *
      have HSB : Hid (LG w u0.drew b0 #[.int .i64 c.proto, .int .i64 c.a, .int .i64 c.ap, .int .i64 c.b, .int .i64 c.bp, .int .i64 c.outer, .int .i64 c.state, .bool c.fa, .bool c.fb, .int .i64 c.seen] 59 ∧ FX u0.drew b s a) := ⟨HL0.out.drew, HX.out.below (e1 ▸ HL0.out.drew.bel)⟩
      refine wp_region_held (S := fun w9 => LG w w9 b0 #[.int .i64 c.proto, .int .i64 c.a, .int .i64 c.ap, .int .i64 c.b, .int .i64 c.bp, .int .i64 c.outer, .int .i64 c.state, .bool c.fa, .bool c.fb, .int .i64 c.seen] 59 ∧ FX w9 b s a) (by kernel_rfl) ?_
      change wpAnyH _ _ _ _ _ _ _ _ (World.drew _)
      refine wpAnyH_take (i := 0) (v := .pointer (some ⟨b, 0, none⟩)) rfl (by kernel_rfl) (by kernel_rfl) (by kernel_rfl) (fun _ _ _ h => h) (Or.inl ⟨by kernel_rfl, fun w9 h9 => ?_⟩) HSB.out ?_
      · clear h9; go_simp
      refine wpAnyH_take (i := 1) (v := .pointer (some ⟨b0, 1, none⟩)) rfl (by kernel_rfl) (by kernel_rfl) (by kernel_rfl) (fun _ _ _ h => h) (Or.inl ⟨by kernel_rfl, fun w9 h9 => ?_⟩) HSB.out ?_
      · clear h9; go_simp
      refine wpAnyH_take (i := 2) (v := .int .i64 c.a) rfl (by kernel_rfl) (by kernel_rfl) (by kernel_rfl) (fun _ _ _ h => h) (Or.inl ⟨by kernel_rfl, fun w9 h9 => ?_⟩) HSB.out ?_
      · have x0 := h9.1.cel 1 _ rfl; have x1 := h9.1.cel 3 _ rfl; have x5 := h9.1.cel 5 _ rfl; have xl := h9.1.lt; clear h9; go_simp
      refine wpAnyH_take (i := 4) (v := .pointer (some ⟨b, 0, none⟩)) rfl (by kernel_rfl) (by kernel_rfl) (by kernel_rfl) (fun _ _ _ h => h) (Or.inl ⟨by kernel_rfl, fun w9 h9 => ?_⟩) HSB.out ?_
      · clear h9; go_simp
      refine wpAnyH_take (i := 5) (v := .pointer (some ⟨b0, 3, none⟩)) rfl (by kernel_rfl) (by kernel_rfl) (by kernel_rfl) (fun _ _ _ h => h) (Or.inl ⟨by kernel_rfl, fun w9 h9 => ?_⟩) HSB.out ?_
      · clear h9; go_simp
      refine wpAnyH_take (i := 6) (v := .int .i64 c.b) rfl (by kernel_rfl) (by kernel_rfl) (by kernel_rfl) (fun _ _ _ h => h) (Or.inl ⟨by kernel_rfl, fun w9 h9 => ?_⟩) HSB.out ?_
      · have x0 := h9.1.cel 1 _ rfl; have x1 := h9.1.cel 3 _ rfl; have x5 := h9.1.cel 5 _ rfl; have xl := h9.1.lt; clear h9; go_simp
      refine held_one 3 (by kernel_rfl) rfl (by kernel_rfl) fun K hK => ?_
      go_simp
      go_wp2_with (go_at_call 76; refine Calls.mono (HA.out _ HSB.out.1.aft) ?_; rintro r u9 ⟨rfl, hu9⟩; have HSC : Hid (LG w u9 b0 #[.int .i64 c.proto, .int .i64 c.a, .int .i64 c.ap, .int .i64 c.b, .int .i64 c.bp, .int .i64 c.outer, .int .i64 c.state, .bool c.fa, .bool c.fb, .int .i64 c.seen] 59 ∧ FX u9 b s a) := ⟨HSB.out.1.step hu9, HSB.out.2.below hu9⟩; clear hu9)
      refine hK _ _ HSC.out ?_
      clear hK K
      refine held_one 7 (by kernel_rfl) rfl (by kernel_rfl) fun K hK => ?_
      go_simp
      go_wp2_with (go_at_call 76; refine Calls.mono (HB.out _ HSC.out.1.aft) ?_; rintro r u9 ⟨rfl, hu9⟩; have HSD : Hid (LG w u9 b0 #[.int .i64 c.proto, .int .i64 c.a, .int .i64 c.ap, .int .i64 c.b, .int .i64 c.bp, .int .i64 c.outer, .int .i64 c.state, .bool c.fa, .bool c.fb, .int .i64 c.seen] 59 ∧ FX u9 b s a) := ⟨HSC.out.1.step hu9, HSC.out.2.below hu9⟩; clear hu9)
      refine hK _ _ HSD.out ?_
      clear hK K
      refine wpAnyH_take (i := 8) (v := .bool true) rfl (by kernel_rfl) (by kernel_rfl) (by kernel_rfl) (fun _ _ _ h => h) (Or.inl ⟨by kernel_rfl, fun w9 h9 => ?_⟩) HSD.out ?_
      · clear h9; go_simp
      refine wpAnyH_take (i := 9) (v := .bool false) rfl (by kernel_rfl) (by kernel_rfl) (by kernel_rfl) (fun _ _ _ h => h) (Or.inl ⟨by kernel_rfl, fun w9 h9 => ?_⟩) HSD.out ?_
      · clear h9; go_simp
      refine wpAnyH_done (by kernel_rfl) ?_ _
      go_simp
      have x5 := HSD.out.1.cel 5 _ rfl
      have xl := HSD.out.1.lt
      go_wp2_with (go_at_call 75; refine Calls.mono (openPort_any _ _) ?_; rintro e v2 ⟨rfl, hw1⟩; rw [hw1]; clear hw1)
      go_ret
      exact ⟨ret_bool (by rw [E.out]; simp), e1 ▸ HSD.out.1.bel⟩
    · rw [h2] at E HB
      go_enter Try.func93, Try.ntmps93
      go_upto_region 1 with fail
      generalize (w.alloc (.cells #[.int .i64 c.proto, .int .i64 c.a, .int .i64 c.ap, .int .i64 c.b, .int .i64 c.bp, .int .i64 c.outer, .int .i64 c.state, .bool c.fa, .bool c.fb, .int .i64 c.seen] 59)) = u0 at *
      generalize e1 : w.heap.size = b0 at *
      have HSB : Hid (LG w u0.drew b0 #[.int .i64 c.proto, .int .i64 c.a, .int .i64 c.ap, .int .i64 c.b, .int .i64 c.bp, .int .i64 c.outer, .int .i64 c.state, .bool c.fa, .bool c.fb, .int .i64 c.seen] 59 ∧ FX u0.drew b s a) := ⟨HL0.out.drew, HX.out.below (e1 ▸ HL0.out.drew.bel)⟩
      refine wp_region_held (S := fun w9 => LG w w9 b0 #[.int .i64 c.proto, .int .i64 c.a, .int .i64 c.ap, .int .i64 c.b, .int .i64 c.bp, .int .i64 c.outer, .int .i64 c.state, .bool c.fa, .bool c.fb, .int .i64 c.seen] 59 ∧ FX w9 b s a) (by kernel_rfl) ?_
      change wpAnyH _ _ _ _ _ _ _ _ (World.drew _)
      refine wpAnyH_take (i := 0) (v := .pointer (some ⟨b, 0, none⟩)) rfl (by kernel_rfl) (by kernel_rfl) (by kernel_rfl) (fun _ _ _ h => h) (Or.inl ⟨by kernel_rfl, fun w9 h9 => ?_⟩) HSB.out ?_
      · clear h9; go_simp
      refine wpAnyH_take (i := 1) (v := .pointer (some ⟨b0, 1, none⟩)) rfl (by kernel_rfl) (by kernel_rfl) (by kernel_rfl) (fun _ _ _ h => h) (Or.inl ⟨by kernel_rfl, fun w9 h9 => ?_⟩) HSB.out ?_
      · clear h9; go_simp
      refine wpAnyH_take (i := 2) (v := .int .i64 c.a) rfl (by kernel_rfl) (by kernel_rfl) (by kernel_rfl) (fun _ _ _ h => h) (Or.inl ⟨by kernel_rfl, fun w9 h9 => ?_⟩) HSB.out ?_
      · have x0 := h9.1.cel 1 _ rfl; have x1 := h9.1.cel 3 _ rfl; have x5 := h9.1.cel 5 _ rfl; have xl := h9.1.lt; clear h9; go_simp
      refine wpAnyH_take (i := 4) (v := .pointer (some ⟨b, 0, none⟩)) rfl (by kernel_rfl) (by kernel_rfl) (by kernel_rfl) (fun _ _ _ h => h) (Or.inl ⟨by kernel_rfl, fun w9 h9 => ?_⟩) HSB.out ?_
      · clear h9; go_simp
      refine wpAnyH_take (i := 5) (v := .pointer (some ⟨b0, 3, none⟩)) rfl (by kernel_rfl) (by kernel_rfl) (by kernel_rfl) (fun _ _ _ h => h) (Or.inl ⟨by kernel_rfl, fun w9 h9 => ?_⟩) HSB.out ?_
      · clear h9; go_simp
      refine wpAnyH_take (i := 6) (v := .int .i64 c.b) rfl (by kernel_rfl) (by kernel_rfl) (by kernel_rfl) (fun _ _ _ h => h) (Or.inl ⟨by kernel_rfl, fun w9 h9 => ?_⟩) HSB.out ?_
      · have x0 := h9.1.cel 1 _ rfl; have x1 := h9.1.cel 3 _ rfl; have x5 := h9.1.cel 5 _ rfl; have xl := h9.1.lt; clear h9; go_simp
      refine held_one 3 (by kernel_rfl) rfl (by kernel_rfl) fun K hK => ?_
      go_simp
      go_wp2_with (go_at_call 76; refine Calls.mono (HA.out _ HSB.out.1.aft) ?_; rintro r u9 ⟨rfl, hu9⟩; have HSC : Hid (LG w u9 b0 #[.int .i64 c.proto, .int .i64 c.a, .int .i64 c.ap, .int .i64 c.b, .int .i64 c.bp, .int .i64 c.outer, .int .i64 c.state, .bool c.fa, .bool c.fb, .int .i64 c.seen] 59 ∧ FX u9 b s a) := ⟨HSB.out.1.step hu9, HSB.out.2.below hu9⟩; clear hu9)
      refine hK _ _ HSC.out ?_
      clear hK K
      refine held_one 7 (by kernel_rfl) rfl (by kernel_rfl) fun K hK => ?_
      go_simp
      go_wp2_with (go_at_call 76; refine Calls.mono (HB.out _ HSC.out.1.aft) ?_; rintro r u9 ⟨rfl, hu9⟩; have HSD : Hid (LG w u9 b0 #[.int .i64 c.proto, .int .i64 c.a, .int .i64 c.ap, .int .i64 c.b, .int .i64 c.bp, .int .i64 c.outer, .int .i64 c.state, .bool c.fa, .bool c.fb, .int .i64 c.seen] 59 ∧ FX u9 b s a) := ⟨HSC.out.1.step hu9, HSC.out.2.below hu9⟩; clear hu9)
      refine hK _ _ HSD.out ?_
      clear hK K
      refine wpAnyH_take (i := 8) (v := .bool true) rfl (by kernel_rfl) (by kernel_rfl) (by kernel_rfl) (fun _ _ _ h => h) (Or.inl ⟨by kernel_rfl, fun w9 h9 => ?_⟩) HSD.out ?_
      · clear h9; go_simp
      refine wpAnyH_take (i := 9) (v := .bool true) rfl (by kernel_rfl) (by kernel_rfl) (by kernel_rfl) (fun _ _ _ h => h) (Or.inl ⟨by kernel_rfl, fun w9 h9 => ?_⟩) HSD.out ?_
      · clear h9; go_simp
      refine wpAnyH_done (by kernel_rfl) ?_ _
      go_simp
      have x5 := HSD.out.1.cel 5 _ rfl
      have xl := HSD.out.1.lt
      go_wp2
      go_ret
      exact ⟨ret_bool (by rw [E.out]; simp), e1 ▸ HSD.out.1.bel⟩

def hdF (s : FI) (o : Int) (f : FL) : FL := ⟨f.pr, if ihB s f.a = true then s.pub else f.a, if ihB s f.a = true then o else f.ap, if ihB s f.b = true then s.pub else f.b, if ihB s f.b = true then o else f.bp⟩
def sn (s : FI) (c : CN) (f : Bool) (v : Int) : FL := if ihB s v = true then cfl c f else hdF s c.outer (cfl c f)
/-- Three boxes. -/
structure SB (w u : World) (b0 b1 b2 : Nat) (A : Array Value) (t : Nat) (Z Y : Array Value) (t2 : Nat) : Prop where
  bel : Below w.heap.size w u
  h0 : u.heap[b0]? = some (.cells A t (0, 0))
  h1 : u.heap[b1]? = some (.cells Z t2 (0, 0))
  h2 : u.heap[b2]? = some (.cells Y t2 (0, 0))
  g1 : w.heap.size ≤ b1
  n1 : b0 ≠ b1
  n2 : b1 ≠ b2
theorem SB.l0 {w u : World} {b0 b1 b2 t t2 : Nat} {A Z Y : Array Value} (h : SB w u b0 b1 b2 A t Z Y t2) : b0 < u.heap.size := (Array.getElem?_eq_some_iff.1 h.h0).1
theorem SB.l1 {w u : World} {b0 b1 b2 t t2 : Nat} {A Z Y : Array Value} (h : SB w u b0 b1 b2 A t Z Y t2) : b1 < u.heap.size := (Array.getElem?_eq_some_iff.1 h.h1).1
theorem SB.l2 {w u : World} {b0 b1 b2 t t2 : Nat} {A Z Y : Array Value} (h : SB w u b0 b1 b2 A t Z Y t2) : b2 < u.heap.size := (Array.getElem?_eq_some_iff.1 h.h2).1
theorem SB.step {w u u' : World} {b0 b1 b2 t t2 : Nat} {A Z Y : Array Value} (h : SB w u b0 b1 b2 A t Z Y t2) (hb : Below u.heap.size u u') : SB w u' b0 b1 b2 A t Z Y t2 := ⟨h.bel.trans (hb.mono h.bel.size), (hb.block _ h.l0).trans h.h0, (hb.block _ h.l1).trans h.h1, (hb.block _ h.l2).trans h.h2, h.g1, h.n1, h.n2⟩
theorem SB.drew {w u : World} {b0 b1 b2 t t2 : Nat} {A Z Y : Array Value} (h : SB w u b0 b1 b2 A t Z Y t2) : SB w u.drew b0 b1 b2 A t Z Y t2 := ⟨bdn h.bel 1, h.h0, h.h1, h.h2, h.g1, h.n1, h.n2⟩
theorem SB.aft {w u : World} {b0 b1 b2 t t2 : Nat} {A Z Y : Array Value} (h : SB w u b0 b1 b2 A t Z Y t2) : Aft w u := ⟨h.bel⟩
theorem SB.set {w u : World} {b0 b1 b2 t t2 : Nat} {A Z Y : Array Value} (h : SB w u b0 b1 b2 A t Z Y t2) (o : Nat) (v : Value) : SB w (u.setCell ⟨b1, o, none⟩ v) b0 b1 b2 A t (Z.setIfInBounds o v) Y t2 :=
  ⟨h.bel.setCell (by have := h.g1; simpa using this) _, (Below.heap_setCell _ _ _ _ (by simpa using h.n1)).trans h.h0, blk_set h.h1 o v, (Below.heap_setCell _ _ _ _ (by simpa using h.n2.symm)).trans h.h2, h.g1, h.n1, h.n2⟩
set_option maxRecDepth 100000 in
set_option maxHeartbeats 4000000 in
theorem seen_any {w : World} {b : Nat} {s : FI} {a : FA} (h : FX w b s a) (hl : s.hs.length ≤ 1048576) (c : CN) (f : Bool) (v : Int) : Calls Try.prog 94 #[.pointer (some ⟨b, 0, none⟩), cnA c, .bool f, .int .i64 v] w fun e w' => e = .returned (foA (sn s c f v)) ∧ Below w.heap.size w w' := by
  have HX : Hid (FX w b s a) := h
  have HV : Hid (∀ u, Aft w u → Calls Try.prog 76 #[.pointer (some ⟨b, 0, none⟩), .int .i64 v] u fun r w' => r = .returned (.bool (ihB s v)) ∧ Below u.heap.size u w') := fun u hu => isHost_any (HX.out.aft hu) hl v
  have HFL : Hid (∀ u, Calls Try.prog 90 #[.agg #[.int .i64 c.proto, .int .i64 c.a, .int .i64 c.ap, .int .i64 c.b, .int .i64 c.bp, .int .i64 c.outer, .int .i64 c.state, .bool c.fa, .bool c.fb, .int .i64 c.seen], .bool f] u fun e w' => e = .returned (foA (cfl c f)) ∧ Below u.heap.size u w') := fun u => flow_any c f u
  have E : Hid (sn s c f v = if ihB s v = true then cfl c f else ⟨(cfl c f).pr, if ihB s (cfl c f).a = true then s.pub else (cfl c f).a, if ihB s (cfl c f).a = true then c.outer else (cfl c f).ap, if ihB s (cfl c f).b = true then s.pub else (cfl c f).b, if ihB s (cfl c f).b = true then c.outer else (cfl c f).bp⟩) := rfl
  have HT0 : Hid (TB w ((w.alloc (.cells #[.int .i64 c.proto, .int .i64 c.a, .int .i64 c.ap, .int .i64 c.b, .int .i64 c.bp, .int .i64 c.outer, .int .i64 c.state, .bool c.fa, .bool c.fb, .int .i64 c.seen] 59)).alloc (.cells #[.int .i64 0, .int .i64 0, .int .i64 0, .int .i64 0, .int .i64 0] 127)) w.heap.size (w.heap.size + 1) #[.int .i64 c.proto, .int .i64 c.a, .int .i64 c.ap, .int .i64 c.b, .int .i64 c.bp, .int .i64 c.outer, .int .i64 c.state, .bool c.fa, .bool c.fb, .int .i64 c.seen] 59 #[.int .i64 0, .int .i64 0, .int .i64 0, .int .i64 0, .int .i64 0] 127) := TB.new w _ _ _ _
  unfold cnA
  generalize sn s c f v = R at E ⊢
  generalize cfl c f = y at *
  have HG1 : Hid (∀ u, Aft w u → Calls Try.prog 97 #[.pointer (some ⟨b, 0, none⟩), .agg #[.int .i64 y.a, .int .i64 y.ap], .int .i64 c.outer] u fun e w' => e = .returned (.agg #[.int .i64 (if ihB s y.a = true then s.pub else y.a), .int .i64 (if ihB s y.a = true then c.outer else y.ap)]) ∧ Below u.heap.size u w') := fun u hu => hidden_any (HX.out.aft hu) hl y.a y.ap c.outer
  have HG2 : Hid (∀ u, Aft w u → Calls Try.prog 97 #[.pointer (some ⟨b, 0, none⟩), .agg #[.int .i64 y.b, .int .i64 y.bp], .int .i64 c.outer] u fun e w' => e = .returned (.agg #[.int .i64 (if ihB s y.b = true then s.pub else y.b), .int .i64 (if ihB s y.b = true then c.outer else y.bp)]) ∧ Below u.heap.size u w') := fun u hu => hidden_any (HX.out.aft hu) hl y.b y.bp c.outer
  unfold foA foC at HFL
  generalize (if ihB s y.a = true then s.pub else y.a) = X1 at *
  generalize (if ihB s y.a = true then c.outer else y.ap) = X2 at *
  generalize (if ihB s y.b = true then s.pub else y.b) = X3 at *
  generalize (if ihB s y.b = true then c.outer else y.bp) = X4 at *
  clear h
  cases h0 : ihB s v
  · rw [h0] at HV
    go_enter Try.func94, Try.ntmps94
    go_upto_region 1 with fail
    generalize ((w.alloc (.cells #[.int .i64 c.proto, .int .i64 c.a, .int .i64 c.ap, .int .i64 c.b, .int .i64 c.bp, .int .i64 c.outer, .int .i64 c.state, .bool c.fa, .bool c.fb, .int .i64 c.seen] 59)).alloc (.cells #[.int .i64 0, .int .i64 0, .int .i64 0, .int .i64 0, .int .i64 0] 127)) = u0 at *
    generalize e1 : w.heap.size + 1 = b1 at *
    generalize e0 : w.heap.size = b0 at *
    have k0 := HT0.out.c1 0 _ rfl
    have k1 := HT0.out.c1 1 _ rfl
    have k2 := HT0.out.c1 2 _ rfl
    have k3 := HT0.out.c1 3 _ rfl
    have k4 := HT0.out.c1 4 _ rfl
    have k5 := HT0.out.c1 5 _ rfl
    have k6 := HT0.out.c1 6 _ rfl
    have k7 := HT0.out.c1 7 _ rfl
    have k8 := HT0.out.c1 8 _ rfl
    have k9 := HT0.out.c1 9 _ rfl
    have kl := HT0.out.lt1
    go_wp2_with fail
    refine Calls.mono (HFL.out _) ?_
    rintro e u1 ⟨rfl, hu⟩
    have HT1 : Hid (TB w u1 b0 b1 #[.int .i64 c.proto, .int .i64 c.a, .int .i64 c.ap, .int .i64 c.b, .int .i64 c.bp, .int .i64 c.outer, .int .i64 c.state, .bool c.fa, .bool c.fb, .int .i64 c.seen] 59 #[.int .i64 0, .int .i64 0, .int .i64 0, .int .i64 0, .int .i64 0] 127) := HT0.out.step hu
    clear hu HT0 k0 k1 k2 k3 k4 k5 k6 k7 k8 k9 kl
    have HS0 : Hid (SB w (u1.alloc (.cells #[.int .i64 y.pr, .int .i64 y.a, .int .i64 y.ap, .int .i64 y.b, .int .i64 y.bp] 127)) b0 b1 u1.heap.size #[.int .i64 c.proto, .int .i64 c.a, .int .i64 c.ap, .int .i64 c.b, .int .i64 c.bp, .int .i64 c.outer, .int .i64 c.state, .bool c.fa, .bool c.fb, .int .i64 c.seen] 59 #[.int .i64 0, .int .i64 0, .int .i64 0, .int .i64 0, .int .i64 0] #[.int .i64 y.pr, .int .i64 y.a, .int .i64 y.ap, .int .i64 y.b, .int .i64 y.bp] 127) := ⟨HT1.out.bel.trans ((bx1 _ _).mono HT1.out.bel.size), ((bx1 u1 _).block _ HT1.out.lt1).trans HT1.out.h1, ((bx1 u1 _).block _ HT1.out.lt2).trans HT1.out.h2, heap_new _ _, HT1.out.ge2, Nat.ne_of_lt HT1.out.ne, Nat.ne_of_lt HT1.out.lt2⟩
    clear HT1
    go_upto_region 2 with fail
    generalize (u1.alloc (.cells #[.int .i64 y.pr, .int .i64 y.a, .int .i64 y.ap, .int .i64 y.b, .int .i64 y.bp] 127)) = u2 at *
    generalize u1.heap.size = b2 at *
    go_wp2_with fail
    refine Calls.mono (HV.out _ HS0.out.aft) ?_
    rintro e u3 ⟨rfl, hu⟩
    have HS1 : Hid (SB w u3 b0 b1 b2 #[.int .i64 c.proto, .int .i64 c.a, .int .i64 c.ap, .int .i64 c.b, .int .i64 c.bp, .int .i64 c.outer, .int .i64 c.state, .bool c.fa, .bool c.fb, .int .i64 c.seen] 59 #[.int .i64 0, .int .i64 0, .int .i64 0, .int .i64 0, .int .i64 0] #[.int .i64 y.pr, .int .i64 y.a, .int .i64 y.ap, .int .i64 y.b, .int .i64 y.bp] 127) := HS0.out.step hu
    clear hu HS0
    go_upto_region 4 with fail
    have HS2 : Hid (SB w u3.drew b0 b1 b2 #[.int .i64 c.proto, .int .i64 c.a, .int .i64 c.ap, .int .i64 c.b, .int .i64 c.bp, .int .i64 c.outer, .int .i64 c.state, .bool c.fa, .bool c.fb, .int .i64 c.seen] 59 #[.int .i64 0, .int .i64 0, .int .i64 0, .int .i64 0, .int .i64 0] #[.int .i64 y.pr, .int .i64 y.a, .int .i64 y.ap, .int .i64 y.b, .int .i64 y.bp] 127) := HS1.out.drew
    clear HS1
    refine wp_region_held (S := fun w9 => ∃ Z, SB w w9 b0 b1 b2 #[.int .i64 c.proto, .int .i64 c.a, .int .i64 c.ap, .int .i64 c.b, .int .i64 c.bp, .int .i64 c.outer, .int .i64 c.state, .bool c.fa, .bool c.fb, .int .i64 c.seen] 59 Z #[.int .i64 y.pr, .int .i64 y.a, .int .i64 y.ap, .int .i64 y.b, .int .i64 y.bp] 127) (by kernel_rfl) ?_
    change wpAnyH _ _ _ _ _ _ _ _ (World.drew _)
    refine wpAnyH_take (i := 0) (v := .pointer (some ⟨b2, 0, none⟩)) rfl (by kernel_rfl) (by kernel_rfl) (by kernel_rfl) (fun _ _ _ h => h) (Or.inl ⟨by kernel_rfl, fun w9 h9 => ?_⟩) ⟨_, HS2.out⟩ ?_
    · clear h9; go_simp
    refine wpAnyH_take (i := 1) (v := .int .i64 y.pr) rfl (by kernel_rfl) (by kernel_rfl) (by kernel_rfl) (fun _ _ _ h => h) (Or.inl ⟨by kernel_rfl, fun w9 h9 => ?_⟩) ⟨_, HS2.out⟩ ?_
    · obtain ⟨Z, h9⟩ := h9; have x0 := celN h9.h2 0 _ rfl; have x1 := celN h9.h2 1 _ rfl; have x2 := celN h9.h2 2 _ rfl; have x3 := celN h9.h2 3 _ rfl; have x4 := celN h9.h2 4 _ rfl; have z5 := celN h9.h0 5 _ rfl; have xl := h9.l2; have yl := h9.l0; clear h9; go_simp
    refine wpAnyH_take (i := 2) (v := .pointer (some ⟨b, 0, none⟩)) rfl (by kernel_rfl) (by kernel_rfl) (by kernel_rfl) (fun _ _ _ h => h) (Or.inl ⟨by kernel_rfl, fun w9 h9 => ?_⟩) ⟨_, HS2.out⟩ ?_
    · clear h9; go_simp
    refine wpAnyH_take (i := 3) (v := .pointer (some ⟨b2, 1, none⟩)) rfl (by kernel_rfl) (by kernel_rfl) (by kernel_rfl) (fun _ _ _ h => h) (Or.inl ⟨by kernel_rfl, fun w9 h9 => ?_⟩) ⟨_, HS2.out⟩ ?_
    · clear h9; go_simp
    refine wpAnyH_take (i := 4) (v := .agg #[.int .i64 y.a, .int .i64 y.ap]) rfl (by kernel_rfl) (by kernel_rfl) (by kernel_rfl) (fun _ _ _ h => h) (Or.inl ⟨by kernel_rfl, fun w9 h9 => ?_⟩) ⟨_, HS2.out⟩ ?_
    · obtain ⟨Z, h9⟩ := h9; have x0 := celN h9.h2 0 _ rfl; have x1 := celN h9.h2 1 _ rfl; have x2 := celN h9.h2 2 _ rfl; have x3 := celN h9.h2 3 _ rfl; have x4 := celN h9.h2 4 _ rfl; have z5 := celN h9.h0 5 _ rfl; have xl := h9.l2; have yl := h9.l0; clear h9; go_simp
    refine wpAnyH_take (i := 5) (v := .pointer (some ⟨b0, 5, none⟩)) rfl (by kernel_rfl) (by kernel_rfl) (by kernel_rfl) (fun _ _ _ h => h) (Or.inl ⟨by kernel_rfl, fun w9 h9 => ?_⟩) ⟨_, HS2.out⟩ ?_
    · clear h9; go_simp
    refine wpAnyH_take (i := 6) (v := .int .i64 c.outer) rfl (by kernel_rfl) (by kernel_rfl) (by kernel_rfl) (fun _ _ _ h => h) (Or.inl ⟨by kernel_rfl, fun w9 h9 => ?_⟩) ⟨_, HS2.out⟩ ?_
    · obtain ⟨Z, h9⟩ := h9; have x0 := celN h9.h2 0 _ rfl; have x1 := celN h9.h2 1 _ rfl; have x2 := celN h9.h2 2 _ rfl; have x3 := celN h9.h2 3 _ rfl; have x4 := celN h9.h2 4 _ rfl; have z5 := celN h9.h0 5 _ rfl; have xl := h9.l2; have yl := h9.l0; clear h9; go_simp
    refine wpAnyH_take (i := 8) (v := .pointer (some ⟨b, 0, none⟩)) rfl (by kernel_rfl) (by kernel_rfl) (by kernel_rfl) (fun _ _ _ h => h) (Or.inl ⟨by kernel_rfl, fun w9 h9 => ?_⟩) ⟨_, HS2.out⟩ ?_
    · clear h9; go_simp
    refine wpAnyH_take (i := 9) (v := .pointer (some ⟨b2, 3, none⟩)) rfl (by kernel_rfl) (by kernel_rfl) (by kernel_rfl) (fun _ _ _ h => h) (Or.inl ⟨by kernel_rfl, fun w9 h9 => ?_⟩) ⟨_, HS2.out⟩ ?_
    · clear h9; go_simp
    refine wpAnyH_take (i := 10) (v := .agg #[.int .i64 y.b, .int .i64 y.bp]) rfl (by kernel_rfl) (by kernel_rfl) (by kernel_rfl) (fun _ _ _ h => h) (Or.inl ⟨by kernel_rfl, fun w9 h9 => ?_⟩) ⟨_, HS2.out⟩ ?_
    · obtain ⟨Z, h9⟩ := h9; have x0 := celN h9.h2 0 _ rfl; have x1 := celN h9.h2 1 _ rfl; have x2 := celN h9.h2 2 _ rfl; have x3 := celN h9.h2 3 _ rfl; have x4 := celN h9.h2 4 _ rfl; have z5 := celN h9.h0 5 _ rfl; have xl := h9.l2; have yl := h9.l0; clear h9; go_simp
    refine wpAnyH_take (i := 11) (v := .pointer (some ⟨b0, 5, none⟩)) rfl (by kernel_rfl) (by kernel_rfl) (by kernel_rfl) (fun _ _ _ h => h) (Or.inl ⟨by kernel_rfl, fun w9 h9 => ?_⟩) ⟨_, HS2.out⟩ ?_
    · clear h9; go_simp
    refine wpAnyH_take (i := 12) (v := .int .i64 c.outer) rfl (by kernel_rfl) (by kernel_rfl) (by kernel_rfl) (fun _ _ _ h => h) (Or.inl ⟨by kernel_rfl, fun w9 h9 => ?_⟩) ⟨_, HS2.out⟩ ?_
    · obtain ⟨Z, h9⟩ := h9; have x0 := celN h9.h2 0 _ rfl; have x1 := celN h9.h2 1 _ rfl; have x2 := celN h9.h2 2 _ rfl; have x3 := celN h9.h2 3 _ rfl; have x4 := celN h9.h2 4 _ rfl; have z5 := celN h9.h0 5 _ rfl; have xl := h9.l2; have yl := h9.l0; clear h9; go_simp
    refine held_one 7 (by kernel_rfl) rfl (by kernel_rfl) fun K hK => ?_
    go_simp
    go_wp2_with (go_at_call 97; refine Calls.mono (HG1.out _ HS2.out.aft) ?_; rintro r u9 ⟨rfl, hu9⟩; have HS3 : Hid (SB w u9 b0 b1 b2 #[.int .i64 c.proto, .int .i64 c.a, .int .i64 c.ap, .int .i64 c.b, .int .i64 c.bp, .int .i64 c.outer, .int .i64 c.state, .bool c.fa, .bool c.fb, .int .i64 c.seen] 59 #[.int .i64 0, .int .i64 0, .int .i64 0, .int .i64 0, .int .i64 0] #[.int .i64 y.pr, .int .i64 y.a, .int .i64 y.ap, .int .i64 y.b, .int .i64 y.bp] 127) := HS2.out.step hu9; clear hu9)
    refine hK _ _ ⟨_, HS3.out⟩ ?_
    clear hK K
    refine held_one 13 (by kernel_rfl) rfl (by kernel_rfl) fun K hK => ?_
    go_simp
    go_wp2_with (go_at_call 97; refine Calls.mono (HG2.out _ HS3.out.aft) ?_; rintro r u9 ⟨rfl, hu9⟩; have HS4 : Hid (SB w u9 b0 b1 b2 #[.int .i64 c.proto, .int .i64 c.a, .int .i64 c.ap, .int .i64 c.b, .int .i64 c.bp, .int .i64 c.outer, .int .i64 c.state, .bool c.fa, .bool c.fb, .int .i64 c.seen] 59 #[.int .i64 0, .int .i64 0, .int .i64 0, .int .i64 0, .int .i64 0] #[.int .i64 y.pr, .int .i64 y.a, .int .i64 y.ap, .int .i64 y.b, .int .i64 y.bp] 127) := HS3.out.step hu9; clear hu9)
    refine hK _ _ ⟨_, HS4.out⟩ ?_
    clear hK K
    refine wpAnyH_take (i := 14) (v := .agg #[.int .i64 y.pr, .int .i64 X1, .int .i64 X2, .int .i64 X3, .int .i64 X4]) rfl (by kernel_rfl) (by kernel_rfl) (by kernel_rfl) (fun _ _ _ h => h) (Or.inl ⟨by kernel_rfl, fun w9 h9 => ?_⟩) ⟨_, HS4.out⟩ ?_
    · clear h9; go_simp
    have j0 := celN HS4.out.h1 0 _ rfl
    have j1 := celN HS4.out.h1 1 _ rfl
    have j2 := celN HS4.out.h1 2 _ rfl
    have j3 := celN HS4.out.h1 3 _ rfl
    have j4 := celN HS4.out.h1 4 _ rfl
    have jl := HS4.out.l1
    have jf := frzN HS4.out.h1
    refine held_one 15 (by kernel_rfl) rfl (by kernel_rfl) fun K hK => ?_
    go_simp
    go_wp2
    refine hK _ _ ⟨_, ((((HS4.out.set 0 _).set 1 _).set 2 _).set 3 _).set 4 _⟩ ?_
    clear hK K
    refine wpAnyH_done (by kernel_rfl) ?_ _
    go_simp
    go_wp2
    refine bodyPost_ret (v := .agg #[.int .i64 y.pr, .int .i64 X1, .int .i64 X2, .int .i64 X3, .int .i64 X4]) ?_ rfl ⟨?_, ?_⟩
    · simp only [results, Try.results94, go_sem]
      simp [go_sem, j0, j1, j2, j3, j4]
    · rw [E.out, if_neg (by rw [h0]; decide)]
      rfl
    · have hB := HS4.out.bel
      have hg := HS4.out.g1
      repeat refine Below.setCell ?_ (by simp only; omega) _
      exact hB
  · rw [h0] at HV
    go_enter Try.func94, Try.ntmps94
    go_upto_region 1 with fail
    generalize ((w.alloc (.cells #[.int .i64 c.proto, .int .i64 c.a, .int .i64 c.ap, .int .i64 c.b, .int .i64 c.bp, .int .i64 c.outer, .int .i64 c.state, .bool c.fa, .bool c.fb, .int .i64 c.seen] 59)).alloc (.cells #[.int .i64 0, .int .i64 0, .int .i64 0, .int .i64 0, .int .i64 0] 127)) = u0 at *
    generalize e1 : w.heap.size + 1 = b1 at *
    generalize e0 : w.heap.size = b0 at *
    have k0 := HT0.out.c1 0 _ rfl
    have k1 := HT0.out.c1 1 _ rfl
    have k2 := HT0.out.c1 2 _ rfl
    have k3 := HT0.out.c1 3 _ rfl
    have k4 := HT0.out.c1 4 _ rfl
    have k5 := HT0.out.c1 5 _ rfl
    have k6 := HT0.out.c1 6 _ rfl
    have k7 := HT0.out.c1 7 _ rfl
    have k8 := HT0.out.c1 8 _ rfl
    have k9 := HT0.out.c1 9 _ rfl
    have kl := HT0.out.lt1
    go_wp2_with fail
    refine Calls.mono (HFL.out _) ?_
    rintro e u1 ⟨rfl, hu⟩
    have HT1 : Hid (TB w u1 b0 b1 #[.int .i64 c.proto, .int .i64 c.a, .int .i64 c.ap, .int .i64 c.b, .int .i64 c.bp, .int .i64 c.outer, .int .i64 c.state, .bool c.fa, .bool c.fb, .int .i64 c.seen] 59 #[.int .i64 0, .int .i64 0, .int .i64 0, .int .i64 0, .int .i64 0] 127) := HT0.out.step hu
    clear hu HT0 k0 k1 k2 k3 k4 k5 k6 k7 k8 k9 kl
    have HS0 : Hid (SB w (u1.alloc (.cells #[.int .i64 y.pr, .int .i64 y.a, .int .i64 y.ap, .int .i64 y.b, .int .i64 y.bp] 127)) b0 b1 u1.heap.size #[.int .i64 c.proto, .int .i64 c.a, .int .i64 c.ap, .int .i64 c.b, .int .i64 c.bp, .int .i64 c.outer, .int .i64 c.state, .bool c.fa, .bool c.fb, .int .i64 c.seen] 59 #[.int .i64 0, .int .i64 0, .int .i64 0, .int .i64 0, .int .i64 0] #[.int .i64 y.pr, .int .i64 y.a, .int .i64 y.ap, .int .i64 y.b, .int .i64 y.bp] 127) := ⟨HT1.out.bel.trans ((bx1 _ _).mono HT1.out.bel.size), ((bx1 u1 _).block _ HT1.out.lt1).trans HT1.out.h1, ((bx1 u1 _).block _ HT1.out.lt2).trans HT1.out.h2, heap_new _ _, HT1.out.ge2, Nat.ne_of_lt HT1.out.ne, Nat.ne_of_lt HT1.out.lt2⟩
    clear HT1
    go_upto_region 2 with fail
    generalize (u1.alloc (.cells #[.int .i64 y.pr, .int .i64 y.a, .int .i64 y.ap, .int .i64 y.b, .int .i64 y.bp] 127)) = u2 at *
    generalize u1.heap.size = b2 at *
    go_wp2_with fail
    refine Calls.mono (HV.out _ HS0.out.aft) ?_
    rintro e u3 ⟨rfl, hu⟩
    have HS1 : Hid (SB w u3 b0 b1 b2 #[.int .i64 c.proto, .int .i64 c.a, .int .i64 c.ap, .int .i64 c.b, .int .i64 c.bp, .int .i64 c.outer, .int .i64 c.state, .bool c.fa, .bool c.fb, .int .i64 c.seen] 59 #[.int .i64 0, .int .i64 0, .int .i64 0, .int .i64 0, .int .i64 0] #[.int .i64 y.pr, .int .i64 y.a, .int .i64 y.ap, .int .i64 y.b, .int .i64 y.bp] 127) := HS0.out.step hu
    clear hu HS0
    have j0 := celN HS1.out.h1 0 _ rfl
    have j1 := celN HS1.out.h1 1 _ rfl
    have j2 := celN HS1.out.h1 2 _ rfl
    have j3 := celN HS1.out.h1 3 _ rfl
    have j4 := celN HS1.out.h1 4 _ rfl
    have jl := HS1.out.l1
    have jf := frzN HS1.out.h1
    have i0 := celN HS1.out.h2 0 _ rfl
    have i1 := celN HS1.out.h2 1 _ rfl
    have i2 := celN HS1.out.h2 2 _ rfl
    have i3 := celN HS1.out.h2 3 _ rfl
    have i4 := celN HS1.out.h2 4 _ rfl
    have il := HS1.out.l2
    go_wp2
    refine bodyPost_ret (v := .agg #[.int .i64 y.pr, .int .i64 y.a, .int .i64 y.ap, .int .i64 y.b, .int .i64 y.bp]) ?_ rfl ⟨?_, ?_⟩
    · simp only [results, Try.results94, go_sem]
      simp [go_sem, j0, j1, j2, j3, j4]
    · rw [E.out, if_pos h0]
      rfl
    · have hB := HS1.out.bel
      have hg := HS1.out.g1
      repeat refine Below.setCell ?_ (by simp only; omega) _
      exact hB

def vw (c : CN) (q : Nat) : Int := if q = 0 then c.a else c.b
def gF (s : FI) (c : CN) (i : Nat) : FL := sn s c (decide (i / 2 = 0)) (vw c (i % 2))
theorem gF_at (s : FI) (c : CN) {m q : Nat} (hq : q < 2) : gF s c (2 * m + q) = sn s c (decide (m = 0)) (vw c q) := by
  unfold gF
  rw [show (2 * m + q) / 2 = m by omega, show (2 * m + q) % 2 = q by omega]
def kst (f : FL → Option Nat) (k : Nat) (G : Nat → FL) : Nat → FL → Option Nat
  | 0 => f
  | i + 1 => upd (kst f k G i) (G i) k
def okF (o : Option Nat) (k : Nat) : Bool := match o with
  | none => true
  | some j => decide (j = k)
def kok (f : FL → Option Nat) (k : Nat) (G : Nat → FL) (i : Nat) : Bool := okF (kst f k G i (G i)) k
def adB (f : FL → Option Nat) (k : Nat) (G : Nat → FL) : Bool := allB (kok f k G) 4
theorem upd_same {f : FL → Option Nat} {F : FL} {k : Nat} (h : f F = some k) : f = upd f F k := by
  funext G
  unfold upd
  by_cases e : G = F
  · rw [if_pos e, e, h]
  · rw [if_neg e]
/-- What add has of the world: the filter's, its connection's box, the two ways. -/
structure AS (w0 u : World) (bm bc bs : Nat) (c : CN) : Prop where
  bel : Below w0.heap.size w0 u
  hc : u.heap[bc]? = some (.cells #[.int .i64 c.proto, .int .i64 c.a, .int .i64 c.ap, .int .i64 c.b, .int .i64 c.bp, .int .i64 c.outer, .int .i64 c.state, .bool c.fa, .bool c.fb, .int .i64 c.seen] 59 (0, 0))
  hs : u.heap[bs]? = some (.cells #[.bool true, .bool false] 4 (0, 0))
  n1 : bc ≠ bm
  n2 : bs ≠ bm
  ge : w0.heap.size ≤ bm
theorem AS.l1 {w0 u : World} {bm bc bs : Nat} {c : CN} (h : AS w0 u bm bc bs c) : bc < u.heap.size := (Array.getElem?_eq_some_iff.1 h.hc).1
theorem AS.l2 {w0 u : World} {bm bc bs : Nat} {c : CN} (h : AS w0 u bm bc bs c) : bs < u.heap.size := (Array.getElem?_eq_some_iff.1 h.hs).1
theorem AS.step {w0 u u' : World} {bm bc bs : Nat} {c : CN} (h : AS w0 u bm bc bs c) (hb : Below u.heap.size u u') : AS w0 u' bm bc bs c :=
  ⟨h.bel.trans (hb.mono h.bel.size), (hb.block _ h.l1).trans h.hc, (hb.block _ h.l2).trans h.hs, h.n1, h.n2, h.ge⟩
theorem AS.put {w0 u u' : World} {bm bc bs : Nat} {c : CN} (h : AS w0 u bm bc bs c) (hg : u.grownBy u' (some bm)) : AS w0 u' bm bc bs c :=
  ⟨h.bel.grown hg h.bel.size (fun j hj => by cases hj; exact h.ge), (hg.block _ h.l1 (by simpa using h.n1)).trans h.hc, (hg.block _ h.l2 (by simpa using h.n2)).trans h.hs, h.n1, h.n2, h.ge⟩
structure BI (u : World) (bm bi : Nat) (c : CN) : Prop where
  h : u.heap[bi]? = some (.cells #[.int .i64 c.a, .int .i64 c.b] 2 (0, 0))
  ne : bi ≠ bm
theorem BI.lt {u : World} {bm bi : Nat} {c : CN} (h : BI u bm bi c) : bi < u.heap.size := (Array.getElem?_eq_some_iff.1 h.h).1
theorem BI.step {u u' : World} {bm bi : Nat} {c : CN} (h : BI u bm bi c) (hb : Below u.heap.size u u') : BI u' bm bi c := ⟨(hb.block _ h.lt).trans h.h, h.ne⟩
theorem BI.put {u u' : World} {bm bi : Nat} {c : CN} (h : BI u bm bi c) (hg : u.grownBy u' (some bm)) : BI u' bm bi c := ⟨(hg.block _ h.lt (by simpa using h.ne)).trans h.h, h.ne⟩
set_option maxRecDepth 100000 in
set_option maxHeartbeats 8000000 in
theorem add_any {w0 w : World} {b bm n k : Nat} {s : FI} {a : FA} {f : FL → Option Nat} (hx : FX w0 b s a) (hl : FIlen s) (hb : Below w0.heap.size w0 w) (hge : w0.heap.size ≤ bm) (hk : KN w bm n f) (hn : n ≤ 4194304) (hlt : k < s.cs.length) (hok : ∀ i, FLok (gF s s.cs[k] i)) :
    Calls Try.prog 79 #[.map (some bm), .pointer (some ⟨b, 0, none⟩), .int .i64 (k : Nat)] w fun e w' => e = .returned (.bool (adB f k (gF s s.cs[k]))) ∧ Below w0.heap.size w0 w' ∧ (adB f k (gF s s.cs[k]) = true → KN w' bm (n + 4) (kst f k (gF s s.cs[k]) 4)) := by
  have HX : Hid (FX w0 b s a) := hx
  have HB : Hid (Below w0.heap.size w0 w) := hb
  have HK : Hid (KN w bm n f) := hk
  have hlh := hl.lhs.len
  have hlc := hl.lcs
  have hxw := hx.below hb
  obtain ⟨ac, kc, ec⟩ := hxw.row.rcs.sl
  have c6 := hxw.c6
  have cl := hxw.lt
  rw [ec] at c6
  obtain ⟨g, o, cap2, hv, _, hg, hc⟩ := (hxw.row.rcs).resolve_left (fun h => by rw [h.1] at hlt; simp at hlt)
  rw [ec] at hv
  injection hv with hv1 hv2 hv3
  subst hv1 hv3
  obtain ⟨d0, d1, d2, d3, d4, d5, d6, d7, d8, d9⟩ := hc k hlt
  have hk0 : (0 : Int) ≤ (k : Int) := by omega
  have hk1 : (k : Int) < (s.cs.length : Int) := by omega
  have HOK : Hid (∀ i, FLok (gF s s.cs[k] i)) := hok
  have hbmw : bm < w.heap.size := hk.lt
  generalize s.cs[k] = c at *
  obtain ⟨G, hG⟩ : ∃ G, gF s c = G := ⟨_, rfl⟩
  rw [hG] at HOK ⊢
  have HG : Hid (∀ m q : Nat, q < 2 → G (2 * m + q) = sn s c (decide (m = 0)) (vw c q)) := (fun m q hq => by rw [← hG]; exact gF_at s c hq)
  have HSN : Hid (∀ u, Below w0.heap.size w0 u → ∀ fa v, Calls Try.prog 94 #[.pointer (some ⟨b, 0, none⟩), cnA c, .bool fa, .int .i64 v] u fun e w' => e = .returned (foA (sn s c fa v)) ∧ Below u.heap.size u w') := fun u hu fa v => seen_any (HX.out.below hu) hlh c fa v
  have HA0 : Hid (AS w0 ((w.alloc (.cells #[.int .i64 c.proto, .int .i64 c.a, .int .i64 c.ap, .int .i64 c.b, .int .i64 c.bp, .int .i64 c.outer, .int .i64 c.state, .bool c.fa, .bool c.fb, .int .i64 c.seen] 59)).alloc (.cells #[.bool true, .bool false] 4)) bm w.heap.size (w.heap.size + 1) c) := ⟨hb.trans (((bx1 _ _).alloc (by simp) _).mono hb.size), ((bx1 (w.alloc _) _).block _ (by simp)).trans (heap_new _ _), (by simpa using heap_new (w.alloc (.cells #[.int .i64 c.proto, .int .i64 c.a, .int .i64 c.ap, .int .i64 c.b, .int .i64 c.bp, .int .i64 c.outer, .int .i64 c.state, .bool c.fa, .bool c.fb, .int .i64 c.seen] 59)) (.cells #[.bool true, .bool false] 4)), by omega, by omega, hge⟩
  have HK0 : Hid (KN ((w.alloc (.cells #[.int .i64 c.proto, .int .i64 c.a, .int .i64 c.ap, .int .i64 c.b, .int .i64 c.bp, .int .i64 c.outer, .int .i64 c.state, .bool c.fa, .bool c.fb, .int .i64 c.seen] 59)).alloc (.cells #[.bool true, .bool false] 4)) bm n f) := hk.below ((bx1 _ _).alloc (by simp) _)
  have HGE : Hid (w0.heap.size ≤ bm) := hge
  have HN : Hid (n ≤ 4194304) := hn
  have hgw : g < w.heap.size := hg
  clear hx hb hk hl hxw hc hok hG hv2 ec hge hn
  go_enter Try.func79, Try.ntmps79
  go_wp2
  generalize ((w.alloc (.cells #[.int .i64 c.proto, .int .i64 c.a, .int .i64 c.ap, .int .i64 c.b, .int .i64 c.bp, .int .i64 c.outer, .int .i64 c.state, .bool c.fa, .bool c.fb, .int .i64 c.seen] 59)).alloc (.cells #[.bool true, .bool false] 4)) = u0 at *
  generalize w.heap.size + 1 = bs at *
  generalize w.heap.size = bc at *
  clear d0 d1 d2 d3 d4 d5 d6 d7 d8 d9 c6 cl hgw hbmw hk0 hk1 hg
  go_loopw [24] (fun i wr => ∃ m : Nat, m ≤ 2 ∧ i = .int .i64 m ∧ AS w0 wr bm bc bs c ∧ KN wr bm (n + 2 * m) (kst f k G (2 * m)) ∧ allB (kok f k G) (2 * m) = true) (fun i _ => 2 - (intOf i).toNat)
  case atStart => exact ⟨0, Nat.zero_le _, rfl, HA0.out, HK0.out, rfl⟩
  case round =>
    obtain ⟨m, hm, rfl, hA, hK, hT⟩ := hrel
    have HA : Hid (AS w0 wr bm bc bs c) := hA
    have HKN : Hid (KN wr bm (n + 2 * m) (kst f k G (2 * m))) := hK
    have HT : Hid (allB (kok f k G) (2 * m) = true) := hT
    clear hA hK hT HA0 HK0
    by_cases hlm : m < 2
    · have hm0 : (0 : Int) ≤ (m : Int) := by omega
      have hm1 : (m : Int) < 2 := by omega
      obtain ⟨fa, hfa⟩ : ∃ fa, decide (m = 0) = fa := ⟨_, rfl⟩
      have HFA : Hid (decide (m = 0) = fa) := hfa
      have e0 : wr.cell? ⟨bs, m, none⟩ = some (.bool fa) := by
        rw [← hfa]
        rcases (show m = 0 ∨ m = 1 by omega) with rfl | rfl
        · exact celN HA.out.hs 0 _ rfl
        · exact celN HA.out.hs 1 _ rfl
      have el := HA.out.l2
      have k1 := celN HA.out.hc 1 _ rfl
      have k3 := celN HA.out.hc 3 _ rfl
      have kl := HA.out.l1
      have HA1 : Hid (AS w0 (wr.alloc (.cells #[.int .i64 c.a, .int .i64 c.b] 2)) bm bc bs c) := HA.out.step (bx1 _ _)
      have HI1 : Hid (BI (wr.alloc (.cells #[.int .i64 c.a, .int .i64 c.b] 2)) bm wr.heap.size c) := ⟨heap_new _ _, Nat.ne_of_gt HKN.out.lt⟩
      have HK1 : Hid (KN (wr.alloc (.cells #[.int .i64 c.a, .int .i64 c.b] 2)) bm (n + 2 * m) (kst f k G (2 * m))) := HKN.out.below (bx1 _ _)
      clear hfa
      go_wp2
      generalize (wr.alloc (.cells #[.int .i64 c.a, .int .i64 c.b] 2)) = v0 at *
      generalize wr.heap.size = bi at *
      clear e0 el k1 k3 kl HA HKN
      go_loopw [34] (fun j w2 => ∃ q : Nat, q ≤ 2 ∧ j = .int .i64 q ∧ AS w0 w2 bm bc bs c ∧ BI w2 bm bi c ∧ KN w2 bm (n + (2 * m + q)) (kst f k G (2 * m + q)) ∧ allB (kok f k G) (2 * m + q) = true) (fun j _ => 2 - (intOf j).toNat)
      case atStart => exact ⟨0, Nat.zero_le _, rfl, HA1.out, HI1.out, HK1.out, HT.out⟩
      case round =>
        obtain ⟨q, hq, rfl, hA, hI, hK, hT2⟩ := hrel
        have HA2 : Hid (AS w0 wr bm bc bs c) := hA
        have HI2 : Hid (BI wr bm bi c) := hI
        have HK2 : Hid (KN wr bm (n + (2 * m + q)) (kst f k G (2 * m + q))) := hK
        have HT2 : Hid (allB (kok f k G) (2 * m + q) = true) := hT2
        clear hA hI hK hT2 HA1 HI1 HK1 HT
        by_cases hlq : q < 2
        · have hq0 : (0 : Int) ≤ (q : Int) := by omega
          have hq1 : (q : Int) < 2 := by omega
          obtain ⟨v, hv⟩ : ∃ v, vw c q = v := ⟨_, rfl⟩
          have e0 : wr.cell? ⟨bi, q, none⟩ = some (.int .i64 v) := by
            rw [← hv]
            rcases (show q = 0 ∨ q = 1 by omega) with rfl | rfl
            · exact celN HI2.out.h 0 _ rfl
            · exact celN HI2.out.h 1 _ rfl
          have el := HI2.out.lt
          have HSC : Hid (Calls Try.prog 94 #[.pointer (some ⟨b, 0, none⟩), .agg #[.int .i64 c.proto, .int .i64 c.a, .int .i64 c.ap, .int .i64 c.b, .int .i64 c.bp, .int .i64 c.outer, .int .i64 c.state, .bool c.fa, .bool c.fb, .int .i64 c.seen], .bool fa, .int .i64 v] wr fun e w' => e = .returned (foA (sn s c fa v)) ∧ Below wr.heap.size wr w') := HSN.out wr HA2.out.bel fa v
          have HY : Hid (G (2 * m + q) = sn s c fa v) := (show G (2 * m + q) = sn s c fa v by rw [HG.out m q hlq, HFA.out, hv])
          have HYO : Hid (FLok (sn s c fa v)) := (show FLok (sn s c fa v) by rw [← HY.out]; exact HOK.out _)
          generalize sn s c fa v = y at *
          unfold foA foC at HSC
          clear hv
          have k0 := celN HA2.out.hc 0 _ rfl
          have k1 := celN HA2.out.hc 1 _ rfl
          have k2 := celN HA2.out.hc 2 _ rfl
          have k3 := celN HA2.out.hc 3 _ rfl
          have k4 := celN HA2.out.hc 4 _ rfl
          have k5 := celN HA2.out.hc 5 _ rfl
          have k6 := celN HA2.out.hc 6 _ rfl
          have k7 := celN HA2.out.hc 7 _ rfl
          have k8 := celN HA2.out.hc 8 _ rfl
          have k9 := celN HA2.out.hc 9 _ rfl
          have kl := HA2.out.l1
          go_wp2_with fail
          refine Calls.mono HSC.out ?_
          rintro e u9 ⟨rfl, hu⟩
          have HA3 : Hid (AS w0 (u9.alloc (.cells #[.int .i64 y.pr, .int .i64 y.a, .int .i64 y.ap, .int .i64 y.b, .int .i64 y.bp] 127)) bm bc bs c) := (HA2.out.step hu).step (bx1 _ _)
          have HI3 : Hid (BI (u9.alloc (.cells #[.int .i64 y.pr, .int .i64 y.a, .int .i64 y.ap, .int .i64 y.b, .int .i64 y.bp] 127)) bm bi c) := (HI2.out.step hu).step (bx1 _ _)
          have HK3 : Hid (KN (u9.alloc (.cells #[.int .i64 y.pr, .int .i64 y.a, .int .i64 y.ap, .int .i64 y.b, .int .i64 y.bp] 127)) bm (n + (2 * m + q)) (kst f k G (2 * m + q))) := (HK2.out.below hu).below (bx1 _ _)
          have HW3 : Hid ((u9.alloc (.cells #[.int .i64 y.pr, .int .i64 y.a, .int .i64 y.ap, .int .i64 y.b, .int .i64 y.bp] 127)).heap[u9.heap.size]? = some (.cells #[.int .i64 y.pr, .int .i64 y.a, .int .i64 y.ap, .int .i64 y.b, .int .i64 y.bp] 127 (0, 0))) := heap_new _ _
          clear hu k0 k1 k2 k3 k4 k5 k6 k7 k8 k9 kl e0 el HA2 HI2 HK2 HSC
          go_upto_region 9 with fail
          generalize (u9.alloc (.cells #[.int .i64 y.pr, .int .i64 y.a, .int .i64 y.ap, .int .i64 y.b, .int .i64 y.bp] 127)) = v3 at *
          generalize u9.heap.size = bw at *
          obtain ⟨i, g2, hr, hj⟩ := HK3.out.look HYO.out
          unfold foA foC at hr
          have j0 := celN HW3.out 0 _ rfl
          have j1 := celN HW3.out 1 _ rfl
          have j2 := celN HW3.out 2 _ rfl
          have j3 := celN HW3.out 3 _ rfl
          have j4 := celN HW3.out 4 _ rfl
          have jl : bw < v3.heap.size := (Array.getElem?_eq_some_iff.1 HW3.out).1
          have HKO : Hid (kok f k G (2 * m + q) = okF (kst f k G (2 * m + q) y) k) := (show kok f k G (2 * m + q) = _ by unfold kok; rw [HY.out])
          cases hst : kst f k G (2 * m + q) y with
          | none =>
            rw [hst] at hr HKO
            simp only [Option.isSome_none] at hr
            have HA4 : Hid (AS w0 (v3.alloc (.cells #[.int .i64 i, .bool g2] 133)) bm bc bs c) := HA3.out.step (bx1 _ _)
            have HI4 : Hid (BI (v3.alloc (.cells #[.int .i64 i, .bool g2] 133)) bm bi c) := HI3.out.step (bx1 _ _)
            have HK4 : Hid (KN (v3.alloc (.cells #[.int .i64 i, .bool g2] 133)) bm (n + (2 * m + q)) (kst f k G (2 * m + q))) := HK3.out.below (bx1 _ _)
            have HW4 : Hid ((v3.alloc (.cells #[.int .i64 i, .bool g2] 133)).heap[bw]? = some (.cells #[.int .i64 y.pr, .int .i64 y.a, .int .i64 y.ap, .int .i64 y.b, .int .i64 y.bp] 127 (0, 0))) := ((bx1 v3 _).block _ jl).trans HW3.out
            clear hj
            go_upto_region 13 with fail
            clear j0 j1 j2 j3 j4 jl hr HA3 HI3 HK3 HW3
            generalize (v3.alloc (.cells #[.int .i64 i, .bool g2] 133)) = v4 at *
            obtain ⟨v5, hr5, hk5, hg5⟩ := HK4.out.put HYO.out k fa (by have := HN.out; unfold maxLen; omega)
            unfold foA foC at hr5
            have HA5 : Hid (AS w0 v5 bm bc bs c) := HA4.out.put hg5
            have HI5 : Hid (BI v5 bm bi c) := HI4.out.put hg5
            have HK5 : Hid (KN v5 bm (n + (2 * m + (q + 1))) (kst f k G (2 * m + (q + 1)))) := (show KN v5 bm (n + (2 * m + (q + 1))) (upd (kst f k G (2 * m + q)) (G (2 * m + q)) k) by rw [HY.out]; exact hk5)
            have HT5 : Hid (allB (kok f k G) (2 * m + (q + 1)) = true) := (show allB (kok f k G) (2 * m + q + 1) = true by rw [allB_succ, HT2.out, HKO.out]; rfl)
            have j0 := celN HW4.out 0 _ rfl
            have j1 := celN HW4.out 1 _ rfl
            have j2 := celN HW4.out 2 _ rfl
            have j3 := celN HW4.out 3 _ rfl
            have j4 := celN HW4.out 4 _ rfl
            have jl : bw < v4.heap.size := (Array.getElem?_eq_some_iff.1 HW4.out).1
            clear hk5 hg5
            go_wp2
            exact ⟨⟨q + 1, hlq, by go_num, HA5.out, HI5.out, HK5.out, HT5.out⟩, by simp [intOf]; omega⟩
          | some j =>
            rw [hst] at hr HKO
            simp only [Option.isSome_some] at hr
            obtain rfl := hj j hst
            have HA4 : Hid (AS w0 (v3.alloc (.cells #[.int .i64 (j : Nat), .bool g2] 133)) bm bc bs c) := HA3.out.step (bx1 _ _)
            have HI4 : Hid (BI (v3.alloc (.cells #[.int .i64 (j : Nat), .bool g2] 133)) bm bi c) := HI3.out.step (bx1 _ _)
            have HK4 : Hid (KN (v3.alloc (.cells #[.int .i64 (j : Nat), .bool g2] 133)) bm (n + (2 * m + q)) (kst f k G (2 * m + q))) := HK3.out.below (bx1 _ _)
            have HST : Hid (kst f k G (2 * m + q) y = some j) := hst
            clear hj hst
            by_cases hjk : j = k
            · subst hjk
              have hne : ((j : Int) != (j : Int)) = false := by simp
              have HK5 : Hid (KN (v3.alloc (.cells #[.int .i64 (j : Nat), .bool g2] 133)) bm (n + (2 * m + (q + 1))) (kst f j G (2 * m + (q + 1)))) := (show KN _ bm (n + (2 * m + (q + 1))) (upd (kst f j G (2 * m + q)) (G (2 * m + q)) j) by rw [HY.out]; exact (HK4.out.mono (by omega)).cong (upd_same HST.out))
              have HT5 : Hid (allB (kok f j G) (2 * m + (q + 1)) = true) := (show allB (kok f j G) (2 * m + q + 1) = true by rw [allB_succ, HT2.out, HKO.out]; simp [okF])
              go_wp2
              exact ⟨⟨q + 1, hlq, by go_num, HA4.out, HI4.out, HK5.out, HT5.out⟩, by simp [intOf]; omega⟩
            · have hne : ((j : Int) != (k : Int)) = true := by simp; omega
              have HBD : Hid (adB f k G = false) := allB_bad (show 2 * m + q < 4 by omega) (HKO.out.trans (by simp [okF, hjk]))
              go_wp2
              go_ret
              exact ⟨ret_bool HBD.out.symm, HA4.out.bel, fun h => by rw [HBD.out] at h; cases h⟩
        · obtain rfl : q = 2 := by omega
          go_wp2
          exact ⟨⟨m + 1, hlm, by go_num, HA2.out, HK2.out, HT2.out⟩, by simp [intOf]; omega⟩
    · obtain rfl : m = 2 := by omega
      go_wp2
      go_ret
      exact ⟨ret_bool HT.out.symm, HA.out.bel, fun _ => HKN.out⟩

def cnB (s : FI) (c : CN) : Bool := !(!pkB ⟨c.proto, c.a, c.ap, c.b, c.bp, 0⟩ || c.a == s.pub || c.b == s.pub) && (stB c && ouB s c && decide (0 ≤ c.seen) && decide (c.seen ≤ s.time))
set_option maxRecDepth 100000 in
set_option maxHeartbeats 4000000 in
theorem connRight_any {w : World} {b : Nat} {s : FI} {a : FA} (h : FX w b s a) (hl : s.hs.length ≤ 1048576) (c : CN) : Calls Try.prog 78 #[.pointer (some ⟨b, 0, none⟩), cnA c] w fun e w' => e = .returned (.bool (cnB s c)) ∧ Below w.heap.size w w' := by
  have HX : Hid (FX w b s a) := h
  have HF : Hid (∀ u, Calls Try.prog 90 #[.agg #[.int .i64 c.proto, .int .i64 c.a, .int .i64 c.ap, .int .i64 c.b, .int .i64 c.bp, .int .i64 c.outer, .int .i64 c.state, .bool c.fa, .bool c.fb, .int .i64 c.seen], .bool true] u fun e w' => e = .returned (.agg #[.int .i64 c.proto, .int .i64 c.a, .int .i64 c.ap, .int .i64 c.b, .int .i64 c.bp]) ∧ Below u.heap.size u w') := fun u => flow_any c true u
  have HPK : Hid (∀ u, Calls Try.prog 91 #[.agg #[.int .i64 c.proto, .int .i64 c.a, .int .i64 c.ap, .int .i64 c.b, .int .i64 c.bp], .int .i64 0] u fun e w' => e = .returned (.agg #[.int .i64 c.proto, .int .i64 c.a, .int .i64 c.ap, .int .i64 c.b, .int .i64 c.bp, .int .i64 0]) ∧ Below u.heap.size u w') := fun u => packet_any ⟨c.proto, c.a, c.ap, c.b, c.bp⟩ 0 u
  have HR : Hid (∀ u, Calls Try.prog 40 #[.agg #[.int .i64 c.proto, .int .i64 c.a, .int .i64 c.ap, .int .i64 c.b, .int .i64 c.bp, .int .i64 0]] u fun e w' => e = .returned (.bool (pkB ⟨c.proto, c.a, c.ap, c.b, c.bp, 0⟩)) ∧ Below u.heap.size u w') := fun u => pkRight_any ⟨c.proto, c.a, c.ap, c.b, c.bp, 0⟩ u
  have HST : Hid (∀ u, Calls Try.prog 92 #[.agg #[.int .i64 c.proto, .int .i64 c.a, .int .i64 c.ap, .int .i64 c.b, .int .i64 c.bp, .int .i64 c.outer, .int .i64 c.state, .bool c.fa, .bool c.fb, .int .i64 c.seen]] u fun e w' => e = .returned (.bool (stB c)) ∧ Below u.heap.size u w') := fun u => state_any c u
  have HOU : Hid (∀ u, Aft w u → Calls Try.prog 93 #[.pointer (some ⟨b, 0, none⟩), .agg #[.int .i64 c.proto, .int .i64 c.a, .int .i64 c.ap, .int .i64 c.b, .int .i64 c.bp, .int .i64 c.outer, .int .i64 c.state, .bool c.fa, .bool c.fb, .int .i64 c.seen]] u fun e w' => e = .returned (.bool (ouB s c)) ∧ Below u.heap.size u w') := fun u hu => outer_any (HX.out.aft hu) hl c
  have HL0 : Hid (LG w (w.alloc (.cells #[.int .i64 c.proto, .int .i64 c.a, .int .i64 c.ap, .int .i64 c.b, .int .i64 c.bp, .int .i64 c.outer, .int .i64 c.state, .bool c.fa, .bool c.fb, .int .i64 c.seen] 59)) w.heap.size #[.int .i64 c.proto, .int .i64 c.a, .int .i64 c.ap, .int .i64 c.b, .int .i64 c.bp, .int .i64 c.outer, .int .i64 c.state, .bool c.fa, .bool c.fb, .int .i64 c.seen] 59) := LG.new w _ _
  have E : Hid (cnB s c = (!(!pkB ⟨c.proto, c.a, c.ap, c.b, c.bp, 0⟩ || c.a == s.pub || c.b == s.pub) && (stB c && ouB s c && decide (0 ≤ c.seen) && decide (c.seen ≤ s.time)))) := rfl
  unfold cnA
  clear h
  cases h1 : pkB ⟨c.proto, c.a, c.ap, c.b, c.bp, 0⟩
  · rw [h1] at E HR
    go_enter Try.func78, Try.ntmps78
    go_upto_region 1 with fail
    generalize (w.alloc (.cells #[.int .i64 c.proto, .int .i64 c.a, .int .i64 c.ap, .int .i64 c.b, .int .i64 c.bp, .int .i64 c.outer, .int .i64 c.state, .bool c.fa, .bool c.fb, .int .i64 c.seen] 59)) = u0 at *
    generalize e1 : w.heap.size = b0 at *
    have HSB : Hid (LG w u0.drew b0 #[.int .i64 c.proto, .int .i64 c.a, .int .i64 c.ap, .int .i64 c.b, .int .i64 c.bp, .int .i64 c.outer, .int .i64 c.state, .bool c.fa, .bool c.fb, .int .i64 c.seen] 59 ∧ FX u0.drew b s a) := ⟨HL0.out.drew, HX.out.below (e1 ▸ HL0.out.drew.bel)⟩
    refine wp_region_held (S := fun w9 => LG w w9 b0 #[.int .i64 c.proto, .int .i64 c.a, .int .i64 c.ap, .int .i64 c.b, .int .i64 c.bp, .int .i64 c.outer, .int .i64 c.state, .bool c.fa, .bool c.fb, .int .i64 c.seen] 59 ∧ FX w9 b s a) (by kernel_rfl) ?_
    change wpAnyH _ _ _ _ _ _ _ _ (World.drew _)
    refine wpAnyH_take (i := 0) (v := .agg #[.int .i64 c.proto, .int .i64 c.a, .int .i64 c.ap, .int .i64 c.b, .int .i64 c.bp, .int .i64 c.outer, .int .i64 c.state, .bool c.fa, .bool c.fb, .int .i64 c.seen]) rfl (by kernel_rfl) (by kernel_rfl) (by kernel_rfl) (fun _ _ _ h => h) (Or.inl ⟨by kernel_rfl, fun w9 h9 => ?_⟩) HSB.out ?_
    · have x0 := h9.1.cel 0 _ rfl; have x1 := h9.1.cel 1 _ rfl; have x2 := h9.1.cel 2 _ rfl; have x3 := h9.1.cel 3 _ rfl; have x4 := h9.1.cel 4 _ rfl; have x5 := h9.1.cel 5 _ rfl; have x6 := h9.1.cel 6 _ rfl; have x7 := h9.1.cel 7 _ rfl; have x8 := h9.1.cel 8 _ rfl; have x9 := h9.1.cel 9 _ rfl; have xl := h9.1.lt; have y3 := h9.2.c3; have y7 := h9.2.c7; have yl := h9.2.lt; clear h9; go_simp
    refine held_one 1 (by kernel_rfl) rfl (by kernel_rfl) fun K hK => ?_
    go_simp
    go_wp2_with (go_at_call 90; refine Calls.mono (HF.out _) ?_; rintro r u9 ⟨rfl, hu9⟩; have HSC : Hid (LG w u9 b0 #[.int .i64 c.proto, .int .i64 c.a, .int .i64 c.ap, .int .i64 c.b, .int .i64 c.bp, .int .i64 c.outer, .int .i64 c.state, .bool c.fa, .bool c.fb, .int .i64 c.seen] 59 ∧ FX u9 b s a) := ⟨HSB.out.1.step hu9, HSB.out.2.below hu9⟩; clear hu9)
    refine hK _ _ HSC.out ?_
    clear hK K
    refine held_one 2 (by kernel_rfl) rfl (by kernel_rfl) fun K hK => ?_
    go_simp
    go_wp2_with (go_at_call 91; refine Calls.mono (HPK.out _) ?_; rintro r u9 ⟨rfl, hu9⟩; have HSD : Hid (LG w u9 b0 #[.int .i64 c.proto, .int .i64 c.a, .int .i64 c.ap, .int .i64 c.b, .int .i64 c.bp, .int .i64 c.outer, .int .i64 c.state, .bool c.fa, .bool c.fb, .int .i64 c.seen] 59 ∧ FX u9 b s a) := ⟨HSC.out.1.step hu9, HSC.out.2.below hu9⟩; clear hu9)
    refine hK _ _ HSD.out ?_
    clear hK K
    refine held_one 3 (by kernel_rfl) rfl (by kernel_rfl) fun K hK => ?_
    go_simp
    go_wp2_with (go_at_call 40; refine Calls.mono (HR.out _) ?_; rintro r u9 ⟨rfl, hu9⟩; have HSE : Hid (LG w u9 b0 #[.int .i64 c.proto, .int .i64 c.a, .int .i64 c.ap, .int .i64 c.b, .int .i64 c.bp, .int .i64 c.outer, .int .i64 c.state, .bool c.fa, .bool c.fb, .int .i64 c.seen] 59 ∧ FX u9 b s a) := ⟨HSD.out.1.step hu9, HSD.out.2.below hu9⟩; clear hu9)
    refine hK _ _ HSE.out ?_
    clear hK K
    refine wpAnyH_take (i := 4) (v := .bool true) rfl (by kernel_rfl) (by kernel_rfl) (by kernel_rfl) (fun _ _ _ h => h) (Or.inl ⟨by kernel_rfl, fun w9 h9 => ?_⟩) HSE.out ?_
    · clear h9; go_simp
    refine wpAnyH_take (i := 5) (v := .bool true) rfl (by kernel_rfl) (by kernel_rfl) (by kernel_rfl) (fun _ _ _ h => h) (Or.inl ⟨by kernel_rfl, fun w9 h9 => ?_⟩) HSE.out ?_
    · clear h9; go_simp
    refine wpAnyH_take (i := 6) (v := undef) rfl (by kernel_rfl) (by kernel_rfl) (by kernel_rfl) (fun _ _ _ h => h) (Or.inr ⟨by kernel_rfl, rfl⟩) HSE.out ?_
    refine wpAnyH_take (i := 7) (v := undef) rfl (by kernel_rfl) (by kernel_rfl) (by kernel_rfl) (fun _ _ _ h => h) (Or.inr ⟨by kernel_rfl, rfl⟩) HSE.out ?_
    refine wpAnyH_take (i := 8) (v := undef) rfl (by kernel_rfl) (by kernel_rfl) (by kernel_rfl) (fun _ _ _ h => h) (Or.inr ⟨by kernel_rfl, rfl⟩) HSE.out ?_
    refine wpAnyH_take (i := 9) (v := undef) rfl (by kernel_rfl) (by kernel_rfl) (by kernel_rfl) (fun _ _ _ h => h) (Or.inr ⟨by kernel_rfl, rfl⟩) HSE.out ?_
    refine wpAnyH_take (i := 10) (v := undef) rfl (by kernel_rfl) (by kernel_rfl) (by kernel_rfl) (fun _ _ _ h => h) (Or.inr ⟨by kernel_rfl, rfl⟩) HSE.out ?_
    refine wpAnyH_take (i := 11) (v := undef) rfl (by kernel_rfl) (by kernel_rfl) (by kernel_rfl) (fun _ _ _ h => h) (Or.inr ⟨by kernel_rfl, rfl⟩) HSE.out ?_
    refine wpAnyH_take (i := 12) (v := undef) rfl (by kernel_rfl) (by kernel_rfl) (by kernel_rfl) (fun _ _ _ h => h) (Or.inr ⟨by kernel_rfl, rfl⟩) HSE.out ?_
    refine wpAnyH_take (i := 13) (v := .bool true) rfl (by kernel_rfl) (by kernel_rfl) (by kernel_rfl) (fun _ _ _ h => h) (Or.inl ⟨by kernel_rfl, fun w9 h9 => ?_⟩) HSE.out ?_
    · clear h9; go_simp
    refine wpAnyH_take (i := 14) (v := .bool true) rfl (by kernel_rfl) (by kernel_rfl) (by kernel_rfl) (fun _ _ _ h => h) (Or.inl ⟨by kernel_rfl, fun w9 h9 => ?_⟩) HSE.out ?_
    · clear h9; go_simp
    refine wpAnyH_take (i := 15) (v := undef) rfl (by kernel_rfl) (by kernel_rfl) (by kernel_rfl) (fun _ _ _ h => h) (Or.inr ⟨by kernel_rfl, rfl⟩) HSE.out ?_
    refine wpAnyH_take (i := 16) (v := undef) rfl (by kernel_rfl) (by kernel_rfl) (by kernel_rfl) (fun _ _ _ h => h) (Or.inr ⟨by kernel_rfl, rfl⟩) HSE.out ?_
    refine wpAnyH_take (i := 17) (v := undef) rfl (by kernel_rfl) (by kernel_rfl) (by kernel_rfl) (fun _ _ _ h => h) (Or.inr ⟨by kernel_rfl, rfl⟩) HSE.out ?_
    refine wpAnyH_take (i := 18) (v := undef) rfl (by kernel_rfl) (by kernel_rfl) (by kernel_rfl) (fun _ _ _ h => h) (Or.inr ⟨by kernel_rfl, rfl⟩) HSE.out ?_
    refine wpAnyH_take (i := 19) (v := undef) rfl (by kernel_rfl) (by kernel_rfl) (by kernel_rfl) (fun _ _ _ h => h) (Or.inr ⟨by kernel_rfl, rfl⟩) HSE.out ?_
    refine wpAnyH_take (i := 20) (v := undef) rfl (by kernel_rfl) (by kernel_rfl) (by kernel_rfl) (fun _ _ _ h => h) (Or.inr ⟨by kernel_rfl, rfl⟩) HSE.out ?_
    refine wpAnyH_take (i := 21) (v := undef) rfl (by kernel_rfl) (by kernel_rfl) (by kernel_rfl) (fun _ _ _ h => h) (Or.inr ⟨by kernel_rfl, rfl⟩) HSE.out ?_
    refine wpAnyH_take (i := 22) (v := .bool true) rfl (by kernel_rfl) (by kernel_rfl) (by kernel_rfl) (fun _ _ _ h => h) (Or.inl ⟨by kernel_rfl, fun w9 h9 => ?_⟩) HSE.out ?_
    · clear h9; go_simp
    refine wpAnyH_done (by kernel_rfl) ?_ _
    go_simp
    go_wp2
    go_ret
    exact ⟨ret_bool (by rw [E.out]; simp), e1 ▸ HSE.out.1.bel⟩
  · rw [h1] at E HR
    cases h2 : (c.a == s.pub)
    · rw [h2] at E
      cases h3 : (c.b == s.pub)
      · rw [h3] at E
        cases h4 : stB c
        · rw [h4] at E HST
          go_enter Try.func78, Try.ntmps78
          go_upto_region 1 with fail
          generalize (w.alloc (.cells #[.int .i64 c.proto, .int .i64 c.a, .int .i64 c.ap, .int .i64 c.b, .int .i64 c.bp, .int .i64 c.outer, .int .i64 c.state, .bool c.fa, .bool c.fb, .int .i64 c.seen] 59)) = u0 at *
          generalize e1 : w.heap.size = b0 at *
          have HSB : Hid (LG w u0.drew b0 #[.int .i64 c.proto, .int .i64 c.a, .int .i64 c.ap, .int .i64 c.b, .int .i64 c.bp, .int .i64 c.outer, .int .i64 c.state, .bool c.fa, .bool c.fb, .int .i64 c.seen] 59 ∧ FX u0.drew b s a) := ⟨HL0.out.drew, HX.out.below (e1 ▸ HL0.out.drew.bel)⟩
          refine wp_region_held (S := fun w9 => LG w w9 b0 #[.int .i64 c.proto, .int .i64 c.a, .int .i64 c.ap, .int .i64 c.b, .int .i64 c.bp, .int .i64 c.outer, .int .i64 c.state, .bool c.fa, .bool c.fb, .int .i64 c.seen] 59 ∧ FX w9 b s a) (by kernel_rfl) ?_
          change wpAnyH _ _ _ _ _ _ _ _ (World.drew _)
          refine wpAnyH_take (i := 0) (v := .agg #[.int .i64 c.proto, .int .i64 c.a, .int .i64 c.ap, .int .i64 c.b, .int .i64 c.bp, .int .i64 c.outer, .int .i64 c.state, .bool c.fa, .bool c.fb, .int .i64 c.seen]) rfl (by kernel_rfl) (by kernel_rfl) (by kernel_rfl) (fun _ _ _ h => h) (Or.inl ⟨by kernel_rfl, fun w9 h9 => ?_⟩) HSB.out ?_
          · have x0 := h9.1.cel 0 _ rfl; have x1 := h9.1.cel 1 _ rfl; have x2 := h9.1.cel 2 _ rfl; have x3 := h9.1.cel 3 _ rfl; have x4 := h9.1.cel 4 _ rfl; have x5 := h9.1.cel 5 _ rfl; have x6 := h9.1.cel 6 _ rfl; have x7 := h9.1.cel 7 _ rfl; have x8 := h9.1.cel 8 _ rfl; have x9 := h9.1.cel 9 _ rfl; have xl := h9.1.lt; have y3 := h9.2.c3; have y7 := h9.2.c7; have yl := h9.2.lt; clear h9; go_simp
          refine held_one 1 (by kernel_rfl) rfl (by kernel_rfl) fun K hK => ?_
          go_simp
          go_wp2_with (go_at_call 90; refine Calls.mono (HF.out _) ?_; rintro r u9 ⟨rfl, hu9⟩; have HSC : Hid (LG w u9 b0 #[.int .i64 c.proto, .int .i64 c.a, .int .i64 c.ap, .int .i64 c.b, .int .i64 c.bp, .int .i64 c.outer, .int .i64 c.state, .bool c.fa, .bool c.fb, .int .i64 c.seen] 59 ∧ FX u9 b s a) := ⟨HSB.out.1.step hu9, HSB.out.2.below hu9⟩; clear hu9)
          refine hK _ _ HSC.out ?_
          clear hK K
          refine held_one 2 (by kernel_rfl) rfl (by kernel_rfl) fun K hK => ?_
          go_simp
          go_wp2_with (go_at_call 91; refine Calls.mono (HPK.out _) ?_; rintro r u9 ⟨rfl, hu9⟩; have HSD : Hid (LG w u9 b0 #[.int .i64 c.proto, .int .i64 c.a, .int .i64 c.ap, .int .i64 c.b, .int .i64 c.bp, .int .i64 c.outer, .int .i64 c.state, .bool c.fa, .bool c.fb, .int .i64 c.seen] 59 ∧ FX u9 b s a) := ⟨HSC.out.1.step hu9, HSC.out.2.below hu9⟩; clear hu9)
          refine hK _ _ HSD.out ?_
          clear hK K
          refine held_one 3 (by kernel_rfl) rfl (by kernel_rfl) fun K hK => ?_
          go_simp
          go_wp2_with (go_at_call 40; refine Calls.mono (HR.out _) ?_; rintro r u9 ⟨rfl, hu9⟩; have HSE : Hid (LG w u9 b0 #[.int .i64 c.proto, .int .i64 c.a, .int .i64 c.ap, .int .i64 c.b, .int .i64 c.bp, .int .i64 c.outer, .int .i64 c.state, .bool c.fa, .bool c.fb, .int .i64 c.seen] 59 ∧ FX u9 b s a) := ⟨HSD.out.1.step hu9, HSD.out.2.below hu9⟩; clear hu9)
          refine hK _ _ HSE.out ?_
          clear hK K
          refine wpAnyH_take (i := 4) (v := .bool false) rfl (by kernel_rfl) (by kernel_rfl) (by kernel_rfl) (fun _ _ _ h => h) (Or.inl ⟨by kernel_rfl, fun w9 h9 => ?_⟩) HSE.out ?_
          · clear h9; go_simp
          refine wpAnyH_take (i := 5) (v := .bool false) rfl (by kernel_rfl) (by kernel_rfl) (by kernel_rfl) (fun _ _ _ h => h) (Or.inl ⟨by kernel_rfl, fun w9 h9 => ?_⟩) HSE.out ?_
          · clear h9; go_simp
          refine wpAnyH_take (i := 6) (v := .pointer (some ⟨b0, 1, none⟩)) rfl (by kernel_rfl) (by kernel_rfl) (by kernel_rfl) (fun _ _ _ h => h) (Or.inl ⟨by kernel_rfl, fun w9 h9 => ?_⟩) HSE.out ?_
          · clear h9; go_simp
          refine wpAnyH_take (i := 7) (v := .int .i64 c.a) rfl (by kernel_rfl) (by kernel_rfl) (by kernel_rfl) (fun _ _ _ h => h) (Or.inl ⟨by kernel_rfl, fun w9 h9 => ?_⟩) HSE.out ?_
          · have x0 := h9.1.cel 0 _ rfl; have x1 := h9.1.cel 1 _ rfl; have x2 := h9.1.cel 2 _ rfl; have x3 := h9.1.cel 3 _ rfl; have x4 := h9.1.cel 4 _ rfl; have x5 := h9.1.cel 5 _ rfl; have x6 := h9.1.cel 6 _ rfl; have x7 := h9.1.cel 7 _ rfl; have x8 := h9.1.cel 8 _ rfl; have x9 := h9.1.cel 9 _ rfl; have xl := h9.1.lt; have y3 := h9.2.c3; have y7 := h9.2.c7; have yl := h9.2.lt; clear h9; go_simp
          refine wpAnyH_take (i := 8) (v := .pointer (some ⟨b, 0, none⟩)) rfl (by kernel_rfl) (by kernel_rfl) (by kernel_rfl) (fun _ _ _ h => h) (Or.inl ⟨by kernel_rfl, fun w9 h9 => ?_⟩) HSE.out ?_
          · clear h9; go_simp
          refine wpAnyH_take (i := 9) (v := .pointer (some ⟨b, 0, none⟩)) rfl (by kernel_rfl) (by kernel_rfl) (by kernel_rfl) (fun _ _ _ h => h) (Or.inl ⟨by kernel_rfl, fun w9 h9 => ?_⟩) HSE.out ?_
          · clear h9; go_simp
          refine wpAnyH_take (i := 10) (v := .pointer (some ⟨b, 3, none⟩)) rfl (by kernel_rfl) (by kernel_rfl) (by kernel_rfl) (fun _ _ _ h => h) (Or.inl ⟨by kernel_rfl, fun w9 h9 => ?_⟩) HSE.out ?_
          · clear h9; go_simp
          refine wpAnyH_take (i := 11) (v := .int .i64 s.pub) rfl (by kernel_rfl) (by kernel_rfl) (by kernel_rfl) (fun _ _ _ h => h) (Or.inl ⟨by kernel_rfl, fun w9 h9 => ?_⟩) HSE.out ?_
          · have x0 := h9.1.cel 0 _ rfl; have x1 := h9.1.cel 1 _ rfl; have x2 := h9.1.cel 2 _ rfl; have x3 := h9.1.cel 3 _ rfl; have x4 := h9.1.cel 4 _ rfl; have x5 := h9.1.cel 5 _ rfl; have x6 := h9.1.cel 6 _ rfl; have x7 := h9.1.cel 7 _ rfl; have x8 := h9.1.cel 8 _ rfl; have x9 := h9.1.cel 9 _ rfl; have xl := h9.1.lt; have y3 := h9.2.c3; have y7 := h9.2.c7; have yl := h9.2.lt; clear h9; go_simp
          refine wpAnyH_take (i := 12) (v := .bool false) rfl (by kernel_rfl) (by kernel_rfl) (by kernel_rfl) (fun _ _ _ h => h) (Or.inl ⟨by kernel_rfl, fun w9 h9 => ?_⟩) HSE.out ?_
          · clear h9; go_simp
          refine wpAnyH_take (i := 13) (v := .bool false) rfl (by kernel_rfl) (by kernel_rfl) (by kernel_rfl) (fun _ _ _ h => h) (Or.inl ⟨by kernel_rfl, fun w9 h9 => ?_⟩) HSE.out ?_
          · clear h9; go_simp
          refine wpAnyH_take (i := 14) (v := .bool false) rfl (by kernel_rfl) (by kernel_rfl) (by kernel_rfl) (fun _ _ _ h => h) (Or.inl ⟨by kernel_rfl, fun w9 h9 => ?_⟩) HSE.out ?_
          · clear h9; go_simp
          refine wpAnyH_take (i := 15) (v := .pointer (some ⟨b0, 3, none⟩)) rfl (by kernel_rfl) (by kernel_rfl) (by kernel_rfl) (fun _ _ _ h => h) (Or.inl ⟨by kernel_rfl, fun w9 h9 => ?_⟩) HSE.out ?_
          · clear h9; go_simp
          refine wpAnyH_take (i := 16) (v := .int .i64 c.b) rfl (by kernel_rfl) (by kernel_rfl) (by kernel_rfl) (fun _ _ _ h => h) (Or.inl ⟨by kernel_rfl, fun w9 h9 => ?_⟩) HSE.out ?_
          · have x0 := h9.1.cel 0 _ rfl; have x1 := h9.1.cel 1 _ rfl; have x2 := h9.1.cel 2 _ rfl; have x3 := h9.1.cel 3 _ rfl; have x4 := h9.1.cel 4 _ rfl; have x5 := h9.1.cel 5 _ rfl; have x6 := h9.1.cel 6 _ rfl; have x7 := h9.1.cel 7 _ rfl; have x8 := h9.1.cel 8 _ rfl; have x9 := h9.1.cel 9 _ rfl; have xl := h9.1.lt; have y3 := h9.2.c3; have y7 := h9.2.c7; have yl := h9.2.lt; clear h9; go_simp
          refine wpAnyH_take (i := 17) (v := .pointer (some ⟨b, 0, none⟩)) rfl (by kernel_rfl) (by kernel_rfl) (by kernel_rfl) (fun _ _ _ h => h) (Or.inl ⟨by kernel_rfl, fun w9 h9 => ?_⟩) HSE.out ?_
          · clear h9; go_simp
          refine wpAnyH_take (i := 18) (v := .pointer (some ⟨b, 0, none⟩)) rfl (by kernel_rfl) (by kernel_rfl) (by kernel_rfl) (fun _ _ _ h => h) (Or.inl ⟨by kernel_rfl, fun w9 h9 => ?_⟩) HSE.out ?_
          · clear h9; go_simp
          refine wpAnyH_take (i := 19) (v := .pointer (some ⟨b, 3, none⟩)) rfl (by kernel_rfl) (by kernel_rfl) (by kernel_rfl) (fun _ _ _ h => h) (Or.inl ⟨by kernel_rfl, fun w9 h9 => ?_⟩) HSE.out ?_
          · clear h9; go_simp
          refine wpAnyH_take (i := 20) (v := .int .i64 s.pub) rfl (by kernel_rfl) (by kernel_rfl) (by kernel_rfl) (fun _ _ _ h => h) (Or.inl ⟨by kernel_rfl, fun w9 h9 => ?_⟩) HSE.out ?_
          · have x0 := h9.1.cel 0 _ rfl; have x1 := h9.1.cel 1 _ rfl; have x2 := h9.1.cel 2 _ rfl; have x3 := h9.1.cel 3 _ rfl; have x4 := h9.1.cel 4 _ rfl; have x5 := h9.1.cel 5 _ rfl; have x6 := h9.1.cel 6 _ rfl; have x7 := h9.1.cel 7 _ rfl; have x8 := h9.1.cel 8 _ rfl; have x9 := h9.1.cel 9 _ rfl; have xl := h9.1.lt; have y3 := h9.2.c3; have y7 := h9.2.c7; have yl := h9.2.lt; clear h9; go_simp
          refine wpAnyH_take (i := 21) (v := .bool false) rfl (by kernel_rfl) (by kernel_rfl) (by kernel_rfl) (fun _ _ _ h => h) (Or.inl ⟨by kernel_rfl, fun w9 h9 => ?_⟩) HSE.out ?_
          · clear h9; go_simp
          refine wpAnyH_take (i := 22) (v := .bool false) rfl (by kernel_rfl) (by kernel_rfl) (by kernel_rfl) (fun _ _ _ h => h) (Or.inl ⟨by kernel_rfl, fun w9 h9 => ?_⟩) HSE.out ?_
          · clear h9; go_simp
          refine wpAnyH_done (by kernel_rfl) ?_ _
          go_simp
          go_upto_region 3 with fail
          have HSF : Hid (LG w _ b0 #[.int .i64 c.proto, .int .i64 c.a, .int .i64 c.ap, .int .i64 c.b, .int .i64 c.bp, .int .i64 c.outer, .int .i64 c.state, .bool c.fa, .bool c.fb, .int .i64 c.seen] 59 ∧ FX _ b s a) := ⟨HSE.out.1.drew, HX.out.below HSE.out.1.drew.bel⟩
          refine wp_region_held (S := fun w9 => LG w w9 b0 #[.int .i64 c.proto, .int .i64 c.a, .int .i64 c.ap, .int .i64 c.b, .int .i64 c.bp, .int .i64 c.outer, .int .i64 c.state, .bool c.fa, .bool c.fb, .int .i64 c.seen] 59 ∧ FX w9 b s a) (by kernel_rfl) ?_
          change wpAnyH _ _ _ _ _ _ _ _ (World.drew _)
          refine wpAnyH_take (i := 0) (v := .agg #[.int .i64 c.proto, .int .i64 c.a, .int .i64 c.ap, .int .i64 c.b, .int .i64 c.bp, .int .i64 c.outer, .int .i64 c.state, .bool c.fa, .bool c.fb, .int .i64 c.seen]) rfl (by kernel_rfl) (by kernel_rfl) (by kernel_rfl) (fun _ _ _ h => h) (Or.inl ⟨by kernel_rfl, fun w9 h9 => ?_⟩) HSF.out ?_
          · have x0 := h9.1.cel 0 _ rfl; have x1 := h9.1.cel 1 _ rfl; have x2 := h9.1.cel 2 _ rfl; have x3 := h9.1.cel 3 _ rfl; have x4 := h9.1.cel 4 _ rfl; have x5 := h9.1.cel 5 _ rfl; have x6 := h9.1.cel 6 _ rfl; have x7 := h9.1.cel 7 _ rfl; have x8 := h9.1.cel 8 _ rfl; have x9 := h9.1.cel 9 _ rfl; have xl := h9.1.lt; have y3 := h9.2.c3; have y7 := h9.2.c7; have yl := h9.2.lt; clear h9; go_simp
          refine held_one 1 (by kernel_rfl) rfl (by kernel_rfl) fun K hK => ?_
          go_simp
          go_wp2_with (go_at_call 92; refine Calls.mono (HST.out _) ?_; rintro r u9 ⟨rfl, hu9⟩; have HSG : Hid (LG w u9 b0 #[.int .i64 c.proto, .int .i64 c.a, .int .i64 c.ap, .int .i64 c.b, .int .i64 c.bp, .int .i64 c.outer, .int .i64 c.state, .bool c.fa, .bool c.fb, .int .i64 c.seen] 59 ∧ FX u9 b s a) := ⟨HSF.out.1.step hu9, HSF.out.2.below hu9⟩; clear hu9)
          refine hK _ _ HSG.out ?_
          clear hK K
          refine wpAnyH_take (i := 2) (v := .bool false) rfl (by kernel_rfl) (by kernel_rfl) (by kernel_rfl) (fun _ _ _ h => h) (Or.inl ⟨by kernel_rfl, fun w9 h9 => ?_⟩) HSG.out ?_
          · clear h9; go_simp
          refine wpAnyH_take (i := 3) (v := undef) rfl (by kernel_rfl) (by kernel_rfl) (by kernel_rfl) (fun _ _ _ h => h) (Or.inr ⟨by kernel_rfl, rfl⟩) HSG.out ?_
          refine wpAnyH_take (i := 4) (v := undef) rfl (by kernel_rfl) (by kernel_rfl) (by kernel_rfl) (fun _ _ _ h => h) (Or.inr ⟨by kernel_rfl, rfl⟩) HSG.out ?_
          refine wpAnyH_take (i := 5) (v := undef) rfl (by kernel_rfl) (by kernel_rfl) (by kernel_rfl) (fun _ _ _ h => h) (Or.inr ⟨by kernel_rfl, rfl⟩) HSG.out ?_
          refine wpAnyH_take (i := 6) (v := .bool false) rfl (by kernel_rfl) (by kernel_rfl) (by kernel_rfl) (fun _ _ _ h => h) (Or.inl ⟨by kernel_rfl, fun w9 h9 => ?_⟩) HSG.out ?_
          · clear h9; go_simp
          refine wpAnyH_take (i := 7) (v := .bool false) rfl (by kernel_rfl) (by kernel_rfl) (by kernel_rfl) (fun _ _ _ h => h) (Or.inl ⟨by kernel_rfl, fun w9 h9 => ?_⟩) HSG.out ?_
          · clear h9; go_simp
          refine wpAnyH_take (i := 8) (v := undef) rfl (by kernel_rfl) (by kernel_rfl) (by kernel_rfl) (fun _ _ _ h => h) (Or.inr ⟨by kernel_rfl, rfl⟩) HSG.out ?_
          refine wpAnyH_take (i := 9) (v := undef) rfl (by kernel_rfl) (by kernel_rfl) (by kernel_rfl) (fun _ _ _ h => h) (Or.inr ⟨by kernel_rfl, rfl⟩) HSG.out ?_
          refine wpAnyH_take (i := 10) (v := undef) rfl (by kernel_rfl) (by kernel_rfl) (by kernel_rfl) (fun _ _ _ h => h) (Or.inr ⟨by kernel_rfl, rfl⟩) HSG.out ?_
          refine wpAnyH_take (i := 11) (v := .bool false) rfl (by kernel_rfl) (by kernel_rfl) (by kernel_rfl) (fun _ _ _ h => h) (Or.inl ⟨by kernel_rfl, fun w9 h9 => ?_⟩) HSG.out ?_
          · clear h9; go_simp
          refine wpAnyH_take (i := 12) (v := .bool false) rfl (by kernel_rfl) (by kernel_rfl) (by kernel_rfl) (fun _ _ _ h => h) (Or.inl ⟨by kernel_rfl, fun w9 h9 => ?_⟩) HSG.out ?_
          · clear h9; go_simp
          refine wpAnyH_take (i := 13) (v := undef) rfl (by kernel_rfl) (by kernel_rfl) (by kernel_rfl) (fun _ _ _ h => h) (Or.inr ⟨by kernel_rfl, rfl⟩) HSG.out ?_
          refine wpAnyH_take (i := 14) (v := undef) rfl (by kernel_rfl) (by kernel_rfl) (by kernel_rfl) (fun _ _ _ h => h) (Or.inr ⟨by kernel_rfl, rfl⟩) HSG.out ?_
          refine wpAnyH_take (i := 15) (v := undef) rfl (by kernel_rfl) (by kernel_rfl) (by kernel_rfl) (fun _ _ _ h => h) (Or.inr ⟨by kernel_rfl, rfl⟩) HSG.out ?_
          refine wpAnyH_take (i := 16) (v := undef) rfl (by kernel_rfl) (by kernel_rfl) (by kernel_rfl) (fun _ _ _ h => h) (Or.inr ⟨by kernel_rfl, rfl⟩) HSG.out ?_
          refine wpAnyH_take (i := 17) (v := undef) rfl (by kernel_rfl) (by kernel_rfl) (by kernel_rfl) (fun _ _ _ h => h) (Or.inr ⟨by kernel_rfl, rfl⟩) HSG.out ?_
          refine wpAnyH_take (i := 18) (v := undef) rfl (by kernel_rfl) (by kernel_rfl) (by kernel_rfl) (fun _ _ _ h => h) (Or.inr ⟨by kernel_rfl, rfl⟩) HSG.out ?_
          refine wpAnyH_take (i := 19) (v := undef) rfl (by kernel_rfl) (by kernel_rfl) (by kernel_rfl) (fun _ _ _ h => h) (Or.inr ⟨by kernel_rfl, rfl⟩) HSG.out ?_
          refine wpAnyH_take (i := 20) (v := .bool false) rfl (by kernel_rfl) (by kernel_rfl) (by kernel_rfl) (fun _ _ _ h => h) (Or.inl ⟨by kernel_rfl, fun w9 h9 => ?_⟩) HSG.out ?_
          · clear h9; go_simp
          refine wpAnyH_take (i := 21) (v := .bool false) rfl (by kernel_rfl) (by kernel_rfl) (by kernel_rfl) (fun _ _ _ h => h) (Or.inl ⟨by kernel_rfl, fun w9 h9 => ?_⟩) HSG.out ?_
          · clear h9; go_simp
          refine wpAnyH_done (by kernel_rfl) ?_ _
          go_simp
          go_wp2
          go_ret
          exact ⟨ret_bool (by rw [E.out]; simp), e1 ▸ HSG.out.1.bel⟩
        · rw [h4] at E HST
          cases h5 : ouB s c
          · rw [h5] at E HOU
            go_enter Try.func78, Try.ntmps78
            go_upto_region 1 with fail
            generalize (w.alloc (.cells #[.int .i64 c.proto, .int .i64 c.a, .int .i64 c.ap, .int .i64 c.b, .int .i64 c.bp, .int .i64 c.outer, .int .i64 c.state, .bool c.fa, .bool c.fb, .int .i64 c.seen] 59)) = u0 at *
            generalize e1 : w.heap.size = b0 at *
            have HSB : Hid (LG w u0.drew b0 #[.int .i64 c.proto, .int .i64 c.a, .int .i64 c.ap, .int .i64 c.b, .int .i64 c.bp, .int .i64 c.outer, .int .i64 c.state, .bool c.fa, .bool c.fb, .int .i64 c.seen] 59 ∧ FX u0.drew b s a) := ⟨HL0.out.drew, HX.out.below (e1 ▸ HL0.out.drew.bel)⟩
            refine wp_region_held (S := fun w9 => LG w w9 b0 #[.int .i64 c.proto, .int .i64 c.a, .int .i64 c.ap, .int .i64 c.b, .int .i64 c.bp, .int .i64 c.outer, .int .i64 c.state, .bool c.fa, .bool c.fb, .int .i64 c.seen] 59 ∧ FX w9 b s a) (by kernel_rfl) ?_
            change wpAnyH _ _ _ _ _ _ _ _ (World.drew _)
            refine wpAnyH_take (i := 0) (v := .agg #[.int .i64 c.proto, .int .i64 c.a, .int .i64 c.ap, .int .i64 c.b, .int .i64 c.bp, .int .i64 c.outer, .int .i64 c.state, .bool c.fa, .bool c.fb, .int .i64 c.seen]) rfl (by kernel_rfl) (by kernel_rfl) (by kernel_rfl) (fun _ _ _ h => h) (Or.inl ⟨by kernel_rfl, fun w9 h9 => ?_⟩) HSB.out ?_
            · have x0 := h9.1.cel 0 _ rfl; have x1 := h9.1.cel 1 _ rfl; have x2 := h9.1.cel 2 _ rfl; have x3 := h9.1.cel 3 _ rfl; have x4 := h9.1.cel 4 _ rfl; have x5 := h9.1.cel 5 _ rfl; have x6 := h9.1.cel 6 _ rfl; have x7 := h9.1.cel 7 _ rfl; have x8 := h9.1.cel 8 _ rfl; have x9 := h9.1.cel 9 _ rfl; have xl := h9.1.lt; have y3 := h9.2.c3; have y7 := h9.2.c7; have yl := h9.2.lt; clear h9; go_simp
            refine held_one 1 (by kernel_rfl) rfl (by kernel_rfl) fun K hK => ?_
            go_simp
            go_wp2_with (go_at_call 90; refine Calls.mono (HF.out _) ?_; rintro r u9 ⟨rfl, hu9⟩; have HSC : Hid (LG w u9 b0 #[.int .i64 c.proto, .int .i64 c.a, .int .i64 c.ap, .int .i64 c.b, .int .i64 c.bp, .int .i64 c.outer, .int .i64 c.state, .bool c.fa, .bool c.fb, .int .i64 c.seen] 59 ∧ FX u9 b s a) := ⟨HSB.out.1.step hu9, HSB.out.2.below hu9⟩; clear hu9)
            refine hK _ _ HSC.out ?_
            clear hK K
            refine held_one 2 (by kernel_rfl) rfl (by kernel_rfl) fun K hK => ?_
            go_simp
            go_wp2_with (go_at_call 91; refine Calls.mono (HPK.out _) ?_; rintro r u9 ⟨rfl, hu9⟩; have HSD : Hid (LG w u9 b0 #[.int .i64 c.proto, .int .i64 c.a, .int .i64 c.ap, .int .i64 c.b, .int .i64 c.bp, .int .i64 c.outer, .int .i64 c.state, .bool c.fa, .bool c.fb, .int .i64 c.seen] 59 ∧ FX u9 b s a) := ⟨HSC.out.1.step hu9, HSC.out.2.below hu9⟩; clear hu9)
            refine hK _ _ HSD.out ?_
            clear hK K
            refine held_one 3 (by kernel_rfl) rfl (by kernel_rfl) fun K hK => ?_
            go_simp
            go_wp2_with (go_at_call 40; refine Calls.mono (HR.out _) ?_; rintro r u9 ⟨rfl, hu9⟩; have HSE : Hid (LG w u9 b0 #[.int .i64 c.proto, .int .i64 c.a, .int .i64 c.ap, .int .i64 c.b, .int .i64 c.bp, .int .i64 c.outer, .int .i64 c.state, .bool c.fa, .bool c.fb, .int .i64 c.seen] 59 ∧ FX u9 b s a) := ⟨HSD.out.1.step hu9, HSD.out.2.below hu9⟩; clear hu9)
            refine hK _ _ HSE.out ?_
            clear hK K
            refine wpAnyH_take (i := 4) (v := .bool false) rfl (by kernel_rfl) (by kernel_rfl) (by kernel_rfl) (fun _ _ _ h => h) (Or.inl ⟨by kernel_rfl, fun w9 h9 => ?_⟩) HSE.out ?_
            · clear h9; go_simp
            refine wpAnyH_take (i := 5) (v := .bool false) rfl (by kernel_rfl) (by kernel_rfl) (by kernel_rfl) (fun _ _ _ h => h) (Or.inl ⟨by kernel_rfl, fun w9 h9 => ?_⟩) HSE.out ?_
            · clear h9; go_simp
            refine wpAnyH_take (i := 6) (v := .pointer (some ⟨b0, 1, none⟩)) rfl (by kernel_rfl) (by kernel_rfl) (by kernel_rfl) (fun _ _ _ h => h) (Or.inl ⟨by kernel_rfl, fun w9 h9 => ?_⟩) HSE.out ?_
            · clear h9; go_simp
            refine wpAnyH_take (i := 7) (v := .int .i64 c.a) rfl (by kernel_rfl) (by kernel_rfl) (by kernel_rfl) (fun _ _ _ h => h) (Or.inl ⟨by kernel_rfl, fun w9 h9 => ?_⟩) HSE.out ?_
            · have x0 := h9.1.cel 0 _ rfl; have x1 := h9.1.cel 1 _ rfl; have x2 := h9.1.cel 2 _ rfl; have x3 := h9.1.cel 3 _ rfl; have x4 := h9.1.cel 4 _ rfl; have x5 := h9.1.cel 5 _ rfl; have x6 := h9.1.cel 6 _ rfl; have x7 := h9.1.cel 7 _ rfl; have x8 := h9.1.cel 8 _ rfl; have x9 := h9.1.cel 9 _ rfl; have xl := h9.1.lt; have y3 := h9.2.c3; have y7 := h9.2.c7; have yl := h9.2.lt; clear h9; go_simp
            refine wpAnyH_take (i := 8) (v := .pointer (some ⟨b, 0, none⟩)) rfl (by kernel_rfl) (by kernel_rfl) (by kernel_rfl) (fun _ _ _ h => h) (Or.inl ⟨by kernel_rfl, fun w9 h9 => ?_⟩) HSE.out ?_
            · clear h9; go_simp
            refine wpAnyH_take (i := 9) (v := .pointer (some ⟨b, 0, none⟩)) rfl (by kernel_rfl) (by kernel_rfl) (by kernel_rfl) (fun _ _ _ h => h) (Or.inl ⟨by kernel_rfl, fun w9 h9 => ?_⟩) HSE.out ?_
            · clear h9; go_simp
            refine wpAnyH_take (i := 10) (v := .pointer (some ⟨b, 3, none⟩)) rfl (by kernel_rfl) (by kernel_rfl) (by kernel_rfl) (fun _ _ _ h => h) (Or.inl ⟨by kernel_rfl, fun w9 h9 => ?_⟩) HSE.out ?_
            · clear h9; go_simp
            refine wpAnyH_take (i := 11) (v := .int .i64 s.pub) rfl (by kernel_rfl) (by kernel_rfl) (by kernel_rfl) (fun _ _ _ h => h) (Or.inl ⟨by kernel_rfl, fun w9 h9 => ?_⟩) HSE.out ?_
            · have x0 := h9.1.cel 0 _ rfl; have x1 := h9.1.cel 1 _ rfl; have x2 := h9.1.cel 2 _ rfl; have x3 := h9.1.cel 3 _ rfl; have x4 := h9.1.cel 4 _ rfl; have x5 := h9.1.cel 5 _ rfl; have x6 := h9.1.cel 6 _ rfl; have x7 := h9.1.cel 7 _ rfl; have x8 := h9.1.cel 8 _ rfl; have x9 := h9.1.cel 9 _ rfl; have xl := h9.1.lt; have y3 := h9.2.c3; have y7 := h9.2.c7; have yl := h9.2.lt; clear h9; go_simp
            refine wpAnyH_take (i := 12) (v := .bool false) rfl (by kernel_rfl) (by kernel_rfl) (by kernel_rfl) (fun _ _ _ h => h) (Or.inl ⟨by kernel_rfl, fun w9 h9 => ?_⟩) HSE.out ?_
            · clear h9; go_simp
            refine wpAnyH_take (i := 13) (v := .bool false) rfl (by kernel_rfl) (by kernel_rfl) (by kernel_rfl) (fun _ _ _ h => h) (Or.inl ⟨by kernel_rfl, fun w9 h9 => ?_⟩) HSE.out ?_
            · clear h9; go_simp
            refine wpAnyH_take (i := 14) (v := .bool false) rfl (by kernel_rfl) (by kernel_rfl) (by kernel_rfl) (fun _ _ _ h => h) (Or.inl ⟨by kernel_rfl, fun w9 h9 => ?_⟩) HSE.out ?_
            · clear h9; go_simp
            refine wpAnyH_take (i := 15) (v := .pointer (some ⟨b0, 3, none⟩)) rfl (by kernel_rfl) (by kernel_rfl) (by kernel_rfl) (fun _ _ _ h => h) (Or.inl ⟨by kernel_rfl, fun w9 h9 => ?_⟩) HSE.out ?_
            · clear h9; go_simp
            refine wpAnyH_take (i := 16) (v := .int .i64 c.b) rfl (by kernel_rfl) (by kernel_rfl) (by kernel_rfl) (fun _ _ _ h => h) (Or.inl ⟨by kernel_rfl, fun w9 h9 => ?_⟩) HSE.out ?_
            · have x0 := h9.1.cel 0 _ rfl; have x1 := h9.1.cel 1 _ rfl; have x2 := h9.1.cel 2 _ rfl; have x3 := h9.1.cel 3 _ rfl; have x4 := h9.1.cel 4 _ rfl; have x5 := h9.1.cel 5 _ rfl; have x6 := h9.1.cel 6 _ rfl; have x7 := h9.1.cel 7 _ rfl; have x8 := h9.1.cel 8 _ rfl; have x9 := h9.1.cel 9 _ rfl; have xl := h9.1.lt; have y3 := h9.2.c3; have y7 := h9.2.c7; have yl := h9.2.lt; clear h9; go_simp
            refine wpAnyH_take (i := 17) (v := .pointer (some ⟨b, 0, none⟩)) rfl (by kernel_rfl) (by kernel_rfl) (by kernel_rfl) (fun _ _ _ h => h) (Or.inl ⟨by kernel_rfl, fun w9 h9 => ?_⟩) HSE.out ?_
            · clear h9; go_simp
            refine wpAnyH_take (i := 18) (v := .pointer (some ⟨b, 0, none⟩)) rfl (by kernel_rfl) (by kernel_rfl) (by kernel_rfl) (fun _ _ _ h => h) (Or.inl ⟨by kernel_rfl, fun w9 h9 => ?_⟩) HSE.out ?_
            · clear h9; go_simp
            refine wpAnyH_take (i := 19) (v := .pointer (some ⟨b, 3, none⟩)) rfl (by kernel_rfl) (by kernel_rfl) (by kernel_rfl) (fun _ _ _ h => h) (Or.inl ⟨by kernel_rfl, fun w9 h9 => ?_⟩) HSE.out ?_
            · clear h9; go_simp
            refine wpAnyH_take (i := 20) (v := .int .i64 s.pub) rfl (by kernel_rfl) (by kernel_rfl) (by kernel_rfl) (fun _ _ _ h => h) (Or.inl ⟨by kernel_rfl, fun w9 h9 => ?_⟩) HSE.out ?_
            · have x0 := h9.1.cel 0 _ rfl; have x1 := h9.1.cel 1 _ rfl; have x2 := h9.1.cel 2 _ rfl; have x3 := h9.1.cel 3 _ rfl; have x4 := h9.1.cel 4 _ rfl; have x5 := h9.1.cel 5 _ rfl; have x6 := h9.1.cel 6 _ rfl; have x7 := h9.1.cel 7 _ rfl; have x8 := h9.1.cel 8 _ rfl; have x9 := h9.1.cel 9 _ rfl; have xl := h9.1.lt; have y3 := h9.2.c3; have y7 := h9.2.c7; have yl := h9.2.lt; clear h9; go_simp
            refine wpAnyH_take (i := 21) (v := .bool false) rfl (by kernel_rfl) (by kernel_rfl) (by kernel_rfl) (fun _ _ _ h => h) (Or.inl ⟨by kernel_rfl, fun w9 h9 => ?_⟩) HSE.out ?_
            · clear h9; go_simp
            refine wpAnyH_take (i := 22) (v := .bool false) rfl (by kernel_rfl) (by kernel_rfl) (by kernel_rfl) (fun _ _ _ h => h) (Or.inl ⟨by kernel_rfl, fun w9 h9 => ?_⟩) HSE.out ?_
            · clear h9; go_simp
            refine wpAnyH_done (by kernel_rfl) ?_ _
            go_simp
            go_upto_region 3 with fail
            have HSF : Hid (LG w _ b0 #[.int .i64 c.proto, .int .i64 c.a, .int .i64 c.ap, .int .i64 c.b, .int .i64 c.bp, .int .i64 c.outer, .int .i64 c.state, .bool c.fa, .bool c.fb, .int .i64 c.seen] 59 ∧ FX _ b s a) := ⟨HSE.out.1.drew, HX.out.below HSE.out.1.drew.bel⟩
            refine wp_region_held (S := fun w9 => LG w w9 b0 #[.int .i64 c.proto, .int .i64 c.a, .int .i64 c.ap, .int .i64 c.b, .int .i64 c.bp, .int .i64 c.outer, .int .i64 c.state, .bool c.fa, .bool c.fb, .int .i64 c.seen] 59 ∧ FX w9 b s a) (by kernel_rfl) ?_
            change wpAnyH _ _ _ _ _ _ _ _ (World.drew _)
            refine wpAnyH_take (i := 0) (v := .agg #[.int .i64 c.proto, .int .i64 c.a, .int .i64 c.ap, .int .i64 c.b, .int .i64 c.bp, .int .i64 c.outer, .int .i64 c.state, .bool c.fa, .bool c.fb, .int .i64 c.seen]) rfl (by kernel_rfl) (by kernel_rfl) (by kernel_rfl) (fun _ _ _ h => h) (Or.inl ⟨by kernel_rfl, fun w9 h9 => ?_⟩) HSF.out ?_
            · have x0 := h9.1.cel 0 _ rfl; have x1 := h9.1.cel 1 _ rfl; have x2 := h9.1.cel 2 _ rfl; have x3 := h9.1.cel 3 _ rfl; have x4 := h9.1.cel 4 _ rfl; have x5 := h9.1.cel 5 _ rfl; have x6 := h9.1.cel 6 _ rfl; have x7 := h9.1.cel 7 _ rfl; have x8 := h9.1.cel 8 _ rfl; have x9 := h9.1.cel 9 _ rfl; have xl := h9.1.lt; have y3 := h9.2.c3; have y7 := h9.2.c7; have yl := h9.2.lt; clear h9; go_simp
            refine held_one 1 (by kernel_rfl) rfl (by kernel_rfl) fun K hK => ?_
            go_simp
            go_wp2_with (go_at_call 92; refine Calls.mono (HST.out _) ?_; rintro r u9 ⟨rfl, hu9⟩; have HSG : Hid (LG w u9 b0 #[.int .i64 c.proto, .int .i64 c.a, .int .i64 c.ap, .int .i64 c.b, .int .i64 c.bp, .int .i64 c.outer, .int .i64 c.state, .bool c.fa, .bool c.fb, .int .i64 c.seen] 59 ∧ FX u9 b s a) := ⟨HSF.out.1.step hu9, HSF.out.2.below hu9⟩; clear hu9)
            refine hK _ _ HSG.out ?_
            clear hK K
            refine wpAnyH_take (i := 2) (v := .bool true) rfl (by kernel_rfl) (by kernel_rfl) (by kernel_rfl) (fun _ _ _ h => h) (Or.inl ⟨by kernel_rfl, fun w9 h9 => ?_⟩) HSG.out ?_
            · clear h9; go_simp
            refine wpAnyH_take (i := 3) (v := .pointer (some ⟨b, 0, none⟩)) rfl (by kernel_rfl) (by kernel_rfl) (by kernel_rfl) (fun _ _ _ h => h) (Or.inl ⟨by kernel_rfl, fun w9 h9 => ?_⟩) HSG.out ?_
            · clear h9; go_simp
            refine wpAnyH_take (i := 4) (v := .agg #[.int .i64 c.proto, .int .i64 c.a, .int .i64 c.ap, .int .i64 c.b, .int .i64 c.bp, .int .i64 c.outer, .int .i64 c.state, .bool c.fa, .bool c.fb, .int .i64 c.seen]) rfl (by kernel_rfl) (by kernel_rfl) (by kernel_rfl) (fun _ _ _ h => h) (Or.inl ⟨by kernel_rfl, fun w9 h9 => ?_⟩) HSG.out ?_
            · have x0 := h9.1.cel 0 _ rfl; have x1 := h9.1.cel 1 _ rfl; have x2 := h9.1.cel 2 _ rfl; have x3 := h9.1.cel 3 _ rfl; have x4 := h9.1.cel 4 _ rfl; have x5 := h9.1.cel 5 _ rfl; have x6 := h9.1.cel 6 _ rfl; have x7 := h9.1.cel 7 _ rfl; have x8 := h9.1.cel 8 _ rfl; have x9 := h9.1.cel 9 _ rfl; have xl := h9.1.lt; have y3 := h9.2.c3; have y7 := h9.2.c7; have yl := h9.2.lt; clear h9; go_simp
            refine held_one 5 (by kernel_rfl) rfl (by kernel_rfl) fun K hK => ?_
            go_simp
            go_wp2_with (go_at_call 93; refine Calls.mono (HOU.out _ HSG.out.1.aft) ?_; rintro r u9 ⟨rfl, hu9⟩; have HSH : Hid (LG w u9 b0 #[.int .i64 c.proto, .int .i64 c.a, .int .i64 c.ap, .int .i64 c.b, .int .i64 c.bp, .int .i64 c.outer, .int .i64 c.state, .bool c.fa, .bool c.fb, .int .i64 c.seen] 59 ∧ FX u9 b s a) := ⟨HSG.out.1.step hu9, HSG.out.2.below hu9⟩; clear hu9)
            refine hK _ _ HSH.out ?_
            clear hK K
            refine wpAnyH_take (i := 6) (v := .bool false) rfl (by kernel_rfl) (by kernel_rfl) (by kernel_rfl) (fun _ _ _ h => h) (Or.inl ⟨by kernel_rfl, fun w9 h9 => ?_⟩) HSH.out ?_
            · clear h9; go_simp
            refine wpAnyH_take (i := 7) (v := .bool false) rfl (by kernel_rfl) (by kernel_rfl) (by kernel_rfl) (fun _ _ _ h => h) (Or.inl ⟨by kernel_rfl, fun w9 h9 => ?_⟩) HSH.out ?_
            · clear h9; go_simp
            refine wpAnyH_take (i := 8) (v := undef) rfl (by kernel_rfl) (by kernel_rfl) (by kernel_rfl) (fun _ _ _ h => h) (Or.inr ⟨by kernel_rfl, rfl⟩) HSH.out ?_
            refine wpAnyH_take (i := 9) (v := undef) rfl (by kernel_rfl) (by kernel_rfl) (by kernel_rfl) (fun _ _ _ h => h) (Or.inr ⟨by kernel_rfl, rfl⟩) HSH.out ?_
            refine wpAnyH_take (i := 10) (v := undef) rfl (by kernel_rfl) (by kernel_rfl) (by kernel_rfl) (fun _ _ _ h => h) (Or.inr ⟨by kernel_rfl, rfl⟩) HSH.out ?_
            refine wpAnyH_take (i := 11) (v := .bool false) rfl (by kernel_rfl) (by kernel_rfl) (by kernel_rfl) (fun _ _ _ h => h) (Or.inl ⟨by kernel_rfl, fun w9 h9 => ?_⟩) HSH.out ?_
            · clear h9; go_simp
            refine wpAnyH_take (i := 12) (v := .bool false) rfl (by kernel_rfl) (by kernel_rfl) (by kernel_rfl) (fun _ _ _ h => h) (Or.inl ⟨by kernel_rfl, fun w9 h9 => ?_⟩) HSH.out ?_
            · clear h9; go_simp
            refine wpAnyH_take (i := 13) (v := undef) rfl (by kernel_rfl) (by kernel_rfl) (by kernel_rfl) (fun _ _ _ h => h) (Or.inr ⟨by kernel_rfl, rfl⟩) HSH.out ?_
            refine wpAnyH_take (i := 14) (v := undef) rfl (by kernel_rfl) (by kernel_rfl) (by kernel_rfl) (fun _ _ _ h => h) (Or.inr ⟨by kernel_rfl, rfl⟩) HSH.out ?_
            refine wpAnyH_take (i := 15) (v := undef) rfl (by kernel_rfl) (by kernel_rfl) (by kernel_rfl) (fun _ _ _ h => h) (Or.inr ⟨by kernel_rfl, rfl⟩) HSH.out ?_
            refine wpAnyH_take (i := 16) (v := undef) rfl (by kernel_rfl) (by kernel_rfl) (by kernel_rfl) (fun _ _ _ h => h) (Or.inr ⟨by kernel_rfl, rfl⟩) HSH.out ?_
            refine wpAnyH_take (i := 17) (v := undef) rfl (by kernel_rfl) (by kernel_rfl) (by kernel_rfl) (fun _ _ _ h => h) (Or.inr ⟨by kernel_rfl, rfl⟩) HSH.out ?_
            refine wpAnyH_take (i := 18) (v := undef) rfl (by kernel_rfl) (by kernel_rfl) (by kernel_rfl) (fun _ _ _ h => h) (Or.inr ⟨by kernel_rfl, rfl⟩) HSH.out ?_
            refine wpAnyH_take (i := 19) (v := undef) rfl (by kernel_rfl) (by kernel_rfl) (by kernel_rfl) (fun _ _ _ h => h) (Or.inr ⟨by kernel_rfl, rfl⟩) HSH.out ?_
            refine wpAnyH_take (i := 20) (v := .bool false) rfl (by kernel_rfl) (by kernel_rfl) (by kernel_rfl) (fun _ _ _ h => h) (Or.inl ⟨by kernel_rfl, fun w9 h9 => ?_⟩) HSH.out ?_
            · clear h9; go_simp
            refine wpAnyH_take (i := 21) (v := .bool false) rfl (by kernel_rfl) (by kernel_rfl) (by kernel_rfl) (fun _ _ _ h => h) (Or.inl ⟨by kernel_rfl, fun w9 h9 => ?_⟩) HSH.out ?_
            · clear h9; go_simp
            refine wpAnyH_done (by kernel_rfl) ?_ _
            go_simp
            go_wp2
            go_ret
            exact ⟨ret_bool (by rw [E.out]; simp), e1 ▸ HSH.out.1.bel⟩
          · rw [h5] at E HOU
            cases h6 : decide (0 ≤ c.seen)
            · rw [h6] at E
              go_enter Try.func78, Try.ntmps78
              go_upto_region 1 with fail
              generalize (w.alloc (.cells #[.int .i64 c.proto, .int .i64 c.a, .int .i64 c.ap, .int .i64 c.b, .int .i64 c.bp, .int .i64 c.outer, .int .i64 c.state, .bool c.fa, .bool c.fb, .int .i64 c.seen] 59)) = u0 at *
              generalize e1 : w.heap.size = b0 at *
              have HSB : Hid (LG w u0.drew b0 #[.int .i64 c.proto, .int .i64 c.a, .int .i64 c.ap, .int .i64 c.b, .int .i64 c.bp, .int .i64 c.outer, .int .i64 c.state, .bool c.fa, .bool c.fb, .int .i64 c.seen] 59 ∧ FX u0.drew b s a) := ⟨HL0.out.drew, HX.out.below (e1 ▸ HL0.out.drew.bel)⟩
              refine wp_region_held (S := fun w9 => LG w w9 b0 #[.int .i64 c.proto, .int .i64 c.a, .int .i64 c.ap, .int .i64 c.b, .int .i64 c.bp, .int .i64 c.outer, .int .i64 c.state, .bool c.fa, .bool c.fb, .int .i64 c.seen] 59 ∧ FX w9 b s a) (by kernel_rfl) ?_
              change wpAnyH _ _ _ _ _ _ _ _ (World.drew _)
              refine wpAnyH_take (i := 0) (v := .agg #[.int .i64 c.proto, .int .i64 c.a, .int .i64 c.ap, .int .i64 c.b, .int .i64 c.bp, .int .i64 c.outer, .int .i64 c.state, .bool c.fa, .bool c.fb, .int .i64 c.seen]) rfl (by kernel_rfl) (by kernel_rfl) (by kernel_rfl) (fun _ _ _ h => h) (Or.inl ⟨by kernel_rfl, fun w9 h9 => ?_⟩) HSB.out ?_
              · have x0 := h9.1.cel 0 _ rfl; have x1 := h9.1.cel 1 _ rfl; have x2 := h9.1.cel 2 _ rfl; have x3 := h9.1.cel 3 _ rfl; have x4 := h9.1.cel 4 _ rfl; have x5 := h9.1.cel 5 _ rfl; have x6 := h9.1.cel 6 _ rfl; have x7 := h9.1.cel 7 _ rfl; have x8 := h9.1.cel 8 _ rfl; have x9 := h9.1.cel 9 _ rfl; have xl := h9.1.lt; have y3 := h9.2.c3; have y7 := h9.2.c7; have yl := h9.2.lt; clear h9; go_simp
              refine held_one 1 (by kernel_rfl) rfl (by kernel_rfl) fun K hK => ?_
              go_simp
              go_wp2_with (go_at_call 90; refine Calls.mono (HF.out _) ?_; rintro r u9 ⟨rfl, hu9⟩; have HSC : Hid (LG w u9 b0 #[.int .i64 c.proto, .int .i64 c.a, .int .i64 c.ap, .int .i64 c.b, .int .i64 c.bp, .int .i64 c.outer, .int .i64 c.state, .bool c.fa, .bool c.fb, .int .i64 c.seen] 59 ∧ FX u9 b s a) := ⟨HSB.out.1.step hu9, HSB.out.2.below hu9⟩; clear hu9)
              refine hK _ _ HSC.out ?_
              clear hK K
              refine held_one 2 (by kernel_rfl) rfl (by kernel_rfl) fun K hK => ?_
              go_simp
              go_wp2_with (go_at_call 91; refine Calls.mono (HPK.out _) ?_; rintro r u9 ⟨rfl, hu9⟩; have HSD : Hid (LG w u9 b0 #[.int .i64 c.proto, .int .i64 c.a, .int .i64 c.ap, .int .i64 c.b, .int .i64 c.bp, .int .i64 c.outer, .int .i64 c.state, .bool c.fa, .bool c.fb, .int .i64 c.seen] 59 ∧ FX u9 b s a) := ⟨HSC.out.1.step hu9, HSC.out.2.below hu9⟩; clear hu9)
              refine hK _ _ HSD.out ?_
              clear hK K
              refine held_one 3 (by kernel_rfl) rfl (by kernel_rfl) fun K hK => ?_
              go_simp
              go_wp2_with (go_at_call 40; refine Calls.mono (HR.out _) ?_; rintro r u9 ⟨rfl, hu9⟩; have HSE : Hid (LG w u9 b0 #[.int .i64 c.proto, .int .i64 c.a, .int .i64 c.ap, .int .i64 c.b, .int .i64 c.bp, .int .i64 c.outer, .int .i64 c.state, .bool c.fa, .bool c.fb, .int .i64 c.seen] 59 ∧ FX u9 b s a) := ⟨HSD.out.1.step hu9, HSD.out.2.below hu9⟩; clear hu9)
              refine hK _ _ HSE.out ?_
              clear hK K
              refine wpAnyH_take (i := 4) (v := .bool false) rfl (by kernel_rfl) (by kernel_rfl) (by kernel_rfl) (fun _ _ _ h => h) (Or.inl ⟨by kernel_rfl, fun w9 h9 => ?_⟩) HSE.out ?_
              · clear h9; go_simp
              refine wpAnyH_take (i := 5) (v := .bool false) rfl (by kernel_rfl) (by kernel_rfl) (by kernel_rfl) (fun _ _ _ h => h) (Or.inl ⟨by kernel_rfl, fun w9 h9 => ?_⟩) HSE.out ?_
              · clear h9; go_simp
              refine wpAnyH_take (i := 6) (v := .pointer (some ⟨b0, 1, none⟩)) rfl (by kernel_rfl) (by kernel_rfl) (by kernel_rfl) (fun _ _ _ h => h) (Or.inl ⟨by kernel_rfl, fun w9 h9 => ?_⟩) HSE.out ?_
              · clear h9; go_simp
              refine wpAnyH_take (i := 7) (v := .int .i64 c.a) rfl (by kernel_rfl) (by kernel_rfl) (by kernel_rfl) (fun _ _ _ h => h) (Or.inl ⟨by kernel_rfl, fun w9 h9 => ?_⟩) HSE.out ?_
              · have x0 := h9.1.cel 0 _ rfl; have x1 := h9.1.cel 1 _ rfl; have x2 := h9.1.cel 2 _ rfl; have x3 := h9.1.cel 3 _ rfl; have x4 := h9.1.cel 4 _ rfl; have x5 := h9.1.cel 5 _ rfl; have x6 := h9.1.cel 6 _ rfl; have x7 := h9.1.cel 7 _ rfl; have x8 := h9.1.cel 8 _ rfl; have x9 := h9.1.cel 9 _ rfl; have xl := h9.1.lt; have y3 := h9.2.c3; have y7 := h9.2.c7; have yl := h9.2.lt; clear h9; go_simp
              refine wpAnyH_take (i := 8) (v := .pointer (some ⟨b, 0, none⟩)) rfl (by kernel_rfl) (by kernel_rfl) (by kernel_rfl) (fun _ _ _ h => h) (Or.inl ⟨by kernel_rfl, fun w9 h9 => ?_⟩) HSE.out ?_
              · clear h9; go_simp
              refine wpAnyH_take (i := 9) (v := .pointer (some ⟨b, 0, none⟩)) rfl (by kernel_rfl) (by kernel_rfl) (by kernel_rfl) (fun _ _ _ h => h) (Or.inl ⟨by kernel_rfl, fun w9 h9 => ?_⟩) HSE.out ?_
              · clear h9; go_simp
              refine wpAnyH_take (i := 10) (v := .pointer (some ⟨b, 3, none⟩)) rfl (by kernel_rfl) (by kernel_rfl) (by kernel_rfl) (fun _ _ _ h => h) (Or.inl ⟨by kernel_rfl, fun w9 h9 => ?_⟩) HSE.out ?_
              · clear h9; go_simp
              refine wpAnyH_take (i := 11) (v := .int .i64 s.pub) rfl (by kernel_rfl) (by kernel_rfl) (by kernel_rfl) (fun _ _ _ h => h) (Or.inl ⟨by kernel_rfl, fun w9 h9 => ?_⟩) HSE.out ?_
              · have x0 := h9.1.cel 0 _ rfl; have x1 := h9.1.cel 1 _ rfl; have x2 := h9.1.cel 2 _ rfl; have x3 := h9.1.cel 3 _ rfl; have x4 := h9.1.cel 4 _ rfl; have x5 := h9.1.cel 5 _ rfl; have x6 := h9.1.cel 6 _ rfl; have x7 := h9.1.cel 7 _ rfl; have x8 := h9.1.cel 8 _ rfl; have x9 := h9.1.cel 9 _ rfl; have xl := h9.1.lt; have y3 := h9.2.c3; have y7 := h9.2.c7; have yl := h9.2.lt; clear h9; go_simp
              refine wpAnyH_take (i := 12) (v := .bool false) rfl (by kernel_rfl) (by kernel_rfl) (by kernel_rfl) (fun _ _ _ h => h) (Or.inl ⟨by kernel_rfl, fun w9 h9 => ?_⟩) HSE.out ?_
              · clear h9; go_simp
              refine wpAnyH_take (i := 13) (v := .bool false) rfl (by kernel_rfl) (by kernel_rfl) (by kernel_rfl) (fun _ _ _ h => h) (Or.inl ⟨by kernel_rfl, fun w9 h9 => ?_⟩) HSE.out ?_
              · clear h9; go_simp
              refine wpAnyH_take (i := 14) (v := .bool false) rfl (by kernel_rfl) (by kernel_rfl) (by kernel_rfl) (fun _ _ _ h => h) (Or.inl ⟨by kernel_rfl, fun w9 h9 => ?_⟩) HSE.out ?_
              · clear h9; go_simp
              refine wpAnyH_take (i := 15) (v := .pointer (some ⟨b0, 3, none⟩)) rfl (by kernel_rfl) (by kernel_rfl) (by kernel_rfl) (fun _ _ _ h => h) (Or.inl ⟨by kernel_rfl, fun w9 h9 => ?_⟩) HSE.out ?_
              · clear h9; go_simp
              refine wpAnyH_take (i := 16) (v := .int .i64 c.b) rfl (by kernel_rfl) (by kernel_rfl) (by kernel_rfl) (fun _ _ _ h => h) (Or.inl ⟨by kernel_rfl, fun w9 h9 => ?_⟩) HSE.out ?_
              · have x0 := h9.1.cel 0 _ rfl; have x1 := h9.1.cel 1 _ rfl; have x2 := h9.1.cel 2 _ rfl; have x3 := h9.1.cel 3 _ rfl; have x4 := h9.1.cel 4 _ rfl; have x5 := h9.1.cel 5 _ rfl; have x6 := h9.1.cel 6 _ rfl; have x7 := h9.1.cel 7 _ rfl; have x8 := h9.1.cel 8 _ rfl; have x9 := h9.1.cel 9 _ rfl; have xl := h9.1.lt; have y3 := h9.2.c3; have y7 := h9.2.c7; have yl := h9.2.lt; clear h9; go_simp
              refine wpAnyH_take (i := 17) (v := .pointer (some ⟨b, 0, none⟩)) rfl (by kernel_rfl) (by kernel_rfl) (by kernel_rfl) (fun _ _ _ h => h) (Or.inl ⟨by kernel_rfl, fun w9 h9 => ?_⟩) HSE.out ?_
              · clear h9; go_simp
              refine wpAnyH_take (i := 18) (v := .pointer (some ⟨b, 0, none⟩)) rfl (by kernel_rfl) (by kernel_rfl) (by kernel_rfl) (fun _ _ _ h => h) (Or.inl ⟨by kernel_rfl, fun w9 h9 => ?_⟩) HSE.out ?_
              · clear h9; go_simp
              refine wpAnyH_take (i := 19) (v := .pointer (some ⟨b, 3, none⟩)) rfl (by kernel_rfl) (by kernel_rfl) (by kernel_rfl) (fun _ _ _ h => h) (Or.inl ⟨by kernel_rfl, fun w9 h9 => ?_⟩) HSE.out ?_
              · clear h9; go_simp
              refine wpAnyH_take (i := 20) (v := .int .i64 s.pub) rfl (by kernel_rfl) (by kernel_rfl) (by kernel_rfl) (fun _ _ _ h => h) (Or.inl ⟨by kernel_rfl, fun w9 h9 => ?_⟩) HSE.out ?_
              · have x0 := h9.1.cel 0 _ rfl; have x1 := h9.1.cel 1 _ rfl; have x2 := h9.1.cel 2 _ rfl; have x3 := h9.1.cel 3 _ rfl; have x4 := h9.1.cel 4 _ rfl; have x5 := h9.1.cel 5 _ rfl; have x6 := h9.1.cel 6 _ rfl; have x7 := h9.1.cel 7 _ rfl; have x8 := h9.1.cel 8 _ rfl; have x9 := h9.1.cel 9 _ rfl; have xl := h9.1.lt; have y3 := h9.2.c3; have y7 := h9.2.c7; have yl := h9.2.lt; clear h9; go_simp
              refine wpAnyH_take (i := 21) (v := .bool false) rfl (by kernel_rfl) (by kernel_rfl) (by kernel_rfl) (fun _ _ _ h => h) (Or.inl ⟨by kernel_rfl, fun w9 h9 => ?_⟩) HSE.out ?_
              · clear h9; go_simp
              refine wpAnyH_take (i := 22) (v := .bool false) rfl (by kernel_rfl) (by kernel_rfl) (by kernel_rfl) (fun _ _ _ h => h) (Or.inl ⟨by kernel_rfl, fun w9 h9 => ?_⟩) HSE.out ?_
              · clear h9; go_simp
              refine wpAnyH_done (by kernel_rfl) ?_ _
              go_simp
              go_upto_region 3 with fail
              have HSF : Hid (LG w _ b0 #[.int .i64 c.proto, .int .i64 c.a, .int .i64 c.ap, .int .i64 c.b, .int .i64 c.bp, .int .i64 c.outer, .int .i64 c.state, .bool c.fa, .bool c.fb, .int .i64 c.seen] 59 ∧ FX _ b s a) := ⟨HSE.out.1.drew, HX.out.below HSE.out.1.drew.bel⟩
              refine wp_region_held (S := fun w9 => LG w w9 b0 #[.int .i64 c.proto, .int .i64 c.a, .int .i64 c.ap, .int .i64 c.b, .int .i64 c.bp, .int .i64 c.outer, .int .i64 c.state, .bool c.fa, .bool c.fb, .int .i64 c.seen] 59 ∧ FX w9 b s a) (by kernel_rfl) ?_
              change wpAnyH _ _ _ _ _ _ _ _ (World.drew _)
              refine wpAnyH_take (i := 0) (v := .agg #[.int .i64 c.proto, .int .i64 c.a, .int .i64 c.ap, .int .i64 c.b, .int .i64 c.bp, .int .i64 c.outer, .int .i64 c.state, .bool c.fa, .bool c.fb, .int .i64 c.seen]) rfl (by kernel_rfl) (by kernel_rfl) (by kernel_rfl) (fun _ _ _ h => h) (Or.inl ⟨by kernel_rfl, fun w9 h9 => ?_⟩) HSF.out ?_
              · have x0 := h9.1.cel 0 _ rfl; have x1 := h9.1.cel 1 _ rfl; have x2 := h9.1.cel 2 _ rfl; have x3 := h9.1.cel 3 _ rfl; have x4 := h9.1.cel 4 _ rfl; have x5 := h9.1.cel 5 _ rfl; have x6 := h9.1.cel 6 _ rfl; have x7 := h9.1.cel 7 _ rfl; have x8 := h9.1.cel 8 _ rfl; have x9 := h9.1.cel 9 _ rfl; have xl := h9.1.lt; have y3 := h9.2.c3; have y7 := h9.2.c7; have yl := h9.2.lt; clear h9; go_simp
              refine held_one 1 (by kernel_rfl) rfl (by kernel_rfl) fun K hK => ?_
              go_simp
              go_wp2_with (go_at_call 92; refine Calls.mono (HST.out _) ?_; rintro r u9 ⟨rfl, hu9⟩; have HSG : Hid (LG w u9 b0 #[.int .i64 c.proto, .int .i64 c.a, .int .i64 c.ap, .int .i64 c.b, .int .i64 c.bp, .int .i64 c.outer, .int .i64 c.state, .bool c.fa, .bool c.fb, .int .i64 c.seen] 59 ∧ FX u9 b s a) := ⟨HSF.out.1.step hu9, HSF.out.2.below hu9⟩; clear hu9)
              refine hK _ _ HSG.out ?_
              clear hK K
              refine wpAnyH_take (i := 2) (v := .bool true) rfl (by kernel_rfl) (by kernel_rfl) (by kernel_rfl) (fun _ _ _ h => h) (Or.inl ⟨by kernel_rfl, fun w9 h9 => ?_⟩) HSG.out ?_
              · clear h9; go_simp
              refine wpAnyH_take (i := 3) (v := .pointer (some ⟨b, 0, none⟩)) rfl (by kernel_rfl) (by kernel_rfl) (by kernel_rfl) (fun _ _ _ h => h) (Or.inl ⟨by kernel_rfl, fun w9 h9 => ?_⟩) HSG.out ?_
              · clear h9; go_simp
              refine wpAnyH_take (i := 4) (v := .agg #[.int .i64 c.proto, .int .i64 c.a, .int .i64 c.ap, .int .i64 c.b, .int .i64 c.bp, .int .i64 c.outer, .int .i64 c.state, .bool c.fa, .bool c.fb, .int .i64 c.seen]) rfl (by kernel_rfl) (by kernel_rfl) (by kernel_rfl) (fun _ _ _ h => h) (Or.inl ⟨by kernel_rfl, fun w9 h9 => ?_⟩) HSG.out ?_
              · have x0 := h9.1.cel 0 _ rfl; have x1 := h9.1.cel 1 _ rfl; have x2 := h9.1.cel 2 _ rfl; have x3 := h9.1.cel 3 _ rfl; have x4 := h9.1.cel 4 _ rfl; have x5 := h9.1.cel 5 _ rfl; have x6 := h9.1.cel 6 _ rfl; have x7 := h9.1.cel 7 _ rfl; have x8 := h9.1.cel 8 _ rfl; have x9 := h9.1.cel 9 _ rfl; have xl := h9.1.lt; have y3 := h9.2.c3; have y7 := h9.2.c7; have yl := h9.2.lt; clear h9; go_simp
              refine held_one 5 (by kernel_rfl) rfl (by kernel_rfl) fun K hK => ?_
              go_simp
              go_wp2_with (go_at_call 93; refine Calls.mono (HOU.out _ HSG.out.1.aft) ?_; rintro r u9 ⟨rfl, hu9⟩; have HSH : Hid (LG w u9 b0 #[.int .i64 c.proto, .int .i64 c.a, .int .i64 c.ap, .int .i64 c.b, .int .i64 c.bp, .int .i64 c.outer, .int .i64 c.state, .bool c.fa, .bool c.fb, .int .i64 c.seen] 59 ∧ FX u9 b s a) := ⟨HSG.out.1.step hu9, HSG.out.2.below hu9⟩; clear hu9)
              refine hK _ _ HSH.out ?_
              clear hK K
              refine wpAnyH_take (i := 6) (v := .bool true) rfl (by kernel_rfl) (by kernel_rfl) (by kernel_rfl) (fun _ _ _ h => h) (Or.inl ⟨by kernel_rfl, fun w9 h9 => ?_⟩) HSH.out ?_
              · clear h9; go_simp
              refine wpAnyH_take (i := 7) (v := .bool true) rfl (by kernel_rfl) (by kernel_rfl) (by kernel_rfl) (fun _ _ _ h => h) (Or.inl ⟨by kernel_rfl, fun w9 h9 => ?_⟩) HSH.out ?_
              · clear h9; go_simp
              refine wpAnyH_take (i := 8) (v := .pointer (some ⟨b0, 9, none⟩)) rfl (by kernel_rfl) (by kernel_rfl) (by kernel_rfl) (fun _ _ _ h => h) (Or.inl ⟨by kernel_rfl, fun w9 h9 => ?_⟩) HSH.out ?_
              · clear h9; go_simp
              refine wpAnyH_take (i := 9) (v := .int .i64 c.seen) rfl (by kernel_rfl) (by kernel_rfl) (by kernel_rfl) (fun _ _ _ h => h) (Or.inl ⟨by kernel_rfl, fun w9 h9 => ?_⟩) HSH.out ?_
              · have x0 := h9.1.cel 0 _ rfl; have x1 := h9.1.cel 1 _ rfl; have x2 := h9.1.cel 2 _ rfl; have x3 := h9.1.cel 3 _ rfl; have x4 := h9.1.cel 4 _ rfl; have x5 := h9.1.cel 5 _ rfl; have x6 := h9.1.cel 6 _ rfl; have x7 := h9.1.cel 7 _ rfl; have x8 := h9.1.cel 8 _ rfl; have x9 := h9.1.cel 9 _ rfl; have xl := h9.1.lt; have y3 := h9.2.c3; have y7 := h9.2.c7; have yl := h9.2.lt; clear h9; go_simp
              refine wpAnyH_take (i := 10) (v := .bool false) rfl (by kernel_rfl) (by kernel_rfl) (by kernel_rfl) (fun _ _ _ h => h) (Or.inl ⟨by kernel_rfl, fun w9 h9 => ?_⟩) HSH.out ?_
              · clear h9; go_simp
              refine wpAnyH_take (i := 11) (v := .bool false) rfl (by kernel_rfl) (by kernel_rfl) (by kernel_rfl) (fun _ _ _ h => h) (Or.inl ⟨by kernel_rfl, fun w9 h9 => ?_⟩) HSH.out ?_
              · clear h9; go_simp
              refine wpAnyH_take (i := 12) (v := .bool false) rfl (by kernel_rfl) (by kernel_rfl) (by kernel_rfl) (fun _ _ _ h => h) (Or.inl ⟨by kernel_rfl, fun w9 h9 => ?_⟩) HSH.out ?_
              · clear h9; go_simp
              refine wpAnyH_take (i := 13) (v := undef) rfl (by kernel_rfl) (by kernel_rfl) (by kernel_rfl) (fun _ _ _ h => h) (Or.inr ⟨by kernel_rfl, rfl⟩) HSH.out ?_
              refine wpAnyH_take (i := 14) (v := undef) rfl (by kernel_rfl) (by kernel_rfl) (by kernel_rfl) (fun _ _ _ h => h) (Or.inr ⟨by kernel_rfl, rfl⟩) HSH.out ?_
              refine wpAnyH_take (i := 15) (v := undef) rfl (by kernel_rfl) (by kernel_rfl) (by kernel_rfl) (fun _ _ _ h => h) (Or.inr ⟨by kernel_rfl, rfl⟩) HSH.out ?_
              refine wpAnyH_take (i := 16) (v := undef) rfl (by kernel_rfl) (by kernel_rfl) (by kernel_rfl) (fun _ _ _ h => h) (Or.inr ⟨by kernel_rfl, rfl⟩) HSH.out ?_
              refine wpAnyH_take (i := 17) (v := undef) rfl (by kernel_rfl) (by kernel_rfl) (by kernel_rfl) (fun _ _ _ h => h) (Or.inr ⟨by kernel_rfl, rfl⟩) HSH.out ?_
              refine wpAnyH_take (i := 18) (v := undef) rfl (by kernel_rfl) (by kernel_rfl) (by kernel_rfl) (fun _ _ _ h => h) (Or.inr ⟨by kernel_rfl, rfl⟩) HSH.out ?_
              refine wpAnyH_take (i := 19) (v := undef) rfl (by kernel_rfl) (by kernel_rfl) (by kernel_rfl) (fun _ _ _ h => h) (Or.inr ⟨by kernel_rfl, rfl⟩) HSH.out ?_
              refine wpAnyH_take (i := 20) (v := .bool false) rfl (by kernel_rfl) (by kernel_rfl) (by kernel_rfl) (fun _ _ _ h => h) (Or.inl ⟨by kernel_rfl, fun w9 h9 => ?_⟩) HSH.out ?_
              · clear h9; go_simp
              refine wpAnyH_take (i := 21) (v := .bool false) rfl (by kernel_rfl) (by kernel_rfl) (by kernel_rfl) (fun _ _ _ h => h) (Or.inl ⟨by kernel_rfl, fun w9 h9 => ?_⟩) HSH.out ?_
              · clear h9; go_simp
              refine wpAnyH_done (by kernel_rfl) ?_ _
              go_simp
              go_wp2
              go_ret
              exact ⟨ret_bool (by rw [E.out]; simp), e1 ▸ HSH.out.1.bel⟩
            · rw [h6] at E
              go_enter Try.func78, Try.ntmps78
              go_upto_region 1 with fail
              generalize (w.alloc (.cells #[.int .i64 c.proto, .int .i64 c.a, .int .i64 c.ap, .int .i64 c.b, .int .i64 c.bp, .int .i64 c.outer, .int .i64 c.state, .bool c.fa, .bool c.fb, .int .i64 c.seen] 59)) = u0 at *
              generalize e1 : w.heap.size = b0 at *
              have HSB : Hid (LG w u0.drew b0 #[.int .i64 c.proto, .int .i64 c.a, .int .i64 c.ap, .int .i64 c.b, .int .i64 c.bp, .int .i64 c.outer, .int .i64 c.state, .bool c.fa, .bool c.fb, .int .i64 c.seen] 59 ∧ FX u0.drew b s a) := ⟨HL0.out.drew, HX.out.below (e1 ▸ HL0.out.drew.bel)⟩
              refine wp_region_held (S := fun w9 => LG w w9 b0 #[.int .i64 c.proto, .int .i64 c.a, .int .i64 c.ap, .int .i64 c.b, .int .i64 c.bp, .int .i64 c.outer, .int .i64 c.state, .bool c.fa, .bool c.fb, .int .i64 c.seen] 59 ∧ FX w9 b s a) (by kernel_rfl) ?_
              change wpAnyH _ _ _ _ _ _ _ _ (World.drew _)
              refine wpAnyH_take (i := 0) (v := .agg #[.int .i64 c.proto, .int .i64 c.a, .int .i64 c.ap, .int .i64 c.b, .int .i64 c.bp, .int .i64 c.outer, .int .i64 c.state, .bool c.fa, .bool c.fb, .int .i64 c.seen]) rfl (by kernel_rfl) (by kernel_rfl) (by kernel_rfl) (fun _ _ _ h => h) (Or.inl ⟨by kernel_rfl, fun w9 h9 => ?_⟩) HSB.out ?_
              · have x0 := h9.1.cel 0 _ rfl; have x1 := h9.1.cel 1 _ rfl; have x2 := h9.1.cel 2 _ rfl; have x3 := h9.1.cel 3 _ rfl; have x4 := h9.1.cel 4 _ rfl; have x5 := h9.1.cel 5 _ rfl; have x6 := h9.1.cel 6 _ rfl; have x7 := h9.1.cel 7 _ rfl; have x8 := h9.1.cel 8 _ rfl; have x9 := h9.1.cel 9 _ rfl; have xl := h9.1.lt; have y3 := h9.2.c3; have y7 := h9.2.c7; have yl := h9.2.lt; clear h9; go_simp
              refine held_one 1 (by kernel_rfl) rfl (by kernel_rfl) fun K hK => ?_
              go_simp
              go_wp2_with (go_at_call 90; refine Calls.mono (HF.out _) ?_; rintro r u9 ⟨rfl, hu9⟩; have HSC : Hid (LG w u9 b0 #[.int .i64 c.proto, .int .i64 c.a, .int .i64 c.ap, .int .i64 c.b, .int .i64 c.bp, .int .i64 c.outer, .int .i64 c.state, .bool c.fa, .bool c.fb, .int .i64 c.seen] 59 ∧ FX u9 b s a) := ⟨HSB.out.1.step hu9, HSB.out.2.below hu9⟩; clear hu9)
              refine hK _ _ HSC.out ?_
              clear hK K
              refine held_one 2 (by kernel_rfl) rfl (by kernel_rfl) fun K hK => ?_
              go_simp
              go_wp2_with (go_at_call 91; refine Calls.mono (HPK.out _) ?_; rintro r u9 ⟨rfl, hu9⟩; have HSD : Hid (LG w u9 b0 #[.int .i64 c.proto, .int .i64 c.a, .int .i64 c.ap, .int .i64 c.b, .int .i64 c.bp, .int .i64 c.outer, .int .i64 c.state, .bool c.fa, .bool c.fb, .int .i64 c.seen] 59 ∧ FX u9 b s a) := ⟨HSC.out.1.step hu9, HSC.out.2.below hu9⟩; clear hu9)
              refine hK _ _ HSD.out ?_
              clear hK K
              refine held_one 3 (by kernel_rfl) rfl (by kernel_rfl) fun K hK => ?_
              go_simp
              go_wp2_with (go_at_call 40; refine Calls.mono (HR.out _) ?_; rintro r u9 ⟨rfl, hu9⟩; have HSE : Hid (LG w u9 b0 #[.int .i64 c.proto, .int .i64 c.a, .int .i64 c.ap, .int .i64 c.b, .int .i64 c.bp, .int .i64 c.outer, .int .i64 c.state, .bool c.fa, .bool c.fb, .int .i64 c.seen] 59 ∧ FX u9 b s a) := ⟨HSD.out.1.step hu9, HSD.out.2.below hu9⟩; clear hu9)
              refine hK _ _ HSE.out ?_
              clear hK K
              refine wpAnyH_take (i := 4) (v := .bool false) rfl (by kernel_rfl) (by kernel_rfl) (by kernel_rfl) (fun _ _ _ h => h) (Or.inl ⟨by kernel_rfl, fun w9 h9 => ?_⟩) HSE.out ?_
              · clear h9; go_simp
              refine wpAnyH_take (i := 5) (v := .bool false) rfl (by kernel_rfl) (by kernel_rfl) (by kernel_rfl) (fun _ _ _ h => h) (Or.inl ⟨by kernel_rfl, fun w9 h9 => ?_⟩) HSE.out ?_
              · clear h9; go_simp
              refine wpAnyH_take (i := 6) (v := .pointer (some ⟨b0, 1, none⟩)) rfl (by kernel_rfl) (by kernel_rfl) (by kernel_rfl) (fun _ _ _ h => h) (Or.inl ⟨by kernel_rfl, fun w9 h9 => ?_⟩) HSE.out ?_
              · clear h9; go_simp
              refine wpAnyH_take (i := 7) (v := .int .i64 c.a) rfl (by kernel_rfl) (by kernel_rfl) (by kernel_rfl) (fun _ _ _ h => h) (Or.inl ⟨by kernel_rfl, fun w9 h9 => ?_⟩) HSE.out ?_
              · have x0 := h9.1.cel 0 _ rfl; have x1 := h9.1.cel 1 _ rfl; have x2 := h9.1.cel 2 _ rfl; have x3 := h9.1.cel 3 _ rfl; have x4 := h9.1.cel 4 _ rfl; have x5 := h9.1.cel 5 _ rfl; have x6 := h9.1.cel 6 _ rfl; have x7 := h9.1.cel 7 _ rfl; have x8 := h9.1.cel 8 _ rfl; have x9 := h9.1.cel 9 _ rfl; have xl := h9.1.lt; have y3 := h9.2.c3; have y7 := h9.2.c7; have yl := h9.2.lt; clear h9; go_simp
              refine wpAnyH_take (i := 8) (v := .pointer (some ⟨b, 0, none⟩)) rfl (by kernel_rfl) (by kernel_rfl) (by kernel_rfl) (fun _ _ _ h => h) (Or.inl ⟨by kernel_rfl, fun w9 h9 => ?_⟩) HSE.out ?_
              · clear h9; go_simp
              refine wpAnyH_take (i := 9) (v := .pointer (some ⟨b, 0, none⟩)) rfl (by kernel_rfl) (by kernel_rfl) (by kernel_rfl) (fun _ _ _ h => h) (Or.inl ⟨by kernel_rfl, fun w9 h9 => ?_⟩) HSE.out ?_
              · clear h9; go_simp
              refine wpAnyH_take (i := 10) (v := .pointer (some ⟨b, 3, none⟩)) rfl (by kernel_rfl) (by kernel_rfl) (by kernel_rfl) (fun _ _ _ h => h) (Or.inl ⟨by kernel_rfl, fun w9 h9 => ?_⟩) HSE.out ?_
              · clear h9; go_simp
              refine wpAnyH_take (i := 11) (v := .int .i64 s.pub) rfl (by kernel_rfl) (by kernel_rfl) (by kernel_rfl) (fun _ _ _ h => h) (Or.inl ⟨by kernel_rfl, fun w9 h9 => ?_⟩) HSE.out ?_
              · have x0 := h9.1.cel 0 _ rfl; have x1 := h9.1.cel 1 _ rfl; have x2 := h9.1.cel 2 _ rfl; have x3 := h9.1.cel 3 _ rfl; have x4 := h9.1.cel 4 _ rfl; have x5 := h9.1.cel 5 _ rfl; have x6 := h9.1.cel 6 _ rfl; have x7 := h9.1.cel 7 _ rfl; have x8 := h9.1.cel 8 _ rfl; have x9 := h9.1.cel 9 _ rfl; have xl := h9.1.lt; have y3 := h9.2.c3; have y7 := h9.2.c7; have yl := h9.2.lt; clear h9; go_simp
              refine wpAnyH_take (i := 12) (v := .bool false) rfl (by kernel_rfl) (by kernel_rfl) (by kernel_rfl) (fun _ _ _ h => h) (Or.inl ⟨by kernel_rfl, fun w9 h9 => ?_⟩) HSE.out ?_
              · clear h9; go_simp
              refine wpAnyH_take (i := 13) (v := .bool false) rfl (by kernel_rfl) (by kernel_rfl) (by kernel_rfl) (fun _ _ _ h => h) (Or.inl ⟨by kernel_rfl, fun w9 h9 => ?_⟩) HSE.out ?_
              · clear h9; go_simp
              refine wpAnyH_take (i := 14) (v := .bool false) rfl (by kernel_rfl) (by kernel_rfl) (by kernel_rfl) (fun _ _ _ h => h) (Or.inl ⟨by kernel_rfl, fun w9 h9 => ?_⟩) HSE.out ?_
              · clear h9; go_simp
              refine wpAnyH_take (i := 15) (v := .pointer (some ⟨b0, 3, none⟩)) rfl (by kernel_rfl) (by kernel_rfl) (by kernel_rfl) (fun _ _ _ h => h) (Or.inl ⟨by kernel_rfl, fun w9 h9 => ?_⟩) HSE.out ?_
              · clear h9; go_simp
              refine wpAnyH_take (i := 16) (v := .int .i64 c.b) rfl (by kernel_rfl) (by kernel_rfl) (by kernel_rfl) (fun _ _ _ h => h) (Or.inl ⟨by kernel_rfl, fun w9 h9 => ?_⟩) HSE.out ?_
              · have x0 := h9.1.cel 0 _ rfl; have x1 := h9.1.cel 1 _ rfl; have x2 := h9.1.cel 2 _ rfl; have x3 := h9.1.cel 3 _ rfl; have x4 := h9.1.cel 4 _ rfl; have x5 := h9.1.cel 5 _ rfl; have x6 := h9.1.cel 6 _ rfl; have x7 := h9.1.cel 7 _ rfl; have x8 := h9.1.cel 8 _ rfl; have x9 := h9.1.cel 9 _ rfl; have xl := h9.1.lt; have y3 := h9.2.c3; have y7 := h9.2.c7; have yl := h9.2.lt; clear h9; go_simp
              refine wpAnyH_take (i := 17) (v := .pointer (some ⟨b, 0, none⟩)) rfl (by kernel_rfl) (by kernel_rfl) (by kernel_rfl) (fun _ _ _ h => h) (Or.inl ⟨by kernel_rfl, fun w9 h9 => ?_⟩) HSE.out ?_
              · clear h9; go_simp
              refine wpAnyH_take (i := 18) (v := .pointer (some ⟨b, 0, none⟩)) rfl (by kernel_rfl) (by kernel_rfl) (by kernel_rfl) (fun _ _ _ h => h) (Or.inl ⟨by kernel_rfl, fun w9 h9 => ?_⟩) HSE.out ?_
              · clear h9; go_simp
              refine wpAnyH_take (i := 19) (v := .pointer (some ⟨b, 3, none⟩)) rfl (by kernel_rfl) (by kernel_rfl) (by kernel_rfl) (fun _ _ _ h => h) (Or.inl ⟨by kernel_rfl, fun w9 h9 => ?_⟩) HSE.out ?_
              · clear h9; go_simp
              refine wpAnyH_take (i := 20) (v := .int .i64 s.pub) rfl (by kernel_rfl) (by kernel_rfl) (by kernel_rfl) (fun _ _ _ h => h) (Or.inl ⟨by kernel_rfl, fun w9 h9 => ?_⟩) HSE.out ?_
              · have x0 := h9.1.cel 0 _ rfl; have x1 := h9.1.cel 1 _ rfl; have x2 := h9.1.cel 2 _ rfl; have x3 := h9.1.cel 3 _ rfl; have x4 := h9.1.cel 4 _ rfl; have x5 := h9.1.cel 5 _ rfl; have x6 := h9.1.cel 6 _ rfl; have x7 := h9.1.cel 7 _ rfl; have x8 := h9.1.cel 8 _ rfl; have x9 := h9.1.cel 9 _ rfl; have xl := h9.1.lt; have y3 := h9.2.c3; have y7 := h9.2.c7; have yl := h9.2.lt; clear h9; go_simp
              refine wpAnyH_take (i := 21) (v := .bool false) rfl (by kernel_rfl) (by kernel_rfl) (by kernel_rfl) (fun _ _ _ h => h) (Or.inl ⟨by kernel_rfl, fun w9 h9 => ?_⟩) HSE.out ?_
              · clear h9; go_simp
              refine wpAnyH_take (i := 22) (v := .bool false) rfl (by kernel_rfl) (by kernel_rfl) (by kernel_rfl) (fun _ _ _ h => h) (Or.inl ⟨by kernel_rfl, fun w9 h9 => ?_⟩) HSE.out ?_
              · clear h9; go_simp
              refine wpAnyH_done (by kernel_rfl) ?_ _
              go_simp
              go_upto_region 3 with fail
              have HSF : Hid (LG w _ b0 #[.int .i64 c.proto, .int .i64 c.a, .int .i64 c.ap, .int .i64 c.b, .int .i64 c.bp, .int .i64 c.outer, .int .i64 c.state, .bool c.fa, .bool c.fb, .int .i64 c.seen] 59 ∧ FX _ b s a) := ⟨HSE.out.1.drew, HX.out.below HSE.out.1.drew.bel⟩
              refine wp_region_held (S := fun w9 => LG w w9 b0 #[.int .i64 c.proto, .int .i64 c.a, .int .i64 c.ap, .int .i64 c.b, .int .i64 c.bp, .int .i64 c.outer, .int .i64 c.state, .bool c.fa, .bool c.fb, .int .i64 c.seen] 59 ∧ FX w9 b s a) (by kernel_rfl) ?_
              change wpAnyH _ _ _ _ _ _ _ _ (World.drew _)
              refine wpAnyH_take (i := 0) (v := .agg #[.int .i64 c.proto, .int .i64 c.a, .int .i64 c.ap, .int .i64 c.b, .int .i64 c.bp, .int .i64 c.outer, .int .i64 c.state, .bool c.fa, .bool c.fb, .int .i64 c.seen]) rfl (by kernel_rfl) (by kernel_rfl) (by kernel_rfl) (fun _ _ _ h => h) (Or.inl ⟨by kernel_rfl, fun w9 h9 => ?_⟩) HSF.out ?_
              · have x0 := h9.1.cel 0 _ rfl; have x1 := h9.1.cel 1 _ rfl; have x2 := h9.1.cel 2 _ rfl; have x3 := h9.1.cel 3 _ rfl; have x4 := h9.1.cel 4 _ rfl; have x5 := h9.1.cel 5 _ rfl; have x6 := h9.1.cel 6 _ rfl; have x7 := h9.1.cel 7 _ rfl; have x8 := h9.1.cel 8 _ rfl; have x9 := h9.1.cel 9 _ rfl; have xl := h9.1.lt; have y3 := h9.2.c3; have y7 := h9.2.c7; have yl := h9.2.lt; clear h9; go_simp
              refine held_one 1 (by kernel_rfl) rfl (by kernel_rfl) fun K hK => ?_
              go_simp
              go_wp2_with (go_at_call 92; refine Calls.mono (HST.out _) ?_; rintro r u9 ⟨rfl, hu9⟩; have HSG : Hid (LG w u9 b0 #[.int .i64 c.proto, .int .i64 c.a, .int .i64 c.ap, .int .i64 c.b, .int .i64 c.bp, .int .i64 c.outer, .int .i64 c.state, .bool c.fa, .bool c.fb, .int .i64 c.seen] 59 ∧ FX u9 b s a) := ⟨HSF.out.1.step hu9, HSF.out.2.below hu9⟩; clear hu9)
              refine hK _ _ HSG.out ?_
              clear hK K
              refine wpAnyH_take (i := 2) (v := .bool true) rfl (by kernel_rfl) (by kernel_rfl) (by kernel_rfl) (fun _ _ _ h => h) (Or.inl ⟨by kernel_rfl, fun w9 h9 => ?_⟩) HSG.out ?_
              · clear h9; go_simp
              refine wpAnyH_take (i := 3) (v := .pointer (some ⟨b, 0, none⟩)) rfl (by kernel_rfl) (by kernel_rfl) (by kernel_rfl) (fun _ _ _ h => h) (Or.inl ⟨by kernel_rfl, fun w9 h9 => ?_⟩) HSG.out ?_
              · clear h9; go_simp
              refine wpAnyH_take (i := 4) (v := .agg #[.int .i64 c.proto, .int .i64 c.a, .int .i64 c.ap, .int .i64 c.b, .int .i64 c.bp, .int .i64 c.outer, .int .i64 c.state, .bool c.fa, .bool c.fb, .int .i64 c.seen]) rfl (by kernel_rfl) (by kernel_rfl) (by kernel_rfl) (fun _ _ _ h => h) (Or.inl ⟨by kernel_rfl, fun w9 h9 => ?_⟩) HSG.out ?_
              · have x0 := h9.1.cel 0 _ rfl; have x1 := h9.1.cel 1 _ rfl; have x2 := h9.1.cel 2 _ rfl; have x3 := h9.1.cel 3 _ rfl; have x4 := h9.1.cel 4 _ rfl; have x5 := h9.1.cel 5 _ rfl; have x6 := h9.1.cel 6 _ rfl; have x7 := h9.1.cel 7 _ rfl; have x8 := h9.1.cel 8 _ rfl; have x9 := h9.1.cel 9 _ rfl; have xl := h9.1.lt; have y3 := h9.2.c3; have y7 := h9.2.c7; have yl := h9.2.lt; clear h9; go_simp
              refine held_one 5 (by kernel_rfl) rfl (by kernel_rfl) fun K hK => ?_
              go_simp
              go_wp2_with (go_at_call 93; refine Calls.mono (HOU.out _ HSG.out.1.aft) ?_; rintro r u9 ⟨rfl, hu9⟩; have HSH : Hid (LG w u9 b0 #[.int .i64 c.proto, .int .i64 c.a, .int .i64 c.ap, .int .i64 c.b, .int .i64 c.bp, .int .i64 c.outer, .int .i64 c.state, .bool c.fa, .bool c.fb, .int .i64 c.seen] 59 ∧ FX u9 b s a) := ⟨HSG.out.1.step hu9, HSG.out.2.below hu9⟩; clear hu9)
              refine hK _ _ HSH.out ?_
              clear hK K
              refine wpAnyH_take (i := 6) (v := .bool true) rfl (by kernel_rfl) (by kernel_rfl) (by kernel_rfl) (fun _ _ _ h => h) (Or.inl ⟨by kernel_rfl, fun w9 h9 => ?_⟩) HSH.out ?_
              · clear h9; go_simp
              refine wpAnyH_take (i := 7) (v := .bool true) rfl (by kernel_rfl) (by kernel_rfl) (by kernel_rfl) (fun _ _ _ h => h) (Or.inl ⟨by kernel_rfl, fun w9 h9 => ?_⟩) HSH.out ?_
              · clear h9; go_simp
              refine wpAnyH_take (i := 8) (v := .pointer (some ⟨b0, 9, none⟩)) rfl (by kernel_rfl) (by kernel_rfl) (by kernel_rfl) (fun _ _ _ h => h) (Or.inl ⟨by kernel_rfl, fun w9 h9 => ?_⟩) HSH.out ?_
              · clear h9; go_simp
              refine wpAnyH_take (i := 9) (v := .int .i64 c.seen) rfl (by kernel_rfl) (by kernel_rfl) (by kernel_rfl) (fun _ _ _ h => h) (Or.inl ⟨by kernel_rfl, fun w9 h9 => ?_⟩) HSH.out ?_
              · have x0 := h9.1.cel 0 _ rfl; have x1 := h9.1.cel 1 _ rfl; have x2 := h9.1.cel 2 _ rfl; have x3 := h9.1.cel 3 _ rfl; have x4 := h9.1.cel 4 _ rfl; have x5 := h9.1.cel 5 _ rfl; have x6 := h9.1.cel 6 _ rfl; have x7 := h9.1.cel 7 _ rfl; have x8 := h9.1.cel 8 _ rfl; have x9 := h9.1.cel 9 _ rfl; have xl := h9.1.lt; have y3 := h9.2.c3; have y7 := h9.2.c7; have yl := h9.2.lt; clear h9; go_simp
              refine wpAnyH_take (i := 10) (v := .bool true) rfl (by kernel_rfl) (by kernel_rfl) (by kernel_rfl) (fun _ _ _ h => h) (Or.inl ⟨by kernel_rfl, fun w9 h9 => ?_⟩) HSH.out ?_
              · clear h9; go_simp
              refine wpAnyH_take (i := 11) (v := .bool true) rfl (by kernel_rfl) (by kernel_rfl) (by kernel_rfl) (fun _ _ _ h => h) (Or.inl ⟨by kernel_rfl, fun w9 h9 => ?_⟩) HSH.out ?_
              · clear h9; go_simp
              refine wpAnyH_take (i := 12) (v := .bool true) rfl (by kernel_rfl) (by kernel_rfl) (by kernel_rfl) (fun _ _ _ h => h) (Or.inl ⟨by kernel_rfl, fun w9 h9 => ?_⟩) HSH.out ?_
              · clear h9; go_simp
              refine wpAnyH_take (i := 13) (v := .pointer (some ⟨b0, 9, none⟩)) rfl (by kernel_rfl) (by kernel_rfl) (by kernel_rfl) (fun _ _ _ h => h) (Or.inl ⟨by kernel_rfl, fun w9 h9 => ?_⟩) HSH.out ?_
              · clear h9; go_simp
              refine wpAnyH_take (i := 14) (v := .int .i64 c.seen) rfl (by kernel_rfl) (by kernel_rfl) (by kernel_rfl) (fun _ _ _ h => h) (Or.inl ⟨by kernel_rfl, fun w9 h9 => ?_⟩) HSH.out ?_
              · have x0 := h9.1.cel 0 _ rfl; have x1 := h9.1.cel 1 _ rfl; have x2 := h9.1.cel 2 _ rfl; have x3 := h9.1.cel 3 _ rfl; have x4 := h9.1.cel 4 _ rfl; have x5 := h9.1.cel 5 _ rfl; have x6 := h9.1.cel 6 _ rfl; have x7 := h9.1.cel 7 _ rfl; have x8 := h9.1.cel 8 _ rfl; have x9 := h9.1.cel 9 _ rfl; have xl := h9.1.lt; have y3 := h9.2.c3; have y7 := h9.2.c7; have yl := h9.2.lt; clear h9; go_simp
              refine wpAnyH_take (i := 15) (v := .pointer (some ⟨b, 0, none⟩)) rfl (by kernel_rfl) (by kernel_rfl) (by kernel_rfl) (fun _ _ _ h => h) (Or.inl ⟨by kernel_rfl, fun w9 h9 => ?_⟩) HSH.out ?_
              · clear h9; go_simp
              refine wpAnyH_take (i := 16) (v := .pointer (some ⟨b, 0, none⟩)) rfl (by kernel_rfl) (by kernel_rfl) (by kernel_rfl) (fun _ _ _ h => h) (Or.inl ⟨by kernel_rfl, fun w9 h9 => ?_⟩) HSH.out ?_
              · clear h9; go_simp
              refine wpAnyH_take (i := 17) (v := .pointer (some ⟨b, 7, none⟩)) rfl (by kernel_rfl) (by kernel_rfl) (by kernel_rfl) (fun _ _ _ h => h) (Or.inl ⟨by kernel_rfl, fun w9 h9 => ?_⟩) HSH.out ?_
              · clear h9; go_simp
              refine wpAnyH_take (i := 18) (v := .int .i64 s.time) rfl (by kernel_rfl) (by kernel_rfl) (by kernel_rfl) (fun _ _ _ h => h) (Or.inl ⟨by kernel_rfl, fun w9 h9 => ?_⟩) HSH.out ?_
              · have x0 := h9.1.cel 0 _ rfl; have x1 := h9.1.cel 1 _ rfl; have x2 := h9.1.cel 2 _ rfl; have x3 := h9.1.cel 3 _ rfl; have x4 := h9.1.cel 4 _ rfl; have x5 := h9.1.cel 5 _ rfl; have x6 := h9.1.cel 6 _ rfl; have x7 := h9.1.cel 7 _ rfl; have x8 := h9.1.cel 8 _ rfl; have x9 := h9.1.cel 9 _ rfl; have xl := h9.1.lt; have y3 := h9.2.c3; have y7 := h9.2.c7; have yl := h9.2.lt; clear h9; go_simp
              refine wpAnyH_take (i := 19) (v := .bool (decide (c.seen ≤ s.time))) rfl (by kernel_rfl) (by kernel_rfl) (by kernel_rfl) (fun _ _ _ h => h) (Or.inl ⟨by kernel_rfl, fun w9 h9 => ?_⟩) HSH.out ?_
              · clear h9; go_simp
              refine wpAnyH_take (i := 20) (v := .bool (decide (c.seen ≤ s.time))) rfl (by kernel_rfl) (by kernel_rfl) (by kernel_rfl) (fun _ _ _ h => h) (Or.inl ⟨by kernel_rfl, fun w9 h9 => ?_⟩) HSH.out ?_
              · clear h9; go_simp
              refine wpAnyH_take (i := 21) (v := .bool (decide (c.seen ≤ s.time))) rfl (by kernel_rfl) (by kernel_rfl) (by kernel_rfl) (fun _ _ _ h => h) (Or.inl ⟨by kernel_rfl, fun w9 h9 => ?_⟩) HSH.out ?_
              · clear h9; go_simp
              refine wpAnyH_done (by kernel_rfl) ?_ _
              go_simp
              go_wp2
              go_ret
              exact ⟨ret_bool (by rw [E.out]; simp), e1 ▸ HSH.out.1.bel⟩
      · rw [h3] at E
        go_enter Try.func78, Try.ntmps78
        go_upto_region 1 with fail
        generalize (w.alloc (.cells #[.int .i64 c.proto, .int .i64 c.a, .int .i64 c.ap, .int .i64 c.b, .int .i64 c.bp, .int .i64 c.outer, .int .i64 c.state, .bool c.fa, .bool c.fb, .int .i64 c.seen] 59)) = u0 at *
        generalize e1 : w.heap.size = b0 at *
        have HSB : Hid (LG w u0.drew b0 #[.int .i64 c.proto, .int .i64 c.a, .int .i64 c.ap, .int .i64 c.b, .int .i64 c.bp, .int .i64 c.outer, .int .i64 c.state, .bool c.fa, .bool c.fb, .int .i64 c.seen] 59 ∧ FX u0.drew b s a) := ⟨HL0.out.drew, HX.out.below (e1 ▸ HL0.out.drew.bel)⟩
        refine wp_region_held (S := fun w9 => LG w w9 b0 #[.int .i64 c.proto, .int .i64 c.a, .int .i64 c.ap, .int .i64 c.b, .int .i64 c.bp, .int .i64 c.outer, .int .i64 c.state, .bool c.fa, .bool c.fb, .int .i64 c.seen] 59 ∧ FX w9 b s a) (by kernel_rfl) ?_
        change wpAnyH _ _ _ _ _ _ _ _ (World.drew _)
        refine wpAnyH_take (i := 0) (v := .agg #[.int .i64 c.proto, .int .i64 c.a, .int .i64 c.ap, .int .i64 c.b, .int .i64 c.bp, .int .i64 c.outer, .int .i64 c.state, .bool c.fa, .bool c.fb, .int .i64 c.seen]) rfl (by kernel_rfl) (by kernel_rfl) (by kernel_rfl) (fun _ _ _ h => h) (Or.inl ⟨by kernel_rfl, fun w9 h9 => ?_⟩) HSB.out ?_
        · have x0 := h9.1.cel 0 _ rfl; have x1 := h9.1.cel 1 _ rfl; have x2 := h9.1.cel 2 _ rfl; have x3 := h9.1.cel 3 _ rfl; have x4 := h9.1.cel 4 _ rfl; have x5 := h9.1.cel 5 _ rfl; have x6 := h9.1.cel 6 _ rfl; have x7 := h9.1.cel 7 _ rfl; have x8 := h9.1.cel 8 _ rfl; have x9 := h9.1.cel 9 _ rfl; have xl := h9.1.lt; have y3 := h9.2.c3; have y7 := h9.2.c7; have yl := h9.2.lt; clear h9; go_simp
        refine held_one 1 (by kernel_rfl) rfl (by kernel_rfl) fun K hK => ?_
        go_simp
        go_wp2_with (go_at_call 90; refine Calls.mono (HF.out _) ?_; rintro r u9 ⟨rfl, hu9⟩; have HSC : Hid (LG w u9 b0 #[.int .i64 c.proto, .int .i64 c.a, .int .i64 c.ap, .int .i64 c.b, .int .i64 c.bp, .int .i64 c.outer, .int .i64 c.state, .bool c.fa, .bool c.fb, .int .i64 c.seen] 59 ∧ FX u9 b s a) := ⟨HSB.out.1.step hu9, HSB.out.2.below hu9⟩; clear hu9)
        refine hK _ _ HSC.out ?_
        clear hK K
        refine held_one 2 (by kernel_rfl) rfl (by kernel_rfl) fun K hK => ?_
        go_simp
        go_wp2_with (go_at_call 91; refine Calls.mono (HPK.out _) ?_; rintro r u9 ⟨rfl, hu9⟩; have HSD : Hid (LG w u9 b0 #[.int .i64 c.proto, .int .i64 c.a, .int .i64 c.ap, .int .i64 c.b, .int .i64 c.bp, .int .i64 c.outer, .int .i64 c.state, .bool c.fa, .bool c.fb, .int .i64 c.seen] 59 ∧ FX u9 b s a) := ⟨HSC.out.1.step hu9, HSC.out.2.below hu9⟩; clear hu9)
        refine hK _ _ HSD.out ?_
        clear hK K
        refine held_one 3 (by kernel_rfl) rfl (by kernel_rfl) fun K hK => ?_
        go_simp
        go_wp2_with (go_at_call 40; refine Calls.mono (HR.out _) ?_; rintro r u9 ⟨rfl, hu9⟩; have HSE : Hid (LG w u9 b0 #[.int .i64 c.proto, .int .i64 c.a, .int .i64 c.ap, .int .i64 c.b, .int .i64 c.bp, .int .i64 c.outer, .int .i64 c.state, .bool c.fa, .bool c.fb, .int .i64 c.seen] 59 ∧ FX u9 b s a) := ⟨HSD.out.1.step hu9, HSD.out.2.below hu9⟩; clear hu9)
        refine hK _ _ HSE.out ?_
        clear hK K
        refine wpAnyH_take (i := 4) (v := .bool false) rfl (by kernel_rfl) (by kernel_rfl) (by kernel_rfl) (fun _ _ _ h => h) (Or.inl ⟨by kernel_rfl, fun w9 h9 => ?_⟩) HSE.out ?_
        · clear h9; go_simp
        refine wpAnyH_take (i := 5) (v := .bool false) rfl (by kernel_rfl) (by kernel_rfl) (by kernel_rfl) (fun _ _ _ h => h) (Or.inl ⟨by kernel_rfl, fun w9 h9 => ?_⟩) HSE.out ?_
        · clear h9; go_simp
        refine wpAnyH_take (i := 6) (v := .pointer (some ⟨b0, 1, none⟩)) rfl (by kernel_rfl) (by kernel_rfl) (by kernel_rfl) (fun _ _ _ h => h) (Or.inl ⟨by kernel_rfl, fun w9 h9 => ?_⟩) HSE.out ?_
        · clear h9; go_simp
        refine wpAnyH_take (i := 7) (v := .int .i64 c.a) rfl (by kernel_rfl) (by kernel_rfl) (by kernel_rfl) (fun _ _ _ h => h) (Or.inl ⟨by kernel_rfl, fun w9 h9 => ?_⟩) HSE.out ?_
        · have x0 := h9.1.cel 0 _ rfl; have x1 := h9.1.cel 1 _ rfl; have x2 := h9.1.cel 2 _ rfl; have x3 := h9.1.cel 3 _ rfl; have x4 := h9.1.cel 4 _ rfl; have x5 := h9.1.cel 5 _ rfl; have x6 := h9.1.cel 6 _ rfl; have x7 := h9.1.cel 7 _ rfl; have x8 := h9.1.cel 8 _ rfl; have x9 := h9.1.cel 9 _ rfl; have xl := h9.1.lt; have y3 := h9.2.c3; have y7 := h9.2.c7; have yl := h9.2.lt; clear h9; go_simp
        refine wpAnyH_take (i := 8) (v := .pointer (some ⟨b, 0, none⟩)) rfl (by kernel_rfl) (by kernel_rfl) (by kernel_rfl) (fun _ _ _ h => h) (Or.inl ⟨by kernel_rfl, fun w9 h9 => ?_⟩) HSE.out ?_
        · clear h9; go_simp
        refine wpAnyH_take (i := 9) (v := .pointer (some ⟨b, 0, none⟩)) rfl (by kernel_rfl) (by kernel_rfl) (by kernel_rfl) (fun _ _ _ h => h) (Or.inl ⟨by kernel_rfl, fun w9 h9 => ?_⟩) HSE.out ?_
        · clear h9; go_simp
        refine wpAnyH_take (i := 10) (v := .pointer (some ⟨b, 3, none⟩)) rfl (by kernel_rfl) (by kernel_rfl) (by kernel_rfl) (fun _ _ _ h => h) (Or.inl ⟨by kernel_rfl, fun w9 h9 => ?_⟩) HSE.out ?_
        · clear h9; go_simp
        refine wpAnyH_take (i := 11) (v := .int .i64 s.pub) rfl (by kernel_rfl) (by kernel_rfl) (by kernel_rfl) (fun _ _ _ h => h) (Or.inl ⟨by kernel_rfl, fun w9 h9 => ?_⟩) HSE.out ?_
        · have x0 := h9.1.cel 0 _ rfl; have x1 := h9.1.cel 1 _ rfl; have x2 := h9.1.cel 2 _ rfl; have x3 := h9.1.cel 3 _ rfl; have x4 := h9.1.cel 4 _ rfl; have x5 := h9.1.cel 5 _ rfl; have x6 := h9.1.cel 6 _ rfl; have x7 := h9.1.cel 7 _ rfl; have x8 := h9.1.cel 8 _ rfl; have x9 := h9.1.cel 9 _ rfl; have xl := h9.1.lt; have y3 := h9.2.c3; have y7 := h9.2.c7; have yl := h9.2.lt; clear h9; go_simp
        refine wpAnyH_take (i := 12) (v := .bool false) rfl (by kernel_rfl) (by kernel_rfl) (by kernel_rfl) (fun _ _ _ h => h) (Or.inl ⟨by kernel_rfl, fun w9 h9 => ?_⟩) HSE.out ?_
        · clear h9; go_simp
        refine wpAnyH_take (i := 13) (v := .bool false) rfl (by kernel_rfl) (by kernel_rfl) (by kernel_rfl) (fun _ _ _ h => h) (Or.inl ⟨by kernel_rfl, fun w9 h9 => ?_⟩) HSE.out ?_
        · clear h9; go_simp
        refine wpAnyH_take (i := 14) (v := .bool false) rfl (by kernel_rfl) (by kernel_rfl) (by kernel_rfl) (fun _ _ _ h => h) (Or.inl ⟨by kernel_rfl, fun w9 h9 => ?_⟩) HSE.out ?_
        · clear h9; go_simp
        refine wpAnyH_take (i := 15) (v := .pointer (some ⟨b0, 3, none⟩)) rfl (by kernel_rfl) (by kernel_rfl) (by kernel_rfl) (fun _ _ _ h => h) (Or.inl ⟨by kernel_rfl, fun w9 h9 => ?_⟩) HSE.out ?_
        · clear h9; go_simp
        refine wpAnyH_take (i := 16) (v := .int .i64 c.b) rfl (by kernel_rfl) (by kernel_rfl) (by kernel_rfl) (fun _ _ _ h => h) (Or.inl ⟨by kernel_rfl, fun w9 h9 => ?_⟩) HSE.out ?_
        · have x0 := h9.1.cel 0 _ rfl; have x1 := h9.1.cel 1 _ rfl; have x2 := h9.1.cel 2 _ rfl; have x3 := h9.1.cel 3 _ rfl; have x4 := h9.1.cel 4 _ rfl; have x5 := h9.1.cel 5 _ rfl; have x6 := h9.1.cel 6 _ rfl; have x7 := h9.1.cel 7 _ rfl; have x8 := h9.1.cel 8 _ rfl; have x9 := h9.1.cel 9 _ rfl; have xl := h9.1.lt; have y3 := h9.2.c3; have y7 := h9.2.c7; have yl := h9.2.lt; clear h9; go_simp
        refine wpAnyH_take (i := 17) (v := .pointer (some ⟨b, 0, none⟩)) rfl (by kernel_rfl) (by kernel_rfl) (by kernel_rfl) (fun _ _ _ h => h) (Or.inl ⟨by kernel_rfl, fun w9 h9 => ?_⟩) HSE.out ?_
        · clear h9; go_simp
        refine wpAnyH_take (i := 18) (v := .pointer (some ⟨b, 0, none⟩)) rfl (by kernel_rfl) (by kernel_rfl) (by kernel_rfl) (fun _ _ _ h => h) (Or.inl ⟨by kernel_rfl, fun w9 h9 => ?_⟩) HSE.out ?_
        · clear h9; go_simp
        refine wpAnyH_take (i := 19) (v := .pointer (some ⟨b, 3, none⟩)) rfl (by kernel_rfl) (by kernel_rfl) (by kernel_rfl) (fun _ _ _ h => h) (Or.inl ⟨by kernel_rfl, fun w9 h9 => ?_⟩) HSE.out ?_
        · clear h9; go_simp
        refine wpAnyH_take (i := 20) (v := .int .i64 s.pub) rfl (by kernel_rfl) (by kernel_rfl) (by kernel_rfl) (fun _ _ _ h => h) (Or.inl ⟨by kernel_rfl, fun w9 h9 => ?_⟩) HSE.out ?_
        · have x0 := h9.1.cel 0 _ rfl; have x1 := h9.1.cel 1 _ rfl; have x2 := h9.1.cel 2 _ rfl; have x3 := h9.1.cel 3 _ rfl; have x4 := h9.1.cel 4 _ rfl; have x5 := h9.1.cel 5 _ rfl; have x6 := h9.1.cel 6 _ rfl; have x7 := h9.1.cel 7 _ rfl; have x8 := h9.1.cel 8 _ rfl; have x9 := h9.1.cel 9 _ rfl; have xl := h9.1.lt; have y3 := h9.2.c3; have y7 := h9.2.c7; have yl := h9.2.lt; clear h9; go_simp
        refine wpAnyH_take (i := 21) (v := .bool true) rfl (by kernel_rfl) (by kernel_rfl) (by kernel_rfl) (fun _ _ _ h => h) (Or.inl ⟨by kernel_rfl, fun w9 h9 => ?_⟩) HSE.out ?_
        · clear h9; go_simp
        refine wpAnyH_take (i := 22) (v := .bool true) rfl (by kernel_rfl) (by kernel_rfl) (by kernel_rfl) (fun _ _ _ h => h) (Or.inl ⟨by kernel_rfl, fun w9 h9 => ?_⟩) HSE.out ?_
        · clear h9; go_simp
        refine wpAnyH_done (by kernel_rfl) ?_ _
        go_simp
        go_wp2
        go_ret
        exact ⟨ret_bool (by rw [E.out]; simp), e1 ▸ HSE.out.1.bel⟩
    · rw [h2] at E
      go_enter Try.func78, Try.ntmps78
      go_upto_region 1 with fail
      generalize (w.alloc (.cells #[.int .i64 c.proto, .int .i64 c.a, .int .i64 c.ap, .int .i64 c.b, .int .i64 c.bp, .int .i64 c.outer, .int .i64 c.state, .bool c.fa, .bool c.fb, .int .i64 c.seen] 59)) = u0 at *
      generalize e1 : w.heap.size = b0 at *
      have HSB : Hid (LG w u0.drew b0 #[.int .i64 c.proto, .int .i64 c.a, .int .i64 c.ap, .int .i64 c.b, .int .i64 c.bp, .int .i64 c.outer, .int .i64 c.state, .bool c.fa, .bool c.fb, .int .i64 c.seen] 59 ∧ FX u0.drew b s a) := ⟨HL0.out.drew, HX.out.below (e1 ▸ HL0.out.drew.bel)⟩
      refine wp_region_held (S := fun w9 => LG w w9 b0 #[.int .i64 c.proto, .int .i64 c.a, .int .i64 c.ap, .int .i64 c.b, .int .i64 c.bp, .int .i64 c.outer, .int .i64 c.state, .bool c.fa, .bool c.fb, .int .i64 c.seen] 59 ∧ FX w9 b s a) (by kernel_rfl) ?_
      change wpAnyH _ _ _ _ _ _ _ _ (World.drew _)
      refine wpAnyH_take (i := 0) (v := .agg #[.int .i64 c.proto, .int .i64 c.a, .int .i64 c.ap, .int .i64 c.b, .int .i64 c.bp, .int .i64 c.outer, .int .i64 c.state, .bool c.fa, .bool c.fb, .int .i64 c.seen]) rfl (by kernel_rfl) (by kernel_rfl) (by kernel_rfl) (fun _ _ _ h => h) (Or.inl ⟨by kernel_rfl, fun w9 h9 => ?_⟩) HSB.out ?_
      · have x0 := h9.1.cel 0 _ rfl; have x1 := h9.1.cel 1 _ rfl; have x2 := h9.1.cel 2 _ rfl; have x3 := h9.1.cel 3 _ rfl; have x4 := h9.1.cel 4 _ rfl; have x5 := h9.1.cel 5 _ rfl; have x6 := h9.1.cel 6 _ rfl; have x7 := h9.1.cel 7 _ rfl; have x8 := h9.1.cel 8 _ rfl; have x9 := h9.1.cel 9 _ rfl; have xl := h9.1.lt; have y3 := h9.2.c3; have y7 := h9.2.c7; have yl := h9.2.lt; clear h9; go_simp
      refine held_one 1 (by kernel_rfl) rfl (by kernel_rfl) fun K hK => ?_
      go_simp
      go_wp2_with (go_at_call 90; refine Calls.mono (HF.out _) ?_; rintro r u9 ⟨rfl, hu9⟩; have HSC : Hid (LG w u9 b0 #[.int .i64 c.proto, .int .i64 c.a, .int .i64 c.ap, .int .i64 c.b, .int .i64 c.bp, .int .i64 c.outer, .int .i64 c.state, .bool c.fa, .bool c.fb, .int .i64 c.seen] 59 ∧ FX u9 b s a) := ⟨HSB.out.1.step hu9, HSB.out.2.below hu9⟩; clear hu9)
      refine hK _ _ HSC.out ?_
      clear hK K
      refine held_one 2 (by kernel_rfl) rfl (by kernel_rfl) fun K hK => ?_
      go_simp
      go_wp2_with (go_at_call 91; refine Calls.mono (HPK.out _) ?_; rintro r u9 ⟨rfl, hu9⟩; have HSD : Hid (LG w u9 b0 #[.int .i64 c.proto, .int .i64 c.a, .int .i64 c.ap, .int .i64 c.b, .int .i64 c.bp, .int .i64 c.outer, .int .i64 c.state, .bool c.fa, .bool c.fb, .int .i64 c.seen] 59 ∧ FX u9 b s a) := ⟨HSC.out.1.step hu9, HSC.out.2.below hu9⟩; clear hu9)
      refine hK _ _ HSD.out ?_
      clear hK K
      refine held_one 3 (by kernel_rfl) rfl (by kernel_rfl) fun K hK => ?_
      go_simp
      go_wp2_with (go_at_call 40; refine Calls.mono (HR.out _) ?_; rintro r u9 ⟨rfl, hu9⟩; have HSE : Hid (LG w u9 b0 #[.int .i64 c.proto, .int .i64 c.a, .int .i64 c.ap, .int .i64 c.b, .int .i64 c.bp, .int .i64 c.outer, .int .i64 c.state, .bool c.fa, .bool c.fb, .int .i64 c.seen] 59 ∧ FX u9 b s a) := ⟨HSD.out.1.step hu9, HSD.out.2.below hu9⟩; clear hu9)
      refine hK _ _ HSE.out ?_
      clear hK K
      refine wpAnyH_take (i := 4) (v := .bool false) rfl (by kernel_rfl) (by kernel_rfl) (by kernel_rfl) (fun _ _ _ h => h) (Or.inl ⟨by kernel_rfl, fun w9 h9 => ?_⟩) HSE.out ?_
      · clear h9; go_simp
      refine wpAnyH_take (i := 5) (v := .bool false) rfl (by kernel_rfl) (by kernel_rfl) (by kernel_rfl) (fun _ _ _ h => h) (Or.inl ⟨by kernel_rfl, fun w9 h9 => ?_⟩) HSE.out ?_
      · clear h9; go_simp
      refine wpAnyH_take (i := 6) (v := .pointer (some ⟨b0, 1, none⟩)) rfl (by kernel_rfl) (by kernel_rfl) (by kernel_rfl) (fun _ _ _ h => h) (Or.inl ⟨by kernel_rfl, fun w9 h9 => ?_⟩) HSE.out ?_
      · clear h9; go_simp
      refine wpAnyH_take (i := 7) (v := .int .i64 c.a) rfl (by kernel_rfl) (by kernel_rfl) (by kernel_rfl) (fun _ _ _ h => h) (Or.inl ⟨by kernel_rfl, fun w9 h9 => ?_⟩) HSE.out ?_
      · have x0 := h9.1.cel 0 _ rfl; have x1 := h9.1.cel 1 _ rfl; have x2 := h9.1.cel 2 _ rfl; have x3 := h9.1.cel 3 _ rfl; have x4 := h9.1.cel 4 _ rfl; have x5 := h9.1.cel 5 _ rfl; have x6 := h9.1.cel 6 _ rfl; have x7 := h9.1.cel 7 _ rfl; have x8 := h9.1.cel 8 _ rfl; have x9 := h9.1.cel 9 _ rfl; have xl := h9.1.lt; have y3 := h9.2.c3; have y7 := h9.2.c7; have yl := h9.2.lt; clear h9; go_simp
      refine wpAnyH_take (i := 8) (v := .pointer (some ⟨b, 0, none⟩)) rfl (by kernel_rfl) (by kernel_rfl) (by kernel_rfl) (fun _ _ _ h => h) (Or.inl ⟨by kernel_rfl, fun w9 h9 => ?_⟩) HSE.out ?_
      · clear h9; go_simp
      refine wpAnyH_take (i := 9) (v := .pointer (some ⟨b, 0, none⟩)) rfl (by kernel_rfl) (by kernel_rfl) (by kernel_rfl) (fun _ _ _ h => h) (Or.inl ⟨by kernel_rfl, fun w9 h9 => ?_⟩) HSE.out ?_
      · clear h9; go_simp
      refine wpAnyH_take (i := 10) (v := .pointer (some ⟨b, 3, none⟩)) rfl (by kernel_rfl) (by kernel_rfl) (by kernel_rfl) (fun _ _ _ h => h) (Or.inl ⟨by kernel_rfl, fun w9 h9 => ?_⟩) HSE.out ?_
      · clear h9; go_simp
      refine wpAnyH_take (i := 11) (v := .int .i64 s.pub) rfl (by kernel_rfl) (by kernel_rfl) (by kernel_rfl) (fun _ _ _ h => h) (Or.inl ⟨by kernel_rfl, fun w9 h9 => ?_⟩) HSE.out ?_
      · have x0 := h9.1.cel 0 _ rfl; have x1 := h9.1.cel 1 _ rfl; have x2 := h9.1.cel 2 _ rfl; have x3 := h9.1.cel 3 _ rfl; have x4 := h9.1.cel 4 _ rfl; have x5 := h9.1.cel 5 _ rfl; have x6 := h9.1.cel 6 _ rfl; have x7 := h9.1.cel 7 _ rfl; have x8 := h9.1.cel 8 _ rfl; have x9 := h9.1.cel 9 _ rfl; have xl := h9.1.lt; have y3 := h9.2.c3; have y7 := h9.2.c7; have yl := h9.2.lt; clear h9; go_simp
      refine wpAnyH_take (i := 12) (v := .bool true) rfl (by kernel_rfl) (by kernel_rfl) (by kernel_rfl) (fun _ _ _ h => h) (Or.inl ⟨by kernel_rfl, fun w9 h9 => ?_⟩) HSE.out ?_
      · clear h9; go_simp
      refine wpAnyH_take (i := 13) (v := .bool true) rfl (by kernel_rfl) (by kernel_rfl) (by kernel_rfl) (fun _ _ _ h => h) (Or.inl ⟨by kernel_rfl, fun w9 h9 => ?_⟩) HSE.out ?_
      · clear h9; go_simp
      refine wpAnyH_take (i := 14) (v := .bool true) rfl (by kernel_rfl) (by kernel_rfl) (by kernel_rfl) (fun _ _ _ h => h) (Or.inl ⟨by kernel_rfl, fun w9 h9 => ?_⟩) HSE.out ?_
      · clear h9; go_simp
      refine wpAnyH_take (i := 15) (v := undef) rfl (by kernel_rfl) (by kernel_rfl) (by kernel_rfl) (fun _ _ _ h => h) (Or.inr ⟨by kernel_rfl, rfl⟩) HSE.out ?_
      refine wpAnyH_take (i := 16) (v := undef) rfl (by kernel_rfl) (by kernel_rfl) (by kernel_rfl) (fun _ _ _ h => h) (Or.inr ⟨by kernel_rfl, rfl⟩) HSE.out ?_
      refine wpAnyH_take (i := 17) (v := undef) rfl (by kernel_rfl) (by kernel_rfl) (by kernel_rfl) (fun _ _ _ h => h) (Or.inr ⟨by kernel_rfl, rfl⟩) HSE.out ?_
      refine wpAnyH_take (i := 18) (v := undef) rfl (by kernel_rfl) (by kernel_rfl) (by kernel_rfl) (fun _ _ _ h => h) (Or.inr ⟨by kernel_rfl, rfl⟩) HSE.out ?_
      refine wpAnyH_take (i := 19) (v := undef) rfl (by kernel_rfl) (by kernel_rfl) (by kernel_rfl) (fun _ _ _ h => h) (Or.inr ⟨by kernel_rfl, rfl⟩) HSE.out ?_
      refine wpAnyH_take (i := 20) (v := undef) rfl (by kernel_rfl) (by kernel_rfl) (by kernel_rfl) (fun _ _ _ h => h) (Or.inr ⟨by kernel_rfl, rfl⟩) HSE.out ?_
      refine wpAnyH_take (i := 21) (v := undef) rfl (by kernel_rfl) (by kernel_rfl) (by kernel_rfl) (fun _ _ _ h => h) (Or.inr ⟨by kernel_rfl, rfl⟩) HSE.out ?_
      refine wpAnyH_take (i := 22) (v := .bool true) rfl (by kernel_rfl) (by kernel_rfl) (by kernel_rfl) (fun _ _ _ h => h) (Or.inl ⟨by kernel_rfl, fun w9 h9 => ?_⟩) HSE.out ?_
      · clear h9; go_simp
      refine wpAnyH_done (by kernel_rfl) ?_ _
      go_simp
      go_wp2
      go_ret
      exact ⟨ret_bool (by rw [E.out]; simp), e1 ▸ HSE.out.1.bel⟩

def cn9 : CN := ⟨0, 0, 0, 0, 0, 0, 0, false, false, 0⟩
theorem gdc {zs : List CN} {k : Nat} (h : k < zs.length) : zs.getD k cn9 = zs[k] := by simp [List.getD, List.getElem?_eq_getElem h]
/-- What is known behind so many. -/
def stC (s : FI) : Nat → FL → Option Nat
  | 0 => fun _ => none
  | k + 1 => kst (stC s k) k (gF s (s.cs.getD k cn9)) 4
def ck (s : FI) (k : Nat) : Bool := cnB s (s.cs.getD k cn9) && adB (stC s k) k (gF s (s.cs.getD k cn9))
def coB (s : FI) : Bool := allB (ck s) s.cs.length
theorem isW_iW {a : Int} (h : isW a = true) : iW a := by
  unfold isW at h
  simp at h
  unfold iW
  omega
theorem poB_iW {a : Int} (h : poB a = true) : iW a := by
  unfold poB at h
  simp at h
  unfold iW
  omega
theorem prB_iW {a : Int} (h : prB a = true) : iW a := by
  unfold prB at h
  simp at h
  unfold iW
  omega
theorem cnB_parts {s : FI} {c : CN} (h : cnB s c = true) : prB c.proto = true ∧ isW c.a = true ∧ poB c.ap = true ∧ isW c.b = true ∧ poB c.bp = true ∧ stB c = true ∧ ouB s c = true ∧ c.a ≠ s.pub ∧ c.b ≠ s.pub ∧ 0 ≤ c.seen ∧ c.seen ≤ s.time := by
  unfold cnB pkB at h
  simp at h
  obtain ⟨⟨⟨⟨⟨⟨⟨⟨h1, _⟩, h2⟩, h3⟩, h4⟩, h5⟩, h6⟩, h7⟩, ⟨⟨⟨h8, h9⟩, h10⟩, h11⟩⟩ := h
  exact ⟨h1, h2, h3, h4, h5, h8, h9, h6, h7, h10, h11⟩
theorem ouB_iW {s : FI} {c : CN} (h : ouB s c = true) : iW c.outer := by
  unfold ouB at h
  split at h
  · simp at h
    rw [h]
    unfold iW
    omega
  · simp at h
    have h2 := h.2
    unfold opB at h2
    simp at h2
    exact poB_iW h2.2
theorem flok {s : FI} {c : CN} (h : cnB s c = true) (hp : isW s.pub = true) (i : Nat) : FLok (gF s c i) := by
  obtain ⟨h1, h2, h3, h4, h5, _, h6, _⟩ := cnB_parts h
  have k1 := prB_iW h1
  have k2 := isW_iW h2
  have k3 := poB_iW h3
  have k4 := isW_iW h4
  have k5 := poB_iW h5
  have k6 := ouB_iW h6
  have k7 := isW_iW hp
  have hc : ∀ f, FLok (cfl c f) := by
    intro f
    unfold cfl
    split
    · exact ⟨k1, k2, k3, k4, k5⟩
    · exact ⟨k1, k4, k5, k2, k3⟩
  unfold gF sn
  generalize decide (i / 2 = 0) = f
  have := hc f
  generalize cfl c f = y at this
  split
  · exact this
  · unfold hdF
    refine ⟨this.pr, ?_, ?_, ?_, ?_⟩
    · simp only; split
      · exact k7
      · exact this.a
    · simp only; split
      · exact k6
      · exact this.ap
    · simp only; split
      · exact k7
      · exact this.b
    · simp only; split
      · exact k6
      · exact this.bp
set_option maxRecDepth 100000 in
set_option maxHeartbeats 4000000 in
theorem connsRight_any {w : World} {b : Nat} {s : FI} {a : FA} (h : FX w b s a) (hl : FIlen s) (hp : isW s.pub = true) : Calls Try.prog 53 #[.pointer (some ⟨b, 0, none⟩)] w fun r w' => r = .returned (.bool (coB s)) ∧ Below w.heap.size w w' := by
  have HX : Hid (FX w b s a) := h
  obtain ⟨ao, cap, ee⟩ := h.row.rcs.sl
  have HR : Hid (CNrow w (.slice ao s.cs.length cap) s.cs) := (show CNrow w _ s.cs by rw [← ee]; exact h.row.rcs)
  have HLN : Hid (FIlen s) := hl
  have HP : Hid (isW s.pub = true) := hp
  have hlc := hl.lcs
  have hlh := hl.lhs.len
  have HM0 : Hid (KN (w.alloc (.map #[] 0)) w.heap.size 0 (fun _ => none)) := KN.made w
  have HB0 : Hid (Below w.heap.size w (w.alloc (.map #[] 0))) := bx1 _ _
  have HX0 : Hid (FX (w.alloc (.map #[] 0)) b s a) := h.below (bx1 _ _)
  have HE : Hid (a.vcs = .slice ao s.cs.length cap) := ee
  have hmm := @run_makeMap Try.prog
  clear h ee hl hp
  go_enter Try.func53, Try.ntmps53
  go_upto_region 2 with fail
  generalize (w.alloc (.map #[] 0)) = u0 at *
  generalize e0 : w.heap.size = bm at *
  have c1 := HX0.out.c6
  have cl := HX0.out.lt
  rw [HE.out] at c1
  clear hmm
  go_wp2
  clear c1 cl
  go_loopw [12] (fun i wr => ∃ k : Nat, k ≤ s.cs.length ∧ i = .int .i64 k ∧ allB (ck s) k = true ∧ KN wr bm (4 * k) (stC s k) ∧ Below bm w wr) (fun i _ => s.cs.length - (intOf i).toNat)
  case atStart => exact ⟨0, Nat.zero_le _, rfl, rfl, HM0.out, HB0.out⟩
  case round =>
    obtain ⟨k, hk0, rfl, hok, hkn, hb⟩ := hrel
    have HOK : Hid (allB (ck s) k = true) := hok
    have HKN : Hid (KN wr bm (4 * k) (stC s k)) := hkn
    rw [← e0] at hb
    have HB : Hid (Below w.heap.size w wr) := hb
    clear hok hkn
    by_cases hlt : k < s.cs.length
    · obtain ⟨g, o, cap2, hv, _, hg, hc⟩ := HR.out.resolve_left (fun h => by rw [h.1] at hlt; simp at hlt)
      injection hv with hv1 hv2 hv3
      subst hv1 hv3
      obtain ⟨d0, d1, d2, d3, d4, d5, d6, d7, d8, d9⟩ := hc.below hb hg k hlt
      have hgw : g < wr.heap.size := Nat.lt_of_lt_of_le hg hb.size
      have HT : Hid (ck s k = (cnB s s.cs[k] && adB (stC s k) k (gF s s.cs[k]))) := (show ck s k = _ by unfold ck; rw [gdc hlt])
      have HNX : Hid (stC s (k + 1) = kst (stC s k) k (gF s s.cs[k]) 4) := (show stC s (k + 1) = _ by show kst (stC s k) k (gF s (s.cs.getD k cn9)) 4 = _; rw [gdc hlt])
      have hk1 : (0 : Int) ≤ (k : Int) := by omega
      have hk2 : (k : Int) < (s.cs.length : Int) := by omega
      have HAD : Hid (∀ u, Below w.heap.size w u → KN u bm (4 * k) (stC s k) → cnB s s.cs[k] = true → Calls Try.prog 79 #[.map (some bm), .pointer (some ⟨b, 0, none⟩), .int .i64 (k : Nat)] u fun e w' => e = .returned (.bool (adB (stC s k) k (gF s s.cs[k]))) ∧ Below w.heap.size w w' ∧ (adB (stC s k) k (gF s s.cs[k]) = true → KN w' bm (4 * k + 4) (kst (stC s k) k (gF s s.cs[k]) 4))) := fun u hu hk hc2 => add_any HX.out HLN.out hu (Nat.le_of_eq e0) hk (by omega) hlt (flok hc2 HP.out)
      have HCR : Hid (∀ u, Below w.heap.size w u → Calls Try.prog 78 #[.pointer (some ⟨b, 0, none⟩), cnA s.cs[k]] u fun e w' => e = .returned (.bool (cnB s s.cs[k])) ∧ Below u.heap.size u w') := fun u hu => connRight_any (HX.out.below hu) hlh s.cs[k]
      generalize gF s s.cs[k] = G at *
      generalize s.cs[k] = c at *
      generalize adB (stC s k) k G = R at *
      unfold cnA at HCR
      have HX1 : Hid (LG w (wr.alloc (.cells #[.int .i64 c.proto, .int .i64 c.a, .int .i64 c.ap, .int .i64 c.b, .int .i64 c.bp, .int .i64 c.outer, .int .i64 c.state, .bool c.fa, .bool c.fb, .int .i64 c.seen] 59)) wr.heap.size #[.int .i64 c.proto, .int .i64 c.a, .int .i64 c.ap, .int .i64 c.b, .int .i64 c.bp, .int .i64 c.outer, .int .i64 c.state, .bool c.fa, .bool c.fb, .int .i64 c.seen] 59) := ⟨hb.trans ((bx1 _ _).mono hb.size), heap_new _ _, hb.size⟩
      have HK1 : Hid (KN (wr.alloc (.cells #[.int .i64 c.proto, .int .i64 c.a, .int .i64 c.ap, .int .i64 c.b, .int .i64 c.bp, .int .i64 c.outer, .int .i64 c.state, .bool c.fa, .bool c.fb, .int .i64 c.seen] 59)) bm (4 * k) (stC s k)) := HKN.out.below (bx1 _ _)
      clear hc hb hv2 HKN
      go_upto_region 5 with fail
      generalize (wr.alloc (.cells #[.int .i64 c.proto, .int .i64 c.a, .int .i64 c.ap, .int .i64 c.b, .int .i64 c.bp, .int .i64 c.outer, .int .i64 c.state, .bool c.fa, .bool c.fb, .int .i64 c.seen] 59)) = v1 at *
      generalize wr.heap.size = bn at *
      clear d0 d1 d2 d3 d4 d5 d6 d7 d8 d9 hgw hk1 hk2
      have k0 := HX1.out.cel 0 _ rfl
      have k1 := HX1.out.cel 1 _ rfl
      have k2 := HX1.out.cel 2 _ rfl
      have k3 := HX1.out.cel 3 _ rfl
      have k4 := HX1.out.cel 4 _ rfl
      have k5 := HX1.out.cel 5 _ rfl
      have k6 := HX1.out.cel 6 _ rfl
      have k7 := HX1.out.cel 7 _ rfl
      have k8 := HX1.out.cel 8 _ rfl
      have k9 := HX1.out.cel 9 _ rfl
      have kl := HX1.out.lt
      cases h1 : cnB s c
      · rw [h1] at HT HCR
        have HBD : Hid (coB s = false) := allB_bad hlt (HT.out.trans rfl)
        go_wp2_with fail
        refine Calls.mono (HCR.out _ HX1.out.bel) ?_
        rintro r u2 ⟨rfl, hu⟩
        have HL2 : Hid (Below w.heap.size w u2) := (HX1.out.step hu).bel
        clear hu
        go_wp2
        go_ret
        exact ⟨ret_bool HBD.out.symm, HL2.out⟩
      · rw [h1] at HT HCR
        have HAD2 : Hid (∀ u, Below w.heap.size w u → KN u bm (4 * k) (stC s k) → Calls Try.prog 79 #[.map (some bm), .pointer (some ⟨b, 0, none⟩), .int .i64 (k : Nat)] u fun e w' => e = .returned (.bool R) ∧ Below w.heap.size w w' ∧ (R = true → KN w' bm (4 * k + 4) (kst (stC s k) k G 4))) := fun u hu hk => HAD.out u hu hk h1
        clear HAD
        cases h2 : R
        all_goals rw [h2] at HT HAD2
        · have HBD : Hid (coB s = false) := allB_bad hlt (HT.out.trans rfl)
          go_wp2_with fail
          refine Calls.mono (HCR.out _ HX1.out.bel) ?_
          rintro r u2 ⟨rfl, hu⟩
          have HL2 : Hid (Below w.heap.size w u2) := (HX1.out.step hu).bel
          have HK2 : Hid (KN u2 bm (4 * k) (stC s k)) := HK1.out.below hu
          clear hu k0 k1 k2 k3 k4 k5 k6 k7 k8 k9 kl
          go_wp2_with fail
          refine Calls.mono (HAD2.out _ HL2.out HK2.out) ?_
          rintro r u3 ⟨rfl, hu, _⟩
          have HL3 : Hid (Below w.heap.size w u3) := hu
          clear hu
          go_wp2
          go_ret
          exact ⟨ret_bool HBD.out.symm, HL3.out⟩
        · have HGD : Hid (allB (ck s) (k + 1) = true) := (show _ = true by rw [allB_succ, HOK.out, HT.out]; rfl)
          go_wp2_with fail
          refine Calls.mono (HCR.out _ HX1.out.bel) ?_
          rintro r u2 ⟨rfl, hu⟩
          have HL2 : Hid (Below w.heap.size w u2) := (HX1.out.step hu).bel
          have HK2 : Hid (KN u2 bm (4 * k) (stC s k)) := HK1.out.below hu
          clear hu k0 k1 k2 k3 k4 k5 k6 k7 k8 k9 kl
          go_wp2_with fail
          refine Calls.mono (HAD2.out _ HL2.out HK2.out) ?_
          rintro r u3 ⟨rfl, hu, hkn⟩
          have HL3 : Hid (Below bm w u3) := e0 ▸ hu
          have HK3 : Hid (KN u3 bm (4 * (k + 1)) (stC s (k + 1))) := (show KN u3 bm (4 * (k + 1)) (stC s (k + 1)) by rw [HNX.out]; exact hkn trivial)
          clear hu hkn
          go_wp2
          exact ⟨⟨k + 1, hlt, by go_num, HGD.out, HK3.out, HL3.out⟩, by simp [intOf]; omega⟩
    · obtain rfl : k = s.cs.length := by omega
      clear hb
      go_wp2
      go_ret
      exact ⟨ret_bool HOK.out.symm, HB.out⟩
def frB (s : FI) : Bool := bdB s && (hoB s && grB s && fwB s && coB s)
theorem bdB_pub {s : FI} (h : bdB s = true) : isW s.pub = true := by
  unfold bdB at h
  simp at h
  exact h.1.2.1.1.1
set_option maxRecDepth 100000 in
set_option maxHeartbeats 4000000 in
theorem flRight_any {w : World} {b : Nat} {s : FI} {a : FA} (h : FX w b s a) (hl : FIlen s) : Calls Try.prog 31 #[.pointer (some ⟨b, 0, none⟩)] w fun r w' => r = .returned (.bool (frB s)) ∧ Below w.heap.size w w' := by
  have HX : Hid (FX w b s a) := h
  have HB : Hid (Calls Try.prog 49 #[.pointer (some ⟨b, 0, none⟩)] w fun r w' => r = .returned (.bool (bdB s)) ∧ Below w.heap.size w w') := bounded_any h
  have E : Hid (frB s = (bdB s && (hoB s && grB s && fwB s && coB s))) := rfl
  clear h
  cases hb : bdB s
  · rw [hb] at E HB
    go_enter Try.func31, Try.ntmps31
    go_wp2_with fail
    refine Calls.mono HB.out ?_
    rintro r u0 ⟨rfl, hu⟩
    have HA0 : Hid (Aft w u0) := ⟨hu⟩
    clear hu
    go_wp2
    go_ret
    exact ⟨ret_bool (by rw [E.out]; simp), HA0.out.out⟩
  · rw [hb] at E HB
    have HH : Hid (∀ u, Aft w u → Calls Try.prog 50 #[.pointer (some ⟨b, 0, none⟩)] u fun r w' => r = .returned (.bool (hoB s)) ∧ Below u.heap.size u w') := fun u hu => hostsRight_any (HX.out.aft hu) hl
    have HG : Hid (∀ u, Aft w u → Calls Try.prog 51 #[.pointer (some ⟨b, 0, none⟩)] u fun r w' => r = .returned (.bool (grB s)) ∧ Below u.heap.size u w') := fun u hu => groupsRight_any (HX.out.aft hu) hl
    have HF : Hid (∀ u, Aft w u → Calls Try.prog 52 #[.pointer (some ⟨b, 0, none⟩)] u fun r w' => r = .returned (.bool (fwB s)) ∧ Below u.heap.size u w') := fun u hu => forwardsRight_any (HX.out.aft hu) hl
    have HC : Hid (∀ u, Aft w u → Calls Try.prog 53 #[.pointer (some ⟨b, 0, none⟩)] u fun r w' => r = .returned (.bool (coB s)) ∧ Below u.heap.size u w') := fun u hu => connsRight_any (HX.out.aft hu) hl (bdB_pub hb)
    clear hl
    cases h0 : hoB s
    · rw [h0] at E HH
      go_enter Try.func31, Try.ntmps31
      go_wp2_with fail
      refine Calls.mono HB.out ?_
      rintro r u0 ⟨rfl, hu⟩
      have HA0 : Hid (Aft w u0) := ⟨hu⟩
      clear hu
      go_wp2_with fail
      refine Calls.mono (HH.out _ HA0.out) ?_
      rintro r u1 ⟨rfl, hu⟩
      have HA1 : Hid (Aft w u1) := ⟨HA0.out.out.trans (hu.mono HA0.out.out.size)⟩
      clear hu
      go_wp2
      go_ret
      exact ⟨ret_bool (by rw [E.out]; simp), HA1.out.out⟩
    · rw [h0] at E HH
      cases h1 : grB s
      · rw [h1] at E HG
        go_enter Try.func31, Try.ntmps31
        go_wp2_with fail
        refine Calls.mono HB.out ?_
        rintro r u0 ⟨rfl, hu⟩
        have HA0 : Hid (Aft w u0) := ⟨hu⟩
        clear hu
        go_wp2_with fail
        refine Calls.mono (HH.out _ HA0.out) ?_
        rintro r u1 ⟨rfl, hu⟩
        have HA1 : Hid (Aft w u1) := ⟨HA0.out.out.trans (hu.mono HA0.out.out.size)⟩
        clear hu
        go_wp2_with fail
        refine Calls.mono (HG.out _ HA1.out) ?_
        rintro r u2 ⟨rfl, hu⟩
        have HA2 : Hid (Aft w u2) := ⟨HA1.out.out.trans (hu.mono HA1.out.out.size)⟩
        clear hu
        go_wp2
        go_ret
        exact ⟨ret_bool (by rw [E.out]; simp), HA2.out.out⟩
      · rw [h1] at E HG
        cases h2 : fwB s
        · rw [h2] at E HF
          go_enter Try.func31, Try.ntmps31
          go_wp2_with fail
          refine Calls.mono HB.out ?_
          rintro r u0 ⟨rfl, hu⟩
          have HA0 : Hid (Aft w u0) := ⟨hu⟩
          clear hu
          go_wp2_with fail
          refine Calls.mono (HH.out _ HA0.out) ?_
          rintro r u1 ⟨rfl, hu⟩
          have HA1 : Hid (Aft w u1) := ⟨HA0.out.out.trans (hu.mono HA0.out.out.size)⟩
          clear hu
          go_wp2_with fail
          refine Calls.mono (HG.out _ HA1.out) ?_
          rintro r u2 ⟨rfl, hu⟩
          have HA2 : Hid (Aft w u2) := ⟨HA1.out.out.trans (hu.mono HA1.out.out.size)⟩
          clear hu
          go_wp2_with fail
          refine Calls.mono (HF.out _ HA2.out) ?_
          rintro r u3 ⟨rfl, hu⟩
          have HA3 : Hid (Aft w u3) := ⟨HA2.out.out.trans (hu.mono HA2.out.out.size)⟩
          clear hu
          go_wp2
          go_ret
          exact ⟨ret_bool (by rw [E.out]; simp), HA3.out.out⟩
        · rw [h2] at E HF
          generalize coB s = R3 at *
          go_enter Try.func31, Try.ntmps31
          go_wp2_with fail
          refine Calls.mono HB.out ?_
          rintro r u0 ⟨rfl, hu⟩
          have HA0 : Hid (Aft w u0) := ⟨hu⟩
          clear hu
          go_wp2_with fail
          refine Calls.mono (HH.out _ HA0.out) ?_
          rintro r u1 ⟨rfl, hu⟩
          have HA1 : Hid (Aft w u1) := ⟨HA0.out.out.trans (hu.mono HA0.out.out.size)⟩
          clear hu
          go_wp2_with fail
          refine Calls.mono (HG.out _ HA1.out) ?_
          rintro r u2 ⟨rfl, hu⟩
          have HA2 : Hid (Aft w u2) := ⟨HA1.out.out.trans (hu.mono HA1.out.out.size)⟩
          clear hu
          go_wp2_with fail
          refine Calls.mono (HF.out _ HA2.out) ?_
          rintro r u3 ⟨rfl, hu⟩
          have HA3 : Hid (Aft w u3) := ⟨HA2.out.out.trans (hu.mono HA2.out.out.size)⟩
          clear hu
          go_wp2_with fail
          refine Calls.mono (HC.out _ HA3.out) ?_
          rintro r u4 ⟨rfl, hu⟩
          have HA4 : Hid (Aft w u4) := ⟨HA3.out.out.trans (hu.mono HA3.out.out.size)⟩
          clear hu
          go_wp2
          go_ret
          exact ⟨ret_bool (by rw [E.out]; simp), HA4.out.out⟩
def frV (s : FI) : Int := if frB s = true then 0 else 1
set_option maxRecDepth 100000 in
set_option maxHeartbeats 4000000 in
theorem implFF_any {w : World} {s : FI} {a : FA} (h : FIRows w s a) (hl : FIlen s) : Calls Try.prog 8 #[flA s a] w fun r w' => r = .returned (.int .i64 (frV s)) ∧ Below w.heap.size w w' := by
  have HFR : Hid (Calls Try.prog 31 #[.pointer (some ⟨w.heap.size, 0, none⟩)] (w.alloc (.cells (flC s a) 35)) fun r w' => r = .returned (.bool (frB s)) ∧ Below (w.alloc (.cells (flC s a) 35)).heap.size (w.alloc (.cells (flC s a) 35)) w') := flRight_any ⟨heap_new _ _, h.below (bx1 _ _)⟩ hl
  have HB0 : Hid (Below w.heap.size w (w.alloc (.cells (flC s a) 35))) := bx1 _ _
  obtain ⟨ahs, khs, ags, kgs, afs, kfs, acs, kcs, e⟩ := h.sl
  generalize a.qhs = qhs at e
  generalize a.qgs = qgs at e
  subst e
  clear h
  unfold flC at HFR HB0
  unfold flA flC
  simp only at HFR HB0 ⊢
  cases h0 : frB s
  · rw [h0] at HFR
    go_enter Try.func8, Try.ntmps8
    go_wp2_with fail
    refine Calls.mono HFR.out ?_
    rintro r u1 ⟨rfl, hu⟩
    have HL1 : Hid (Below w.heap.size w u1) := HB0.out.trans (hu.mono HB0.out.size)
    clear hu
    go_wp2
    go_ret
    exact ⟨ret_int (by unfold frV; rw [h0]; rfl), HL1.out⟩
  · rw [h0] at HFR
    go_enter Try.func8, Try.ntmps8
    go_wp2_with fail
    refine Calls.mono HFR.out ?_
    rintro r u1 ⟨rfl, hu⟩
    have HL1 : Hid (Below w.heap.size w u1) := HB0.out.trans (hu.mono HB0.out.size)
    clear hu
    go_wp2
    go_ret
    exact ⟨ret_int (by unfold frV; rw [h0]; rfl), HL1.out⟩

theorem hAt_ge (l : List Int) (x : Int) : -1 ≤ hAt l x := by
  unfold hAt
  split <;> omega
theorem ihB_iff (s : FI) (x : Int) : ihB s x = decide (0 ≤ hAt (s.hs.map (·.addr)) x) := by
  unfold ihB
  have := hAt_ge (s.hs.map (·.addr)) x
  by_cases h : 0 ≤ hAt (s.hs.map (·.addr)) x
  · rw [decide_eq_true h]
    simp
    omega
  · rw [decide_eq_false h]
    simp
    omega
theorem inW_one (n : Nat) (x : Int) : inW n x 1 = true ↔ 0 ≤ x ∧ x < (n : Int) := by
  rw [inW_iff]
  omega
theorem arB_eq (n : Nat) (zs : List Int) : arB (fun x => inW n x 1) zs = (risB zs && allB (gq n zs) zs.length) := by
  rw [Bool.eq_iff_iff, Bool.and_eq_true]
  unfold arB risB
  rw [allB_iff, allB_iff, allB_iff]
  constructor
  · intro h
    refine ⟨fun k hk => ?_, fun k hk => ?_⟩
    · have := h k hk
      unfold ak at this
      rw [Bool.and_eq_true] at this
      exact this.2
    · have := h k hk
      unfold ak at this
      rw [Bool.and_eq_true, inW_one] at this
      unfold gq
      generalize zs.getD k 0 = z at *
      simp
      omega
  · intro ⟨h1, h2⟩ k hk
    have e1 := h1 k hk
    have e2 := h2 k hk
    unfold ak
    rw [Bool.and_eq_true, inW_one]
    refine ⟨?_, e1⟩
    unfold gq at e2
    generalize zs.getD k 0 = z at *
    simp at e2
    omega
theorem hk_eq (s : FI) (j : Nat) : hk s j = sh s j := by
  unfold hk sh hkB shB
  rw [arB_eq]
  generalize s.hs.getD j ho9 = z
  generalize isW z.addr = a
  generalize (z.addr == 0) = b
  generalize (z.addr == s.pub) = c
  generalize (hAt (s.hs.map (·.addr)) z.addr != (j : Int)) = d
  generalize decide (5 < (z.gs.length : Int)) = e
  generalize risB z.gs = f
  generalize allB (gq s.gs.length z.gs) z.gs.length = g
  revert a b c d e f g
  decide
theorem ru_eq (n : Nat) (r : NR) : ruB n r = rlB n r := by
  rw [Bool.eq_iff_iff]
  unfold ruB rlB
  have h1 := inW_one n r.group
  generalize inW n r.group 1 = i at *
  generalize prB r.proto = p
  generalize isW r.addr = a
  generalize poB r.low = b
  generalize poB r.high = c
  cases i <;> simp at h1 <;> cases p <;> cases a <;> cases b <;> cases c <;> simp <;> omega
theorem gk_eq (s : FI) (j : Nat) : gk s j = sg s j := by
  unfold gk sg sgB
  generalize s.gs.getD j gp9 = z
  congr 1
  rw [Bool.eq_iff_iff, allB_iff]
  simp only [Bool.not_eq_true', List.any_eq_false]
  constructor
  · intro h k hk
    unfold rq
    rw [gdr hk, ← ru_eq]
    have := h z.rs[k] (List.getElem_mem hk)
    simpa using this
  · intro h r hr
    obtain ⟨k, hk, rfl⟩ := List.getElem_of_mem hr
    have := h k hk
    unfold rq at this
    rw [gdr hk, ← ru_eq] at this
    simp [this]
theorem opB_eq (p : Int) : opB p = (!decide (p < 1) && poB p) := by
  rw [Bool.eq_iff_iff]
  unfold opB poB
  simp
  omega
theorem ix_eq {fs : List FW} {p : FW → Bool} {j : Nat} (hj : j < fs.length) (hp : p fs[j] = true) : (ixFW p fs != (j : Int)) = false ↔ ∀ q (hq : q < j), p (fs[q]'(Nat.lt_trans hq hj)) = false := by
  constructor
  · intro h q hq
    simp at h
    unfold ixFW at h
    cases e : fs.findIdx? p with
    | none => rw [e] at h; simp at h
    | some k =>
      rw [e] at h
      simp at h
      obtain rfl : k = j := by omega
      obtain ⟨_, _, h3⟩ := List.findIdx?_eq_some_iff_getElem.1 e
      simpa using h3 q hq
  · intro h
    rw [ixFW_at hj hp h]
    simp
theorem fk_eq (s : FI) (j : Nat) (hj : j < s.fs.length) : fk s j = sf s j := by
  unfold fk sf fkk sfB
  rw [gdf hj, opB_eq, opB_eq, ihB_iff]
  have hp : fkB s.fs[j].proto s.fs[j].port s.fs[j] = true := by simp [fkB]
  have hx := ix_eq hj hp
  have hq : allB (fq s.fs s.fs[j]) j = true ↔ ∀ q (hq : q < j), fkB s.fs[j].proto s.fs[j].port (s.fs[q]'(Nat.lt_trans hq hj)) = false := by
    rw [allB_iff]
    constructor
    · intro h q hq
      have := h q hq
      unfold fq at this
      rw [gdf (Nat.lt_trans hq hj), Bool.not_eq_true'] at this
      exact this
    · intro h q hq
      have := h q hq
      unfold fq
      rw [gdf (Nat.lt_trans hq hj), Bool.not_eq_true']
      exact this
  have e : (!(ixFW (fkB s.fs[j].proto s.fs[j].port) s.fs != (j : Int))) = allB (fq s.fs s.fs[j]) j := by
    rw [Bool.eq_iff_iff, hq, ← hx]
    simp
  rw [e]
  have e2 : decide (hAt (s.hs.map (·.addr)) s.fs[j].addr < 0) = !decide (0 ≤ hAt (s.hs.map (·.addr)) s.fs[j].addr) := by
    rw [Bool.eq_iff_iff]
    simp
  rw [e2]
  generalize decide (0 ≤ hAt (s.hs.map (·.addr)) s.fs[j].addr) = a
  generalize allB (fq s.fs s.fs[j]) j = b
  generalize prB s.fs[j].proto = c
  generalize poB s.fs[j].port = d
  generalize poB s.fs[j].tp = e
  generalize decide (s.fs[j].port < 1) = f
  generalize decide (s.fs[j].tp < 1) = g
  revert a b c d e f g
  decide
/-! the connections -/
theorem st_eq (c : CN) : stB c = (decide (1 ≤ c.state) && decide (c.state ≤ 3) && (c.proto == 6 || c.state == 2)) := by
  rw [Bool.eq_iff_iff]
  unfold stB
  by_cases h : c.proto = 6
  · simp [h]
    omega
  · simp [h]
    omega
theorem cn_eq (s : FI) (c : CN) : cnB s c = (scB c s.time && sdB s c) := by
  unfold cnB scB sdB ouB pkB flB
  rw [st_eq, ← ihB_iff, ← ihB_iff]
  have h0 : (if (c.proto != 6) = true then (0 : Int) == 0 else decide ((0 : Int) ≤ 0) && decide ((0 : Int) ≤ 15)) = true := by split <;> rfl
  simp only
  rw [h0]
  have ho : opB c.outer = (!(c.outer == 0) && poB c.outer) := by
    unfold opB
    rfl
  have h00 : (c.outer == 0) = true → poB c.outer = true := by
    intro h
    simp at h
    rw [h]
    rfl
  rw [ho]
  generalize ihB s c.a = A
  generalize ihB s c.b = B
  generalize (c.outer == 0) = o at *
  generalize poB c.outer = p at *
  have e1 : (c.a == s.pub) = !(c.a != s.pub) := by simp [bne]
  have e2 : (c.b == s.pub) = !(c.b != s.pub) := by simp [bne]
  rw [e1, e2]
  generalize (c.a != s.pub) = q1
  generalize (c.b != s.pub) = q2
  generalize prB c.proto = r1
  generalize isW c.a = r2
  generalize isW c.b = r3
  generalize poB c.ap = r4
  generalize poB c.bp = r5
  generalize decide (1 ≤ c.state) = t1
  generalize decide (c.state ≤ 3) = t2
  generalize (c.proto == 6 || c.state == 2) = t3
  generalize decide (0 ≤ c.seen) = t4
  generalize decide (c.seen ≤ s.time) = t5
  cases A <;> cases B <;> cases o <;> cases p <;> simp at h00 ⊢ <;> cases r1 <;> cases r2 <;> cases r3 <;> cases r4 <;> cases r5 <;> simp <;> cases q1 <;> cases q2 <;> cases t1 <;> cases t2 <;> cases t3 <;> cases t4 <;> cases t5 <;> rfl

theorem kst_eq (f : FL → Option Nat) (k : Nat) (G : Nat → FL) (n : Nat) (F : FL) : kst f k G n F = if ∃ j, j < n ∧ G j = F then some k else f F := by
  induction n with
  | zero => simp [kst]
  | succ n ih =>
    show upd (kst f k G n) (G n) k F = _
    unfold upd
    by_cases e : F = G n
    · rw [if_pos e, if_pos ⟨n, by omega, e.symm⟩]
    · rw [if_neg e, ih]
      by_cases h : ∃ j, j < n ∧ G j = F
      · rw [if_pos h, if_pos (by obtain ⟨j, hj, e2⟩ := h; exact ⟨j, by omega, e2⟩)]
      · rw [if_neg h, if_neg (by
          rintro ⟨j, hj, e2⟩
          by_cases hjn : j = n
          · subst hjn; exact e e2.symm
          · exact h ⟨j, by omega, e2⟩)]
theorem kok_all (f : FL → Option Nat) (k : Nat) (G : Nat → FL) (n : Nat) : allB (kok f k G) n = true ↔ ∀ m, m < n → okF (f (G m)) k = true := by
  induction n with
  | zero => simp [allB]
  | succ n ih =>
    rw [allB_succ, Bool.and_eq_true, ih]
    constructor
    · intro ⟨h1, h2⟩ m hm
      by_cases e : m = n
      · subst e
        unfold kok at h2
        rw [kst_eq] at h2
        by_cases h : ∃ j, j < m ∧ G j = G m
        · obtain ⟨j, hj, e2⟩ := h
          rw [← e2]
          exact h1 j hj
        · rw [if_neg h] at h2
          exact h2
      · exact h1 m (by omega)
    · intro h
      refine ⟨fun m hm => h m (by omega), ?_⟩
      unfold kok
      rw [kst_eq]
      split
      · simp [okF]
      · exact h n (by omega)
theorem stC_some (s : FI) (k : Nat) (F : FL) (i : Nat) (h : stC s k F = some i) : i < k ∧ ∃ m, m < 4 ∧ gF s (s.cs.getD i cn9) m = F := by
  induction k with
  | zero => simp [stC] at h
  | succ k ih =>
    rw [show stC s (k + 1) = kst (stC s k) k (gF s (s.cs.getD k cn9)) 4 from rfl, kst_eq] at h
    split at h
    · rename_i hm
      obtain rfl := Option.some.inj h
      exact ⟨by omega, hm⟩
    · obtain ⟨h1, h2⟩ := ih h
      exact ⟨by omega, h2⟩
theorem stC_none (s : FI) (k : Nat) (F : FL) (h : stC s k F = none) (i : Nat) (hi : i < k) (m : Nat) (hm : m < 4) : gF s (s.cs.getD i cn9) m ≠ F := by
  induction k with
  | zero => omega
  | succ k ih =>
    rw [show stC s (k + 1) = kst (stC s k) k (gF s (s.cs.getD k cn9)) 4 from rfl, kst_eq] at h
    split at h
    · cases h
    · rename_i hn
      by_cases e : i = k
      · subst e
        intro e2
        exact hn ⟨m, hm, e2⟩
      · exact ih h (by omega)
theorem ad_iff (s : FI) (k : Nat) (c : CN) : adB (stC s k) k (gF s c) = true ↔ ∀ i, i < k → ¬ ∃ m m', m < 4 ∧ m' < 4 ∧ gF s (s.cs.getD i cn9) m' = gF s c m := by
  unfold adB
  rw [kok_all]
  constructor
  · rintro h i hi ⟨m, m', hm, hm', e⟩
    have h1 := h m hm
    cases hs : stC s k (gF s c m) with
    | none => exact stC_none s k _ hs i hi m' hm' e
    | some j =>
      rw [hs] at h1
      have := (stC_some s k _ j hs).1
      simp [okF] at h1
      omega
  · intro h m hm
    cases hs : stC s k (gF s c m) with
    | none => rfl
    | some j =>
      obtain ⟨h1, m', hm', e⟩ := stC_some s k _ j hs
      exact absurd ⟨m, m', hm, hm', e⟩ (h j h1)
theorem ex4 {P : Nat → Prop} : (∃ m, m < 4 ∧ P m) ↔ P 0 ∨ P 1 ∨ P 2 ∨ P 3 := by
  constructor
  · rintro ⟨m, hm, h⟩
    rcases (show m = 0 ∨ m = 1 ∨ m = 2 ∨ m = 3 by omega) with rfl | rfl | rfl | rfl
    · exact .inl h
    · exact .inr (.inl h)
    · exact .inr (.inr (.inl h))
    · exact .inr (.inr (.inr h))
  · rintro (h | h | h | h)
    · exact ⟨0, by omega, h⟩
    · exact ⟨1, by omega, h⟩
    · exact ⟨2, by omega, h⟩
    · exact ⟨3, by omega, h⟩
/-- The side outside. -/
theorem ou_eq (s : FI) (c : CN) : ouP s c = if ihB s c.a = true then (if ihB s c.b = true then (-1, -1) else (c.b, c.bp)) else (c.a, c.ap) := by
  unfold ouP
  rw [ihB_iff, ihB_iff]
  by_cases h1 : 0 ≤ hAt (s.hs.map (·.addr)) c.a <;> by_cases h2 : 0 ≤ hAt (s.hs.map (·.addr)) c.b
  · have e1 : ¬ hAt (s.hs.map (·.addr)) c.a < 0 := by omega
    have e2 : ¬ hAt (s.hs.map (·.addr)) c.b < 0 := by omega
    simp [h1, h2, e1, e2]
  · have e1 : ¬ hAt (s.hs.map (·.addr)) c.a < 0 := by omega
    have e2 : hAt (s.hs.map (·.addr)) c.b < 0 := by omega
    simp [h1, h2, e1, e2]
  · have e1 : hAt (s.hs.map (·.addr)) c.a < 0 := by omega
    simp [h1, e1]
  · have e1 : hAt (s.hs.map (·.addr)) c.a < 0 := by omega
    simp [h1, e1]
theorem flows (s : FI) (c : CN) (hr : (ihB s c.a || ihB s c.b) = true) (F : FL) : (∃ m, m < 4 ∧ gF s c m = F) ↔ F = ⟨c.proto, c.a, c.ap, c.b, c.bp⟩ ∨ F = ⟨c.proto, c.b, c.bp, c.a, c.ap⟩ ∨ ((ihB s c.a && ihB s c.b) = false ∧ (F = ⟨c.proto, s.pub, c.outer, (ouP s c).1, (ouP s c).2⟩ ∨ F = ⟨c.proto, (ouP s c).1, (ouP s c).2, s.pub, c.outer⟩)) := by
  rw [ex4, ou_eq]
  cases hA : ihB s c.a <;> cases hB : ihB s c.b
  · rw [hA, hB] at hr
    cases hr
  all_goals simp [gF, sn, vw, cfl, hdF, hA, hB]
  · constructor
    · rintro (h | h | h | h)
      · exact .inr (.inr (.inr h.symm))
      · exact .inl h.symm
      · exact .inr (.inr (.inl h.symm))
      · exact .inr (.inl h.symm)
    · rintro (h | h | h | h)
      · exact .inr (.inl h.symm)
      · exact .inr (.inr (.inr h.symm))
      · exact .inr (.inr (.inl h.symm))
      · exact .inl h.symm
  · constructor
    · rintro (h | h | h | h)
      · exact .inl h.symm
      · exact .inr (.inr (.inl h.symm))
      · exact .inr (.inl h.symm)
      · exact .inr (.inr (.inr h.symm))
    · rintro (h | h | h | h)
      · exact .inl h.symm
      · exact .inr (.inr (.inl h.symm))
      · exact .inr (.inl h.symm)
      · exact .inr (.inr (.inr h.symm))
  · constructor
    · rintro (h | h)
      · exact .inl h.symm
      · exact .inr h.symm
    · rintro (h | h)
      · exact .inl h.symm
      · exact .inr h.symm
theorem clash (s : FI) (c d : CN) (hc : cnB s c = true) (hd : cnB s d = true) : (∃ m m', m < 4 ∧ m' < 4 ∧ gF s d m' = gF s c m) ↔ clB s c d = true := by
  obtain ⟨_, _, _, _, _, _, co, ca, cb, _⟩ := cnB_parts hc
  obtain ⟨_, _, _, _, _, _, dO, da, db, _⟩ := cnB_parts hd
  have hrc : (ihB s c.a || ihB s c.b) = true := by
    unfold ouB at co
    cases h1 : ihB s c.a <;> cases h2 : ihB s c.b <;> rw [h1, h2] at co <;> simp at co ⊢
  have hrd : (ihB s d.a || ihB s d.b) = true := by
    unfold ouB at dO
    cases h1 : ihB s d.a <;> cases h2 : ihB s d.b <;> rw [h1, h2] at dO <;> simp at dO ⊢
  have hoc : (ihB s c.a && ihB s c.b) = true ↔ c.outer = 0 := by
    unfold ouB opB at co
    cases h1 : ihB s c.a <;> cases h2 : ihB s c.b <;> rw [h1, h2] at co <;> simp at co ⊢ <;> omega
  have hod : (ihB s d.a && ihB s d.b) = true ↔ d.outer = 0 := by
    unfold ouB opB at dO
    cases h1 : ihB s d.a <;> cases h2 : ihB s d.b <;> rw [h1, h2] at dO <;> simp at dO ⊢ <;> omega
  have hpc : (ihB s c.a && ihB s c.b) = false → (ouP s c).1 ≠ s.pub := by
    rw [ou_eq]
    cases h1 : ihB s c.a <;> cases h2 : ihB s c.b <;> simp <;> assumption
  have hpd : (ihB s d.a && ihB s d.b) = false → (ouP s d).1 ≠ s.pub := by
    rw [ou_eq]
    cases h1 : ihB s d.a <;> cases h2 : ihB s d.b <;> simp <;> assumption
  have hz : ∀ {x : Bool} {y : Int}, (x = true ↔ y = 0) → (x = false ↔ y ≠ 0) := by
    intro x y h
    cases x
    · simp at h ⊢
      exact h
    · simp at h ⊢
      exact h
  have e1 : (∃ m m', m < 4 ∧ m' < 4 ∧ gF s d m' = gF s c m) ↔ ∃ F, (∃ m, m < 4 ∧ gF s c m = F) ∧ (∃ m, m < 4 ∧ gF s d m = F) := by
    constructor
    · rintro ⟨m, m', h1, h2, h3⟩
      exact ⟨_, ⟨m, h1, rfl⟩, ⟨m', h2, h3⟩⟩
    · rintro ⟨F, ⟨m, h1, rfl⟩, ⟨m', h2, h3⟩⟩
      exact ⟨m, m', h1, h2, h3⟩
  rw [e1]
  simp only [flows s c hrc, flows s d hrd, hz hoc, hz hod] at hpc hpd ⊢
  clear e1 hz hoc hod hrc hrd co dO hc hd
  unfold clB smB
  generalize (ouP s c).1 = x at *
  generalize (ouP s c).2 = xp at *
  generalize (ouP s d).1 = y at *
  generalize (ouP s d).2 = yp at *
  simp only [FL.ext5, Bool.or_eq_true, Bool.and_eq_true, Bool.not_eq_true', bne_iff_ne, beq_iff_eq, ne_eq, bne_eq_false_iff_eq]
  constructor
  · rintro ⟨⟨f1, f2, f3, f4, f5⟩, h1, h2⟩
    simp only at h1 h2
    rcases h1 with h1 | h1 | ⟨g1, h1 | h1⟩ <;> rcases h2 with h2 | h2 | ⟨g2, h2 | h2⟩
    · exact .inl ⟨by omega, .inl ⟨⟨⟨by omega, by omega⟩, by omega⟩, by omega⟩⟩
    · exact .inl ⟨by omega, .inr ⟨⟨⟨by omega, by omega⟩, by omega⟩, by omega⟩⟩
    · exact absurd (h1.2.1.symm.trans h2.2.1) ca
    · exact absurd (h1.2.2.2.1.symm.trans h2.2.2.2.1) cb
    · exact .inl ⟨by omega, .inr ⟨⟨⟨by omega, by omega⟩, by omega⟩, by omega⟩⟩
    · exact .inl ⟨by omega, .inl ⟨⟨⟨by omega, by omega⟩, by omega⟩, by omega⟩⟩
    · exact absurd (h1.2.1.symm.trans h2.2.1) cb
    · exact absurd (h1.2.2.2.1.symm.trans h2.2.2.2.1) ca
    · exact absurd (h2.2.1.symm.trans h1.2.1) da
    · exact absurd (h2.2.1.symm.trans h1.2.1) db
    · exact .inr ⟨⟨⟨⟨g1, by omega⟩, by omega⟩, by omega⟩, by omega⟩
    · exact absurd (h2.2.1.symm.trans h1.2.1) (hpd g2)
    · exact absurd (h2.2.2.2.1.symm.trans h1.2.2.2.1) db
    · exact absurd (h2.2.2.2.1.symm.trans h1.2.2.2.1) da
    · exact absurd (h1.2.1.symm.trans h2.2.1) (hpc g1)
    · exact .inr ⟨⟨⟨⟨g1, by omega⟩, by omega⟩, by omega⟩, by omega⟩
  · rintro (⟨h0, h | h⟩ | ⟨⟨⟨⟨h0, h1⟩, h2⟩, h3⟩, h4⟩)
    · exact ⟨⟨c.proto, c.a, c.ap, c.b, c.bp⟩, .inl ⟨rfl, rfl, rfl, rfl, rfl⟩, .inl ⟨by simp only; omega, by simp only; omega, by simp only; omega, by simp only; omega, by simp only; omega⟩⟩
    · exact ⟨⟨c.proto, c.a, c.ap, c.b, c.bp⟩, .inl ⟨rfl, rfl, rfl, rfl, rfl⟩, .inr (.inl ⟨by simp only; omega, by simp only; omega, by simp only; omega, by simp only; omega, by simp only; omega⟩)⟩
    · exact ⟨⟨c.proto, s.pub, c.outer, x, xp⟩, .inr (.inr ⟨h0, .inl ⟨rfl, rfl, rfl, rfl, rfl⟩⟩), .inr (.inr ⟨by omega, .inl ⟨by simp only; omega, rfl, by simp only; omega, by simp only; omega, by simp only; omega⟩⟩)⟩
theorem co_eq (s : FI) : coB s = allB (sx s) s.cs.length := by
  unfold coB
  have h : ∀ n, n ≤ s.cs.length → allB (ck s) n = allB (sx s) n := by
    intro n
    induction n with
    | zero => intro _; rfl
    | succ n ih =>
      intro hn
      rw [allB_succ, allB_succ, ih (by omega)]
      cases hq : allB (sx s) n
      · rfl
      · simp only [Bool.true_and]
        have hlt : n < s.cs.length := by omega
        unfold ck sx sxB
        rw [gdc hlt, gdc8 hlt, cn_eq]
        have hall : ∀ i, i < n → cnB s (s.cs.getD i cn9) = true := by
          intro i hi
          have h1 := allB_iff.1 hq i hi
          unfold sx sxB at h1
          have hi2 : i < s.cs.length := by omega
          rw [gdc8 hi2] at h1
          rw [gdc hi2, cn_eq]
          simp at h1 ⊢
          exact h1.1
        by_cases hc : (scB s.cs[n] s.time && sdB s s.cs[n]) = true
        · rw [hc]
          have hc2 := hc
          rw [Bool.and_eq_true] at hc2
          rw [hc2.1, hc2.2]
          simp only [Bool.not_true, Bool.or_self, Bool.not_false, Bool.true_and]
          rw [Bool.eq_iff_iff, ad_iff, allB_iff]
          rw [← cn_eq] at hc
          constructor
          · intro h q hq2
            have hq3 : q < s.cs.length := by omega
            have := h q hq2
            rw [clash s _ _ hc (hall q hq2)] at this
            unfold cq
            rw [gdc8 hq3]
            rw [gdc hq3] at this
            simpa using this
          · intro h q hq2
            have hq3 : q < s.cs.length := by omega
            have := h q hq2
            rw [clash s _ _ hc (hall q hq2)]
            unfold cq at this
            rw [gdc8 hq3] at this
            rw [gdc hq3]
            simpa using this
        · have hf : (scB s.cs[n] s.time && sdB s s.cs[n]) = false := by simpa using hc
          rw [hf]
          cases h1 : scB s.cs[n] s.time <;> cases h2 : sdB s s.cs[n] <;> rw [h1, h2] at hf <;> simp at hf ⊢
  exact h _ (Nat.le_refl _)
theorem all_cong {p q : Nat → Bool} {n : Nat} (h : ∀ k, k < n → p k = q k) : allB p n = allB q n := by
  rw [Bool.eq_iff_iff, allB_iff, allB_iff]
  exact ⟨fun h2 k hk => (h k hk) ▸ h2 k hk, fun h2 k hk => (h k hk).symm ▸ h2 k hk⟩
theorem fr_eq (s : FI) : frB s = ssB s := by
  unfold frB ssB bdB hdB hsS hoB grB fwB
  rw [co_eq, all_cong (fun k _ => hk_eq s k), all_cong (fun k _ => gk_eq s k), all_cong (fun k hk => fk_eq s k hk)]
  generalize allB (sh s) s.hs.length = a
  generalize allB (sg s) s.gs.length = b
  generalize allB (sf s) s.fs.length = c
  generalize allB (sx s) s.cs.length = d
  generalize isW s.pub = e
  rw [Bool.eq_iff_iff]
  cases a <;> cases b <;> cases c <;> cases d <;> cases e <;> simp <;> omega
theorem frV_eq (s : FI) : frV s = ssV s := by
  unfold frV ssV
  rw [fr_eq]
end Go.Proofs.Ytpggbbdfbnocfaa
