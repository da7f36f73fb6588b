import Derived.Test.YtdlodflinibaoaaDmX
import Derived.Test.YtdlodflinibaoaaWalkYesS
import Derived.Test.YtdlodflinibaoaaRowI
namespace Go.Proofs.Ytdlodflinibaoaa
open Go.ChangeShapes Go.WideShapes Go.ChangeAt Go.RowKit

theorem appI {w : World} {B : Nat} {ao : Option Addr} {k cp : Nat} {zs : List Int} (h : w.ownsRow B 2 1 (.slice ao k cp) k (iR zs)) (hB : B ≤ w.heap.size) (hk : k ≤ 1000) (m : Int) :
    ∃ v' u', (Builtin.append_ #[91, 91] 91 #[.slice ao k cp, .slice (some ⟨w.heap.size, 0, none⟩) 1 1]).run Try.prog (w.alloc (.cells #[.int .i64 m] 2)) = .ok v' u' ∧ (∃ ao9 cp9, v' = .slice ao9 (k + 1) cp9 ∧ u'.ownsRow B 2 1 (.slice ao9 (k + 1) cp9) (k + 1) (iR (zs ++ [m])) ∧ (w.alloc (.cells #[.int .i64 m] 2)).grownBy u' (Value.slice ao k cp).ownBlock ∧ ((Value.slice ao9 (k + 1) cp9).ownBlock = (Value.slice ao k cp).ownBlock ∨ (Value.slice ao9 (k + 1) cp9).ownBlock = some (w.heap.size + 1))) := by
  obtain ⟨i0, hi0, hz0, hz1, hz2⟩ := info_parts Try.info2
  have hbx : (w.alloc (.cells #[.int .i64 m] 2)).heap[w.heap.size]? = some (.cells #[.int .i64 m] 2 (0, 0)) := (MapKept.heap_alloc w _).1
  obtain ⟨v', w', hr, h2, h3, _, h5⟩ := run_append_own_at (P := Try.prog) (w.alloc (.cells #[.int .i64 m] 2)) B 91 91 2 i0 (.int .i64 0) 1 8 Try.underlying91 hi0 hz0 hz1 hz2 rfl (by decide) (.slice ao k cp) k (iR zs) (World.ownsRow.alloc h _) ⟨w.heap.size, 0, none⟩ 1 1 [.int .i64 m] rfl (by
    intro j u hj
    obtain rfl : j = 0 := by
      rcases Nat.lt_or_ge j 1 with h9 | h9
      · omega
      · rw [List.getElem?_eq_none (by simpa using h9)] at hj
        cases hj
    cases hj
    show World.cell? _ ⟨w.heap.size, 0, none⟩ = _
    unfold World.cell?
    simp only [hbx]
    rfl) (by intro u hu; obtain rfl := List.mem_singleton.1 hu; rfl) (by unfold maxLen; omega) (by omega) (by simp; omega)
  have hsl : ∃ ao9 cp9, v' = .slice ao9 (k + 1) cp9 := by
    rcases h2.2 with ⟨rfl, e⟩ | ⟨g, cap, cur, rfl, _⟩
    · omega
    · exact ⟨_, cap, rfl⟩
  obtain ⟨ao9, cp9, rfl⟩ := hsl
  refine ⟨_, w', hr, ao9, cp9, rfl, ?_, h3, ?_⟩
  · simpa [iR] using h2
  · simpa using h5
theorem cel6d {u : World} {b t : Nat} {a0 a1 a2 a3 a4 a5 : Value} (h : u.heap[b]? = some (.cells #[a0, a1, a2, a3, a4, a5] t (0, 0))) : u.cell? ⟨b, 0, none⟩ = some a0 ∧ u.cell? ⟨b, 1, none⟩ = some a1 ∧ u.cell? ⟨b, 2, none⟩ = some a2 ∧ u.cell? ⟨b, 3, none⟩ = some a3 ∧ u.cell? ⟨b, 4, none⟩ = some a4 ∧ u.cell? ⟨b, 5, none⟩ = some a5 := by simp [World.cell?, h]
/-- The specification's way under work. -/
structure DS (w u : World) (a1 : Option Addr) (c1 : Nat) (a2 : Option Addr) (c2 k : Nat) (ps ns : List Int) : Prop where
  bel : Below w.heap.size w u
  box : u.heap[w.heap.size]? = some (.cells #[.int .i64 0, .int .i64 0, .string ⟨#[]⟩, .string ⟨#[]⟩] 41 (0, 0))
  r1 : u.ownsRow (w.heap.size + 1) 2 1 (.slice a1 k c1) k (iR ps)
  r2 : u.ownsRow (w.heap.size + 1) 2 1 (.slice a2 k c2) k (iR ns)
  ne : ∀ q, (Value.slice a1 k c1).ownBlock = some q → (Value.slice a2 k c2).ownBlock ≠ some q
theorem DS.lt {w u : World} {a1 a2 : Option Addr} {c1 c2 k : Nat} {ps ns : List Int} (h : DS w u a1 c1 a2 c2 k ps ns) : w.heap.size < u.heap.size := (Array.getElem?_eq_some_iff.1 h.box).1
theorem own_bI {w w' : World} {B n : Nat} {v : Value} {xs : List Value} (h : w.ownsRow B 2 1 v n xs) (hb : Below w.heap.size w w') : w'.ownsRow B 2 1 v n xs := by
  refine h.kept (row := none) ⟨hb.os, hb.tape, hb.output, hb.size, fun k hk _ => hb.block k hk⟩ ?_
  cases ho : v.ownBlock with
  | none => exact .inl rfl
  | some q => exact .inr (by simp)
theorem DS.step {w u u' : World} {a1 a2 : Option Addr} {c1 c2 k : Nat} {ps ns : List Int} (h : DS w u a1 c1 a2 c2 k ps ns) (hb : Below u.heap.size u u') : DS w u' a1 c1 a2 c2 k ps ns :=
  ⟨h.bel.trans (hb.mono h.bel.size), (hb.block _ h.lt).trans h.box, own_bI h.r1 hb, own_bI h.r2 hb, h.ne⟩
theorem own_gI {u u' : World} {B n : Nat} {v : Value} {xs : List Value} {r : Option Nat} (h : u.ownsRow B 2 1 v n xs) (hg : u.grownBy u' r) (hr : ∀ q, v.ownBlock = some q → r ≠ some q) : u'.ownsRow B 2 1 v n xs := by
  refine h.kept hg ?_
  cases ho : v.ownBlock with
  | none => exact .inl rfl
  | some q => exact .inr (fun e => hr q ho e.symm)
/-- Behind an append to both rows. -/
theorem DS.app {w u u1 u2 : World} {a1 a2 b1 b2 : Option Addr} {c1 c2 d1 d2 k : Nat} {ps ns : List Int} {p n : Int} (h : DS w u a1 c1 a2 c2 k ps ns)
    (o1 : u1.ownsRow (w.heap.size + 1) 2 1 (.slice b1 (k + 1) d1) (k + 1) (iR (ps ++ [p]))) (g1 : (u.alloc (.cells #[.int .i64 p] 2)).grownBy u1 (Value.slice a1 k c1).ownBlock) (e1 : (Value.slice b1 (k + 1) d1).ownBlock = (Value.slice a1 k c1).ownBlock ∨ (Value.slice b1 (k + 1) d1).ownBlock = some (u.heap.size + 1))
    (o2 : u2.ownsRow (w.heap.size + 1) 2 1 (.slice b2 (k + 1) d2) (k + 1) (iR (ns ++ [n]))) (g2 : (u1.alloc (.cells #[.int .i64 n] 2)).grownBy u2 (Value.slice a2 k c2).ownBlock) (e2 : (Value.slice b2 (k + 1) d2).ownBlock = (Value.slice a2 k c2).ownBlock ∨ (Value.slice b2 (k + 1) d2).ownBlock = some (u1.heap.size + 1)) :
    DS w u2 b1 d1 b2 d2 (k + 1) (ps ++ [p]) (ns ++ [n]) := by
  have hl := h.lt
  have q1 : ∀ q, (Value.slice a1 k c1).ownBlock = some q → w.heap.size + 1 ≤ q ∧ q < u.heap.size := fun q e => h.r1.lt q e
  have q2 : ∀ q, (Value.slice a2 k c2).ownBlock = some q → w.heap.size + 1 ≤ q ∧ q < u.heap.size := fun q e => h.r2.lt q e
  have s1 : u.heap.size + 1 ≤ u1.heap.size := by have := g1.size; simpa using this
  have s2 : u1.heap.size + 1 ≤ u2.heap.size := by have := g2.size; simpa using this
  have b0 : Below w.heap.size w u1 := (h.bel.alloc h.bel.size _).grown g1 (h.bel.alloc h.bel.size _).size (fun q e => by have := q1 q e; omega)
  have b9 : Below w.heap.size w u2 := (b0.alloc b0.size _).grown g2 (b0.alloc b0.size _).size (fun q e => by have := q2 q e; omega)
  have x1 : u1.heap[w.heap.size]? = _ := ((g1.block _ (by simp; omega) (fun e => by have := q1 _ e.symm; omega)).trans ((MapKept.heap_alloc u _).2 _ hl)).trans h.box
  have x2 : u2.heap[w.heap.size]? = _ := ((g2.block _ (by simp; omega) (fun e => by have := q2 _ e.symm; omega)).trans ((MapKept.heap_alloc u1 _).2 _ (by omega))).trans x1
  have t1 := o1.lt
  refine ⟨b9, x2, own_gI (World.ownsRow.alloc o1 _) g2 (fun q e e9 => ?_), o2, fun q e e9 => ?_⟩
  · rcases e1 with e1 | e1
    · exact h.ne q (e1.symm.trans e) e9
    · have h1 := q2 q e9
      have h2 : some (u.heap.size + 1) = some q := e1.symm.trans e
      injection h2 with h2
      omega
  · rcases e2 with e2 | e2
    · have h1 := q2 q (e2.symm.trans e9)
      rcases e1 with e1 | e1
      · exact h.ne q (e1.symm.trans e) (e2.symm.trans e9)
      · have h2 : some (u.heap.size + 1) = some q := e1.symm.trans e
        injection h2 with h2
        omega
    · have h1 := t1 q e
      have h2 : some (u1.heap.size + 1) = some q := e2.symm.trans e9
      injection h2 with h2
      omega
theorem memOk_sz {s s' : ByteArray} (h : s'.size = s.size) (hm : memOk s = true) : memOk s' = true := by unfold memOk at hm ⊢; rw [h]; exact hm
set_option maxRecDepth 100000 in
set_option maxHeartbeats 4000000 in
theorem l11Dma_ok (s : ByteArray) (root va size : Nat) (acc : Int) (w : World) (hA : dmA s root va size = true) (ha1 : 1 ≤ acc) (ha2 : acc ≤ 2) (R : DM) (hR : dmK root acc size s va size = R) :
    Calls Try.prog 47 #[.string s, .int .i64 root, .int .i64 va, .int .i64 size, .int .i64 acc] w fun e w' => Below w.heap.size w w' ∧ ((R.bad = true ∧ e = .returned (.tuple #[.agg #[.int .i64 7, .int .i64 R.va, .string ⟨#[]⟩, .string ⟨#[]⟩], .slice none 0 0, .slice none 0 0])) ∨ (R.bad = false ∧ ∃ a1 c1 a2 c2, e = .returned (.tuple #[.agg #[.int .i64 0, .int .i64 0, .string ⟨#[]⟩, .string R.mem], .slice a1 R.zs.length c1, .slice a2 R.zs.length c2]) ∧ w'.ownsRow (w.heap.size + 1) 2 1 (.slice a1 R.zs.length c1) R.zs.length (iR (R.zs.map (·.pos))) ∧ w'.ownsRow (w.heap.size + 1) 2 1 (.slice a2 R.zs.length c2) R.zs.length (iR (R.zs.map (·.len))))) := by
  obtain ⟨m1, r0, r1, v0, v1, z0, z1, t1⟩ := dmA_ok hA
  obtain ⟨ms0, ms1, ms2⟩ := memOk_b m1
  have HL3 : Hid (R.zs.length ≤ 300) := (show R.zs.length ≤ 300 by have := dmK_len root acc size s va size; rw [hR] at this; omega)
  have HR0 : Hid (dmK root acc size s va size = R) := hR
  have HM1 : Hid (memOk s = true) := m1
  have HRT : Hid (root ≤ 255) := (show root ≤ 255 by omega)
  have HEV : Hid (va + size ≤ 262144) := (show va + size ≤ 262144 by omega)
  have HSZ : Hid (size ≤ 65536) := (show size ≤ 65536 by omega)
  have HAC : Hid (1 ≤ acc ∧ acc ≤ 2) := ⟨ha1, ha2⟩
  have HMF : Hid (∀ u, Calls Try.prog 81 #[.string s] u fun e w' => e = .returned (.int .i64 0) ∧ w' = u) := fun u => by
    have h9 := specMemFault_any s u (by omega)
    rw [memC_ok m1] at h9
    exact h9
  have k0 : decide (65536 < (s.size : Int)) = false := decide_eq_false (by omega)
  have k1 : decide ((root : Int) < 0) = false := decide_eq_false (by omega)
  have k2 : decide (255 < (root : Int)) = false := decide_eq_false (by omega)
  have k3 : decide ((va : Int) < 0) = false := decide_eq_false (by omega)
  have k4 : decide (262144 ≤ (va : Int)) = false := decide_eq_false (by omega)
  have k5 : decide ((size : Int) < 0) = false := decide_eq_false (by omega)
  have k6 : decide (65536 < (size : Int)) = false := decide_eq_false (by omega)
  obtain ⟨E, hE⟩ : ∃ E, va + size = E := ⟨_, rfl⟩
  have hE9 : (va : Int) + (size : Int) = (E : Int) := by omega
  have k7 : decide (262144 < (E : Int)) = false := decide_eq_false (by omega)
  have k8 : (E : Int) ≤ 262144 := by omega
  have HX0 : Hid (DBx w (w.alloc (.cells #[.int .i64 0, .int .i64 0, .string ⟨#[]⟩, .string ⟨#[]⟩] 41)) #[.int .i64 0, .int .i64 0, .string ⟨#[]⟩, .string ⟨#[]⟩]) := DBx.new _ _
  clear hA m1 r0 r1 v0 v1 z0 z1 t1 ms0 ms1 ms2 hR ha1 ha2
  go_enter Try.func47, Try.ntmps47
  go_upto_region 5 with (go_at_call 81; refine Calls.mono (HMF.out _) ?_; rintro e u1 ⟨rfl, hu⟩; rw [hu]; clear hu)
  clear k0 k1 k2 k3 k4 k5 k6 k7 HMF
  generalize (w.alloc (.cells #[.int .i64 0, .int .i64 0, .string ⟨#[]⟩, .string ⟨#[]⟩] 41)) = u0 at *
  have HD0 : Hid (DS w ((u0.alloc (.cells #[] 2)).alloc (.cells #[] 2)) (some ⟨u0.heap.size, 0, none⟩) 0 (some ⟨u0.heap.size + 1, 0, none⟩) 0 0 [] []) := by
    have hl := HX0.out.lt
    have b1 : Below u0.heap.size u0 (u0.alloc (.cells #[] 2)) := (Below.refl _ _).alloc (Nat.le_refl _) _
    have b2 : Below (u0.alloc (.cells #[] 2)).heap.size (u0.alloc (.cells #[] 2)) ((u0.alloc (.cells #[] 2)).alloc (.cells #[] 2)) := (Below.refl _ _).alloc (Nat.le_refl _) _
    have o1 : (u0.alloc (.cells #[] 2)).ownsRow (w.heap.size + 1) 2 1 (.slice (some ⟨u0.heap.size, 0, none⟩) 0 0) 0 (iR []) := World.ownsRow_lit u0 #[] 0 (by omega) (by decide) rfl
    have o2 : ((u0.alloc (.cells #[] 2)).alloc (.cells #[] 2)).ownsRow (w.heap.size + 1) 2 1 (.slice (some ⟨(u0.alloc (.cells #[] 2)).heap.size, 0, none⟩) 0 0) 0 (iR []) := World.ownsRow_lit (u0.alloc (.cells #[] 2)) #[] 0 (by simp; omega) (by decide) rfl
    rw [World.size_alloc] at o2
    have hx := (HX0.out.step b1).step b2
    refine ⟨hx.bel, hx.box, own_bI o1 b2, o2, fun q e e9 => ?_⟩
    have h1 : u0.heap.size = q := Option.some.inj e
    have h2 : u0.heap.size + 1 = q := Option.some.inj e9
    omega
  go_wp2
  generalize ((u0.alloc (.cells #[] 2)).alloc (.cells #[] 2)) = W at *
  go_loopw [0, 2, 3, 13, 14, 15, 16] (fun vm va' vl v1 v2 _n _p wr => ∃ (f : Nat) (s' : ByteArray) (a' left : Nat) (a1 : Option Addr) (c1 : Nat) (a2 : Option Addr) (c2 k : Nat) (zs0 : List BU), left ≤ f ∧ a' + left = E ∧ left ≤ 65536 ∧ vm = .string s' ∧ va' = .int .i64 a' ∧ vl = .int .i64 left ∧ v1 = .slice a1 k c1 ∧ v2 = .slice a2 k c2 ∧ s'.size = s.size ∧ zs0.length = k ∧ R = ⟨(dmK root acc f s' a' left).bad, (dmK root acc f s' a' left).va, (dmK root acc f s' a' left).mem, zs0 ++ (dmK root acc f s' a' left).zs⟩ ∧ DS w wr a1 c1 a2 c2 k (zs0.map (·.pos)) (zs0.map (·.len))) (fun _ _ vl _ _ _ _ _ => (intOf vl).toNat)
  case atStart => exact ⟨size, s, va, size, _, _, _, _, 0, [], Nat.le_refl _, by omega, HSZ.out, rfl, rfl, rfl, rfl, rfl, rfl, rfl, by rw [HR0.out]; rfl, HD0.out⟩
  case round =>
    obtain ⟨f, s', a', left, a1, c1, a2, c2, k, zs0, hf, hal, hlf, rfl, rfl, rfl, rfl, rfl, hs', hzk, hRR, hd⟩ := hrel
    have HD : Hid (DS w wr a1 c1 a2 c2 k (zs0.map (·.pos)) (zs0.map (·.len))) := hd
    have HRR : Hid (R = ⟨(dmK root acc f s' a' left).bad, (dmK root acc f s' a' left).va, (dmK root acc f s' a' left).mem, zs0 ++ (dmK root acc f s' a' left).zs⟩) := hRR
    have HS' : Hid (s'.size = s.size) := hs'
    have HZK : Hid (zs0.length = k) := hzk
    clear hd hRR hs' hzk HD0 HR0 HX0
    obtain ⟨d0, d1, d2, d3, df⟩ := cel4d HD.out.box
    have dl := HD.out.lt
    by_cases hl0 : left = 0
    · subst hl0
      go_wp2
      have hbx := st4_box HD.out.box (.int .i64 0) (.int .i64 0) (.string ⟨#[]⟩) (.string s')
      have hg := g4 wr w.heap.size (.int .i64 0) (.int .i64 0) (.string ⟨#[]⟩) (.string s')
      have ho1 := own_gI HD.out.r1 hg (fun q e e9 => by have := (HD.out.r1.lt q e).1; cases e9; omega)
      have ho2 := own_gI HD.out.r2 hg (fun q e e9 => by have := (HD.out.r2.lt q e).1; cases e9; omega)
      have hbl : Below w.heap.size w (st4 wr w.heap.size (.int .i64 0) (.int .i64 0) (.string ⟨#[]⟩) (.string s')) := HD.out.bel.grown hg HD.out.bel.size (fun q e => by cases e; exact Nat.le_refl _)
      obtain ⟨q0, q1, q2, q3, _⟩ := cel4d hbx
      unfold st4 at *
      generalize ((((wr.setCell ⟨w.heap.size, 0, none⟩ (.int .i64 0)).setCell ⟨w.heap.size, 1, none⟩ (.int .i64 0)).setCell ⟨w.heap.size, 2, none⟩ (.string ⟨#[]⟩)).setCell ⟨w.heap.size, 3, none⟩ (.string s')) = W9 at *
      refine bodyPost_ret (v := .tuple #[.agg #[.int .i64 0, .int .i64 0, .string ⟨#[]⟩, .string s'], .slice a1 k c1, .slice a2 k c2]) (by simp [results, Try.results47, go_sem, q0, q1, q2, q3]) rfl ?_
      have h9 := HRR.out
      rw [dmK_zero] at h9
      simp only [List.append_nil] at h9
      rw [h9]
      refine ⟨hbl, .inr ⟨rfl, a1, c1, a2, c2, ?_, ?_, ?_⟩⟩
      · simp only
        rw [HZK.out]
      · simp only
        rw [HZK.out]
        exact ho1
      · simp only
        rw [HZK.out]
        exact ho2
    · have e1 : (0 : Int) < (left : Int) := by omega
      have e2 : 0 < left := by omega
      obtain ⟨f', rfl⟩ : ∃ f', f = f' + 1 := ⟨f - 1, by omega⟩
      have ha9 : a' ≤ 262143 := by have := HEV.out; omega
      obtain ⟨n1, n2, n3, n4⟩ := dmN_b a' left e2
      obtain ⟨D, hD⟩ : ∃ D, dmN a' left = D := ⟨_, rfl⟩
      have hrem : ((256 : Int) - (a' : Int) % 256) = ((256 - a' % 256 : Nat) : Int) := by omega
      have HMN : Hid (∀ u, Calls Try.prog 62 #[.int .i64 (left : Int), .int .i64 ((256 : Int) - (a' : Int) % 256)] u fun e w' => e = .returned (.int .i64 (D : Int)) ∧ w' = u) := fun u => by
        rw [hrem]
        have h9 := l01Min_any left (256 - a' % 256) u
        rw [← hD]
        exact h9
      have hD9 : (D : Int) ≤ 256 := by omega
      obtain ⟨vv, hvv⟩ : ∃ vv, walkV s' root a' acc true = vv := ⟨_, rfl⟩
      have HVV : Hid (walkV s' root a' acc true = vv) := hvv
      have HWK : Hid (∀ u, Calls Try.prog 82 #[.string s', .int .i64 root, .int .i64 a', .int .i64 acc, .bool true] u fun e w' => ∃ ar cr, e = .returned (.agg #[.int .i64 vv.fault, .int .i64 vv.pa, .int .i64 vv.entry, .bool vv.large, .slice ar vv.reads.length cr, .string vv.mem]) ∧ Below u.heap.size u w') := fun u => by
        refine (specWalk_yes s' root a' acc true u (memOk_sz HS'.out HM1.out) HRT.out ha9 HAC.out.1 (by have := HAC.out.2; omega)).mono ?_
        rw [hvv]
        rintro e w' ⟨v, rfl, ho, hb⟩
        obtain ⟨ar, cr, rfl⟩ := i_sl ho
        exact ⟨ar, cr, rfl, hb⟩
      have hk9 : k ≤ 300 := by
        have h9 := HRR.out
        have h8 := HL3.out
        rw [h9] at h8
        simp only [List.length_append] at h8
        have := HZK.out
        omega
      clear hvv hrem
      go_upto_region 10 with (first | (go_at_call 62; refine Calls.mono (HMN.out _) ?_; rintro e u1 ⟨rfl, hu⟩; rw [hu]; clear hu) | (go_at_call 82; refine Calls.mono (HWK.out _) ?_; rintro e u2 ⟨ar, cr, rfl, hb2⟩; have HD2 : Hid (DS w (u2.alloc (.cells #[.int .i64 vv.fault, .int .i64 vv.pa, .int .i64 vv.entry, .bool vv.large, .slice ar vv.reads.length cr, .string vv.mem] 133)) a1 c1 a2 c2 k (zs0.map (·.pos)) (zs0.map (·.len))) := (HD.out.step hb2).step ((Below.refl _ _).alloc (Nat.le_refl _) _); have HY2 : Hid ((u2.alloc (.cells #[.int .i64 vv.fault, .int .i64 vv.pa, .int .i64 vv.entry, .bool vv.large, .slice ar vv.reads.length cr, .string vv.mem] 133)).heap[u2.heap.size]? = some (.cells #[.int .i64 vv.fault, .int .i64 vv.pa, .int .i64 vv.entry, .bool vv.large, .slice ar vv.reads.length cr, .string vv.mem] 133 (0, 0))) := (MapKept.heap_alloc u2 _).1; clear hb2))
      generalize (u2.alloc (.cells #[.int .i64 vv.fault, .int .i64 vv.pa, .int .i64 vv.entry, .bool vv.large, .slice ar vv.reads.length cr, .string vv.mem] 133)) = u3 at *
      generalize u2.heap.size = b3 at *
      clear d0 d1 d2 d3 df dl HMN HWK
      obtain ⟨y0, y1, y2, y3, y4, y5⟩ := cel6d HY2.out
      have yl := (Array.getElem?_eq_some_iff.1 HY2.out).1
      obtain ⟨d0, d1, d2, d3, df⟩ := cel4d HD2.out.box
      have dl := HD2.out.lt
      cases hfv : (vv.fault == 0)
      · have hf1 : (vv.fault != 0) = true := by simp [bne, hfv]
        have hf0 : ¬ vv.fault = 0 := by simpa using hfv
        go_wp2
        have hbx := st4_box HD2.out.box (.int .i64 7) (.int .i64 a') (.string ⟨#[]⟩) (.string ⟨#[]⟩)
        have hbl : Below w.heap.size w (st4 u3 w.heap.size (.int .i64 7) (.int .i64 a') (.string ⟨#[]⟩) (.string ⟨#[]⟩)) := HD2.out.bel.grown (g4 _ _ _ _ _ _) HD2.out.bel.size (fun q e => by cases e; exact Nat.le_refl _)
        obtain ⟨q0, q1, q2, q3, _⟩ := cel4d hbx
        unfold st4 at *
        generalize ((((u3.setCell ⟨w.heap.size, 0, none⟩ (.int .i64 7)).setCell ⟨w.heap.size, 1, none⟩ (.int .i64 a')).setCell ⟨w.heap.size, 2, none⟩ (.string ⟨#[]⟩)).setCell ⟨w.heap.size, 3, none⟩ (.string ⟨#[]⟩)) = W9 at *
        refine bodyPost_ret (v := .tuple #[.agg #[.int .i64 7, .int .i64 a', .string ⟨#[]⟩, .string ⟨#[]⟩], .slice none 0 0, .slice none 0 0]) (by simp [results, Try.results47, go_sem, q0, q1, q2, q3]) rfl ?_
        have h9 := HRR.out
        have h8 : dmK root acc (f' + 1) s' a' left = ⟨true, a', s', []⟩ := by rw [dmK, if_neg hl0, HVV.out, if_neg hf0]
        rw [h8] at h9
        rw [h9]
        exact ⟨hbl, .inl ⟨rfl, rfl⟩⟩
      · have hf1 : (vv.fault != 0) = false := by simp [bne, hfv]
        have hf0 : vv.fault = 0 := by simpa using hfv
        obtain ⟨wb, hwb⟩ : ∃ wb, (acc == 2) = wb := ⟨_, rfl⟩
        have HRN : Hid (R = ⟨(dmK root acc f' vv.mem (a' + D) (left - D)).bad, (dmK root acc f' vv.mem (a' + D) (left - D)).va, (dmK root acc f' vv.mem (a' + D) (left - D)).mem, (zs0 ++ [⟨vv.pa, (D : Int), wb⟩]) ++ (dmK root acc f' vv.mem (a' + D) (left - D)).zs⟩) := (show R = _ by
          have h9 := HRR.out
          have h8 : dmK root acc (f' + 1) s' a' left = ⟨(dmK root acc f' vv.mem (a' + D) (left - D)).bad, (dmK root acc f' vv.mem (a' + D) (left - D)).va, (dmK root acc f' vv.mem (a' + D) (left - D)).mem, ⟨vv.pa, (D : Int), wb⟩ :: (dmK root acc f' vv.mem (a' + D) (left - D)).zs⟩ := by rw [dmK, if_neg hl0, HVV.out, if_pos hf0, hD, hwb]
          rw [h8] at h9
          rw [h9]
          simp)
        have HSV : Hid (vv.mem.size = s.size) := (show vv.mem.size = s.size by rw [← HVV.out, walkV_size s' root a' acc true ha9]; exact HS'.out)
        have HAP : Hid _ := appI HD2.out.r1 (by omega) (by omega) vv.pa
        have HAQ : Hid (∀ u1 : World, (u3.alloc (.cells #[.int .i64 vv.pa] 2)).grownBy u1 (Value.slice a1 k c1).ownBlock → _) := fun u1 (hg : (u3.alloc (.cells #[.int .i64 vv.pa] 2)).grownBy u1 (Value.slice a1 k c1).ownBlock) => appI (w := u1) (own_gI (World.ownsRow.alloc HD2.out.r2 _) hg (fun q e e9 => HD2.out.ne q e9 e)) (by have := hg.size; simp at this; omega) (by omega) (D : Int)
        clear hfv
        go_upto_region 14 with (at_builtin; (refine wl_append_exD rfl _ _ 91 rfl _ _ rfl rfl HAP.out ?_; rintro v9 u9 ⟨ao9, cp9, rfl, ho9, hg9, he9⟩; have HO9 : Hid _ := ho9; have HG9 : Hid _ := hg9; have HE9 : Hid _ := he9; have HAR : Hid _ := HAQ.out u9 hg9; clear ho9 hg9 he9 HAP HAQ))
        clear y0 y1 y2 y3 y4 y5 yl d0 d1 d2 d3 df dl
        go_upto_region 15 with (at_builtin; (refine wl_append_exD rfl _ _ 91 rfl _ _ rfl rfl HAR.out ?_; rintro v10 u10 ⟨ao10, cp10, rfl, ho10, hg10, he10⟩; have HD4 : Hid (DS w u10 ao9 cp9 ao10 cp10 (k + 1) ((zs0.map (·.pos)) ++ [vv.pa]) ((zs0.map (·.len)) ++ [(D : Int)])) := HD2.out.app HO9.out HG9.out HE9.out ho10 hg10 he10; clear ho10 hg10 he10 HAR))
        have HD5 : Hid (DS w u10 ao9 cp9 ao10 cp10 (k + 1) ((zs0 ++ [(⟨vv.pa, (D : Int), wb⟩ : BU)]).map (fun z => z.pos)) ((zs0 ++ [(⟨vv.pa, (D : Int), wb⟩ : BU)]).map (fun z => z.len))) := (by
          have h9 := HD4.out
          rw [List.map_append, List.map_append]
          exact h9)
        clear HD4 HO9 HG9 HE9 HD2
        go_wp2
        refine ⟨⟨f', vv.mem, a' + D, left - D, ao9, cp9, ao10, cp10, k + 1, zs0 ++ [⟨vv.pa, (D : Int), wb⟩], by omega, by omega, by omega, rfl, by go_num, by go_num, rfl, rfl, HSV.out, by rw [List.length_append, HZK.out]; rfl, HRN.out, HD5.out⟩, by simp [intOf]; omega⟩

set_option maxRecDepth 100000 in
set_option maxHeartbeats 4000000 in
theorem l11Dma_size (s : ByteArray) (root va size acc : Int) (w : World) (hs : 65536 < s.size) : Calls Try.prog 47 #[.string s, .int .i64 root, .int .i64 va, .int .i64 size, .int .i64 acc] w fun e w' => e = .returned (.tuple #[.agg #[.int .i64 2, .int .i64 0, .string ⟨#[]⟩, .string ⟨#[]⟩], .slice none 0 0, .slice none 0 0]) ∧ Below w.heap.size w w' := by
  have k0 : decide (65536 < (s.size : Int)) = true := decide_eq_true (by omega)
  have HX0 : Hid (DBx w (w.alloc (.cells #[.int .i64 0, .int .i64 0, .string ⟨#[]⟩, .string ⟨#[]⟩] 41)) #[.int .i64 0, .int .i64 0, .string ⟨#[]⟩, .string ⟨#[]⟩]) := DBx.new _ _
  clear hs
  go_enter Try.func47, Try.ntmps47
  go_upto_region 2 with fail
  clear k0
  generalize (w.alloc (.cells #[.int .i64 0, .int .i64 0, .string ⟨#[]⟩, .string ⟨#[]⟩] 41)) = u1 at *
  have HX1 : Hid (DBx w u1 #[.int .i64 0, .int .i64 0, .string ⟨#[]⟩, .string ⟨#[]⟩]) := HX0.out
  obtain ⟨c0, c1, c2, c3, cf⟩ := cel4d HX1.out.box
  have cl := HX1.out.lt
  go_wp2
  have HP : Hid (DBx w (st4 u1 w.heap.size (.int .i64 2) (.int .i64 0) (.string ⟨#[]⟩) (.string ⟨#[]⟩)) #[.int .i64 2, .int .i64 0, .string ⟨#[]⟩, .string ⟨#[]⟩]) := HX1.out.put _ _ _ _
  unfold st4 at HP
  generalize ((((u1.setCell ⟨w.heap.size, 0, none⟩ (.int .i64 2)).setCell ⟨w.heap.size, 1, none⟩ (.int .i64 0)).setCell ⟨w.heap.size, 2, none⟩ (.string ⟨#[]⟩)).setCell ⟨w.heap.size, 3, none⟩ (.string ⟨#[]⟩)) = W9 at *
  obtain ⟨p0, p1, p2, p3, _⟩ := cel4d HP.out.box
  refine bodyPost_ret (v := .tuple #[.agg #[.int .i64 2, .int .i64 0, .string ⟨#[]⟩, .string ⟨#[]⟩], .slice none 0 0, .slice none 0 0]) (by simp [results, Try.results47, go_sem, p0, p1, p2, p3]) rfl ?_
  exact ⟨rfl, HP.out.bel⟩
set_option maxRecDepth 100000 in
set_option maxHeartbeats 4000000 in
theorem l11Dma_no (s : ByteArray) (root va size acc : Int) (w : World) (hs : ¬ 65536 < s.size) (hA : dmA s root va size = false) : Calls Try.prog 47 #[.string s, .int .i64 root, .int .i64 va, .int .i64 size, .int .i64 acc] w fun e w' => e = .returned (.tuple #[.agg #[.int .i64 1, .int .i64 0, .string ⟨#[]⟩, .string ⟨#[]⟩], .slice none 0 0, .slice none 0 0]) ∧ Below w.heap.size w w' := by
  have k0 : decide (65536 < (s.size : Int)) = false := decide_eq_false (by omega)
  have HX0 : Hid (DBx w (w.alloc (.cells #[.int .i64 0, .int .i64 0, .string ⟨#[]⟩, .string ⟨#[]⟩] 41)) #[.int .i64 0, .int .i64 0, .string ⟨#[]⟩, .string ⟨#[]⟩]) := DBx.new _ _
  have HMF : Hid (∀ u, Calls Try.prog 81 #[.string s] u fun e w' => e = .returned (.int .i64 (memC s)) ∧ w' = u) := fun u => specMemFault_any s u (by omega)
  have HA : Hid (dmA s root va size = false) := hA
  clear hs hA
  cases hm : memOk s
  · rw [memC_no hm] at HMF
    clear hm HA
    go_enter Try.func47, Try.ntmps47
    go_upto_region 4 with (go_at_call 81; refine Calls.mono (HMF.out _) ?_; rintro e u9 ⟨rfl, hu⟩; rw [hu]; clear hu)
    generalize (w.alloc (.cells #[.int .i64 0, .int .i64 0, .string ⟨#[]⟩, .string ⟨#[]⟩] 41)) = u1 at *
    have HX1 : Hid (DBx w u1 #[.int .i64 0, .int .i64 0, .string ⟨#[]⟩, .string ⟨#[]⟩]) := HX0.out
    obtain ⟨c0, c1, c2, c3, cf⟩ := cel4d HX1.out.box
    have cl := HX1.out.lt
    clear k0
    go_wp2
    have HP : Hid (DBx w (st4 u1 w.heap.size (.int .i64 1) (.int .i64 0) (.string ⟨#[]⟩) (.string ⟨#[]⟩)) #[.int .i64 1, .int .i64 0, .string ⟨#[]⟩, .string ⟨#[]⟩]) := HX1.out.put _ _ _ _
    unfold st4 at HP
    generalize ((((u1.setCell ⟨w.heap.size, 0, none⟩ (.int .i64 1)).setCell ⟨w.heap.size, 1, none⟩ (.int .i64 0)).setCell ⟨w.heap.size, 2, none⟩ (.string ⟨#[]⟩)).setCell ⟨w.heap.size, 3, none⟩ (.string ⟨#[]⟩)) = W9 at *
    obtain ⟨p0, p1, p2, p3, _⟩ := cel4d HP.out.box
    refine bodyPost_ret (v := .tuple #[.agg #[.int .i64 1, .int .i64 0, .string ⟨#[]⟩, .string ⟨#[]⟩], .slice none 0 0, .slice none 0 0]) (by simp [results, Try.results47, go_sem, p0, p1, p2, p3]) rfl ?_
    exact ⟨rfl, HP.out.bel⟩
  rw [memC_ok hm] at HMF
  cases k1 : decide (root < 0)
  rotate_left
  · clear HA
    go_enter Try.func47, Try.ntmps47
    go_upto_region 4 with (go_at_call 81; refine Calls.mono (HMF.out _) ?_; rintro e u9 ⟨rfl, hu⟩; rw [hu]; clear hu)
    generalize (w.alloc (.cells #[.int .i64 0, .int .i64 0, .string ⟨#[]⟩, .string ⟨#[]⟩] 41)) = u1 at *
    have HX1 : Hid (DBx w u1 #[.int .i64 0, .int .i64 0, .string ⟨#[]⟩, .string ⟨#[]⟩]) := HX0.out
    obtain ⟨c0, c1, c2, c3, cf⟩ := cel4d HX1.out.box
    have cl := HX1.out.lt
    clear k0 k1
    go_wp2
    have HP : Hid (DBx w (st4 u1 w.heap.size (.int .i64 1) (.int .i64 0) (.string ⟨#[]⟩) (.string ⟨#[]⟩)) #[.int .i64 1, .int .i64 0, .string ⟨#[]⟩, .string ⟨#[]⟩]) := HX1.out.put _ _ _ _
    unfold st4 at HP
    generalize ((((u1.setCell ⟨w.heap.size, 0, none⟩ (.int .i64 1)).setCell ⟨w.heap.size, 1, none⟩ (.int .i64 0)).setCell ⟨w.heap.size, 2, none⟩ (.string ⟨#[]⟩)).setCell ⟨w.heap.size, 3, none⟩ (.string ⟨#[]⟩)) = W9 at *
    obtain ⟨p0, p1, p2, p3, _⟩ := cel4d HP.out.box
    refine bodyPost_ret (v := .tuple #[.agg #[.int .i64 1, .int .i64 0, .string ⟨#[]⟩, .string ⟨#[]⟩], .slice none 0 0, .slice none 0 0]) (by simp [results, Try.results47, go_sem, p0, p1, p2, p3]) rfl ?_
    exact ⟨rfl, HP.out.bel⟩
  cases k2 : decide (255 < root)
  rotate_left
  · clear HA
    go_enter Try.func47, Try.ntmps47
    go_upto_region 4 with (go_at_call 81; refine Calls.mono (HMF.out _) ?_; rintro e u9 ⟨rfl, hu⟩; rw [hu]; clear hu)
    generalize (w.alloc (.cells #[.int .i64 0, .int .i64 0, .string ⟨#[]⟩, .string ⟨#[]⟩] 41)) = u1 at *
    have HX1 : Hid (DBx w u1 #[.int .i64 0, .int .i64 0, .string ⟨#[]⟩, .string ⟨#[]⟩]) := HX0.out
    obtain ⟨c0, c1, c2, c3, cf⟩ := cel4d HX1.out.box
    have cl := HX1.out.lt
    clear k0 k1 k2
    go_wp2
    have HP : Hid (DBx w (st4 u1 w.heap.size (.int .i64 1) (.int .i64 0) (.string ⟨#[]⟩) (.string ⟨#[]⟩)) #[.int .i64 1, .int .i64 0, .string ⟨#[]⟩, .string ⟨#[]⟩]) := HX1.out.put _ _ _ _
    unfold st4 at HP
    generalize ((((u1.setCell ⟨w.heap.size, 0, none⟩ (.int .i64 1)).setCell ⟨w.heap.size, 1, none⟩ (.int .i64 0)).setCell ⟨w.heap.size, 2, none⟩ (.string ⟨#[]⟩)).setCell ⟨w.heap.size, 3, none⟩ (.string ⟨#[]⟩)) = W9 at *
    obtain ⟨p0, p1, p2, p3, _⟩ := cel4d HP.out.box
    refine bodyPost_ret (v := .tuple #[.agg #[.int .i64 1, .int .i64 0, .string ⟨#[]⟩, .string ⟨#[]⟩], .slice none 0 0, .slice none 0 0]) (by simp [results, Try.results47, go_sem, p0, p1, p2, p3]) rfl ?_
    exact ⟨rfl, HP.out.bel⟩
  cases k3 : decide (va < 0)
  rotate_left
  · clear HA
    go_enter Try.func47, Try.ntmps47
    go_upto_region 4 with (go_at_call 81; refine Calls.mono (HMF.out _) ?_; rintro e u9 ⟨rfl, hu⟩; rw [hu]; clear hu)
    generalize (w.alloc (.cells #[.int .i64 0, .int .i64 0, .string ⟨#[]⟩, .string ⟨#[]⟩] 41)) = u1 at *
    have HX1 : Hid (DBx w u1 #[.int .i64 0, .int .i64 0, .string ⟨#[]⟩, .string ⟨#[]⟩]) := HX0.out
    obtain ⟨c0, c1, c2, c3, cf⟩ := cel4d HX1.out.box
    have cl := HX1.out.lt
    clear k0 k1 k2 k3
    go_wp2
    have HP : Hid (DBx w (st4 u1 w.heap.size (.int .i64 1) (.int .i64 0) (.string ⟨#[]⟩) (.string ⟨#[]⟩)) #[.int .i64 1, .int .i64 0, .string ⟨#[]⟩, .string ⟨#[]⟩]) := HX1.out.put _ _ _ _
    unfold st4 at HP
    generalize ((((u1.setCell ⟨w.heap.size, 0, none⟩ (.int .i64 1)).setCell ⟨w.heap.size, 1, none⟩ (.int .i64 0)).setCell ⟨w.heap.size, 2, none⟩ (.string ⟨#[]⟩)).setCell ⟨w.heap.size, 3, none⟩ (.string ⟨#[]⟩)) = W9 at *
    obtain ⟨p0, p1, p2, p3, _⟩ := cel4d HP.out.box
    refine bodyPost_ret (v := .tuple #[.agg #[.int .i64 1, .int .i64 0, .string ⟨#[]⟩, .string ⟨#[]⟩], .slice none 0 0, .slice none 0 0]) (by simp [results, Try.results47, go_sem, p0, p1, p2, p3]) rfl ?_
    exact ⟨rfl, HP.out.bel⟩
  cases k4 : decide (262144 ≤ va)
  rotate_left
  · clear HA
    go_enter Try.func47, Try.ntmps47
    go_upto_region 4 with (go_at_call 81; refine Calls.mono (HMF.out _) ?_; rintro e u9 ⟨rfl, hu⟩; rw [hu]; clear hu)
    generalize (w.alloc (.cells #[.int .i64 0, .int .i64 0, .string ⟨#[]⟩, .string ⟨#[]⟩] 41)) = u1 at *
    have HX1 : Hid (DBx w u1 #[.int .i64 0, .int .i64 0, .string ⟨#[]⟩, .string ⟨#[]⟩]) := HX0.out
    obtain ⟨c0, c1, c2, c3, cf⟩ := cel4d HX1.out.box
    have cl := HX1.out.lt
    clear k0 k1 k2 k3 k4
    go_wp2
    have HP : Hid (DBx w (st4 u1 w.heap.size (.int .i64 1) (.int .i64 0) (.string ⟨#[]⟩) (.string ⟨#[]⟩)) #[.int .i64 1, .int .i64 0, .string ⟨#[]⟩, .string ⟨#[]⟩]) := HX1.out.put _ _ _ _
    unfold st4 at HP
    generalize ((((u1.setCell ⟨w.heap.size, 0, none⟩ (.int .i64 1)).setCell ⟨w.heap.size, 1, none⟩ (.int .i64 0)).setCell ⟨w.heap.size, 2, none⟩ (.string ⟨#[]⟩)).setCell ⟨w.heap.size, 3, none⟩ (.string ⟨#[]⟩)) = W9 at *
    obtain ⟨p0, p1, p2, p3, _⟩ := cel4d HP.out.box
    refine bodyPost_ret (v := .tuple #[.agg #[.int .i64 1, .int .i64 0, .string ⟨#[]⟩, .string ⟨#[]⟩], .slice none 0 0, .slice none 0 0]) (by simp [results, Try.results47, go_sem, p0, p1, p2, p3]) rfl ?_
    exact ⟨rfl, HP.out.bel⟩
  cases k5 : decide (size < 0)
  rotate_left
  · clear HA
    go_enter Try.func47, Try.ntmps47
    go_upto_region 4 with (go_at_call 81; refine Calls.mono (HMF.out _) ?_; rintro e u9 ⟨rfl, hu⟩; rw [hu]; clear hu)
    generalize (w.alloc (.cells #[.int .i64 0, .int .i64 0, .string ⟨#[]⟩, .string ⟨#[]⟩] 41)) = u1 at *
    have HX1 : Hid (DBx w u1 #[.int .i64 0, .int .i64 0, .string ⟨#[]⟩, .string ⟨#[]⟩]) := HX0.out
    obtain ⟨c0, c1, c2, c3, cf⟩ := cel4d HX1.out.box
    have cl := HX1.out.lt
    clear k0 k1 k2 k3 k4 k5
    go_wp2
    have HP : Hid (DBx w (st4 u1 w.heap.size (.int .i64 1) (.int .i64 0) (.string ⟨#[]⟩) (.string ⟨#[]⟩)) #[.int .i64 1, .int .i64 0, .string ⟨#[]⟩, .string ⟨#[]⟩]) := HX1.out.put _ _ _ _
    unfold st4 at HP
    generalize ((((u1.setCell ⟨w.heap.size, 0, none⟩ (.int .i64 1)).setCell ⟨w.heap.size, 1, none⟩ (.int .i64 0)).setCell ⟨w.heap.size, 2, none⟩ (.string ⟨#[]⟩)).setCell ⟨w.heap.size, 3, none⟩ (.string ⟨#[]⟩)) = W9 at *
    obtain ⟨p0, p1, p2, p3, _⟩ := cel4d HP.out.box
    refine bodyPost_ret (v := .tuple #[.agg #[.int .i64 1, .int .i64 0, .string ⟨#[]⟩, .string ⟨#[]⟩], .slice none 0 0, .slice none 0 0]) (by simp [results, Try.results47, go_sem, p0, p1, p2, p3]) rfl ?_
    exact ⟨rfl, HP.out.bel⟩
  cases k6 : decide (65536 < size)
  rotate_left
  · clear HA
    go_enter Try.func47, Try.ntmps47
    go_upto_region 4 with (go_at_call 81; refine Calls.mono (HMF.out _) ?_; rintro e u9 ⟨rfl, hu⟩; rw [hu]; clear hu)
    generalize (w.alloc (.cells #[.int .i64 0, .int .i64 0, .string ⟨#[]⟩, .string ⟨#[]⟩] 41)) = u1 at *
    have HX1 : Hid (DBx w u1 #[.int .i64 0, .int .i64 0, .string ⟨#[]⟩, .string ⟨#[]⟩]) := HX0.out
    obtain ⟨c0, c1, c2, c3, cf⟩ := cel4d HX1.out.box
    have cl := HX1.out.lt
    clear k0 k1 k2 k3 k4 k5 k6
    go_wp2
    have HP : Hid (DBx w (st4 u1 w.heap.size (.int .i64 1) (.int .i64 0) (.string ⟨#[]⟩) (.string ⟨#[]⟩)) #[.int .i64 1, .int .i64 0, .string ⟨#[]⟩, .string ⟨#[]⟩]) := HX1.out.put _ _ _ _
    unfold st4 at HP
    generalize ((((u1.setCell ⟨w.heap.size, 0, none⟩ (.int .i64 1)).setCell ⟨w.heap.size, 1, none⟩ (.int .i64 0)).setCell ⟨w.heap.size, 2, none⟩ (.string ⟨#[]⟩)).setCell ⟨w.heap.size, 3, none⟩ (.string ⟨#[]⟩)) = W9 at *
    obtain ⟨p0, p1, p2, p3, _⟩ := cel4d HP.out.box
    refine bodyPost_ret (v := .tuple #[.agg #[.int .i64 1, .int .i64 0, .string ⟨#[]⟩, .string ⟨#[]⟩], .slice none 0 0, .slice none 0 0]) (by simp [results, Try.results47, go_sem, p0, p1, p2, p3]) rfl ?_
    exact ⟨rfl, HP.out.bel⟩
  have b1 := of_decide_eq_false k1
  have b2 := of_decide_eq_false k2
  have b3 := of_decide_eq_false k3
  have b4 := of_decide_eq_false k4
  have b5 := of_decide_eq_false k5
  have b6 := of_decide_eq_false k6
  obtain ⟨E, hE⟩ : ∃ E, va + size = E := ⟨_, rfl⟩
  have hE0 : 0 ≤ E := by omega
  have hE1 : E ≤ 400000 := by omega
  have k7 : decide (262144 < E) = true := by
    apply decide_eq_true
    have h9 := HA.out
    simp only [dmA, hm, Bool.true_and, Bool.and_eq_false_iff, decide_eq_false_iff_not] at h9
    omega
  clear HA b1 b2 b3 b4 b5 b6
  go_enter Try.func47, Try.ntmps47
  go_upto_region 4 with (go_at_call 81; refine Calls.mono (HMF.out _) ?_; rintro e u9 ⟨rfl, hu⟩; rw [hu]; clear hu)
  generalize (w.alloc (.cells #[.int .i64 0, .int .i64 0, .string ⟨#[]⟩, .string ⟨#[]⟩] 41)) = u1 at *
  have HX1 : Hid (DBx w u1 #[.int .i64 0, .int .i64 0, .string ⟨#[]⟩, .string ⟨#[]⟩]) := HX0.out
  obtain ⟨c0, c1, c2, c3, cf⟩ := cel4d HX1.out.box
  have cl := HX1.out.lt
  clear k0 k1 k2 k3 k4 k5 k6 k7 hE0 hE1
  go_wp2
  have HP : Hid (DBx w (st4 u1 w.heap.size (.int .i64 1) (.int .i64 0) (.string ⟨#[]⟩) (.string ⟨#[]⟩)) #[.int .i64 1, .int .i64 0, .string ⟨#[]⟩, .string ⟨#[]⟩]) := HX1.out.put _ _ _ _
  unfold st4 at HP
  generalize ((((u1.setCell ⟨w.heap.size, 0, none⟩ (.int .i64 1)).setCell ⟨w.heap.size, 1, none⟩ (.int .i64 0)).setCell ⟨w.heap.size, 2, none⟩ (.string ⟨#[]⟩)).setCell ⟨w.heap.size, 3, none⟩ (.string ⟨#[]⟩)) = W9 at *
  obtain ⟨p0, p1, p2, p3, _⟩ := cel4d HP.out.box
  refine bodyPost_ret (v := .tuple #[.agg #[.int .i64 1, .int .i64 0, .string ⟨#[]⟩, .string ⟨#[]⟩], .slice none 0 0, .slice none 0 0]) (by simp [results, Try.results47, go_sem, p0, p1, p2, p3]) rfl ?_
  exact ⟨rfl, HP.out.bel⟩

/-- How the four ways of a device's asking end. -/
inductive LQ (s : ByteArray) (root va size acc : Int) : Int → Int → ByteArray → List BU → Prop where
  | big (h : 65536 < s.size) : LQ s root va size acc 2 0 ⟨#[]⟩ []
  | no (h : ¬ 65536 < s.size) (hA : dmA s root va size = false) : LQ s root va size acc 1 0 ⟨#[]⟩ []
  | bad (h : ¬ 65536 < s.size) (hA : dmA s root va size = true) (hb : (dmK root.toNat acc size.toNat s va.toNat size.toNat).bad = true) : LQ s root va size acc 7 (dmK root.toNat acc size.toNat s va.toNat size.toNat).va ⟨#[]⟩ []
  | good (h : ¬ 65536 < s.size) (hA : dmA s root va size = true) (hb : (dmK root.toNat acc size.toNat s va.toNat size.toNat).bad = false) : LQ s root va size acc 0 0 (dmK root.toNat acc size.toNat s va.toNat size.toNat).mem (dmK root.toNat acc size.toNat s va.toNat size.toNat).zs
theorem l11_any (s : ByteArray) (root va size acc : Int) (w : World) (ha1 : 1 ≤ acc) (ha2 : acc ≤ 2) :
    Calls Try.prog 47 #[.string s, .int .i64 root, .int .i64 va, .int .i64 size, .int .i64 acc] w fun e w' => ∃ cd pos m zs a1 c1 a2 c2, e = .returned (.tuple #[.agg #[.int .i64 cd, .int .i64 pos, .string ⟨#[]⟩, .string m], .slice a1 zs.length c1, .slice a2 zs.length c2]) ∧ Irow w' (.slice a1 zs.length c1) (zs.map (fun z => z.pos)) ∧ Irow w' (.slice a2 zs.length c2) (zs.map (fun z => z.len)) ∧ Below w.heap.size w w' ∧ LQ s root va size acc cd pos m zs := by
  by_cases hs : 65536 < s.size
  · refine (l11Dma_size s root va size acc w hs).mono ?_
    rintro e w' ⟨rfl, hb⟩
    exact ⟨2, 0, ⟨#[]⟩, [], none, 0, none, 0, rfl, .inl ⟨rfl, _, _, rfl⟩, .inl ⟨rfl, _, _, rfl⟩, hb, .big hs⟩
  cases hA : dmA s root va size
  · refine (l11Dma_no s root va size acc w hs hA).mono ?_
    rintro e w' ⟨rfl, hb⟩
    exact ⟨1, 0, ⟨#[]⟩, [], none, 0, none, 0, rfl, .inl ⟨rfl, _, _, rfl⟩, .inl ⟨rfl, _, _, rfl⟩, hb, .no hs hA⟩
  obtain ⟨m1, r0, r1, v0, v1, z0, z1, t1⟩ := dmA_ok hA
  obtain ⟨RT, rfl⟩ := Int.eq_ofNat_of_zero_le r0
  obtain ⟨VA, rfl⟩ := Int.eq_ofNat_of_zero_le v0
  obtain ⟨SZ, rfl⟩ := Int.eq_ofNat_of_zero_le z0
  refine (l11Dma_ok s RT VA SZ acc w hA ha1 ha2 _ rfl).mono ?_
  rintro e w' ⟨hb, ⟨hbad, rfl⟩ | ⟨hbad, a1, c1, a2, c2, rfl, o1, o2⟩⟩
  · exact ⟨7, _, ⟨#[]⟩, [], none, 0, none, 0, rfl, .inl ⟨rfl, _, _, rfl⟩, .inl ⟨rfl, _, _, rfl⟩, hb, .bad hs hA hbad⟩
  · refine ⟨0, 0, _, _, a1, c1, a2, c2, rfl, ?_, ?_, hb, .good hs hA hbad⟩
    · have := Irow.of (v := .slice a1 (dmK RT acc SZ s VA SZ).zs.length c1) (zs := (dmK RT acc SZ s VA SZ).zs.map (fun z => z.pos)) (B := w.heap.size + 1) (by rw [List.length_map]; exact o1)
      exact this
    · have := Irow.of (v := .slice a2 (dmK RT acc SZ s VA SZ).zs.length c2) (zs := (dmK RT acc SZ s VA SZ).zs.map (fun z => z.len)) (B := w.heap.size + 1) (by rw [List.length_map]; exact o2)
      exact this
/-- A box that was laid behind u0. -/
structure BQ (u0 u : World) (cs : Array Value) : Prop where
  bel : Below u0.heap.size u0 u
  box : u.heap[u0.heap.size]? = some (.cells cs 41 (0, 0))
theorem BQ.lt {u0 u : World} {cs : Array Value} (h : BQ u0 u cs) : u0.heap.size < u.heap.size := (Array.getElem?_eq_some_iff.1 h.box).1
theorem BQ.new (w : World) (cs : Array Value) : BQ w (w.alloc (.cells cs 41)) cs := ⟨(Below.refl _ _).alloc (Nat.le_refl _) _, (MapKept.heap_alloc w _).1⟩
theorem BQ.drew9 {u0 u : World} {cs : Array Value} (h : BQ u0 u cs) : BQ u0 u.drew cs := ⟨h.bel.trans ((Below.refl u.heap.size u).drew.mono h.bel.size), h.box⟩
theorem BQ.put {u0 u : World} {cs : Array Value} (h : BQ u0 u cs) (k : Nat) (v : Value) : BQ u0 (u.setCell ⟨u0.heap.size, k, none⟩ v) (cs.setIfInBounds k v) :=
  ⟨h.bel.setCell (p := ⟨u0.heap.size, k, none⟩) (Nat.le_refl _) _, blkD h.box k v⟩
theorem irow_at {w : World} {ao : Option Addr} {n cp : Nat} {f : BU → Int} {zs : List BU} (h : Irow w (.slice ao n cp) (zs.map f)) (hz : n = zs.length) (h0 : 0 < zs.length) : ∃ g o, ao = some ⟨g, o, none⟩ ∧ g < w.heap.size ∧ ∀ k (hk : k < zs.length), w.cell? ⟨g, o + k, none⟩ = some (.int .i64 (f zs[k])) := by
  rcases h with ⟨h1, _⟩ | ⟨g, o, c, hv, _, hg, hat⟩
  · rw [List.map_eq_nil_iff] at h1
    subst h1
    cases h0
  · injection hv with e1
    refine ⟨g, o, e1, hg, fun k hk => ?_⟩
    have := hat k (by rw [List.length_map]; exact hk)
    simpa using this
set_option maxRecDepth 100000 in
set_option maxHeartbeats 8000000 in
theorem specDmaRead_any (s : ByteArray) (root va size : Int) (w : World) (hs : s.size ≤ 1048576) :
    Calls Try.prog 19 #[.string s, .int .i64 root, .int .i64 va, .int .i64 size] w fun e w' => e = .returned (dvA (drV s root va size)) ∧ Below w.heap.size w w' := by
  have HX0 : Hid (DBx w (w.alloc (.cells #[.int .i64 0, .int .i64 0, .string ⟨#[]⟩, .string ⟨#[]⟩] 41)) #[.int .i64 0, .int .i64 0, .string ⟨#[]⟩, .string ⟨#[]⟩]) := DBx.new _ _
  have HL : Hid _ := fun u => l11_any s root va size 1 u (by omega) (by omega)
  obtain ⟨X, hX⟩ : ∃ X, drV s root va size = X := ⟨_, rfl⟩
  rw [hX]
  have HXE : Hid (drV s root va size = X) := hX
  clear hX
  go_enter Try.func19, Try.ntmps19
  go_wp2_with fail
  generalize (w.alloc (.cells #[.int .i64 0, .int .i64 0, .string ⟨#[]⟩, .string ⟨#[]⟩] 41)) = u0 at *
  refine Calls.mono (HL.out u0) ?_
  rintro e u1 ⟨cd, pos, m, zs, a1, c1, a2, c2, rfl, r1, r2, hb1, hq⟩
  have HX1 : Hid (DBx w u1 #[.int .i64 0, .int .i64 0, .string ⟨#[]⟩, .string ⟨#[]⟩]) := HX0.out.step hb1
  have HR1 : Hid (Irow u1 (.slice a1 zs.length c1) (zs.map (fun z => z.pos))) := r1
  have HR2 : Hid (Irow u1 (.slice a2 zs.length c2) (zs.map (fun z => z.len))) := r2
  have HB9 : Hid (BQ u1 (u1.alloc (.cells #[.int .i64 cd, .int .i64 pos, .string ⟨#[]⟩, .string m] 41)) #[.int .i64 cd, .int .i64 pos, .string ⟨#[]⟩, .string m]) := BQ.new _ _
  have HFI : Hid (X = ⟨cd, pos, tx (catB (gaP m zs)), m⟩ ∧ m.size ≤ 65536 ∧ ∀ z ∈ zs, inW m.size z.pos z.len = true ∧ z.write = false) := (by
    rw [← HXE.out]
    cases hq with
    | big h => exact ⟨by unfold drV; rw [if_pos h]; rfl, by decide, by simp⟩
    | no h hA => exact ⟨by unfold drV; rw [if_neg h, if_pos hA]; rfl, by decide, by simp⟩
    | bad h hA hb => exact ⟨by unfold drV; rw [if_neg h, if_neg (by rw [hA]; simp), if_pos hb]; rfl, by decide, by simp⟩
    | good h hA hb =>
      obtain ⟨m1, r0, r1, v0, v1, z0, z1, t1⟩ := dmA_ok hA
      have hsz := dmK_size root.toNat 1 size.toNat s va.toNat size.toNat (by omega)
      refine ⟨by unfold drV; rw [if_neg h, if_neg (by rw [hA]; simp), if_neg (by rw [hb]; simp)], by rw [hsz]; omega, fun z hz => ?_⟩
      have h9 := dmK_in root.toNat 1 size.toNat s va.toNat size.toNat (by omega) z hz
      rw [hsz]
      exact ⟨h9.1, h9.2⟩)
  have HZL : Hid (zs.length ≤ 300) := (show zs.length ≤ 300 by
    cases hq with
    | big h => simp
    | no h hA => simp
    | bad h hA hb => simp
    | good h hA hb =>
      obtain ⟨m1, r0, r1, v0, v1, z0, z1, t1⟩ := dmA_ok hA
      have := dmK_len root.toNat 1 size.toNat s va.toNat size.toNat
      omega)
  clear r1 r2 hb1 hq HX0 HL hs
  go_wp2
  generalize (u1.alloc (.cells #[.int .i64 cd, .int .i64 pos, .string ⟨#[]⟩, .string m] 41)) = W at *
  go_loopw [12] (fun vi wr => ∃ k : Nat, k ≤ zs.length ∧ vi = .int .i64 k ∧ BQ u1 wr #[.int .i64 cd, .int .i64 pos, .string (tx (catB (gaP m (zs.take k)))), .string m]) (fun vi _ => zs.length - (intOf vi).toNat)
  case atStart => exact ⟨0, Nat.zero_le _, rfl, by simpa [gaP, catB, tx] using HB9.out⟩
  case round =>
    obtain ⟨k, hk, rfl, hbq⟩ := hrel
    have HB : Hid (BQ u1 wr #[.int .i64 cd, .int .i64 pos, .string (tx (catB (gaP m (zs.take k)))), .string m]) := hbq
    clear hbq HB9
    by_cases hkl : k < zs.length
    rotate_left
    · have e2 : decide ((k : Int) < (zs.length : Int)) = false := decide_eq_false (by omega)
      have hkk : zs.take k = zs := List.take_of_length_le (by omega)
      rw [hkk] at HB
      obtain ⟨D, hD⟩ : ∃ D, tx (catB (gaP m zs)) = D := ⟨_, rfl⟩
      rw [hD] at HB HFI
      have HX9 : Hid (DBx w wr #[.int .i64 0, .int .i64 0, .string ⟨#[]⟩, .string ⟨#[]⟩]) := HX1.out.step HB.out.bel
      obtain ⟨c0, c1, c2, c3, cf⟩ := cel4d HX9.out.box
      have cl := HX9.out.lt
      obtain ⟨f0, f1, f2, f3, _⟩ := cel4d HB.out.box
      have fl := HB.out.lt
      clear hkk hD
      go_wp2
      have HP : Hid (DBx w (st4 wr w.heap.size (.int .i64 cd) (.int .i64 pos) (.string D) (.string m)) #[.int .i64 cd, .int .i64 pos, .string D, .string m]) := HX9.out.put _ _ _ _
      unfold st4 at HP
      generalize ((((wr.setCell ⟨w.heap.size, 0, none⟩ (.int .i64 cd)).setCell ⟨w.heap.size, 1, none⟩ (.int .i64 pos)).setCell ⟨w.heap.size, 2, none⟩ (.string D)).setCell ⟨w.heap.size, 3, none⟩ (.string m)) = W9 at *
      obtain ⟨p0, p1, p2, p3, _⟩ := cel4d HP.out.box
      refine bodyPost_ret (v := .agg #[.int .i64 cd, .int .i64 pos, .string D, .string m]) (by simp [results, Try.results19, go_sem, p0, p1, p2, p3]) rfl ?_
      refine ⟨?_, HP.out.bel⟩
      rw [HFI.out.1]
      rfl
    · have e2 : decide ((k : Int) < (zs.length : Int)) = true := decide_eq_true (by omega)
      have e3 : (0 : Int) ≤ (k : Int) := by omega
      have e4 : (k : Int) < (zs.length : Int) := by omega
      have hz3 : (zs.length : Int) ≤ 300 := by have := HZL.out; omega
      obtain ⟨g1, o1, rfl, gl1, hc1⟩ := irow_at HR1.out rfl (by omega)
      obtain ⟨g2, o2, rfl, gl2, hc2⟩ := irow_at HR2.out rfl (by omega)
      obtain ⟨z, hz⟩ : ∃ z, zs[k] = z := ⟨_, rfl⟩
      obtain ⟨hin, hwr⟩ := HFI.out.2.2 z (by rw [← hz]; exact List.getElem_mem _)
      obtain ⟨i1, i2, i3⟩ := inW_iff.1 hin
      obtain ⟨P, hP⟩ := Int.eq_ofNat_of_zero_le i1
      obtain ⟨L, hL⟩ := Int.eq_ofNat_of_zero_le i2
      have hcx := hc1 k hkl
      have hcy := hc2 k hkl
      rw [hz] at hcx hcy
      rw [hP] at hcx
      rw [hL] at hcy
      have HCX : Hid (∀ u, Below u1.heap.size u1 u → u.cell? ⟨g1, o1 + k, none⟩ = some (.int .i64 (P : Int)) ∧ u.cell? ⟨g2, o2 + k, none⟩ = some (.int .i64 (L : Int)) ∧ g1 < u.heap.size ∧ g2 < u.heap.size) := fun u hu => ⟨(World.cell?_of_block (hu.block g1 gl1)).trans hcx, (World.cell?_of_block (hu.block g2 gl2)).trans hcy, Nat.lt_of_lt_of_le gl1 hu.size, Nat.lt_of_lt_of_le gl2 hu.size⟩
      obtain ⟨D, hD⟩ : ∃ D, tx (catB (gaP m (zs.take k))) = D := ⟨_, rfl⟩
      rw [hD] at HB
      have hps : P + L ≤ m.size := by omega
      have HND : Hid (tx (catB (gaP m (zs.take (k + 1)))) = D ++ m.extract P (P + L)) := (show _ = _ by
        rw [List.take_succ_eq_append_getElem hkl, hz, gaP_app, gaP_one, hwr, if_neg (by simp), catB_app, catB_one, ← tx_app, hD]
        unfold pce
        rw [hP, hL]
        simp only [Int.toNat_natCast]
        rw [show ((P : Int) + (L : Int)).toNat = P + L by omega])
      have hms := HFI.out.2.1
      have hsl := fun u => slBoth m P (P + L) (P : Int) ((P : Int) + (L : Int)) rfl (by omega) (by omega) hps u
      have hPL : IntKind.i64.wrap ((P : Int) + (L : Int)) = (P : Int) + (L : Int) := by rw [IntKind.wrap_i64]; omega
      obtain ⟨T, hT⟩ : ∃ T, m.extract P (P + L) = T := ⟨_, rfl⟩
      rw [hT] at hsl HND
      have hDs : D.size ≤ 65536000 := by
        have h1 := rmN_cat m (zs.take k) (fun z hz => (HFI.out.2.2 z (List.mem_of_mem_take hz)).1)
        have h2 := rmN_tb zs (fun z hz => by have := inW_iff.1 (HFI.out.2.2 z hz).1; omega) (by have := HZL.out; omega) k
        have h3 : D.size = (catB (gaP m (zs.take k))).length := by rw [← hD]; simp [tx, ByteArray.size]
        omega
      have hTs : T.size ≤ 65536 := by rw [← hT, ByteArray.size_extract]; omega
      have hadd := fun u => run_string_add_sum (P := Try.prog) u D T (by omega)
      have HBD : Hid (BQ u1 wr.drew #[.int .i64 cd, .int .i64 pos, .string D, .string m]) := HB.out.drew9
      clear hc1 hc2 hcx hcy hD hT hin hwr i1 i2 i3 hP hL hz gl1 gl2 hms hps
      go_upto_region 5 with fail
      refine AnyE.start (fun w9 => BQ u1 w9 #[.int .i64 cd, .int .i64 pos, .string D, .string m]) [20] (by kernel_rfl) ?_
      refine AnyE.take (i := 0) (v := .pointer (some ⟨u1.heap.size, 2, none⟩)) rfl (by kernel_rfl) (by kernel_rfl) (by kernel_rfl) (by kernel_rfl) (by kernel_rfl) (fun _ _ _ h => h) (Or.inl ⟨by kernel_rfl, fun w9 h9 => ?_⟩) HBD.out ?_
      · go_simp
      refine AnyE.take (i := 1) (v := .string D) rfl (by kernel_rfl) (by kernel_rfl) (by kernel_rfl) (by kernel_rfl) (by kernel_rfl) (fun _ _ _ h => h) (Or.inl ⟨by kernel_rfl, fun w9 h9 => ?_⟩) HBD.out ?_
      · obtain ⟨x0, x1, x2, x3⟩ := HCX.out _ h9.bel; obtain ⟨f0, f1, f2, f3, _⟩ := cel4d h9.box; have fl := h9.lt; go_simp
      refine AnyE.take (i := 2) (v := .pointer (some ⟨u1.heap.size, 3, none⟩)) rfl (by kernel_rfl) (by kernel_rfl) (by kernel_rfl) (by kernel_rfl) (by kernel_rfl) (fun _ _ _ h => h) (Or.inl ⟨by kernel_rfl, fun w9 h9 => ?_⟩) HBD.out ?_
      · go_simp
      refine AnyE.take (i := 3) (v := .string m) rfl (by kernel_rfl) (by kernel_rfl) (by kernel_rfl) (by kernel_rfl) (by kernel_rfl) (fun _ _ _ h => h) (Or.inl ⟨by kernel_rfl, fun w9 h9 => ?_⟩) HBD.out ?_
      · obtain ⟨x0, x1, x2, x3⟩ := HCX.out _ h9.bel; obtain ⟨f0, f1, f2, f3, _⟩ := cel4d h9.box; have fl := h9.lt; go_simp
      refine AnyE.take (i := 4) (v := .slice (some ⟨g1, o1, none⟩) zs.length c1) rfl (by kernel_rfl) (by kernel_rfl) (by kernel_rfl) (by kernel_rfl) (by kernel_rfl) (fun _ _ _ h => h) (Or.inl ⟨by kernel_rfl, fun w9 h9 => ?_⟩) HBD.out ?_
      · go_simp
      refine AnyE.take (i := 5) (v := .int .i64 (k : Int)) rfl (by kernel_rfl) (by kernel_rfl) (by kernel_rfl) (by kernel_rfl) (by kernel_rfl) (fun _ _ _ h => h) (Or.inl ⟨by kernel_rfl, fun w9 h9 => ?_⟩) HBD.out ?_
      · go_simp
      refine AnyE.take (i := 6) (v := .pointer (some ⟨g1, o1 + k, none⟩)) rfl (by kernel_rfl) (by kernel_rfl) (by kernel_rfl) (by kernel_rfl) (by kernel_rfl) (fun _ _ _ h => h) (Or.inl ⟨by kernel_rfl, fun w9 h9 => ?_⟩) HBD.out ?_
      · go_simp
      refine AnyE.take (i := 7) (v := .int .i64 (P : Int)) rfl (by kernel_rfl) (by kernel_rfl) (by kernel_rfl) (by kernel_rfl) (by kernel_rfl) (fun _ _ _ h => h) (Or.inl ⟨by kernel_rfl, fun w9 h9 => ?_⟩) HBD.out ?_
      · obtain ⟨x0, x1, x2, x3⟩ := HCX.out _ h9.bel; obtain ⟨f0, f1, f2, f3, _⟩ := cel4d h9.box; have fl := h9.lt; go_simp
      refine AnyE.take (i := 8) (v := .slice (some ⟨g1, o1, none⟩) zs.length c1) rfl (by kernel_rfl) (by kernel_rfl) (by kernel_rfl) (by kernel_rfl) (by kernel_rfl) (fun _ _ _ h => h) (Or.inl ⟨by kernel_rfl, fun w9 h9 => ?_⟩) HBD.out ?_
      · go_simp
      refine AnyE.take (i := 9) (v := .int .i64 (k : Int)) rfl (by kernel_rfl) (by kernel_rfl) (by kernel_rfl) (by kernel_rfl) (by kernel_rfl) (fun _ _ _ h => h) (Or.inl ⟨by kernel_rfl, fun w9 h9 => ?_⟩) HBD.out ?_
      · go_simp
      refine AnyE.take (i := 10) (v := .pointer (some ⟨g1, o1 + k, none⟩)) rfl (by kernel_rfl) (by kernel_rfl) (by kernel_rfl) (by kernel_rfl) (by kernel_rfl) (fun _ _ _ h => h) (Or.inl ⟨by kernel_rfl, fun w9 h9 => ?_⟩) HBD.out ?_
      · go_simp
      refine AnyE.take (i := 11) (v := .int .i64 (P : Int)) rfl (by kernel_rfl) (by kernel_rfl) (by kernel_rfl) (by kernel_rfl) (by kernel_rfl) (fun _ _ _ h => h) (Or.inl ⟨by kernel_rfl, fun w9 h9 => ?_⟩) HBD.out ?_
      · obtain ⟨x0, x1, x2, x3⟩ := HCX.out _ h9.bel; obtain ⟨f0, f1, f2, f3, _⟩ := cel4d h9.box; have fl := h9.lt; go_simp
      refine AnyE.take (i := 12) (v := .slice (some ⟨g2, o2, none⟩) zs.length c2) rfl (by kernel_rfl) (by kernel_rfl) (by kernel_rfl) (by kernel_rfl) (by kernel_rfl) (fun _ _ _ h => h) (Or.inl ⟨by kernel_rfl, fun w9 h9 => ?_⟩) HBD.out ?_
      · go_simp
      refine AnyE.take (i := 13) (v := .int .i64 (k : Int)) rfl (by kernel_rfl) (by kernel_rfl) (by kernel_rfl) (by kernel_rfl) (by kernel_rfl) (fun _ _ _ h => h) (Or.inl ⟨by kernel_rfl, fun w9 h9 => ?_⟩) HBD.out ?_
      · go_simp
      refine AnyE.take (i := 14) (v := .pointer (some ⟨g2, o2 + k, none⟩)) rfl (by kernel_rfl) (by kernel_rfl) (by kernel_rfl) (by kernel_rfl) (by kernel_rfl) (fun _ _ _ h => h) (Or.inl ⟨by kernel_rfl, fun w9 h9 => ?_⟩) HBD.out ?_
      · go_simp
      refine AnyE.take (i := 15) (v := .int .i64 (L : Int)) rfl (by kernel_rfl) (by kernel_rfl) (by kernel_rfl) (by kernel_rfl) (by kernel_rfl) (fun _ _ _ h => h) (Or.inl ⟨by kernel_rfl, fun w9 h9 => ?_⟩) HBD.out ?_
      · obtain ⟨x0, x1, x2, x3⟩ := HCX.out _ h9.bel; obtain ⟨f0, f1, f2, f3, _⟩ := cel4d h9.box; have fl := h9.lt; go_simp
      refine AnyE.take (i := 16) (v := .int .i64 ((P : Int) + (L : Int))) rfl (by kernel_rfl) (by kernel_rfl) (by kernel_rfl) (by kernel_rfl) (by kernel_rfl) (fun _ _ _ h => h) (Or.inl ⟨by kernel_rfl, fun w9 h9 => ?_⟩) HBD.out ?_
      · go_simp
      refine AnyE.take (i := 17) (v := .string T) rfl (by kernel_rfl) (by kernel_rfl) (by kernel_rfl) (by kernel_rfl) (by kernel_rfl) (fun _ _ _ h => h) (Or.inl ⟨by kernel_rfl, fun w9 h9 => ?_⟩) HBD.out ?_
      · go_simp
      refine AnyE.take (i := 18) (v := .string (D ++ T)) rfl (by kernel_rfl) (by kernel_rfl) (by kernel_rfl) (by kernel_rfl) (by kernel_rfl) (fun _ _ _ h => h) (Or.inl ⟨by kernel_rfl, fun w9 h9 => ?_⟩) HBD.out ?_
      · go_simp
      refine AnyE.take (i := 19) (v := .pointer (some ⟨u1.heap.size, 2, none⟩)) rfl (by kernel_rfl) (by kernel_rfl) (by kernel_rfl) (by kernel_rfl) (by kernel_rfl) (fun _ _ _ h => h) (Or.inl ⟨by kernel_rfl, fun w9 h9 => ?_⟩) HBD.out ?_
      · go_simp
      obtain ⟨f0, f1, f2, f3, ff⟩ := cel4d HBD.out.box
      have fl := HBD.out.lt
      refine AnyE.one 20 (by kernel_rfl) rfl (by kernel_rfl) fun K hK => ?_
      go_simp
      skip
      refine hK _ _ (fun h => absurd (by decide) h) ?_
      clear hK K
      refine AnyE.done (by kernel_rfl) ?_ _
      go_simp
      go_wp2
      refine ⟨⟨k + 1, by omega, by go_num, ?_⟩, by simp [intOf]; omega⟩
      have h9 := HBD.out.put 2 (.string (D ++ T))
      rw [HND.out]
      exact h9

set_option maxRecDepth 100000 in
set_option maxHeartbeats 4000000 in
theorem eqDma_ok (x : DMv) (w : World) : Calls Try.prog 21 #[dvA x, dvA x] w fun e w' => e = .returned (.bool true) ∧ Below w.heap.size w w' := by
  unfold dvA
  have h0 : (x.code != x.code) = false := by simp
  have h1 : (x.pos != x.pos) = false := by simp
  have h2 : (x.data.toList != x.data.toList) = false := by simp
  have h3 : (x.mem.toList != x.mem.toList) = false := by simp
  go_enter Try.func21, Try.ntmps21
  go_wp2
  go_ret
  exact ⟨rfl, ((Below.refl _ _).alloc (Nat.le_refl _) _).alloc (by simp) _⟩
set_option maxRecDepth 100000 in
set_option maxHeartbeats 4000000 in
theorem walkDR (s : ByteArray) (root va size : Int) (w : World) (hs : s.size ≤ 1048576) :
    Calls Try.prog 4 #[.string s, .int .i64 root, .int .i64 va, .int .i64 size] w fun e w' => e = .returned (.bool true) ∧ Below w.heap.size w w' := by
  have e0 : decide (1048576 < (s.size : Int)) = false := decide_eq_false (by omega)
  obtain ⟨X, hX⟩ : ∃ X, drV s root va size = X := ⟨_, rfl⟩
  have HI : Hid (∀ u, Calls Try.prog 20 #[.string s, .int .i64 root, .int .i64 va, .int .i64 size] u fun e w' => e = .returned (.agg #[.int .i64 X.code, .int .i64 X.pos, .string X.data, .string X.mem]) ∧ Below u.heap.size u w') := fun u => by
    have h9 := implDmaRead_any s root va size u hs
    rw [hX] at h9
    exact h9
  have HS : Hid (∀ u, Calls Try.prog 19 #[.string s, .int .i64 root, .int .i64 va, .int .i64 size] u fun e w' => e = .returned (.agg #[.int .i64 X.code, .int .i64 X.pos, .string X.data, .string X.mem]) ∧ Below u.heap.size u w') := fun u => by
    have h9 := specDmaRead_any s root va size u hs
    rw [hX] at h9
    exact h9
  have HE : Hid (∀ u, Calls Try.prog 21 #[.agg #[.int .i64 X.code, .int .i64 X.pos, .string X.data, .string X.mem], .agg #[.int .i64 X.code, .int .i64 X.pos, .string X.data, .string X.mem]] u fun e w' => e = .returned (.bool true) ∧ Below u.heap.size u w') := fun u => eqDma_ok X u
  clear hX hs
  go_enter Try.func4, Try.ntmps4
  go_upto_region 4 with (go_at_call 19; refine Calls.mono (HS.out _) ?_; rintro e u1 ⟨rfl, hb1⟩; have HB1 : Hid (Below w.heap.size w (u1.alloc (.cells #[.int .i64 X.code, .int .i64 X.pos, .string X.data, .string X.mem] 41))) := hb1.alloc hb1.size _; have HY1 : Hid ((u1.alloc (.cells #[.int .i64 X.code, .int .i64 X.pos, .string X.data, .string X.mem] 41)).heap[u1.heap.size]? = some (.cells #[.int .i64 X.code, .int .i64 X.pos, .string X.data, .string X.mem] 41 (0, 0))) := (MapKept.heap_alloc u1 _).1; clear hb1)
  clear e0
  generalize (u1.alloc (.cells #[.int .i64 X.code, .int .i64 X.pos, .string X.data, .string X.mem] 41)) = u2 at *
  generalize u1.heap.size = b1 at *
  go_upto_region 5 with (go_at_call 20; refine Calls.mono (HI.out _) ?_; rintro e u3 ⟨rfl, hb3⟩; have HB3 : Hid (Below w.heap.size w (u3.alloc (.cells #[.int .i64 X.code, .int .i64 X.pos, .string X.data, .string X.mem] 41))) := (HB1.out.trans (hb3.mono HB1.out.size)).alloc (HB1.out.trans (hb3.mono HB1.out.size)).size _; have HY3 : Hid ((u3.alloc (.cells #[.int .i64 X.code, .int .i64 X.pos, .string X.data, .string X.mem] 41)).heap[u3.heap.size]? = some (.cells #[.int .i64 X.code, .int .i64 X.pos, .string X.data, .string X.mem] 41 (0, 0))) := (MapKept.heap_alloc u3 _).1; have HY2 : Hid ((u3.alloc (.cells #[.int .i64 X.code, .int .i64 X.pos, .string X.data, .string X.mem] 41)).heap[b1]? = some (.cells #[.int .i64 X.code, .int .i64 X.pos, .string X.data, .string X.mem] 41 (0, 0))) := (((MapKept.heap_alloc u3 _).2 _ (Nat.lt_of_lt_of_le (Array.getElem?_eq_some_iff.1 HY1.out).1 hb3.size)).trans (hb3.block _ (Array.getElem?_eq_some_iff.1 HY1.out).1)).trans HY1.out; clear hb3)
  generalize (u3.alloc (.cells #[.int .i64 X.code, .int .i64 X.pos, .string X.data, .string X.mem] 41)) = u4 at *
  generalize u3.heap.size = b3 at *
  obtain ⟨f0, f1, f2, f3, _⟩ := cel4d HY2.out
  have fl := (Array.getElem?_eq_some_iff.1 HY2.out).1
  obtain ⟨g0, g1, g2, g3, _⟩ := cel4d HY3.out
  have gl := (Array.getElem?_eq_some_iff.1 HY3.out).1
  go_wp2_with fail
  refine Calls.mono (HE.out _) ?_
  rintro e u5 ⟨rfl, hb5⟩
  have HB5 : Hid (Below w.heap.size w u5) := HB3.out.trans (hb5.mono HB3.out.size)
  clear hb5 f0 f1 f2 f3 fl g0 g1 g2 g3 gl
  go_wp2
  go_ret
  exact ⟨rfl, HB5.out⟩

theorem sumL_app (a b : List BU) : sumL (a ++ b) = sumL a + sumL b := by
  induction a with
  | nil => simp [sumL]
  | cons z r ih => rw [List.cons_append, sumL_cons, sumL_cons, ih]; omega
theorem sumL_pos {zs : List BU} (h : ∀ z ∈ zs, 0 ≤ z.len) : 0 ≤ sumL zs := by
  induction zs with
  | nil => simp [sumL]
  | cons z r ih =>
    rw [sumL_cons]
    have h1 := ih (fun x hx => h x (by simp [hx]))
    have h2 := h z (by simp)
    omega
theorem sumL_take {zs : List BU} (h : ∀ z ∈ zs, 0 ≤ z.len) {k : Nat} (hk : k < zs.length) : sumL (zs.take (k + 1)) = sumL (zs.take k) + zs[k].len ∧ sumL (zs.take (k + 1)) ≤ sumL zs := by
  have e : sumL (zs.take (k + 1)) = sumL (zs.take k) + zs[k].len := by
    rw [List.take_succ_eq_append_getElem hk, sumL_app, sumL_cons]
    simp [sumL]
  refine ⟨e, ?_⟩
  have h2 : sumL zs = sumL (zs.take (k + 1)) + sumL (zs.drop (k + 1)) := by rw [← sumL_app, List.take_append_drop]
  have h3 := sumL_pos (zs := zs.drop (k + 1)) (fun z hz => h z (List.mem_of_mem_drop hz))
  omega
set_option maxRecDepth 100000 in
set_option maxHeartbeats 8000000 in
theorem specDmaWrite_any (s : ByteArray) (root va : Int) (d : ByteArray) (w : World) (hs : s.size ≤ 1048576) (hd : d.size ≤ 1048576) :
    Calls Try.prog 22 #[.string s, .int .i64 root, .int .i64 va, .string d] w fun e w' => e = .returned (dvA (dwV s root va d)) ∧ Below w.heap.size w w' := by
  have HX0 : Hid (DBx w (w.alloc (.cells #[.int .i64 0, .int .i64 0, .string ⟨#[]⟩, .string ⟨#[]⟩] 41)) #[.int .i64 0, .int .i64 0, .string ⟨#[]⟩, .string ⟨#[]⟩]) := DBx.new _ _
  by_cases hd1 : 65536 < d.size
  · have hV : dwV s root va d = ⟨2, 0, ⟨#[]⟩, ⟨#[]⟩⟩ := by unfold dwV; rw [if_pos (.inr hd1)]
    rw [hV]
    have e1 : decide (65536 < (d.size : Int)) = true := decide_eq_true (by omega)
    clear hV hd1 hs hd
    go_enter Try.func22, Try.ntmps22
    go_upto_region 2 with fail
    clear e1
    generalize (w.alloc (.cells #[.int .i64 0, .int .i64 0, .string ⟨#[]⟩, .string ⟨#[]⟩] 41)) = u0 at *
    have HX9 : Hid (DBx w u0 #[.int .i64 0, .int .i64 0, .string ⟨#[]⟩, .string ⟨#[]⟩]) := HX0.out
    obtain ⟨c0, c1, c2, c3, cf⟩ := cel4d HX9.out.box
    have cl := HX9.out.lt
    go_wp2
    have HP : Hid (DBx w (st4 u0 w.heap.size (.int .i64 2) (.int .i64 0) (.string ⟨#[]⟩) (.string ⟨#[]⟩)) #[.int .i64 2, .int .i64 0, .string ⟨#[]⟩, .string ⟨#[]⟩]) := HX9.out.put _ _ _ _
    unfold st4 at HP
    generalize ((((u0.setCell ⟨w.heap.size, 0, none⟩ (.int .i64 2)).setCell ⟨w.heap.size, 1, none⟩ (.int .i64 0)).setCell ⟨w.heap.size, 2, none⟩ (.string ⟨#[]⟩)).setCell ⟨w.heap.size, 3, none⟩ (.string ⟨#[]⟩)) = W9 at *
    obtain ⟨p0, p1, p2, p3, _⟩ := cel4d HP.out.box
    refine bodyPost_ret (v := .agg #[.int .i64 2, .int .i64 0, .string ⟨#[]⟩, .string ⟨#[]⟩]) (by simp [results, Try.results22, go_sem, p0, p1, p2, p3]) rfl ?_
    exact ⟨rfl, HP.out.bel⟩
  have e1 : decide (65536 < (d.size : Int)) = false := decide_eq_false (by omega)
  have HL : Hid _ := fun u => l11_any s root va d.size 2 u (by omega) (by omega)
  obtain ⟨X, hX⟩ : ∃ X, dwV s root va d = X := ⟨_, rfl⟩
  rw [hX]
  have HXE : Hid (dwV s root va d = X) := hX
  have HD1 : Hid (¬ 65536 < d.size) := hd1
  clear hX
  go_enter Try.func22, Try.ntmps22
  go_upto_region 3 with fail
  clear e1
  generalize (w.alloc (.cells #[.int .i64 0, .int .i64 0, .string ⟨#[]⟩, .string ⟨#[]⟩] 41)) = u0 at *
  go_wp2_with fail
  refine Calls.mono (HL.out u0) ?_
  rintro e u1 ⟨cd, pos, m, zs, a1, c1, a2, c2, rfl, r1, r2, hb1, hq⟩
  have HX1 : Hid (DBx w u1 #[.int .i64 0, .int .i64 0, .string ⟨#[]⟩, .string ⟨#[]⟩]) := HX0.out.step hb1
  have HR1 : Hid (Irow u1 (.slice a1 zs.length c1) (zs.map (fun z => z.pos))) := r1
  have HR2 : Hid (Irow u1 (.slice a2 zs.length c2) (zs.map (fun z => z.len))) := r2
  have HB9 : Hid (BQ u1 (u1.alloc (.cells #[.int .i64 cd, .int .i64 pos, .string ⟨#[]⟩, .string m] 41)) #[.int .i64 cd, .int .i64 pos, .string ⟨#[]⟩, .string m]) := BQ.new _ _
  have HFI : Hid (X = ⟨cd, pos, ⟨#[]⟩, (spK m d zs zs.length).1⟩ ∧ m.size ≤ 65536 ∧ ∀ z ∈ zs, inW m.size z.pos z.len = true ∧ z.write = true) := (by
    rw [← HXE.out]
    cases hq with
    | big h => exact ⟨by unfold dwV; rw [if_pos (.inl h)]; rfl, by decide, by simp⟩
    | no h hA => exact ⟨by unfold dwV; rw [if_neg (by have := HD1.out; omega), if_pos hA]; rfl, by decide, by simp⟩
    | bad h hA hb => exact ⟨by unfold dwV; rw [if_neg (by have := HD1.out; omega), if_neg (by rw [hA]; simp)]; simp only [Int.toNat_natCast] at hb ⊢; rw [if_pos hb]; rfl, by decide, by simp⟩
    | good h hA hb =>
      obtain ⟨m1, r0, r1, v0, v1, z0, z1, t1⟩ := dmA_ok hA
      have hsz := dmK_size root.toNat 2 (d.size : Int).toNat s va.toNat (d.size : Int).toNat (by omega)
      refine ⟨by unfold dwV; rw [if_neg (by have := HD1.out; omega), if_neg (by rw [hA]; simp)]; simp only [Int.toNat_natCast] at hb ⊢; rw [if_neg (by rw [hb]; simp)], by rw [hsz]; omega, fun z hz => ?_⟩
      have h9 := dmK_in root.toNat 2 (d.size : Int).toNat s va.toNat (d.size : Int).toNat (by omega) z hz
      rw [hsz]
      exact ⟨h9.1, h9.2⟩)
  have HZL : Hid (zs.length ≤ 300 ∧ (zs = [] ∨ sumL zs = d.size)) := (show _ ∧ _ by
    cases hq with
    | big h => simp
    | no h hA => simp
    | bad h hA hb => simp
    | good h hA hb =>
      obtain ⟨m1, r0, r1, v0, v1, z0, z1, t1⟩ := dmA_ok hA
      have := dmK_len root.toNat 2 (d.size : Int).toNat s va.toNat (d.size : Int).toNat
      have h9 := dmK_sum root.toNat 2 (d.size : Int).toNat s va.toNat (d.size : Int).toNat (Nat.le_refl _) hb
      refine ⟨by omega, .inr ?_⟩
      rw [h9]
      omega)
  clear r1 r2 hb1 hq HX0 HL hs hd hd1
  go_wp2
  generalize (u1.alloc (.cells #[.int .i64 cd, .int .i64 pos, .string ⟨#[]⟩, .string m] 41)) = W at *
  go_loopw [3, 12] (fun vd vi wr => ∃ (k : Nat) (dk : ByteArray), k ≤ zs.length ∧ vi = .int .i64 k ∧ vd = .string dk ∧ (spK m d zs k).2 = dk ∧ (dk.size : Int) + sumL (zs.take k) = d.size ∧ (spK m d zs k).1.size = m.size ∧ BQ u1 wr #[.int .i64 cd, .int .i64 pos, .string ⟨#[]⟩, .string (spK m d zs k).1]) (fun _ vi _ => zs.length - (intOf vi).toNat)
  case atStart => exact ⟨0, d, Nat.zero_le _, rfl, rfl, rfl, by simp [sumL], rfl, HB9.out⟩
  case round =>
    obtain ⟨k, dk, hk, rfl, rfl, hdk, hsum, hmk, hbq⟩ := hrel
    obtain ⟨mk, hmk2⟩ : ∃ mk, (spK m d zs k).1 = mk := ⟨_, rfl⟩
    rw [hmk2] at hbq hmk
    have HB : Hid (BQ u1 wr #[.int .i64 cd, .int .i64 pos, .string ⟨#[]⟩, .string mk]) := hbq
    have HSK : Hid (spK m d zs k = (mk, dk)) := (show spK m d zs k = (mk, dk) by rw [← hmk2, ← hdk])
    have HSU : Hid ((dk.size : Int) + sumL (zs.take k) = d.size) := hsum
    have HMK : Hid (mk.size = m.size) := hmk
    clear hbq HB9 hdk hsum hmk hmk2
    by_cases hkl : k < zs.length
    rotate_left
    · have e2 : decide ((k : Int) < (zs.length : Int)) = false := decide_eq_false (by omega)
      have hkk : k = zs.length := by omega
      have HX9 : Hid (DBx w wr #[.int .i64 0, .int .i64 0, .string ⟨#[]⟩, .string ⟨#[]⟩]) := HX1.out.step HB.out.bel
      obtain ⟨c0, c1, c2, c3, cf⟩ := cel4d HX9.out.box
      have cl := HX9.out.lt
      obtain ⟨f0, f1, f2, f3, _⟩ := cel4d HB.out.box
      have fl := HB.out.lt
      have HKK : Hid (k = zs.length) := hkk
      clear hkk
      go_wp2
      have HP : Hid (DBx w (st4 wr w.heap.size (.int .i64 cd) (.int .i64 pos) (.string ⟨#[]⟩) (.string mk)) #[.int .i64 cd, .int .i64 pos, .string ⟨#[]⟩, .string mk]) := HX9.out.put _ _ _ _
      unfold st4 at HP
      generalize ((((wr.setCell ⟨w.heap.size, 0, none⟩ (.int .i64 cd)).setCell ⟨w.heap.size, 1, none⟩ (.int .i64 pos)).setCell ⟨w.heap.size, 2, none⟩ (.string ⟨#[]⟩)).setCell ⟨w.heap.size, 3, none⟩ (.string mk)) = W9 at *
      obtain ⟨p0, p1, p2, p3, _⟩ := cel4d HP.out.box
      refine bodyPost_ret (v := .agg #[.int .i64 cd, .int .i64 pos, .string ⟨#[]⟩, .string mk]) (by simp [results, Try.results22, go_sem, p0, p1, p2, p3]) rfl ?_
      refine ⟨?_, HP.out.bel⟩
      rw [HFI.out.1, ← HKK.out, HSK.out]
      rfl
    · have e2 : decide ((k : Int) < (zs.length : Int)) = true := decide_eq_true (by omega)
      have e3 : (0 : Int) ≤ (k : Int) := by omega
      have e4 : (k : Int) < (zs.length : Int) := by omega
      have hz3 : (zs.length : Int) ≤ 300 := by have := HZL.out.1; omega
      obtain ⟨g1, o1, rfl, gl1, hc1⟩ := irow_at HR1.out rfl (by omega)
      obtain ⟨g2, o2, rfl, gl2, hc2⟩ := irow_at HR2.out rfl (by omega)
      have hst := sumL_take (zs := zs) (fun z hz => (inW_iff.1 (HFI.out.2.2 z hz).1).2.1) hkl
      have hsz : sumL zs = d.size := HZL.out.2.resolve_left (fun h => by rw [h] at hkl; cases hkl)
      have hnx := spK_next m d zs k hkl
      obtain ⟨z, hz⟩ : ∃ z, zs[k] = z := ⟨_, rfl⟩
      obtain ⟨hin, hwr⟩ := HFI.out.2.2 z (by rw [← hz]; exact List.getElem_mem _)
      obtain ⟨i1, i2, i3⟩ := inW_iff.1 hin
      obtain ⟨P, hP⟩ := Int.eq_ofNat_of_zero_le i1
      obtain ⟨L, hL⟩ := Int.eq_ofNat_of_zero_le i2
      have hcx := hc1 k hkl
      have hcy := hc2 k hkl
      rw [hz] at hcx hcy hst hnx
      rw [hP] at hcx
      rw [hL] at hcy hst
      have hsu := HSU.out
      have hms := HFI.out.2.1
      have hmk := HMK.out
      have hLd : L ≤ dk.size := by omega
      have hps : P + L ≤ mk.size := by omega
      have HCX : Hid (∀ u, Below u1.heap.size u1 u → u.cell? ⟨g1, o1 + k, none⟩ = some (.int .i64 (P : Int)) ∧ u.cell? ⟨g2, o2 + k, none⟩ = some (.int .i64 (L : Int)) ∧ g1 < u.heap.size ∧ g2 < u.heap.size) := fun u hu => ⟨(World.cell?_of_block (hu.block g1 gl1)).trans hcx, (World.cell?_of_block (hu.block g2 gl2)).trans hcy, Nat.lt_of_lt_of_le gl1 hu.size, Nat.lt_of_lt_of_le gl2 hu.size⟩
      have hmn : mn z dk = L := by unfold mn; rw [hL]; simp only [Int.toNat_natCast]; exact Nat.min_eq_right hLd
      have HNX : Hid (spK m d zs (k + 1) = (mk.extract 0 P ++ dk.extract 0 L ++ mk.extract (P + L) mk.size, dk.extract L dk.size)) := (show _ = _ by
        rw [hnx, HSK.out]
        unfold spS
        rw [if_pos hwr, hmn, hP]
        simp only [Int.toNat_natCast]
        unfold put
        rw [ex_size dk 0 L hLd]
        simp)
      have HNS : Hid (((dk.extract L dk.size).size : Int) + sumL (zs.take (k + 1)) = d.size ∧ (mk.extract 0 P ++ dk.extract 0 L ++ mk.extract (P + L) mk.size).size = m.size) := (by
        refine ⟨?_, ?_⟩
        · rw [ex_size _ _ _ (Nat.le_refl _)]
          omega
        · rw [ByteArray.size_append, ByteArray.size_append, ex_size _ _ _ (by omega), ex_size _ _ _ hLd, ex_size _ _ _ (Nat.le_refl _)]
          omega)
      have hA0 : (mk.extract 0 P).size ≤ 65536 := by rw [ex_size _ _ _ (by omega)]; omega
      have hB0 : (dk.extract 0 L).size ≤ 65536 := by rw [ex_size _ _ _ hLd]; omega
      have hC0 : (mk.extract (P + L) mk.size).size ≤ 65536 := by rw [ex_size _ _ _ (Nat.le_refl _)]; omega
      have hs1 := fun u => slTo mk P (by omega) u
      have hs2 := fun u => slTo dk L hLd u
      have hs3 := fun u => slFrom mk (P + L) ((P : Int) + (L : Int)) (by omega) hps u
      have hs4 := fun u => slFrom dk L (L : Int) rfl hLd u
      have hPL : IntKind.i64.wrap ((P : Int) + (L : Int)) = (P : Int) + (L : Int) := by rw [IntKind.wrap_i64]; omega
      generalize mk.extract 0 P = A at *
      generalize dk.extract 0 L = B at *
      generalize mk.extract (P + L) mk.size = C at *
      generalize dk.extract L dk.size = dn at *
      have ha1 := fun u => run_string_add_sum (P := Try.prog) u A B (by omega)
      have ha2 := fun u => run_string_add_sum (P := Try.prog) u (A ++ B) C (by rw [ByteArray.size_append]; omega)
      have HBD : Hid (BQ u1 wr.drew #[.int .i64 cd, .int .i64 pos, .string ⟨#[]⟩, .string mk]) := HB.out.drew9
      have HBE : Hid (BQ u1 (wr.setCell ⟨u1.heap.size, 3, none⟩ (.string (A ++ B ++ C))).drew #[.int .i64 cd, .int .i64 pos, .string ⟨#[]⟩, .string (A ++ B ++ C)]) := (HB.out.put 3 (.string (A ++ B ++ C))).drew9
      clear hc1 hc2 hcx hcy hin hwr i1 i2 i3 hP hL hz gl1 gl2 hms hps hst hsz hnx hsu hmk hLd hmn hA0 hB0 hC0
      go_upto_region 7 with fail
      refine AnyE.start (fun w9 => BQ u1 w9 #[.int .i64 cd, .int .i64 pos, .string ⟨#[]⟩, .string mk]) [28] (by kernel_rfl) ?_
      refine AnyE.take (i := 0) (v := .pointer (some ⟨u1.heap.size, 3, none⟩)) rfl (by kernel_rfl) (by kernel_rfl) (by kernel_rfl) (by kernel_rfl) (by kernel_rfl) (fun _ _ _ h => h) (Or.inl ⟨by kernel_rfl, fun w9 h9 => ?_⟩) HBD.out ?_
      · go_simp
      refine AnyE.take (i := 1) (v := .string mk) rfl (by kernel_rfl) (by kernel_rfl) (by kernel_rfl) (by kernel_rfl) (by kernel_rfl) (fun _ _ _ h => h) (Or.inl ⟨by kernel_rfl, fun w9 h9 => ?_⟩) HBD.out ?_
      · obtain ⟨x0, x1, x2, x3⟩ := HCX.out _ h9.bel; obtain ⟨f0, f1, f2, f3, _⟩ := cel4d h9.box; have fl := h9.lt; go_simp
      refine AnyE.take (i := 2) (v := .slice (some ⟨g1, o1, none⟩) zs.length c1) rfl (by kernel_rfl) (by kernel_rfl) (by kernel_rfl) (by kernel_rfl) (by kernel_rfl) (fun _ _ _ h => h) (Or.inl ⟨by kernel_rfl, fun w9 h9 => ?_⟩) HBD.out ?_
      · go_simp
      refine AnyE.take (i := 3) (v := .int .i64 (k : Int)) rfl (by kernel_rfl) (by kernel_rfl) (by kernel_rfl) (by kernel_rfl) (by kernel_rfl) (fun _ _ _ h => h) (Or.inl ⟨by kernel_rfl, fun w9 h9 => ?_⟩) HBD.out ?_
      · go_simp
      refine AnyE.take (i := 4) (v := .pointer (some ⟨g1, o1 + k, none⟩)) rfl (by kernel_rfl) (by kernel_rfl) (by kernel_rfl) (by kernel_rfl) (by kernel_rfl) (fun _ _ _ h => h) (Or.inl ⟨by kernel_rfl, fun w9 h9 => ?_⟩) HBD.out ?_
      · go_simp
      refine AnyE.take (i := 5) (v := .int .i64 (P : Int)) rfl (by kernel_rfl) (by kernel_rfl) (by kernel_rfl) (by kernel_rfl) (by kernel_rfl) (fun _ _ _ h => h) (Or.inl ⟨by kernel_rfl, fun w9 h9 => ?_⟩) HBD.out ?_
      · obtain ⟨x0, x1, x2, x3⟩ := HCX.out _ h9.bel; obtain ⟨f0, f1, f2, f3, _⟩ := cel4d h9.box; have fl := h9.lt; go_simp
      refine AnyE.take (i := 6) (v := .string A) rfl (by kernel_rfl) (by kernel_rfl) (by kernel_rfl) (by kernel_rfl) (by kernel_rfl) (fun _ _ _ h => h) (Or.inl ⟨by kernel_rfl, fun w9 h9 => ?_⟩) HBD.out ?_
      · go_simp
      refine AnyE.take (i := 7) (v := .string dk) rfl (by kernel_rfl) (by kernel_rfl) (by kernel_rfl) (by kernel_rfl) (by kernel_rfl) (fun _ _ _ h => h) (Or.inl ⟨by kernel_rfl, fun w9 h9 => ?_⟩) HBD.out ?_
      · go_simp
      refine AnyE.take (i := 8) (v := .slice (some ⟨g2, o2, none⟩) zs.length c2) rfl (by kernel_rfl) (by kernel_rfl) (by kernel_rfl) (by kernel_rfl) (by kernel_rfl) (fun _ _ _ h => h) (Or.inl ⟨by kernel_rfl, fun w9 h9 => ?_⟩) HBD.out ?_
      · go_simp
      refine AnyE.take (i := 9) (v := .int .i64 (k : Int)) rfl (by kernel_rfl) (by kernel_rfl) (by kernel_rfl) (by kernel_rfl) (by kernel_rfl) (fun _ _ _ h => h) (Or.inl ⟨by kernel_rfl, fun w9 h9 => ?_⟩) HBD.out ?_
      · go_simp
      refine AnyE.take (i := 10) (v := .pointer (some ⟨g2, o2 + k, none⟩)) rfl (by kernel_rfl) (by kernel_rfl) (by kernel_rfl) (by kernel_rfl) (by kernel_rfl) (fun _ _ _ h => h) (Or.inl ⟨by kernel_rfl, fun w9 h9 => ?_⟩) HBD.out ?_
      · go_simp
      refine AnyE.take (i := 11) (v := .int .i64 (L : Int)) rfl (by kernel_rfl) (by kernel_rfl) (by kernel_rfl) (by kernel_rfl) (by kernel_rfl) (fun _ _ _ h => h) (Or.inl ⟨by kernel_rfl, fun w9 h9 => ?_⟩) HBD.out ?_
      · obtain ⟨x0, x1, x2, x3⟩ := HCX.out _ h9.bel; obtain ⟨f0, f1, f2, f3, _⟩ := cel4d h9.box; have fl := h9.lt; go_simp
      refine AnyE.take (i := 12) (v := .string B) rfl (by kernel_rfl) (by kernel_rfl) (by kernel_rfl) (by kernel_rfl) (by kernel_rfl) (fun _ _ _ h => h) (Or.inl ⟨by kernel_rfl, fun w9 h9 => ?_⟩) HBD.out ?_
      · go_simp
      refine AnyE.take (i := 13) (v := .string (A ++ B)) rfl (by kernel_rfl) (by kernel_rfl) (by kernel_rfl) (by kernel_rfl) (by kernel_rfl) (fun _ _ _ h => h) (Or.inl ⟨by kernel_rfl, fun w9 h9 => ?_⟩) HBD.out ?_
      · go_simp
      refine AnyE.take (i := 14) (v := .pointer (some ⟨u1.heap.size, 3, none⟩)) rfl (by kernel_rfl) (by kernel_rfl) (by kernel_rfl) (by kernel_rfl) (by kernel_rfl) (fun _ _ _ h => h) (Or.inl ⟨by kernel_rfl, fun w9 h9 => ?_⟩) HBD.out ?_
      · go_simp
      refine AnyE.take (i := 15) (v := .string mk) rfl (by kernel_rfl) (by kernel_rfl) (by kernel_rfl) (by kernel_rfl) (by kernel_rfl) (fun _ _ _ h => h) (Or.inl ⟨by kernel_rfl, fun w9 h9 => ?_⟩) HBD.out ?_
      · obtain ⟨x0, x1, x2, x3⟩ := HCX.out _ h9.bel; obtain ⟨f0, f1, f2, f3, _⟩ := cel4d h9.box; have fl := h9.lt; go_simp
      refine AnyE.take (i := 16) (v := .slice (some ⟨g1, o1, none⟩) zs.length c1) rfl (by kernel_rfl) (by kernel_rfl) (by kernel_rfl) (by kernel_rfl) (by kernel_rfl) (fun _ _ _ h => h) (Or.inl ⟨by kernel_rfl, fun w9 h9 => ?_⟩) HBD.out ?_
      · go_simp
      refine AnyE.take (i := 17) (v := .int .i64 (k : Int)) rfl (by kernel_rfl) (by kernel_rfl) (by kernel_rfl) (by kernel_rfl) (by kernel_rfl) (fun _ _ _ h => h) (Or.inl ⟨by kernel_rfl, fun w9 h9 => ?_⟩) HBD.out ?_
      · go_simp
      refine AnyE.take (i := 18) (v := .pointer (some ⟨g1, o1 + k, none⟩)) rfl (by kernel_rfl) (by kernel_rfl) (by kernel_rfl) (by kernel_rfl) (by kernel_rfl) (fun _ _ _ h => h) (Or.inl ⟨by kernel_rfl, fun w9 h9 => ?_⟩) HBD.out ?_
      · go_simp
      refine AnyE.take (i := 19) (v := .int .i64 (P : Int)) rfl (by kernel_rfl) (by kernel_rfl) (by kernel_rfl) (by kernel_rfl) (by kernel_rfl) (fun _ _ _ h => h) (Or.inl ⟨by kernel_rfl, fun w9 h9 => ?_⟩) HBD.out ?_
      · obtain ⟨x0, x1, x2, x3⟩ := HCX.out _ h9.bel; obtain ⟨f0, f1, f2, f3, _⟩ := cel4d h9.box; have fl := h9.lt; go_simp
      refine AnyE.take (i := 20) (v := .slice (some ⟨g2, o2, none⟩) zs.length c2) rfl (by kernel_rfl) (by kernel_rfl) (by kernel_rfl) (by kernel_rfl) (by kernel_rfl) (fun _ _ _ h => h) (Or.inl ⟨by kernel_rfl, fun w9 h9 => ?_⟩) HBD.out ?_
      · go_simp
      refine AnyE.take (i := 21) (v := .int .i64 (k : Int)) rfl (by kernel_rfl) (by kernel_rfl) (by kernel_rfl) (by kernel_rfl) (by kernel_rfl) (fun _ _ _ h => h) (Or.inl ⟨by kernel_rfl, fun w9 h9 => ?_⟩) HBD.out ?_
      · go_simp
      refine AnyE.take (i := 22) (v := .pointer (some ⟨g2, o2 + k, none⟩)) rfl (by kernel_rfl) (by kernel_rfl) (by kernel_rfl) (by kernel_rfl) (by kernel_rfl) (fun _ _ _ h => h) (Or.inl ⟨by kernel_rfl, fun w9 h9 => ?_⟩) HBD.out ?_
      · go_simp
      refine AnyE.take (i := 23) (v := .int .i64 (L : Int)) rfl (by kernel_rfl) (by kernel_rfl) (by kernel_rfl) (by kernel_rfl) (by kernel_rfl) (fun _ _ _ h => h) (Or.inl ⟨by kernel_rfl, fun w9 h9 => ?_⟩) HBD.out ?_
      · obtain ⟨x0, x1, x2, x3⟩ := HCX.out _ h9.bel; obtain ⟨f0, f1, f2, f3, _⟩ := cel4d h9.box; have fl := h9.lt; go_simp
      refine AnyE.take (i := 24) (v := .int .i64 ((P : Int) + (L : Int))) rfl (by kernel_rfl) (by kernel_rfl) (by kernel_rfl) (by kernel_rfl) (by kernel_rfl) (fun _ _ _ h => h) (Or.inl ⟨by kernel_rfl, fun w9 h9 => ?_⟩) HBD.out ?_
      · go_simp
      refine AnyE.take (i := 25) (v := .string C) rfl (by kernel_rfl) (by kernel_rfl) (by kernel_rfl) (by kernel_rfl) (by kernel_rfl) (fun _ _ _ h => h) (Or.inl ⟨by kernel_rfl, fun w9 h9 => ?_⟩) HBD.out ?_
      · go_simp
      refine AnyE.take (i := 26) (v := .string (A ++ B ++ C)) rfl (by kernel_rfl) (by kernel_rfl) (by kernel_rfl) (by kernel_rfl) (by kernel_rfl) (fun _ _ _ h => h) (Or.inl ⟨by kernel_rfl, fun w9 h9 => ?_⟩) HBD.out ?_
      · go_simp
      refine AnyE.take (i := 27) (v := .pointer (some ⟨u1.heap.size, 3, none⟩)) rfl (by kernel_rfl) (by kernel_rfl) (by kernel_rfl) (by kernel_rfl) (by kernel_rfl) (fun _ _ _ h => h) (Or.inl ⟨by kernel_rfl, fun w9 h9 => ?_⟩) HBD.out ?_
      · go_simp
      obtain ⟨f0, f1, f2, f3, ff⟩ := cel4d HBD.out.box
      have fl := HBD.out.lt
      refine AnyE.one 28 (by kernel_rfl) rfl (by kernel_rfl) fun K hK => ?_
      go_simp
      skip
      refine hK _ _ (fun h => absurd (by decide) h) ?_
      clear hK K
      refine AnyE.done (by kernel_rfl) ?_ _
      go_simp
      generalize (wr.setCell ⟨u1.heap.size, 3, none⟩ (.string (A ++ B ++ C))).drew = w8 at *
      obtain ⟨w0, w1, w2, w3⟩ := HCX.out _ HBE.out.bel
      clear f0 f1 f2 f3 ff fl
      go_wp2
      refine ⟨⟨k + 1, dn, by omega, by go_num, rfl, by rw [HNX.out], HNS.out.1, by rw [HNX.out]; exact HNS.out.2, ?_⟩, by simp [intOf]; omega⟩
      rw [HNX.out]
      exact HBE.out

set_option maxRecDepth 100000 in
set_option maxHeartbeats 4000000 in
theorem walkDW (s : ByteArray) (root va : Int) (d : ByteArray) (w : World) (hs : s.size ≤ 1048576) (hd : d.size ≤ 1048576) :
    Calls Try.prog 5 #[.string s, .int .i64 root, .int .i64 va, .string d] w fun e w' => e = .returned (.bool true) ∧ Below w.heap.size w w' := by
  have e0 : decide (1048576 < (s.size : Int)) = false := decide_eq_false (by omega)
  obtain ⟨X, hX⟩ : ∃ X, dwV s root va d = X := ⟨_, rfl⟩
  have HI : Hid (∀ u, Calls Try.prog 23 #[.string s, .int .i64 root, .int .i64 va, .string d] u fun e w' => e = .returned (.agg #[.int .i64 X.code, .int .i64 X.pos, .string X.data, .string X.mem]) ∧ Below u.heap.size u w') := fun u => by
    have h9 := implDmaWrite_any s root va d u hs hd
    rw [hX] at h9
    exact h9
  have HS : Hid (∀ u, Calls Try.prog 22 #[.string s, .int .i64 root, .int .i64 va, .string d] u fun e w' => e = .returned (.agg #[.int .i64 X.code, .int .i64 X.pos, .string X.data, .string X.mem]) ∧ Below u.heap.size u w') := fun u => by
    have h9 := specDmaWrite_any s root va d u hs hd
    rw [hX] at h9
    exact h9
  have HE : Hid (∀ u, Calls Try.prog 21 #[.agg #[.int .i64 X.code, .int .i64 X.pos, .string X.data, .string X.mem], .agg #[.int .i64 X.code, .int .i64 X.pos, .string X.data, .string X.mem]] u fun e w' => e = .returned (.bool true) ∧ Below u.heap.size u w') := fun u => eqDma_ok X u
  have e1 : decide (1048576 < (d.size : Int)) = false := decide_eq_false (by omega)
  clear hX hs hd
  go_enter Try.func5, Try.ntmps5
  go_upto_region 6 with (go_at_call 22; refine Calls.mono (HS.out _) ?_; rintro e u1 ⟨rfl, hb1⟩; have HB1 : Hid (Below w.heap.size w (u1.alloc (.cells #[.int .i64 X.code, .int .i64 X.pos, .string X.data, .string X.mem] 41))) := hb1.alloc hb1.size _; have HY1 : Hid ((u1.alloc (.cells #[.int .i64 X.code, .int .i64 X.pos, .string X.data, .string X.mem] 41)).heap[u1.heap.size]? = some (.cells #[.int .i64 X.code, .int .i64 X.pos, .string X.data, .string X.mem] 41 (0, 0))) := (MapKept.heap_alloc u1 _).1; clear hb1)
  clear e0 e1
  generalize (u1.alloc (.cells #[.int .i64 X.code, .int .i64 X.pos, .string X.data, .string X.mem] 41)) = u2 at *
  generalize u1.heap.size = b1 at *
  go_upto_region 7 with (go_at_call 23; refine Calls.mono (HI.out _) ?_; rintro e u3 ⟨rfl, hb3⟩; have HB3 : Hid (Below w.heap.size w (u3.alloc (.cells #[.int .i64 X.code, .int .i64 X.pos, .string X.data, .string X.mem] 41))) := (HB1.out.trans (hb3.mono HB1.out.size)).alloc (HB1.out.trans (hb3.mono HB1.out.size)).size _; have HY3 : Hid ((u3.alloc (.cells #[.int .i64 X.code, .int .i64 X.pos, .string X.data, .string X.mem] 41)).heap[u3.heap.size]? = some (.cells #[.int .i64 X.code, .int .i64 X.pos, .string X.data, .string X.mem] 41 (0, 0))) := (MapKept.heap_alloc u3 _).1; have HY2 : Hid ((u3.alloc (.cells #[.int .i64 X.code, .int .i64 X.pos, .string X.data, .string X.mem] 41)).heap[b1]? = some (.cells #[.int .i64 X.code, .int .i64 X.pos, .string X.data, .string X.mem] 41 (0, 0))) := (((MapKept.heap_alloc u3 _).2 _ (Nat.lt_of_lt_of_le (Array.getElem?_eq_some_iff.1 HY1.out).1 hb3.size)).trans (hb3.block _ (Array.getElem?_eq_some_iff.1 HY1.out).1)).trans HY1.out; clear hb3)
  generalize (u3.alloc (.cells #[.int .i64 X.code, .int .i64 X.pos, .string X.data, .string X.mem] 41)) = u4 at *
  generalize u3.heap.size = b3 at *
  obtain ⟨f0, f1, f2, f3, _⟩ := cel4d HY2.out
  have fl := (Array.getElem?_eq_some_iff.1 HY2.out).1
  obtain ⟨g0, g1, g2, g3, _⟩ := cel4d HY3.out
  have gl := (Array.getElem?_eq_some_iff.1 HY3.out).1
  go_wp2_with fail
  refine Calls.mono (HE.out _) ?_
  rintro e u5 ⟨rfl, hb5⟩
  have HB5 : Hid (Below w.heap.size w u5) := HB3.out.trans (hb5.mono HB3.out.size)
  clear hb5 f0 f1 f2 f3 fl g0 g1 g2 g3 gl
  go_wp2
  go_ret
  exact ⟨rfl, HB5.out⟩
end Go.Proofs.Ytdlodflinibaoaa
