import Derived.Test.YthncnffnjjclfabRowKS4
import Derived.Test.YthncnffnjjclfabLG
import Derived.Deep.DeepCutAuto
namespace Go.Proofs.Ythncnffnjjclfab
open Go.ChangeShapes Go.WideShapes Go.ChangeAt Go.RowKit

set_option maxRecDepth 100000 in
set_option maxHeartbeats 4000000 in
theorem szKS_w (z : KS) (l : Int) (w : World) (h0 : 0 ≤ l) (h1 : l ≤ 1048576) (m1 : z.key.size ≤ maxLen) (m2 : z.tag.size ≤ maxLen) :
    Calls Try.prog 88 #[.agg #[.int .i64 z.salt, .string z.key, .string z.tag], .int .i64 l] w fun e w' => ∃ q, e = .returned (.int .i64 q) ∧ -1 ≤ q ∧ q ≤ 1048576 ∧ Below w.heap.size w w' := by
  have q1 : z.key.size ≤ 9223372036854775807 := by unfold maxLen at m1; omega
  have q2 : z.tag.size ≤ 9223372036854775807 := by unfold maxLen at m2; omega
  clear m1 m2
  have HB : Hid (Below w.heap.size w (w.alloc (.cells #[.int .i64 z.salt, .string z.key, .string z.tag] 116))) := (Below.refl _ _).alloc (Nat.le_refl _) _
  cases h3 : decide (l - (z.key.size : Int) < 0)
  · have g3 := of_decide_eq_false h3
    cases h4 : decide (l - (z.key.size : Int) - (z.tag.size : Int) < 0)
    · have g4 := of_decide_eq_false h4
      go_enter Try.func88, Try.ntmps88
      go_wp2
      go_ret
      exact ⟨_, rfl, by omega, by omega, HB.out⟩
    · go_enter Try.func88, Try.ntmps88
      go_wp2
      go_ret
      exact ⟨_, rfl, by omega, by omega, HB.out⟩
  · go_enter Try.func88, Try.ntmps88
    go_wp2
    go_ret
    exact ⟨_, rfl, by omega, by omega, HB.out⟩
set_option maxRecDepth 100000 in
set_option maxHeartbeats 4000000 in
theorem szKSS_w {w : World} {v : Value} {zs : List KS} (h : KSrow w v zs) (hm : zs.length ≤ maxLen) (hz : ∀ z ∈ zs, z.key.size ≤ maxLen ∧ z.tag.size ≤ maxLen) :
    Calls Try.prog 40 #[v, .int .i64 1048576] w fun e w' => ∃ q, e = .returned (.int .i64 q) ∧ -1 ≤ q ∧ q ≤ 1048576 ∧ (0 ≤ q → zs.length ≤ 1048576) ∧ Below w.heap.size w w' := by
  obtain ⟨ao, cap, rfl⟩ := h.sl
  have HR : Hid (KSrow w (.slice ao zs.length cap) zs) := h
  have hm2 : zs.length ≤ 9223372036854775807 := by unfold maxLen at hm; omega
  have HZ : Hid (∀ z ∈ zs, z.key.size ≤ maxLen ∧ z.tag.size ≤ maxLen) := hz
  clear h hm hz
  cases h3 : decide (1048576 - (zs.length : Int) < 0)
  · have g3 := of_decide_eq_false h3
    have HL : Hid (zs.length ≤ 1048576) := (show zs.length ≤ 1048576 by omega)
    go_enter Try.func40, Try.ntmps40
    go_wp2
    go_loopw [1, 5] (fun y i wr => ∃ (k : Nat) (l : Int), k ≤ zs.length ∧ y = .int .i64 l ∧ 0 ≤ l ∧ l ≤ 1048576 ∧ i = .int .i64 k ∧ Below w.heap.size w wr) (fun _ i _ => zs.length - (intOf i).toNat)
    case atStart => exact ⟨0, _, Nat.zero_le _, rfl, by omega, by omega, rfl, Below.refl _ _⟩
    case round =>
      obtain ⟨k, l, hk, rfl, l0, l1, rfl, hb⟩ := hrel
      have HB : Hid (Below w.heap.size w wr) := hb
      by_cases hlt : k < zs.length
      · obtain ⟨g, o, cap2, hv, _, hg, hc⟩ := HR.out.resolve_left (fun h => by rw [h.1] at hlt; simp at hlt)
        injection hv with hv1 hv2 hv3
        subst hv1 hv3
        obtain ⟨d0, d1, d2⟩ := hc.below hb hg k hlt
        have hgw : g < wr.heap.size := Nat.lt_of_lt_of_le hg hb.size
        obtain ⟨m1, m2⟩ := HZ.out _ (List.getElem_mem hlt)
        have HS : Hid _ := szKS_w zs[k] l wr l0 l1 m1 m2
        generalize zs[k] = z at *
        have hk0 : (0 : Int) ≤ (k : Int) := by omega
        have hk1 : (k : Int) < (zs.length : Int) := by omega
        clear hc hb m1 m2 h3 g3
        go_wp2_with fail
        refine Calls.mono HS.out ?_
        rintro e u1 ⟨q, rfl, q0, q1, hu⟩
        have HU : Hid (Below w.heap.size w u1) := HB.out.trans (hu.mono HB.out.size)
        clear hu HS
        cases h5 : decide (q < 0)
        · have g5 := of_decide_eq_false h5
          go_wp2
          exact ⟨⟨k + 1, q, hlt, rfl, by omega, q1, by go_num, HU.out⟩, by simp [intOf]; omega⟩
        · go_wp2
          go_ret
          exact ⟨-1, rfl, by omega, by omega, fun _ => HL.out, HU.out⟩
      · obtain rfl : k = zs.length := by omega
        clear h3 g3
        go_wp2
        go_ret
        exact ⟨l, rfl, by omega, l1, fun _ => HL.out, HB.out⟩
  · have g3 := of_decide_eq_true h3
    go_enter Try.func40, Try.ntmps40
    go_wp2
    go_ret
    exact ⟨-1, rfl, by omega, by omega, fun hh => absurd hh (by omega), Below.refl _ _⟩
set_option maxRecDepth 100000 in
set_option maxHeartbeats 4000000 in
theorem szVol_w {w : World} {v : Value} {zs : List KS} (h : KSrow w v zs) (hm : zs.length ≤ maxLen) (hz : ∀ z ∈ zs, z.key.size ≤ maxLen ∧ z.tag.size ≤ maxLen) (c : ByteArray) (hc : c.size ≤ maxLen) :
    Calls Try.prog 7 #[.agg #[v, .string c], .int .i64 1048576] w fun e w' => ∃ q, e = .returned (.int .i64 q) ∧ -1 ≤ q ∧ (0 ≤ q → zs.length ≤ 1048576) ∧ Below w.heap.size w w' := by
  obtain ⟨ao, cap, rfl⟩ := h.sl
  have HS : Hid (∀ u, Aft w u → Calls Try.prog 40 #[.slice ao zs.length cap, .int .i64 1048576] u fun e w' => ∃ q, e = .returned (.int .i64 q) ∧ -1 ≤ q ∧ q ≤ 1048576 ∧ (0 ≤ q → zs.length ≤ 1048576) ∧ Below u.heap.size u w') := fun u hu => szKSS_w (h.below hu.out) hm hz
  have HL0 : Hid (LG w (w.alloc (.cells #[.slice ao zs.length cap, .string c] 24)) w.heap.size #[.slice ao zs.length cap, .string c] 24) := LG.new w _ _
  have hc2 : c.size ≤ 9223372036854775807 := by unfold maxLen at hc; omega
  clear h hm hz hc
  go_enter Try.func7, Try.ntmps7
  go_wp2_with fail
  generalize (w.alloc (.cells #[.slice ao zs.length cap, .string c] 24)) = u0 at *
  generalize w.heap.size = b0 at *
  refine Calls.mono (HS.out _ HL0.out.aft) ?_
  rintro e u1 ⟨q, rfl, q0, q1, hq, hu⟩
  have HL1 : Hid (LG w u1 b0 _ _) := HL0.out.step hu
  have HQ : Hid (0 ≤ q → zs.length ≤ 1048576) := hq
  clear hu hq
  have k1 := HL1.out.cel 1 _ rfl
  have kl := HL1.out.lt
  cases h3 : decide (q < 0)
  · have g3 := of_decide_eq_false h3
    cases h4 : decide (q - (c.size : Int) < 0)
    · have g4 := of_decide_eq_false h4
      go_wp2
      go_ret
      exact ⟨_, rfl, by omega, fun _ => HQ.out (by omega), HL1.out.bel⟩
    · go_wp2
      go_ret
      exact ⟨-1, rfl, by omega, fun hh => absurd hh (by omega), HL1.out.bel⟩
  · go_wp2
    go_ret
    exact ⟨-1, rfl, by omega, fun hh => absurd hh (by omega), HL1.out.bel⟩
theorem cVO : Try.prog.cellsOf 24 = 2 := by kernel_rfl
theorem cVs : Try.prog.cellsOf 9 = 1 := by kernel_rfl
theorem cVk : Try.prog.cellsOf 22 = 1 := by kernel_rfl
theorem arrayV2 {α : Type} {cs : Array α} (h : cs.size = 2) : ∃ c0 c1, cs = #[c0, c1] := by
  obtain ⟨l⟩ := cs
  match l, h with
  | [c0, c1], _ => exact ⟨c0, c1, rfl⟩
set_option maxRecDepth 100000 in
theorem open_volume {H : Type} {enc : TypeId × Value → H} {W : World} {base : Nat} {v : Value} {d : DataW H} {p : List MemPlace} (hv : Value.okWide Try.prog W .any base 24 v)
    (h : DataW.Trod enc Try.prog W 0 (fun _ => true) true 24 v d p) : ∃ (sv : Value) (zs : List KS) (c : ByteArray), v = .agg #[sv, .string c] ∧ KSrow W sv zs ∧ zs.length ≤ maxLen ∧ (∀ z ∈ zs, z.key.size ≤ maxLen ∧ z.tag.size ≤ maxLen) ∧ c.size ≤ maxLen := by
  obtain ⟨cs, rfl, hsz⟩ := okWide_struct Try.underlying24 hv
  obtain ⟨x0, x1, rfl⟩ := arrayV2 (hsz.trans cVO)
  obtain ⟨fuel, hf⟩ := h
  obtain ⟨xs, n, _, hx, _, hlen, hel⟩ := DataW.trod_struct Try.underlying24 hf
  match xs, hlen, hel with
  | [y0, y1], _, hel =>
    have g0 := hel 0 _ rfl
    have g1 := hel 1 _ rfl
    simp only [Value.cells] at g0 g1
    have k0 : DataW.trod enc Try.prog W 0 (fun _ => true) true n 22 [x0] = some y0 := by simpa [cVk] using g0
    obtain ⟨zs, r0, w0, b0⟩ := open_ksS k0
    obtain ⟨a1, e1, _, w1⟩ := DataW.trod_string Try.underlying9 g1
    simp [cVs] at e1
    subst e1
    exact ⟨x0, zs, a1, rfl, r0, w0, b0, w1⟩
set_option maxRecDepth 100000 in
set_option maxHeartbeats 4000000 in
theorem toVol_any {w : World} {v : Value} {zs : List KS} (h : KSrow w v zs) (hl : zs.length ≤ 1048576) (c : ByteArray) :
    Calls Try.prog 9 #[.agg #[v, .string c]] w fun e w' => ∃ u, e = .returned (.agg #[u, .string c]) ∧ w'.ownsRow w.heap.size 79 3 u zs.length (ksR zs) ∧ Below w.heap.size w w' := by
  obtain ⟨ao, cap, rfl⟩ := h.sl
  have HS : Hid (∀ u, Aft w u → Calls Try.prog 42 #[.slice ao zs.length cap] u fun e w' => ∃ x, e = .returned x ∧ w'.ownsRow u.heap.size 79 3 x zs.length (ksR zs) ∧ Below u.heap.size u w') := fun u hu => toKSS_any (h.below hu.out) hl
  clear h
  have HL0 : Hid (TB w ((w.alloc (.cells #[.slice ao zs.length cap, .string c] 24)).alloc (.cells #[.slice none 0 0, .string ⟨#[]⟩] 28)) w.heap.size (w.heap.size + 1) #[.slice ao zs.length cap, .string c] 24 #[.slice none 0 0, .string ⟨#[]⟩] 28) := TB.new w _ _ _ _
  go_enter Try.func9, Try.ntmps9
  go_upto_region 1 with fail
  generalize ((w.alloc (.cells #[.slice ao zs.length cap, .string c] 24)).alloc (.cells #[.slice none 0 0, .string ⟨#[]⟩] 28)) = u0 at *
  have HN2 : Hid (w.heap.size + 1 < u0.heap.size) := HL0.out.lt2
  have hWs : w.heap.size ≤ u0.heap.size := HL0.out.bel.size
  have HWB : Hid (∀ {x : World} {e n : Nat} {v : Value} {xs : List Value}, x.ownsRow (u0.heap.size + 1) e 3 v n xs → x.ownsRow w.heap.size e 3 v n xs) := (fun {x e n v xs} ho => by
    obtain ⟨hl, h | ⟨g, cap, cur, hv, hg, h1, h2, h3, h4, h5⟩⟩ := ho
    · exact ⟨hl, .inl h⟩
    · exact ⟨hl, .inr ⟨g, cap, cur, hv, by omega, h1, h2, h3, h4, h5⟩⟩)
  have HT3 : Hid (TB w (u0.alloc (.cells #[.slice none 0 0, .string ⟨#[]⟩] 28)) w.heap.size (w.heap.size + 1) #[.slice ao zs.length cap, .string c] 24 #[.slice none 0 0, .string ⟨#[]⟩] 28) := HL0.out.step (bx1 _ _)
  have HL3 : Hid (LG w (u0.alloc (.cells #[.slice none 0 0, .string ⟨#[]⟩] 28)) u0.heap.size #[.slice none 0 0, .string ⟨#[]⟩] 28) := ⟨HT3.out.bel, heap_new _ _, hWs⟩
  have HSZ : Hid ((u0.alloc (.cells #[.slice none 0 0, .string ⟨#[]⟩] 28)).heap.size = u0.heap.size + 1) := (show _ = _ by simp)
  clear HL0 hWs
  go_upto_region 2 with fail
  generalize (u0.alloc (.cells #[.slice none 0 0, .string ⟨#[]⟩] 28)) = u3 at *
  generalize u0.heap.size = b3 at *
  generalize w.heap.size + 1 = b2 at *
  have HW0 : Hid (∀ {x : World} {e n : Nat} {v : Value} {xs : List Value}, x.ownsRow (b3 + 1) e 3 v n xs → x.ownsRow w.heap.size e 3 v n xs) := HWB.out
  have k0 := HT3.out.c1 0 _ rfl
  have kl := HT3.out.lt1
  go_wp2_with fail
  refine Calls.mono (HS.out _ HT3.out.aft) ?_
  rintro e u4 ⟨x, rfl, ho, hb⟩
  have HT4 : Hid (TB w u4 w.heap.size b2 _ _ _ _) := HT3.out.step hb
  have HL4 : Hid (LG w u4 b3 _ _) := HL3.out.step hb
  rw [HSZ.out] at ho
  have HO : Hid (u4.ownsRow (b3 + 1) 79 3 x zs.length (ksR zs)) := ho
  obtain ⟨ax, cx, rfl⟩ := ks_sl ho
  clear ho hb HT3 HL3 k0 kl
  have k0 := HT4.out.c1 0 _ rfl
  have k1 := HT4.out.c1 1 _ rfl
  have k2 := HT4.out.c2 0 _ rfl
  have k3 := HT4.out.c2 1 _ rfl
  have f2 := HT4.out.f2 0
  have f3 := HT4.out.f2 1
  have kl := HT4.out.lt1
  have kl2 := HT4.out.lt2
  have j0 := HL4.out.cel 0 _ rfl
  have j1 := HL4.out.cel 1 _ rfl
  have jf0 := HL4.out.frz 0
  have jf1 := HL4.out.frz 1
  have jl := HL4.out.lt
  have n1 : b2 ≠ b3 := by have := HN2.out; omega
  have n2 : w.heap.size ≠ b3 := by have := HN2.out; have := HT4.out.ne; omega
  have n3 : w.heap.size ≠ b2 := by have := HT4.out.ne; omega
  have n4 : b3 ≠ b2 := by omega
  go_wp2
  have hbk : ∀ k, (Value.slice ax zs.length cx).ownBlock = some k → b3 + 1 ≤ k := fun k hk => (HO.out.lt k hk).1
  refine bodyPost_ret (v := .agg #[.slice ax zs.length cx, .string c]) ?_ rfl ⟨_, rfl, HW0.out ?_, ?_⟩
  · simp [results, Try.results9, go_sem, k2, k3]
  · refine own_set (own_set (own_set (own_set HO.out ?_) ?_) ?_) ?_
    all_goals
      intro hh
      have := hbk _ hh
      have := HN2.out
      simp only at *
      omega
  · exact (((HT4.out.bel.setCell HL4.out.ge _).setCell HL4.out.ge _).setCell HT4.out.ge2 _).setCell HT4.out.ge2 _
set_option maxRecDepth 100000 in
set_option maxHeartbeats 4000000 in
theorem eqVol_ok {w : World} {v u : Value} {zs : List KS} (h : KSrow w v zs) (h' : KSrow w u zs) (hl : zs.length ≤ 1048576) (c : ByteArray) :
    Calls Try.prog 12 #[.agg #[v, .string c], .agg #[u, .string c]] w fun e w' => e = .returned (.bool true) ∧ Below w.heap.size w w' := by
  have HE : Hid (∀ x, Aft w x → Calls Try.prog 46 #[v, u] x fun e w' => e = .returned (.bool true) ∧ Below x.heap.size x w') := fun x hx => eqKSS_ok (h.below hx.out) (h'.below hx.out) hl
  obtain ⟨a1, c1, rfl⟩ := h.sl
  obtain ⟨a2, c2, rfl⟩ := h'.sl
  clear h h'
  have HT0 : Hid (TB w ((w.alloc (.cells #[.slice a1 zs.length c1, .string c] 28)).alloc (.cells #[.slice a2 zs.length c2, .string c] 28)) w.heap.size (w.heap.size + 1) #[.slice a1 zs.length c1, .string c] 28 #[.slice a2 zs.length c2, .string c] 28) := TB.new w _ _ _ _
  have e3 : (c.toList == c.toList) = true := by simp
  go_enter Try.func12, Try.ntmps12
  go_upto_region 1 with fail
  generalize ((w.alloc (.cells #[.slice a1 zs.length c1, .string c] 28)).alloc (.cells #[.slice a2 zs.length c2, .string c] 28)) = u0 at *
  generalize w.heap.size + 1 = b2 at *
  generalize w.heap.size = b1 at *
  have k0 := HT0.out.c1 0 _ rfl
  have k1 := HT0.out.c2 0 _ rfl
  have kl := HT0.out.lt1
  have kl2 := HT0.out.lt2
  go_wp2_with fail
  refine Calls.mono (HE.out _ HT0.out.aft) ?_
  rintro e u1 ⟨rfl, hb1⟩
  have HT1 : Hid (TB w u1 b1 b2 _ _ _ _) := HT0.out.step hb1
  clear hb1 HT0 k0 k1 kl kl2
  have k0 := HT1.out.c1 1 _ rfl
  have k1 := HT1.out.c2 1 _ rfl
  have kl := HT1.out.lt1
  have kl2 := HT1.out.lt2
  go_wp2
  go_ret
  exact ⟨rfl, HT1.out.bel⟩
end Go.Proofs.Ythncnffnjjclfab
