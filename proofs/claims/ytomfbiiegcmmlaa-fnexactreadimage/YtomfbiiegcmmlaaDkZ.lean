import Derived.Test.YtomfbiiegcmmlaaDk2
import Derived.Test.YtomfbiiegcmmlaaBytes
import Derived.Test.YtomfbiiegcmmlaaHl
import Derived.Deep.AppendLies
import Derived.Deep.QuietTactic
namespace Go.Proofs.Ytomfbiiegcmmlaa
open Go.ChangeShapes Go.WideShapes Go.ChangeAt Go.RowKit

set_option maxRecDepth 100000
theorem Try.info57 : (Try.prog.info? 57).map (fun i => (i.zero, i.size, i.bytes)) = some (some (.agg #[.string ⟨#[]⟩, .string ⟨#[]⟩, .slice none 0 0, .slice none 0 0, .slice none 0 0]), 5, 104) := by kernel_rfl
/-- The images of a way. -/
def stG (gs : List IG) (cs : List Nat) : List IG := cs.map (fun c => gs.getD c ig0)
/-- The code of a stack. -/
def osC (ms : List IM) (n : ByteArray) : Int := if 1000 < ms.length ∨ 65536 < n.size then 2 else if chB ms then (match fdN ms n with | some _ => 0 | none => 5) else 1
/-- What is told of a stack. -/
def OS (w w' : World) (gs : List IG) (ms : List IM) (n : ByteArray) (sv : Value) : Prop := chB ms = true ∧ ∃ k, fdN ms n = some k ∧ w'.ownsRow w.heap.size 57 5 sv (pth ms k).length (igR (stG gs (pth ms k)))
theorem noName {ms : List IM} (h : RL ms) {n : ByteArray} (hn : n.size = 0) : fdN ms n = none := by
  cases hq : fdN ms n with
  | none => rfl
  | some k =>
    obtain ⟨hk, hp, _⟩ := List.findIdx?_eq_some_iff_getElem.1 hq
    have hk2 : k < ms.length := by simpa using hk
    simp only [List.getElem_map] at hp
    have e := eq_of_beq hp
    have hz := (of_decide_eq_true (h.im k hk2).n).1
    have e2 : ms[k].n.size = n.size := by
      have := congrArg List.length e
      rw [ByteArray.toList_eq, ByteArray.toList_eq] at this
      simpa using this
    omega
/-- The state of the loop: what is still to come. -/
def Nx (ms : List IM) (P pre : List Nat) (i : Value) : Prop := (i = .int .i64 (-1) ∧ P = pre) ∨ ∃ c : Nat, i = .int .i64 c ∧ c < ms.length ∧ ceI ms 14 c = true ∧ P = pre ++ pth ms c
/-- How far it still goes. -/
def mz (ms : List IM) : Value → Nat
  | .int _ x => if x < 0 then 0 else (pth ms x.toNat).length
  | _ => 0
theorem mz_neg (ms : List IM) : mz ms (.int .i64 (-1)) = 0 := rfl
theorem mz_nat (ms : List IM) (k : Nat) : mz ms (.int .i64 (k : Int)) = (pth ms k).length := by
  show (if (k : Int) < 0 then 0 else (pth ms (k : Int).toNat).length) = _
  rw [if_neg (by omega), Int.toNat_natCast]
theorem new_cells (w : World) (xs : List Value) (t : Nat) : ∀ (j : Nat) (u : Value), xs[j]? = some u → (w.alloc (.cells xs.toArray t)).cell? ((⟨w.heap.size, 0, none⟩ : Addr).add j) = some u := by
  intro j u hu
  have hadd : Addr.add ⟨w.heap.size, 0, none⟩ j = ⟨w.heap.size, j, none⟩ := by
    unfold Addr.add
    split
    · subst_vars; rfl
    · simp
  rw [hadd]
  have hh := heap_new w (.cells xs.toArray t)
  simp only [World.cell?, hh]
  simpa using hu
theorem pth_le (ms : List IM) (c : Nat) : (pth ms c).length ≤ 14 := ptL_len ms 14 c
/-- The images that stand in a stack. -/
def stP (ms : List IM) (n : ByteArray) : List Nat := match fdN ms n with | some k => pth ms k | none => []
set_option maxHeartbeats 4000000 in
theorem stackOf_any {w : World} {v : Value} {gs : List IG} {ms : List IM} (h : IGrow w v gs) (hi : IGin w gs ms) (hl : ms.length ≤ 1048576) (hr : RL ms) (n : ByteArray) : Calls Try.prog 48 #[v, .string n] w fun e w' => ∃ sv, e = .returned sv ∧ w'.ownsRow w.heap.size 57 5 sv (stP ms n).length (igR (stG gs (stP ms n))) ∧ Below w.heap.size w w' := by
  have hlq := hi.len
  have HI : Hid (IGin w gs ms) := hi
  obtain ⟨ao, cap, rfl⟩ := h.sl
  have HR : Hid (IGrow w (.slice ao ms.length cap) gs) := (show IGrow w (.slice ao ms.length cap) gs by rw [← hlq]; exact h)
  have HLQ : Hid (gs.length = ms.length) := hlq
  rw [hlq]
  clear h hi hlq
  have HRL : Hid (RL ms) := hr
  clear hr
  have HIA : Hid (∀ (m : ByteArray) u, Below w.heap.size w u → Calls Try.prog 73 #[.slice ao ms.length cap, .string m] u fun e w' => e = .returned (.int .i64 (fdI ms m)) ∧ Below u.heap.size u w') := fun m u hu => imageAt_any (HR.out.below hu) (HI.out.below hu) hl m
  obtain ⟨i0, hi0, hz0, hz1, hz2⟩ := info_parts Try.info57
  have HI0 : Hid _ := hi0
  have HZ0 : Hid _ := hz0
  have HZ1 : Hid _ := hz1
  have HZ2 : Hid _ := hz2
  clear hi0 hz0 hz1 hz2
  obtain ⟨P, hP⟩ : ∃ P, stP ms n = P := ⟨_, rfl⟩
  rw [hP]
  unfold stP at hP
  have HPL : Hid (P.length ≤ 14) := (show P.length ≤ 14 by
    rw [← hP]
    split
    · exact pth_le _ _
    · simp)
  have HN0 : Hid (Nx ms P [] (.int .i64 (fdI ms n))) := (show Nx ms P [] (.int .i64 (fdI ms n)) by
    unfold Nx fdI
    rw [← hP]
    cases hq : fdN ms n with
    | none => exact .inl ⟨rfl, rfl⟩
    | some k => exact .inr ⟨k, rfl, fdN_lt hq, HRL.out.ce k (fdN_lt hq), rfl⟩)
  clear hP
  go_enter Try.func48, Try.ntmps48
  go_wp2_with (go_at_call 73; refine Calls.mono (HIA.out n _ (Below.refl _ _)) ?_; rintro e u3 ⟨rfl, hu⟩; have HU3 : Hid (Below w.heap.size w u3) := hu; clear hu)
  go_loopw [5, 6] (fun st i wr => ∃ pre : List Nat, Nx ms P pre i ∧ wr.ownsRow w.heap.size 57 5 st pre.length (igR (stG gs pre)) ∧ Below w.heap.size w wr) (fun _ i _ => mz ms i)
  case atStart => exact ⟨[], HN0.out, World.ownsRow_nil _ _ _ _, HU3.out⟩
  case round =>
    obtain ⟨pre, hnx, hown, hb⟩ := hrel
    obtain ⟨st0, kst, hst⟩ := ig_sl hown
    subst hst
    rcases hnx with ⟨rfl, hPe⟩ | ⟨c, rfl, hc, hce, hPe⟩
    · have HOW : Hid (wr.ownsRow w.heap.size 57 5 (.slice st0 pre.length kst) P.length (igR (stG gs P))) := (show wr.ownsRow w.heap.size 57 5 (.slice st0 pre.length kst) P.length (igR (stG gs P)) by rw [hPe]; exact hown)
      clear hown HN0 hPe
      go_wp2
      go_ret
      exact ⟨_, rfl, HOW.out, hb⟩
    · have hcq : c < gs.length := by rw [HLQ.out]; exact hc
      obtain ⟨g, o, cap2, hv, _, hg, hcc⟩ := HR.out.resolve_left (fun h => by rw [h.1] at hcq; simp at hcq)
      injection hv with hv1 hv2 hv3
      subst hv1 hv3
      obtain ⟨e0, e1, q, e2⟩ := HI.out.el c hcq hc
      obtain ⟨p1, r1, s1⟩ := e2.t.sl
      obtain ⟨p2, r2, s2⟩ := e2.d.sl
      obtain ⟨p3, r3, s3⟩ := e2.sn.sl
      simp only at s1 s2 s3
      have HD : Hid (∀ u, Below w.heap.size w u → u.cell? ⟨g, o + c * 5, none⟩ = some (.string ms[c].n) ∧ u.cell? ⟨g, o + c * 5 + 1, none⟩ = some (.string (bkO ms c)) ∧ u.cell? ⟨g, o + c * 5 + 2, none⟩ = some (.slice p1 ms[c].t.length r1) ∧ u.cell? ⟨g, o + c * 5 + 3, none⟩ = some (.slice p2 ms[c].d.length r2) ∧ u.cell? ⟨g, o + c * 5 + 4, none⟩ = some (.slice p3 q.length r3)) := fun u hu => by
        obtain ⟨d0, d1, d2, d3, d4⟩ := hcc.below hu hg c hcq
        rw [e0] at d0
        rw [e1, ← bkO_at ms c hc] at d1
        rw [s1] at d2
        rw [s2] at d3
        rw [s3] at d4
        exact ⟨d0, d1, d2, d3, d4⟩
      have HIG : Hid (gs.getD c ig0 = ⟨ms[c].n, bkO ms c, .slice p1 ms[c].t.length r1, .slice p2 ms[c].d.length r2, .slice p3 q.length r3⟩) := (show _ = _ by
        rw [List.getD_eq_getElem?_getD, List.getElem?_eq_getElem hcq, Option.getD_some]
        generalize gs[c] = z at *
        obtain ⟨zn, zb, zt, zd, zs⟩ := z
        simp only at e0 e1 s1 s2 s3
        rw [e0, e1, s1, s2, s3, bkO_at ms c hc])
      obtain ⟨d0, d1, d2, d3, d4⟩ := HD.out wr hb
      have hc0 : (0 : Int) ≤ (c : Int) := by omega
      have hc1 : (c : Int) < (ms.length : Int) := by omega
      have hgw : g < wr.heap.size := Nat.lt_of_lt_of_le hg hb.size
      have HOW : Hid (wr.ownsRow w.heap.size 57 5 (.slice st0 pre.length kst) pre.length (igR (stG gs pre))) := hown
      have HB : Hid (Below w.heap.size w wr) := hb
      have HLP : Hid (pre.length ≤ 14) := (show pre.length ≤ 14 by have := HPL.out; rw [hPe, List.length_append] at this; omega)
      have HNX : Hid (∃ pre2, pre2 = pre ++ [c] ∧ Nx ms P pre2 (.int .i64 (fdI ms (bkO ms c))) ∧ mz ms (.int .i64 (fdI ms (bkO ms c))) < (pth ms c).length) := (show _ from by
        refine ⟨_, rfl, ?_⟩
        by_cases hz : (bkO ms c).size = 0
        · have hnn := noName HRL.out hz
          have hfi : fdI ms (bkO ms c) = -1 := by unfold fdI; rw [hnn]
          rw [hfi]
          refine ⟨.inl ⟨rfl, ?_⟩, ?_⟩
          · rw [hPe, pth_end hz]
          · rw [pth_end hz, mz_neg]; simp
        · obtain ⟨k, hq, hk, hcek, hpk⟩ := pth_next hce hz
          have hfi : fdI ms (bkO ms c) = k := by unfold fdI; rw [hq]
          rw [hfi]
          refine ⟨.inr ⟨k, rfl, hk, hcek, ?_⟩, ?_⟩
          · rw [hPe, hpk, List.append_assoc]; rfl
          · rw [hpk]
            rw [mz_nat, List.length_cons]
            omega)
      clear hcc e0 e1 e2 s1 s2 s3 hv2 hb hown hPe
      generalize ms[c].t.length = tc at *
      generalize ms[c].d.length = dc at *
      generalize ms[c].n = nc at *
      generalize bkO ms c = bc at *
      go_wp2_with (at_builtin; refine wpList_append_own _ rfl _ _ 59 rfl w.heap.size 57 i0 (.agg #[.string ⟨#[]⟩, .string ⟨#[]⟩, .slice none 0 0, .slice none 0 0, .slice none 0 0]) 5 104 Try.underlying59 HI0.out HZ0.out HZ1.out HZ2.out rfl (by decide) (.slice st0 pre.length kst) pre.length (igR (stG gs pre)) rfl (HOW.out.alloc _) ⟨wr.heap.size, 0, none⟩ 1 1 [.string nc, .string bc, .slice p1 tc r1, .slice p2 dc r2, .slice p3 q.length r3] rfl rfl ?c1 ?c2 ?c3 ?c4 ?c5 ?_)
      case c1 => exact new_cells wr [.string nc, .string bc, .slice p1 tc r1, .slice p2 dc r2, .slice p3 q.length r3] 57
      case c2 => simp [Value.oneCell']
      case c3 => have := HLP.out; unfold maxLen; omega
      case c4 => have := HLP.out; omega
      case c5 => have := HB.out.size; simp; omega
      intro v' w2 hown2 hgrow _
      obtain ⟨pre2, hp2, hnx2, hmeas⟩ := HNX.out
      have HO2 : Hid (w2.ownsRow w.heap.size 57 5 v' pre2.length (igR (stG gs pre2))) := (show w2.ownsRow w.heap.size 57 5 v' pre2.length (igR (stG gs pre2)) by
        rw [hp2]
        have e : igR (stG gs (pre ++ [c])) = igR (stG gs pre) ++ [.string nc, .string bc, .slice p1 tc r1, .slice p2 dc r2, .slice p3 q.length r3] := by
          unfold stG
          rw [List.map_append, igR_app, List.map_cons, List.map_nil, HIG.out]
          rfl
        rw [e, List.length_append]
        exact hown2)
      have HB2 : Hid (Below w.heap.size w w2) := (HB.out.alloc HB.out.size _).grown hgrow (by simp; have := HB.out.size; omega) (fun j hj => (HOW.out.lt j hj).1)
      obtain ⟨st2, k2, hst2⟩ := ig_sl hown2
      subst hst2
      have HMS : Hid _ := hmeas
      have HN2 : Hid _ := hnx2
      obtain ⟨x0, x1, x2, x3, x4⟩ := HD.out w2 HB2.out
      have hlw : w.heap.size ≤ w2.heap.size := HB2.out.size
      have hgw2 : g < w2.heap.size := Nat.lt_of_lt_of_le hg hlw
      clear hown2 hgrow hmeas hnx2 d0 d1 d2 d3 d4
      go_wp2_with (go_at_call 73; refine Calls.mono (HIA.out bc _ HB2.out) ?_; rintro e u3 ⟨rfl, hu⟩; have HU5 : Hid (Below w.heap.size w u3) := HB2.out.trans (hu.mono HB2.out.size); have HO5 : Hid _ := own_below HO2.out hu; clear hu)
      go_roundw
      case rel => exact ⟨pre2, HN2.out, HO5.out, HU5.out⟩
      case measure => rw [mz_nat]; exact HMS.out

set_option maxRecDepth 100000
theorem stG_at (gs : List IG) (cs : List Nat) (k : Nat) (hk : k < cs.length) (hc : cs[k] < gs.length) : (stG gs cs)[k]'(by simpa [stG] using hk) = gs[cs[k]] := by
  simp [stG, List.getD_eq_getElem?_getD, List.getElem?_eq_getElem hc]
theorem clP_cons (ms : List IM) (n c : Nat) (cs : List Nat) : clP ms n (c :: cs) = if n < (gI ms c).t.length then
      (if 0 ≤ (gI ms c).t.getD n 0 then (gI ms c).d.getD ((gI ms c).t.getD n 0).toNat z16 else if (gI ms c).t.getD n 0 = -2 then z16 else clP ms n cs)
    else z16 := rfl
set_option maxHeartbeats 4000000 in
theorem openStack_any {w : World} {v : Value} {gs : List IG} {ms : List IM} (h : IGrow w v gs) (hi : IGin w gs ms) (hl : ms.length ≤ 1048576) (hL : ∀ k (hk : k < ms.length), ILen ms[k]) (n : ByteArray) (hn : n.size ≤ 1048576) : Calls Try.prog 25 #[v, .string n] w fun e w' => ∃ sv, e = .returned (.tuple #[sv, .int .i64 (osC ms n)]) ∧ (osC ms n = 0 → OS w w' gs ms n sv) ∧ Below w.heap.size w w' := by
  have HTL : Hid _ := fun u => tooLong_any n u
  have HCF : Hid _ := implChain_any h hi hl hL
  have hlq := hi.len
  have HI : Hid (IGin w gs ms) := hi
  obtain ⟨ao, cap, rfl⟩ := h.sl
  have HR : Hid (IGrow w (.slice ao ms.length cap) gs) := (show IGrow w (.slice ao ms.length cap) gs by rw [← hlq]; exact h)
  rw [hlq] at HCF
  have HLQ : Hid (gs.length = ms.length) := hlq
  rw [hlq]
  clear h hi hL hlq
  by_cases h1 : 1000 < ms.length
  · have HG : Hid (osC ms n = 2) := (show osC ms n = 2 by unfold osC; rw [if_pos (.inl h1)])
    generalize osC ms n = G at *
    have hi1 : (1000 : Int) < (ms.length : Int) := by omega
    go_enter Try.func25, Try.ntmps25
    go_wp2
    go_ret2
    exact ⟨_, by rw [HG.out]; rfl, fun h => absurd h (by rw [HG.out]; decide), Below.refl _ _⟩
  have hi1 : ¬ (1000 : Int) < (ms.length : Int) := by omega
  by_cases h2 : 65536 < n.size
  · have HG : Hid (osC ms n = 2) := (show osC ms n = 2 by unfold osC; rw [if_pos (.inr h2)])
    generalize osC ms n = G at *
    have hb2 : decide ((65536 : Int) < (n.size : Int)) = true := decide_eq_true (by omega)
    rw [hb2] at HTL
    clear hb2
    go_enter Try.func25, Try.ntmps25
    go_wp2_with (go_at_call 46; refine Calls.mono (HTL.out _) ?_; rintro e u1 ⟨rfl, hu⟩; rw [hu]; clear hu)
    go_ret2
    exact ⟨_, by rw [HG.out]; rfl, fun h => absurd h (by rw [HG.out]; decide), Below.refl _ _⟩
  have hb2 : decide ((65536 : Int) < (n.size : Int)) = false := decide_eq_false (by omega)
  rw [hb2] at HTL
  clear hb2
  cases hch : chB ms with
  | false =>
    have HG : Hid (osC ms n = 1) := (show osC ms n = 1 by unfold osC; rw [if_neg (by omega), hch]; rfl)
    generalize osC ms n = G at *
    rw [hch] at HCF
    clear hch
    go_enter Try.func25, Try.ntmps25
    go_wp2_with (first | (go_at_call 46; refine Calls.mono (HTL.out _) ?_; rintro e u1 ⟨rfl, hu⟩; rw [hu]; clear hu) | (go_at_call 47; refine Calls.mono HCF.out ?_; rintro e u2 ⟨rfl, hu⟩; have HU : Hid (Below w.heap.size w u2) := hu; clear hu))
    go_ret2
    exact ⟨_, by rw [HG.out]; rfl, fun h => absurd h (by rw [HG.out]; decide), HU.out⟩
  | true =>
  have HG : Hid (osC ms n = (match fdN ms n with | some _ => 0 | none => 5)) := (show osC ms n = _ by unfold osC; rw [if_neg (by omega), hch]; rfl)
  rw [hch] at HCF
  have HCH : Hid (chB ms = true) := hch
  have HST : Hid (∀ u, Below w.heap.size w u → Calls Try.prog 48 #[.slice ao ms.length cap, .string n] u fun e w' => ∃ sv, e = .returned sv ∧ w'.ownsRow u.heap.size 57 5 sv (stP ms n).length (igR (stG gs (stP ms n))) ∧ Below u.heap.size u w') := fun u hu => stackOf_any (HR.out.below hu) (HI.out.below hu) hl (RL.of HCH.out) n
  clear hch
  cases hq : fdN ms n with
  | none =>
    rw [show stP ms n = [] from by unfold stP; rw [hq]] at HST
    have HG2 : Hid (osC ms n = 5) := (show osC ms n = 5 by rw [HG.out, hq])
    generalize osC ms n = G at *
    clear hq HG
    go_enter Try.func25, Try.ntmps25
    go_wp2_with (first | (go_at_call 46; refine Calls.mono (HTL.out _) ?_; rintro e u1 ⟨rfl, hu⟩; rw [hu]; clear hu) | (go_at_call 47; refine Calls.mono HCF.out ?_; rintro e u2 ⟨rfl, hu⟩; have HU : Hid (Below w.heap.size w u2) := hu; clear hu) | (go_at_call 48; refine Calls.mono (HST.out _ HU.out) ?_; rintro e u3 ⟨sv, rfl, ho, hu⟩; obtain ⟨st0, kst, hst⟩ := ig_sl ho; subst hst; have HU3 : Hid (Below w.heap.size w u3) := HU.out.trans (hu.mono HU.out.size); clear ho hu))
    go_ret2
    exact ⟨_, by rw [HG2.out]; rfl, fun h => absurd h (by rw [HG2.out]; decide), HU3.out⟩
  | some k =>
    have hsp : stP ms n = pth ms k := by unfold stP; rw [hq]
    rw [hsp] at HST
    have HG2 : Hid (osC ms n = 0) := (show osC ms n = 0 by rw [HG.out, hq])
    have HQ : Hid (fdN ms n = some k) := hq
    have hne : ((stG gs (pth ms k)).length : Int) = ((pth ms k).length : Nat) := by simp [stG]
    have hpl : ¬ (pth ms k).length = 0 := by
      unfold pth ptL
      simp
    have hni : (((stG gs (pth ms k)).length : Int) == 0) = false := beq_eq_false_iff_ne.2 (by rw [hne]; omega)
    have hni2 : (((pth ms k).length : Int) == 0) = false := beq_eq_false_iff_ne.2 (by omega)
    generalize osC ms n = G at *
    clear hq HG hsp hne hpl
    go_enter Try.func25, Try.ntmps25
    go_wp2_with (first | (go_at_call 46; refine Calls.mono (HTL.out _) ?_; rintro e u1 ⟨rfl, hu⟩; rw [hu]; clear hu) | (go_at_call 47; refine Calls.mono HCF.out ?_; rintro e u2 ⟨rfl, hu⟩; have HU : Hid (Below w.heap.size w u2) := hu; clear hu) | (go_at_call 48; refine Calls.mono (HST.out _ HU.out) ?_; rintro e u3 ⟨sv, rfl, ho, hu⟩; obtain ⟨st0, kst, hst⟩ := ig_sl ho; subst hst; have HU3 : Hid (Below w.heap.size w u3) := HU.out.trans (hu.mono HU.out.size); have HOW : Hid (u3.ownsRow w.heap.size 57 5 (.slice st0 (pth ms k).length kst) (pth ms k).length (igR (stG gs (pth ms k)))) := own_weak ho HU.out.size; clear ho hu))
    go_ret2
    exact ⟨_, by rw [HG2.out]; rfl, fun _ => ⟨HCH.out, k, HQ.out, HOW.out⟩, HU3.out⟩
set_option maxHeartbeats 4000000 in
theorem cluster_any {w : World} {sv : Value} {gs : List IG} {ms : List IM} {cs : List Nat} (h : IGrow w sv (stG gs cs)) (hi : IGin w gs ms) (hr : RL ms) (hcs : ∀ c ∈ cs, c < ms.length) (hcl : cs.length ≤ 14) (n : Nat) (hn : n ≤ 1000) : Calls Try.prog 49 #[sv, .int .i64 n] w fun e w' => e = .returned (.string (clP ms n cs)) ∧ Below w.heap.size w w' := by
  obtain ⟨ao, cap, rfl⟩ := h.sl
  have hlq : (stG gs cs).length = cs.length := by simp [stG]
  have HR : Hid (IGrow w (.slice ao cs.length cap) (stG gs cs)) := (show IGrow w (.slice ao cs.length cap) (stG gs cs) by rw [← hlq]; exact h)
  have HI : Hid (IGin w gs ms) := hi
  have HRL : Hid (RL ms) := hr
  have HCS : Hid (∀ c ∈ cs, c < ms.length) := hcs
  have HSQ : Hid ((stG gs cs).length = cs.length) := hlq
  have HRP : Hid _ := fun u => repeat16_any u
  rw [hlq]
  clear h hi hlq hr hcs
  obtain ⟨R, hR⟩ : ∃ R, clP ms n cs = R := ⟨_, rfl⟩
  rw [hR]
  have HRR : Hid (clP ms n (cs.drop 0) = R) := hR
  clear hR
  go_enter Try.func49, Try.ntmps49
  go_wp2
  go_loopw [9] (fun i wr => ∃ k : Nat, k ≤ cs.length ∧ i = .int .i64 k ∧ clP ms n (cs.drop k) = R ∧ Below w.heap.size w wr) (fun i _ => cs.length - (intOf i).toNat)
  case atStart => exact ⟨0, Nat.zero_le _, rfl, HRR.out, Below.refl _ _⟩
  case round =>
    obtain ⟨k, hk, rfl, hR, hb⟩ := hrel
    have HB : Hid (Below w.heap.size w wr) := hb
    by_cases hlt : k < cs.length
    · have hkq : k < (stG gs cs).length := by rw [HSQ.out]; exact hlt
      obtain ⟨g, o, cap2, hv, _, hg, hcc⟩ := HR.out.resolve_left (fun h => by rw [h.1] at hkq; simp at hkq)
      injection hv with hv1 hv2 hv3
      subst hv1 hv3
      have hc : cs[k] < ms.length := HCS.out _ (List.getElem_mem hlt)
      have hcq : cs[k] < gs.length := by rw [HI.out.len]; exact hc
      obtain ⟨d0, d1, d2, d3, d4⟩ := hcc.below hb hg k hkq
      rw [stG_at gs cs k hlt hcq] at d0 d1 d2 d3 d4
      rw [List.drop_eq_getElem_cons hlt, clP_cons] at hR
      generalize cs[k] = c at *
      obtain ⟨e0, e1, q, e2⟩ := HI.out.el c hcq hc
      have e3 := e2.below hb
      obtain ⟨p1, r1, s1⟩ := e2.t.sl
      obtain ⟨p2, r2, s2⟩ := e2.d.sl
      obtain ⟨p3, r3, s3⟩ := e2.sn.sl
      simp only at s1 s2 s3
      rw [e0] at d0
      rw [e1] at d1
      have HT : Hid (Irow wr (.slice p1 ms[c].t.length r1) ms[c].t) := (show Irow wr (.slice p1 ms[c].t.length r1) ms[c].t by rw [← s1]; exact e3.t)
      have HD : Hid (Srow wr (.slice p2 ms[c].d.length r2) ms[c].d) := (show Srow wr (.slice p2 ms[c].d.length r2) ms[c].d by rw [← s2]; exact e3.d)
      rw [s1] at d2
      rw [s2] at d3
      rw [s3] at d4
      have hir := HRL.out.im c hc
      rw [gI_at ms c hc] at hR
      have hk0 : (0 : Int) ≤ (k : Int) := by omega
      have hk1 : (k : Int) < (cs.length : Int) := by omega
      have hn0 : (0 : Int) ≤ (n : Int) := by omega
      have hgw : g < wr.heap.size := Nat.lt_of_lt_of_le hg hb.size
      have HB2 : Hid (Below w.heap.size w (wr.alloc (.cells #[.string ms[c].n, .string ms[c].b, .slice p1 ms[c].t.length r1, .slice p2 ms[c].d.length r2, .slice p3 q.length r3] 57))) := hb.alloc hb.size _
      clear hcc e0 e1 e2 e3 s1 s2 s3 hv2 hb
      by_cases hnl : n < ms[c].t.length
      · rw [if_pos hnl] at hR
        have hni : ¬ (ms[c].t.length : Int) ≤ (n : Int) := by omega
        have hni2 : (n : Int) < (ms[c].t.length : Int) := by omega
        obtain ⟨g3, o3, cap3, hv, _, hg3, hc3⟩ := HT.out.resolve_left (fun h => by rw [h.1] at hnl; simp at hnl)
        injection hv with hv1 hv2 hv3
        subst hv1 hv3
        have d5 := hc3 n hnl
        have hte : ms[c].t.getD n 0 = ms[c].t[n] := by simp [List.getD_eq_getElem?_getD, List.getElem?_eq_getElem hnl]
        rw [hte] at hR
        have hen2 : -2 ≤ ms[c].t[n] ∧ ms[c].t[n] < (ms[c].d.length : Int) := of_decide_eq_true ((of_decide_eq_true (hir.tb 0 (by omega))).2 n hnl)
        clear hc3 hv2 hte hir
        generalize ms[c].t[n] = e at *
        by_cases he : 0 ≤ e
        · rw [if_pos he] at hR
          obtain ⟨j, hj⟩ : ∃ j : Nat, e = j := ⟨e.toNat, by omega⟩
          subst hj
          have hjl : j < ms[c].d.length := by omega
          rw [Int.toNat_natCast, List.getD_eq_getElem?_getD, List.getElem?_eq_getElem hjl, Option.getD_some] at hR
          obtain ⟨g4, o4, cap4, hv, _, hg4, hc4⟩ := HD.out.resolve_left (fun h => by rw [h.1] at hjl; simp at hjl)
          injection hv with hv1 hv2 hv3
          subst hv1 hv3
          have d6 := hc4 j hjl
          rw [hR] at d6
          have hj0 : (0 : Int) ≤ (j : Int) := by omega
          have hj1 : (j : Int) < (ms[c].d.length : Int) := by omega
          have hz1 : ((j : Int) == -1) = false := beq_eq_false_iff_ne.2 (by omega)
          have hz2 : ((j : Int) == -2) = false := beq_eq_false_iff_ne.2 (by omega)
          clear hc4 hv2 hR he
          generalize ms[c].d.length = dl at *
          generalize ms[c].t.length = tl at *
          generalize ms[c].n = nc at *
          generalize ms[c].b = bc at *
          go_wp2_with fail
          go_quiet (fail)
          all_goals go_wp2
          all_goals go_ret
          all_goals exact ⟨rfl, bdn HB2.out _⟩
        · rw [if_neg he] at hR
          by_cases hz : e = -2
          · rw [if_pos hz] at hR
            subst hz
            subst hR
            go_wp2_with (go_at_call 75; refine Calls.mono (HRP.out _) ?_; rintro e u2 ⟨rfl, hu⟩; have HU : Hid (Below w.heap.size w u2) := HB2.out.trans (hu.mono HB2.out.size); clear hu)
            go_ret
            exact ⟨rfl, HU.out⟩
          · rw [if_neg hz] at hR
            obtain rfl : e = -1 := by omega
            have HR2 : Hid (clP ms n (cs.drop (k + 1)) = R) := hR
            clear hR
            go_wp2
            exact ⟨⟨k + 1, hlt, by simp, HR2.out, HB2.out⟩, by simp [intOf]; omega⟩
      · rw [if_neg hnl] at hR
        subst hR
        have hni : (ms[c].t.length : Int) ≤ (n : Int) := by omega
        go_wp2_with (go_at_call 75; refine Calls.mono (HRP.out _) ?_; rintro e u2 ⟨rfl, hu⟩; have HU : Hid (Below w.heap.size w u2) := HB2.out.trans (hu.mono HB2.out.size); clear hu)
        go_ret
        exact ⟨rfl, HU.out⟩
    · obtain rfl : k = cs.length := by omega
      rw [List.drop_length] at hR
      have hR2 : z16 = R := hR
      subst hR2
      go_wp2_with (go_at_call 75; refine Calls.mono (HRP.out _) ?_; rintro e u2 ⟨rfl, hu⟩; have HU : Hid (Below w.heap.size w u2) := HB.out.trans (hu.mono HB.out.size); clear hu)
      go_ret
      exact ⟨rfl, HU.out⟩
set_option maxHeartbeats 4000000 in
theorem disk_any {w : World} {sv : Value} {gs : List IG} {ms : List IM} (c : Nat) (hc : c < ms.length) (h : IGrow w sv (stG gs (pth ms c))) (hi : IGin w gs ms) (hr : RL ms) : Calls Try.prog 26 #[sv] w fun e w' => e = .returned (.string (dkB ms c)) ∧ Below w.heap.size w w' := by
  obtain ⟨ao, cap, rfl⟩ := h.sl
  have hlq : (stG gs (pth ms c)).length = (pth ms c).length := by simp [stG]
  have HR : Hid (IGrow w (.slice ao (pth ms c).length cap) (stG gs (pth ms c))) := (show IGrow w (.slice ao (pth ms c).length cap) (stG gs (pth ms c)) by rw [← hlq]; exact h)
  have HI : Hid (IGin w gs ms) := hi
  have HRL : Hid (RL ms) := hr
  have htl : ms[c].t.length ≤ 64 := (hr.im c hc).t2
  have HCL : Hid (∀ (n : Nat), n ≤ 1000 → ∀ u, Below w.heap.size w u → Calls Try.prog 49 #[.slice ao (pth ms c).length cap, .int .i64 n] u fun e w' => e = .returned (.string (clP ms n (pth ms c))) ∧ Below u.heap.size u w') := fun n hn u hu => cluster_any (HR.out.below hu) (hi.below hu) hr (pth_lt 14 c hc) (pth_le ms c) n hn
  rw [hlq]
  clear h hi hlq hr
  have hp0 : 0 < (pth ms c).length := by unfold pth ptL; simp
  have hpi : (0 : Int) < ((pth ms c).length : Int) := by omega
  have hkq : 0 < (stG gs (pth ms c)).length := by simpa [stG] using hp0
  obtain ⟨g, o, cap2, hv, _, hg, hcc⟩ := HR.out.resolve_left (fun h => by rw [h.1] at hkq; simp at hkq)
  injection hv with hv1 hv2 hv3
  subst hv1 hv3
  have hcq : c < gs.length := by rw [HI.out.len]; exact hc
  have hp00 : (pth ms c)[0] = c := rfl
  obtain ⟨d0, d1, d2, d3, d4⟩ := hcc 0 hkq
  rw [stG_at gs (pth ms c) 0 hp0 (by rw [hp00]; exact hcq)] at d2
  simp only [hp00] at d2
  obtain ⟨e0, e1, q, e2⟩ := HI.out.el c hcq hc
  obtain ⟨p1, r1, s1⟩ := e2.t.sl
  simp only at s1
  rw [s1] at d2
  have HG : Hid (dkB ms c = ⟨(catB (dsL ms c ms[c].t.length)).toArray⟩) := (show dkB ms c = _ by unfold dkB; rw [gI_at ms c hc])
  obtain ⟨i0, hi0, hz0, hz1, hz2⟩ := info_parts Try.info9
  have HI0 : Hid _ := hi0
  have HZ0 : Hid _ := hz0
  have HZ1 : Hid _ := hz1
  have HZ2 : Hid _ := hz2
  clear hcc e0 e1 e2 s1 hv2 hi0 hz0 hz1 hz2 d0 d1 d3 d4 hp00 hp0
  generalize ms[c].t.length = T at *
  generalize dkB ms c = G at *
  generalize (pth ms c).length = PL at *
  go_enter Try.func26, Try.ntmps26
  go_wp2
  go_loopw [3, 10] (fun st i wr => ∃ k : Nat, k ≤ T ∧ i = .int .i64 k ∧ wr.ownsRow w.heap.size 9 1 st k (sR (dsL ms c k)) ∧ Below w.heap.size w wr) (fun _ i _ => T - (intOf i).toNat)
  case atStart => exact ⟨0, Nat.zero_le _, rfl, World.ownsRow_nil _ _ _ _, Below.refl _ _⟩
  case round =>
    obtain ⟨k, hk, rfl, hown, hb⟩ := hrel
    obtain ⟨st0, kst, hst⟩ := s_sl hown
    subst hst
    have HOW : Hid (wr.ownsRow w.heap.size 9 1 (.slice st0 k kst) k (sR (dsL ms c k))) := hown
    have HB : Hid (Below w.heap.size w wr) := hb
    clear hown
    by_cases hlt : k < T
    · have hk0 : (0 : Int) ≤ (k : Int) := by omega
      have hk1 : (k : Int) < (T : Int) := by omega
      have hk9 : (k : Int) ≤ 64 := by omega
      have HC2 : Hid _ := HCL.out k (by omega) wr hb
      have HS : Hid (dsL ms c (k + 1) = dsL ms c k ++ [clP ms k (pth ms c)]) := dsL_succ ms c k
      generalize clP ms k (pth ms c) = p at *
      clear hb
      go_wp2_with fail
      refine Calls.mono HC2.out ?_
      rintro e u1 ⟨rfl, hu⟩
      have HU : Hid (Below w.heap.size w u1) := HB.out.trans (hu.mono HB.out.size)
      have HO1 : Hid (u1.ownsRow w.heap.size 9 1 (.slice st0 k kst) k (sR (dsL ms c k))) := own_below HOW.out hu
      clear hu HC2
      go_wp2_with (at_builtin; refine wpList_append_own _ rfl _ _ 34 rfl w.heap.size 9 i0 (.string ⟨#[]⟩) 1 16 Try.underlying34 HI0.out HZ0.out HZ1.out HZ2.out rfl (by decide) (.slice st0 k kst) k (sR (dsL ms c k)) rfl (HO1.out.alloc _) ⟨u1.heap.size, 0, none⟩ 1 1 [.string p] rfl rfl ?c1 ?c2 ?c3 ?c4 ?c5 ?_)
      case c1 => exact new_cells u1 [.string p] 9
      case c2 => simp [Value.oneCell']
      case c3 => unfold maxLen; omega
      case c4 => omega
      case c5 => have := HU.out.size; simp; omega
      intro v' w2 hown2 hgrow _
      have HO2 : Hid (w2.ownsRow w.heap.size 9 1 v' (k + 1) (sR (dsL ms c (k + 1)))) := (show w2.ownsRow w.heap.size 9 1 v' (k + 1) (sR (dsL ms c (k + 1))) by
        rw [HS.out]
        simpa [sR] using hown2)
      have HB2 : Hid (Below w.heap.size w w2) := (HU.out.alloc HU.out.size _).grown hgrow (by simp; have := HU.out.size; omega) (fun j hj => (HO1.out.lt j hj).1)
      obtain ⟨st2, k2, hst2⟩ := s_sl HO2.out
      subst hst2
      clear hown2 hgrow
      go_wp2
      exact ⟨⟨k + 1, hlt, by simp, HO2.out, HB2.out⟩, by simp [intOf]; omega⟩
    · obtain rfl : k = T := by omega
      have hsl := dsL_size HRL.out c k hc
      have HJ : Hid _ := joined_row (ps := dsL ms c k) (v := .slice st0 k kst) (by rw [dsL_len]; exact HOW.out) (by rw [dsL_len]; omega) (by rw [hsl]; omega)
      rw [← HG.out] at HJ
      clear hsl
      go_wp2_with (go_at_call 50; refine Calls.mono HJ.out ?_; rintro e u1 ⟨rfl, hu⟩; have HU : Hid (Below w.heap.size w u1) := HB.out.trans (hu.mono HB.out.size); clear hu)
      go_ret
      exact ⟨rfl, HU.out⟩

set_option maxRecDepth 100000
theorem fd_size {ms : List IM} (h : RL ms) {n : ByteArray} {k : Nat} (hq : fdN ms n = some k) : n.size ≤ 20 := by
  obtain ⟨hk, hp, _⟩ := List.findIdx?_eq_some_iff_getElem.1 hq
  have hk2 : k < ms.length := by simpa using hk
  simp only [List.getElem_map] at hp
  have e := eq_of_beq hp
  have hz := (of_decide_eq_true (h.im k hk2).n).2.1
  have e2 : ms[k].n.size = n.size := by
    have := congrArg List.length e
    rw [ByteArray.toList_eq, ByteArray.toList_eq] at this
    simpa using this
  omega
theorem osC_no {ms : List IM} {n : ByteArray} (h : ¬ osC ms n = 0) : dkO ms n = ⟨#[]⟩ := by
  unfold dkO
  cases hc : chB ms with
  | false => rfl
  | true =>
    cases hq : fdN ms n with
    | none => rfl
    | some k =>
      exfalso
      apply h
      have hr := RL.of hc
      have h1 := hr.len
      have h2 := fd_size hr hq
      unfold osC
      rw [if_neg (by omega), hc, hq]
      rfl
theorem osC_yes {ms : List IM} {n : ByteArray} (h : osC ms n = 0) : chB ms = true ∧ ∃ k, fdN ms n = some k ∧ k < ms.length ∧ dkO ms n = dkB ms k := by
  unfold osC at h
  split at h
  · exact absurd h (by decide)
  · cases hc : chB ms with
    | false => rw [hc] at h; simp at h
    | true =>
      rw [hc] at h
      cases hq : fdN ms n with
      | none => rw [hq] at h; simp at h
      | some k => exact ⟨rfl, k, rfl, fdN_lt hq, by unfold dkO; rw [hc, hq]; rfl⟩
theorem OS.row {w w' : World} {gs : List IG} {ms : List IM} {n : ByteArray} {sv : Value} (h : OS w w' gs ms n sv) {k : Nat} (hk : fdN ms n = some k) : IGrow w' sv (stG gs (pth ms k)) := by
  obtain ⟨_, k2, hq, ho⟩ := h
  rw [hk] at hq
  injection hq with e
  subst e
  exact IGrow.of (by simpa [stG] using ho)
set_option maxHeartbeats 4000000 in
theorem implDisk_any {w : World} {v : Value} {gs : List IG} {ms : List IM} (h : IGrow w v gs) (hi : IGin w gs ms) (hl : ms.length ≤ 1048576) (hL : ∀ k (hk : k < ms.length), ILen ms[k]) (n : ByteArray) (hn : n.size ≤ 1048576) : Calls Try.prog 13 #[v, .string n] w fun e w' => e = .returned (.string (dkO ms n)) ∧ Below w.heap.size w w' := by
  have HO : Hid _ := openStack_any h hi hl hL n hn
  have HI : Hid (IGin w gs ms) := hi
  obtain ⟨ao, cap, rfl⟩ := h.sl
  clear h hi hL
  by_cases hz : osC ms n = 0
  · obtain ⟨hch, k, hq, hk, hdk⟩ := osC_yes hz
    rw [hdk]
    have HD : Hid (∀ u sv, OS w u gs ms n sv → Below w.heap.size w u → Calls Try.prog 26 #[sv] u fun e w' => e = .returned (.string (dkB ms k)) ∧ Below u.heap.size u w') := fun u sv ho hu => disk_any k hk (ho.row hq) (HI.out.below hu) (RL.of hch)
    rw [hz] at HO
    clear hz hch hdk
    generalize dkB ms k = G at *
    go_enter Try.func13, Try.ntmps13
    go_wp2_with fail
    refine Calls.mono HO.out ?_
    rintro e u1 ⟨sv, rfl, hos, hu⟩
    have HU : Hid (Below w.heap.size w u1) := hu
    have HS : Hid (OS w u1 gs ms n sv) := hos (by trivial)
    clear hu hos HO
    go_wp2_with (go_at_call 26; refine Calls.mono (HD.out _ _ HS.out HU.out) ?_; rintro e u2 ⟨rfl, hu⟩; have HU2 : Hid (Below w.heap.size w u2) := HU.out.trans (hu.mono HU.out.size); clear hu)
    go_ret
    exact ⟨rfl, HU2.out⟩
  · rw [osC_no hz]
    generalize osC ms n = C at *
    have hzi : (C == 0) = false := by simpa using hz
    clear hz
    go_enter Try.func13, Try.ntmps13
    go_wp2_with (go_at_call 25; refine Calls.mono HO.out ?_; rintro e u1 ⟨sv, rfl, hos, hu⟩; have HU : Hid (Below w.heap.size w u1) := hu; clear hu hos)
    go_ret
    exact ⟨rfl, HU.out⟩
end Go.Proofs.Ytomfbiiegcmmlaa
