import Derived.Test.YtpggbbdfbnocfaaFp1
import Derived.Test.YtpggbbdfbnocfaaIdxNH
import Derived.Test.YtpggbbdfbnocfaaIdxFW
import Derived.Test.YtpggbbdfbnocfaaIdxNR
import Derived.Test.YtpggbbdfbnocfaaMr1
namespace Go.Proofs.Ytpggbbdfbnocfaa
open Go.ChangeShapes Go.WideShapes Go.ChangeAt Go.RowKit

/-- The number of the first with this address, or -1. -/
def hAt (ads : List Int) (x : Int) : Int := match ads.findIdx? (fun y => y == x) with | some k => (k : Int) | none => -1
theorem hAt_raw {w : World} {qs : List NH} {hs : List HO} (h : HOin w qs hs) (x : Int) : ixNH (fun z => z.addr == x) qs = hAt (hs.map (·.addr)) x := by
  have e : qs.map (·.addr) = hs.map (·.addr) := by
    apply List.ext_getElem
    · simp [h.len]
    · intro k h1 h2
      simp only [List.getElem_map]
      rw [(h.el k (by simpa using h1) (by simpa using h2)).1]
      rfl
  unfold ixNH hAt
  rw [← e, List.findIdx?_map]
  rfl
set_option maxRecDepth 100000 in
set_option maxHeartbeats 4000000 in
theorem hostAt1_any {w : World} {bn : Nat} {x : Int} (h1 : w.cell? ⟨bn, 0, none⟩ = some (.int .i64 x)) (l1 : bn < w.heap.size) (z : NH) : Calls Try.prog 86 #[.agg #[.int .i64 z.addr, z.groups], .pointer (some ⟨bn, 0, none⟩)] w fun r w' => r = .returned (.bool (z.addr == x)) ∧ Below w.heap.size w w' := by
  have HL0 : Hid (LG w (w.alloc (.cells #[.int .i64 z.addr, z.groups] 86)) w.heap.size #[.int .i64 z.addr, z.groups] 86) := LG.new w _ _
  have d1 : (w.alloc (.cells #[.int .i64 z.addr, z.groups] 86)).cell? ⟨bn, 0, none⟩ = some (.int .i64 x) := ((bx1 _ _).cell (p := ⟨bn, 0, none⟩) l1).trans h1
  have m1 : bn < (w.alloc (.cells #[.int .i64 z.addr, z.groups] 86)).heap.size := by simp; omega
  clear h1 l1
  go_enter Try.func86, Try.ntmps86
  go_upto_region 1 with fail
  generalize (w.alloc (.cells #[.int .i64 z.addr, z.groups] 86)) = u0 at *
  generalize w.heap.size = b0 at *
  have k0 := HL0.out.cel 0 _ rfl
  have kl := HL0.out.lt
  go_wp2
  go_ret
  exact ⟨rfl, HL0.out.bel⟩
theorem cfH : ∀ (xs : Array Value) (w' : World), (callFunc 86 xs).run Try.prog w' = .ok (.enter 86 xs) w' := by
  intro xs w'
  kernel_rfl
set_option maxRecDepth 100000 in
set_option maxHeartbeats 4000000 in
theorem hostAt_any {w : World} {b : Nat} {s : FI} {a : FA} (h : FX w b s a) (hl : s.hs.length ≤ 1048576) (x : Int) : Calls Try.prog 71 #[.pointer (some ⟨b, 0, none⟩), .int .i64 x] w fun e w' => e = .returned (.int .i64 (hAt (s.hs.map (·.addr)) x)) ∧ Below w.heap.size w w' := by
  have HX : Hid (FX w b s a) := h
  obtain ⟨ae, ke, ee⟩ := h.sh
  have HW2 : Hid (LG w (w.alloc (.cells #[.int .i64 x] 2)) w.heap.size #[.int .i64 x] 2) := LG.new w _ _
  have HE : Hid (a.vhs = .slice ae s.hs.length ke) := ee
  have hlq : a.qhs.length ≤ 1048576 := by rw [h.row.nhs.len]; exact hl
  clear h ee
  go_enter Try.func71, Try.ntmps71
  go_upto_region 1 with fail
  generalize (w.alloc (.cells #[.int .i64 x] 2)) = u0 at *
  have HX2 : Hid (FX u0 b s a) := HX.out.below HW2.out.bel
  have c1 := HX2.out.c0
  rw [HE.out] at c1
  have cl := HX2.out.lt
  have HIX : Hid (Calls Try.prog 85 #[.slice ae s.hs.length ke, .func (.func 86) #[] #[.pointer (some ⟨w.heap.size, 0, none⟩)]] u0 fun r w' => r = .returned (.int .i64 (hAt (s.hs.map (·.addr)) x)) ∧ Below u0.heap.size u0 w') := (by
    have h9 := indexNH_any (HE.out ▸ HX2.out.row.rhs) hlq _ #[.pointer (some ⟨w.heap.size, 0, none⟩)] (fun z => z.addr == x) cfH (fun z w' hb => hostAt1_any ((hb.cell (p := ⟨w.heap.size, 0, none⟩) HW2.out.lt).trans (HW2.out.cel 0 _ rfl)) (Nat.lt_of_lt_of_le HW2.out.lt hb.size) z)
    rw [hAt_raw HX2.out.row.nhs] at h9
    exact h9)
  go_wp2_with fail
  refine Calls.mono HIX.out ?_
  rintro e u1 ⟨rfl, hb1⟩
  have HB1 : Hid (Below w.heap.size w u1) := HW2.out.bel.trans (hb1.mono HW2.out.bel.size)
  clear hb1
  go_wp2
  go_ret
  exact ⟨rfl, HB1.out⟩
def ihB (s : FI) (x : Int) : Bool := hAt (s.hs.map (·.addr)) x != -1
set_option maxRecDepth 100000 in
set_option maxHeartbeats 4000000 in
theorem isHost_any {w : World} {b : Nat} {s : FI} {a : FA} (h : FX w b s a) (hl : s.hs.length ≤ 1048576) (x : Int) : Calls Try.prog 76 #[.pointer (some ⟨b, 0, none⟩), .int .i64 x] w fun e w' => e = .returned (.bool (ihB s x)) ∧ Below w.heap.size w w' := by
  have HH : Hid _ := hostAt_any h hl x
  unfold ihB
  generalize hAt (s.hs.map (·.addr)) x = R at *
  clear h
  go_enter Try.func76, Try.ntmps76
  go_wp2_with fail
  refine Calls.mono HH.out ?_
  rintro e u1 ⟨rfl, hb1⟩
  have HB1 : Hid (Below w.heap.size w u1) := hb1
  clear hb1
  go_wp2
  go_ret
  exact ⟨rfl, HB1.out⟩
def ak (p : Int → Bool) (zs : List Int) (j : Nat) : Bool := p (zs.getD j 0) && rk zs j
def arB (p : Int → Bool) (zs : List Int) : Bool := allB (ak p zs) zs.length
set_option maxRecDepth 100000 in
set_option maxHeartbeats 4000000 in
theorem areRising_any {w : World} {b : Nat} {s : FI} {a : FA} (hx : FX w b s a) (hg : s.gs.length ≤ 1048576) {v : Value} {zs : List Int} (h : Irow w v zs) (hl : zs.length ≤ 1048576) : Calls Try.prog 72 #[v, .func (.func 60) #[.pointer (some ⟨b, 0, none⟩)] #[]] w fun e w' => e = .returned (.bool (arB (fun n => inW s.gs.length n 1) zs)) ∧ Below w.heap.size w w' := by
  obtain ⟨ao, cap, rfl⟩ := h.sl
  have HR : Hid (Irow w (.slice ao zs.length cap) zs) := h
  have HX : Hid (FX w b s a) := hx
  have HHG : Hid (∀ u, Below w.heap.size w u → ∀ n, Calls Try.prog 60 #[.pointer (some ⟨b, 0, none⟩), .int .i64 n] u fun e w' => e = .returned (.bool (inW s.gs.length n 1)) ∧ w' = u) := fun u hu n => hasGroup_any (HX.out.below hu) hg n
  obtain ⟨p, hp⟩ : ∃ p : Int → Bool, (fun n => inW s.gs.length n 1) = p := ⟨_, rfl⟩
  have HHP : Hid (∀ n, inW s.gs.length n 1 = p n) := (fun n => by rw [← hp])
  rw [hp]
  have hcf : ∀ (xs : Array Value) (w' : World), (callFunc 60 xs).run Try.prog w' = .ok (.enter 60 xs) w' := by
    intro xs w'
    kernel_rfl
  clear h hx hp
  go_enter Try.func72, Try.ntmps72
  go_wp2
  go_loopw [9] (fun i wr => ∃ k : Nat, k ≤ zs.length ∧ i = .int .i64 k ∧ allB (ak p zs) k = true ∧ Below w.heap.size w wr) (fun i _ => zs.length - (intOf i).toNat)
  case atStart => exact ⟨0, Nat.zero_le _, rfl, rfl, Below.refl _ _⟩
  case round =>
    obtain ⟨k, hk, rfl, hok, hb⟩ := hrel
    have HOK : Hid (allB (ak p zs) k = true) := hok
    have HB : Hid (Below w.heap.size w wr) := hb
    clear hok
    by_cases hlt : k < zs.length
    · obtain ⟨g, o, cap2, hv, _, hg2, hc⟩ := HR.out.resolve_left (fun h => by rw [h.1] at hlt; simp at hlt)
      injection hv with hv1 hv2 hv3
      subst hv1 hv3
      have d0 := hc.below hb hg2 k hlt
      have hk0 : (0 : Int) ≤ (k : Int) := by omega
      have hk1 : (k : Int) < (zs.length : Int) := by omega
      have hgw : g < wr.heap.size := Nat.lt_of_lt_of_le hg2 hb.size
      have HCL : Hid (Calls Try.prog 60 #[.pointer (some ⟨b, 0, none⟩), .int .i64 zs[k]] wr fun e w' => e = .returned (.bool (p zs[k])) ∧ w' = wr) := (by have h9 := HHG.out wr hb zs[k]; rw [HHP.out] at h9; exact h9)
      have HAK : Hid (ak p zs k = (p zs[k] && rk zs k)) := (show ak p zs k = _ by unfold ak; rw [gd hlt])
      cases h0 : p zs[k]
      · rw [h0] at HCL HAK
        have HBD : Hid (arB p zs = false) := allB_bad hlt (HAK.out.trans rfl)
        generalize zs[k] = z at *
        clear hc hb hv2
        go_wp2_with fail
        refine Calls.mono HCL.out ?_
        rintro e u1 ⟨rfl, hw1⟩
        rw [hw1]
        clear hw1
        go_wp2
        go_ret
        exact ⟨ret_bool HBD.out.symm, HB.out⟩
      · rw [h0] at HCL HAK
        by_cases hz : k = 0
        · subst hz
          rw [Nat.add_zero] at d0
          have HGD : Hid (allB (ak p zs) (0 + 1) = true) := (show _ = true by rw [allB_succ, HOK.out, HAK.out]; rfl)
          generalize zs[0] = z at *
          clear hc hb hv2
          go_wp2_with fail
          refine Calls.mono HCL.out ?_
          rintro e u1 ⟨rfl, hw1⟩
          rw [hw1]
          clear hw1
          go_wp2
          exact ⟨⟨0 + 1, hlt, by go_num, HGD.out, HB.out⟩, by simp [intOf]; omega⟩
        · have hkp : (0 : Int) < (k : Int) := by omega
          have hkm : k - 1 < zs.length := by omega
          have d1 := hc.below hb hg2 (k - 1) hkm
          have hrk : rk zs k = decide (zs[k - 1] < zs[k]) := by unfold rk; rw [gd hlt, gd hkm]; simp [hz]
          rw [hrk] at HAK
          obtain ⟨m, hm⟩ : ∃ m, k = m + 1 := ⟨k - 1, by omega⟩
          subst hm
          simp only [Nat.add_sub_cancel] at *
          have hj1 : ((m + 1 : Nat) : Int) - 1 = (m : Int) := by omega
          have hj2 : (m : Int) < (zs.length : Int) := by omega
          have hj3 : (0 : Int) ≤ (m : Int) := by omega
          generalize zs[m + 1] = z at *
          generalize zs[m] = y at *
          cases h1 : decide (z ≤ y)
          · have HGD : Hid (allB (ak p zs) (m + 1 + 1) = true) := (show _ = true by rw [allB_succ, HOK.out, HAK.out]; have := of_decide_eq_false h1; simp; omega)
            clear hc hb hv2 hrk hz hkm hkp
            go_wp2_with fail
            refine Calls.mono HCL.out ?_
            rintro e u1 ⟨rfl, hw1⟩
            rw [hw1]
            clear hw1
            go_wp2
            exact ⟨⟨m + 1 + 1, hlt, by go_num, HGD.out, HB.out⟩, by simp [intOf]; omega⟩
          · have HBD : Hid (arB p zs = false) := allB_bad hlt (HAK.out.trans (by have := of_decide_eq_true h1; simp; omega))
            clear hc hb hv2 hrk hz hkm hkp
            go_wp2_with fail
            refine Calls.mono HCL.out ?_
            rintro e u1 ⟨rfl, hw1⟩
            rw [hw1]
            clear hw1
            go_wp2
            go_ret
            exact ⟨ret_bool HBD.out.symm, HB.out⟩
    · obtain rfl : k = zs.length := by omega
      go_wp2
      go_ret
      exact ⟨ret_bool HOK.out.symm, HB.out⟩
def fkB (p t : Int) (z : FW) : Bool := z.proto == p && z.port == t
set_option maxRecDepth 100000 in
set_option maxHeartbeats 4000000 in
theorem forwardAt1_any {w : World} {bn ba : Nat} {n a : Int} (h1 : w.cell? ⟨bn, 0, none⟩ = some (.int .i64 n)) (h2 : w.cell? ⟨ba, 0, none⟩ = some (.int .i64 a)) (l1 : bn < w.heap.size) (l2 : ba < w.heap.size) (z : FW) : Calls Try.prog 89 #[.agg #[.int .i64 z.proto, .int .i64 z.port, .int .i64 z.addr, .int .i64 z.tp], .pointer (some ⟨bn, 0, none⟩), .pointer (some ⟨ba, 0, none⟩)] w fun r w' => r = .returned (.bool (fkB n a z)) ∧ Below w.heap.size w w' := by
  have HL0 : Hid (LG w (w.alloc (.cells #[.int .i64 z.proto, .int .i64 z.port, .int .i64 z.addr, .int .i64 z.tp] 56)) w.heap.size #[.int .i64 z.proto, .int .i64 z.port, .int .i64 z.addr, .int .i64 z.tp] 56) := LG.new w _ _
  have d1 : (w.alloc (.cells #[.int .i64 z.proto, .int .i64 z.port, .int .i64 z.addr, .int .i64 z.tp] 56)).cell? ⟨bn, 0, none⟩ = some (.int .i64 n) := ((bx1 _ _).cell (p := ⟨bn, 0, none⟩) l1).trans h1
  have d2 : (w.alloc (.cells #[.int .i64 z.proto, .int .i64 z.port, .int .i64 z.addr, .int .i64 z.tp] 56)).cell? ⟨ba, 0, none⟩ = some (.int .i64 a) := ((bx1 _ _).cell (p := ⟨ba, 0, none⟩) l2).trans h2
  have m1 : bn < (w.alloc (.cells #[.int .i64 z.proto, .int .i64 z.port, .int .i64 z.addr, .int .i64 z.tp] 56)).heap.size := by simp; omega
  have m2 : ba < (w.alloc (.cells #[.int .i64 z.proto, .int .i64 z.port, .int .i64 z.addr, .int .i64 z.tp] 56)).heap.size := by simp; omega
  have E : Hid (fkB n a z = (z.proto == n && z.port == a)) := rfl
  clear h1 h2 l1 l2
  cases q1 : (z.proto == n)
  · rw [q1] at E
    go_enter Try.func89, Try.ntmps89
    go_upto_region 1 with fail
    generalize (w.alloc (.cells #[.int .i64 z.proto, .int .i64 z.port, .int .i64 z.addr, .int .i64 z.tp] 56)) = u0 at *
    generalize w.heap.size = b0 at *
    have k0 := HL0.out.cel 0 _ rfl
    have k1 := HL0.out.cel 1 _ rfl
    have kl := HL0.out.lt
    go_wp2
    go_ret
    exact ⟨ret_bool (by rw [E.out]; rfl), HL0.out.bel⟩
  · rw [q1] at E
    go_enter Try.func89, Try.ntmps89
    go_upto_region 1 with fail
    generalize (w.alloc (.cells #[.int .i64 z.proto, .int .i64 z.port, .int .i64 z.addr, .int .i64 z.tp] 56)) = u0 at *
    generalize w.heap.size = b0 at *
    have k0 := HL0.out.cel 0 _ rfl
    have k1 := HL0.out.cel 1 _ rfl
    have kl := HL0.out.lt
    go_wp2
    go_ret
    exact ⟨ret_bool (by rw [E.out]; rfl), HL0.out.bel⟩
theorem cfF : ∀ (xs : Array Value) (w' : World), (callFunc 89 xs).run Try.prog w' = .ok (.enter 89 xs) w' := by
  intro xs w'
  kernel_rfl
set_option maxRecDepth 100000 in
set_option maxHeartbeats 4000000 in
theorem forwardAt_any {w : World} {b : Nat} {s : FI} {a : FA} (h : FX w b s a) (hl : s.fs.length ≤ 1048576) (n ad : Int) : Calls Try.prog 77 #[.pointer (some ⟨b, 0, none⟩), .int .i64 n, .int .i64 ad] w fun e w' => e = .returned (.int .i64 (ixFW (fkB n ad) s.fs)) ∧ Below w.heap.size w w' := by
  have HX : Hid (FX w b s a) := h
  obtain ⟨ae, ke, ee⟩ := h.row.rfs.sl
  have HW2 : Hid (TB w ((w.alloc (.cells #[.int .i64 n] 2)).alloc (.cells #[.int .i64 ad] 2)) w.heap.size (w.heap.size + 1) #[.int .i64 n] 2 #[.int .i64 ad] 2) := TB.new w _ _ _ _
  have HE : Hid (a.vfs = .slice ae s.fs.length ke) := ee
  clear h ee
  go_enter Try.func77, Try.ntmps77
  go_upto_region 1 with fail
  generalize ((w.alloc (.cells #[.int .i64 n] 2)).alloc (.cells #[.int .i64 ad] 2)) = u0 at *
  generalize w.heap.size + 1 = b2 at *
  have HX2 : Hid (FX u0 b s a) := HX.out.below HW2.out.bel
  have c1 := HX2.out.c2
  rw [HE.out] at c1
  have cl := HX2.out.lt
  have HIX : Hid (Calls Try.prog 88 #[.slice ae s.fs.length ke, .func (.func 89) #[] #[.pointer (some ⟨w.heap.size, 0, none⟩), .pointer (some ⟨b2, 0, none⟩)]] u0 fun r w' => r = .returned (.int .i64 (ixFW (fkB n ad) s.fs)) ∧ Below u0.heap.size u0 w') := indexFW_any (HE.out ▸ HX2.out.row.rfs) hl _ #[.pointer (some ⟨w.heap.size, 0, none⟩), .pointer (some ⟨b2, 0, none⟩)] (fkB n ad) cfF (fun x w' hb => forwardAt1_any ((hb.cell (p := ⟨w.heap.size, 0, none⟩) HW2.out.lt1).trans (HW2.out.c1 0 _ rfl)) ((hb.cell (p := ⟨b2, 0, none⟩) HW2.out.lt2).trans (HW2.out.c2 0 _ rfl)) (Nat.lt_of_lt_of_le HW2.out.lt1 hb.size) (Nat.lt_of_lt_of_le HW2.out.lt2 hb.size) x)
  go_wp2_with fail
  refine Calls.mono HIX.out ?_
  rintro e u1 ⟨rfl, hb1⟩
  have HB1 : Hid (Below w.heap.size w u1) := HW2.out.bel.trans (hb1.mono HW2.out.bel.size)
  clear hb1
  go_wp2
  go_ret
  exact ⟨rfl, HB1.out⟩
end Go.Proofs.Ytpggbbdfbnocfaa
