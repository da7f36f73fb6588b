import Derived.Test.YtkmbhhkgfofcoaaCr3
import Derived.BigQuiet
import Derived.Deep.QuietTactic
import Derived.Deep.DeepCutAuto
namespace Go.Proofs.Ytkmbhhkgfofcoaa
open Go.ChangeShapes Go.WideShapes Go.ChangeAt Go.RowKit

theorem Below.drewN (w : World) (n : Nat) : Below w.heap.size w (w.drewN n) := bdn (Below.refl _ _) n
/-- A machine of a name that is on a node. -/
def isO (s : CL) (k : Nat) (nm : ByteArray) : Bool := decide (0 ≤ vmX s nm) && ((vmA s (vmX s nm).toNat).node.toList == (ndA s k).name.toList)
def otC (s : CL) (cs : List (Int × Int)) (k : Nat) (nm : ByteArray) : Int := if isO s k nm = true then wrap64 ((cs.getD k (0, 0)).1 - (vmA s (vmX s nm).toNat).cpu) else (cs.getD k (0, 0)).1
def otM (s : CL) (cs : List (Int × Int)) (k : Nat) (nm : ByteArray) : Int := if isO s k nm = true then wrap64 ((cs.getD k (0, 0)).2 - (vmA s (vmX s nm).toNat).mem) else (cs.getD k (0, 0)).2
theorem isO_no {s : CL} {k : Nat} {nm : ByteArray} (h : vmX s nm = -1) : isO s k nm = false := by simp [isO, h]
theorem isO_at {s : CL} {k j : Nat} {nm : ByteArray} (h : vmX s nm = j) (hj : j < s.vms.length) (hk : k < s.nodes.length) : isO s k nm = (s.vms[j].node.toList == s.nodes[k].name.toList) := by
  simp [isO, h, vmA_at hj, ndA_at hk]
theorem RX.sl {w : World} {r : Nat} {s : CL} {a : CA} {cb : Nat} {cs : List (Int × Int)} (h : RX w r s a cb cs) : ∃ an kn av kv ae ke, a = ⟨.slice an s.nodes.length kn, .slice av s.vms.length kv, .slice ae s.tenants.length ke⟩ := h.cx.rows.sl
theorem RX.nodeA {w : World} {r : Nat} {s : CL} {a : CA} {cb : Nat} {cs : List (Int × Int)} (h : RX w r s a cb cs) {k : Nat} (hk : k < s.nodes.length) : ∃ g o kn, a.vnodes = .slice (some ⟨g, o, none⟩) s.nodes.length kn ∧ g < w.heap.size ∧ ∀ u, Below w.heap.size w u → NODat u g o s.nodes := by
  obtain ⟨g, o, cap2, hv, _, hg, hc⟩ := h.cx.rows.rnodes.resolve_left (fun h => by rw [h.1] at hk; simp at hk)
  exact ⟨g, o, cap2, hv, hg, fun u hu => hc.below hu hg⟩
theorem RX.vmA {w : World} {r : Nat} {s : CL} {a : CA} {cb : Nat} {cs : List (Int × Int)} (h : RX w r s a cb cs) {k : Nat} (hk : k < s.vms.length) : ∃ g o kn, a.vvms = .slice (some ⟨g, o, none⟩) s.vms.length kn ∧ g < w.heap.size ∧ ∀ u, Below w.heap.size w u → VMCat u g o s.vms := by
  obtain ⟨g, o, cap2, hv, _, hg, hc⟩ := h.cx.rows.rvms.resolve_left (fun h => by rw [h.1] at hk; simp at hk)
  exact ⟨g, o, cap2, hv, hg, fun u hu => hc.below hu hg⟩
set_option maxRecDepth 100000 in
set_option maxHeartbeats 4000000 in
theorem others_any {w : World} {r : Nat} {s : CL} {a : CA} {cb : Nat} {cs : List (Int × Int)} (h : RX w r s a cb cs) (hl : s.vms.length ≤ 1048576) (k : Nat) (hk : k < s.nodes.length) (nm : ByteArray) : Calls Try.prog 68 #[.pointer (some ⟨r, 0, none⟩), .int .i64 k, .string nm] w fun e w' => e = .returned (.tuple #[.int .i64 (otC s cs k nm), .int .i64 (otM s cs k nm)]) ∧ Below w.heap.size w w' := by
  have HX : Hid (RX w r s a cb cs) := h
  have hkc : k < cs.length := by rw [h.len]; exact hk
  have HC : Hid (otC s cs k nm = if isO s k nm = true then wrap64 (cs[k].1 - (vmA s (vmX s nm).toNat).cpu) else cs[k].1) := (show otC s cs k nm = _ by simp [otC, List.getD, List.getElem?_eq_getElem hkc])
  have HM : Hid (otM s cs k nm = if isO s k nm = true then wrap64 (cs[k].2 - (vmA s (vmX s nm).toNat).mem) else cs[k].2) := (show otM s cs k nm = _ by simp [otM, List.getD, List.getElem?_eq_getElem hkc])
  have y0 := h.kw.c0 k hkc
  have y1 := h.kw.c1 k hkc
  have yl := h.cl
  have r5 := h.c5
  have rl := h.cx.lt
  have hk0 : (0 : Int) ≤ (k : Int) := by omega
  have hk1 : (k : Int) < (s.nodes.length : Int) := by omega
  have HLD : Hid (∀ b i x u, u.cell? ⟨b, i, none⟩ = some (.int .i64 x) → Calls Try.prog 80 #[.pointer (some ⟨b, i, none⟩)] u fun e w' => e = .returned (.int .i64 x) ∧ w' = u) := fun b i x u hx => atLoad_any b i x u hx
  clear h
  generalize otC s cs k nm = OC at *
  generalize otM s cs k nm = OM at *
  generalize cs[k].1 = X at *
  generalize cs[k].2 = Y at *
  go_enter Try.func68, Try.ntmps68
  go_upto_region 1 with fail
  go_quiet (first | (go_at_call 80; exact Calls.quiet_of_same (HLD.out _ _ _ _ y0)) | (go_at_call 80; exact Calls.quiet_of_same (HLD.out _ _ _ _ y1)))
  have HX1 : Hid (∀ n, RX (w.drewN n) r s a cb cs) := fun n => HX.out.below (Below.drewN w n)
  have HB1 : Hid (∀ n, Below w.heap.size w (w.drewN n)) := fun n => Below.drewN w n
  clear y0 y1 yl r5 rl
  go_upto_region 3 with (go_at_call 81; refine Calls.mono (vmAt_any (HX1.out _).cx hl nm) ?_; rintro e u1 ⟨rfl, hb1⟩)
  have HX2 : Hid (RX u1 r s a cb cs) := (HX1.out _).below hb1
  have HB2 : Hid (Below w.heap.size w u1) := (HB1.out _).trans (hb1.mono (HB1.out _).size)
  clear hb1 HX1 HB1 HX
  rcases vmX_or s nm with ⟨hx, _⟩ | ⟨j, hj, hx, _⟩
  · have E1 : Hid (OC = X) := HC.out.trans (by rw [isO_no hx]; rfl)
    have E2 : Hid (OM = Y) := HM.out.trans (by rw [isO_no hx]; rfl)
    clear HC HM
    rw [hx]
    clear hx
    go_quiet (fail)
    go_wp2
    exact bodyPost_ret (v := .tuple #[.int .i64 X, .int .i64 Y]) (by simp [results, Try.results68, go_sem]) rfl ⟨by rw [E1.out, E2.out], bdn HB2.out _⟩
  · have HO : Hid (isO s k nm = (s.vms[j].node.toList == s.nodes[k].name.toList)) := isO_at hx hj hk
    have HVA : Hid (vmA s (vmX s nm).toNat = s.vms[j]) := by rw [hx]; exact vmA_at hj
    obtain ⟨gn, on, kn, en, hgn, hcn⟩ := HX2.out.nodeA hk
    obtain ⟨gv, ov, kv, ev, hgv, hcv⟩ := HX2.out.vmA hj
    have NN : Hid (∀ u, Below u1.heap.size u1 u → u.cell? ⟨gn, on + k * 7, none⟩ = some (.string s.nodes[k].name)) := fun u hu => (hcn u hu k hk).1
    have VV : Hid (∀ u, Below u1.heap.size u1 u → u.cell? ⟨gv, ov + j * 8 + 6, none⟩ = some (.string s.vms[j].node) ∧ u.cell? ⟨gv, ov + j * 8 + 2, none⟩ = some (.int .i64 s.vms[j].cpu) ∧ u.cell? ⟨gv, ov + j * 8 + 3, none⟩ = some (.int .i64 s.vms[j].mem)) := fun u hu => by
      obtain ⟨_, _, h2, h3, _, _, h6, _⟩ := hcv u hu j hj
      exact ⟨h6, h2, h3⟩
    have r0 := HX2.out.cx.cel 0 a.vnodes rfl
    have r1 := HX2.out.cx.cel 1 a.vvms rfl
    have rl := HX2.out.cx.lt
    rw [en] at r0
    rw [ev] at r1
    clear hcn hcv
    have hj0 : (0 : Int) ≤ (j : Int) := by omega
    have hj1 : (j : Int) < (s.vms.length : Int) := by omega
    have m6 := (VV.out u1 (Below.refl _ _)).1
    have m0 := NN.out u1 (Below.refl _ _)
    rw [hx]
    rw [HVA.out] at HC HM
    clear HVA hx en ev
    generalize s.vms[j] = v at *
    generalize s.nodes[k] = n at *
    cases hq : (v.node.toList == n.name.toList)
    · have E1 : Hid (OC = X) := HC.out.trans (by rw [HO.out, hq]; rfl)
      have E2 : Hid (OM = Y) := HM.out.trans (by rw [HO.out, hq]; rfl)
      clear HC HM HO
      go_quiet (fail)
      go_wp2
      exact bodyPost_ret (v := .tuple #[.int .i64 X, .int .i64 Y]) (by simp [results, Try.results68, go_sem]) rfl ⟨by rw [E1.out, E2.out], bdn HB2.out _⟩
    · have E1 : Hid (OC = wrap64 (X - v.cpu)) := HC.out.trans (by rw [HO.out, hq]; rfl)
      have E2 : Hid (OM = wrap64 (Y - v.mem)) := HM.out.trans (by rw [HO.out, hq]; rfl)
      have m2 := (VV.out u1 (Below.refl _ _)).2.1
      have m3 := (VV.out u1 (Below.refl _ _)).2.2
      clear HC HM HO
      go_quiet (fail)
      go_upto_region 4 with fail
      go_quiet (fail)
      go_wp2
      exact bodyPost_ret (v := .tuple #[.int .i64 (wrap64 (X - v.cpu)), .int .i64 (wrap64 (Y - v.mem))]) (by simp [results, Try.results68, go_sem]) rfl ⟨by rw [E1.out, E2.out], bdn (bdn HB2.out _) _⟩
end Go.Proofs.Ytkmbhhkgfofcoaa
