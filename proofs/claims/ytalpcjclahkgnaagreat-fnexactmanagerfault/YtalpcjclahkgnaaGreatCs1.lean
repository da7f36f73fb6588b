import Derived.Test.YtalpcjclahkgnaaGreatCp1
import Derived.Deep.CutRange
import Derived.Deep.RegionWith
namespace Go.Proofs.YtalpcjclahkgnaaGreat
open Go.ChangeShapes Go.WideShapes Go.ChangeAt Go.RowKit

theorem ndX_at {s : CL} {nm : ByteArray} {k : Nat} (hk : k < s.nodes.length) (h : (s.nodes[k].name.toList == nm.toList) = true) (hn : ∀ j (hj : j < s.nodes.length), j < k → (s.nodes[j].name.toList == nm.toList) = false) : ndX s nm = k := by
  have : s.nodes.findIdx? (fun n => n.name.toList == nm.toList) = some k := List.findIdx?_eq_some_iff_getElem.2 ⟨hk, h, fun j hj => by rw [hn j (Nat.lt_trans hj hk) hj]; decide⟩
  simp [ndX, this]
theorem ndX_none {s : CL} {nm : ByteArray} (hn : ∀ j (hj : j < s.nodes.length), (s.nodes[j].name.toList == nm.toList) = false) : ndX s nm = -1 := by
  have : s.nodes.findIdx? (fun n => n.name.toList == nm.toList) = none := List.findIdx?_eq_none_iff.2 fun x hx => by
    obtain ⟨j, hj, rfl⟩ := List.getElem_of_mem hx
    exact hn j hj
  simp [ndX, this]
theorem ndX_or (s : CL) (nm : ByteArray) : ndX s nm = -1 ∧ (∀ j (hj : j < s.nodes.length), (s.nodes[j].name.toList == nm.toList) = false) ∨ ∃ (k : Nat) (hk : k < s.nodes.length), ndX s nm = k ∧ s.nodes[k].name.toList = nm.toList ∧ ∀ j (hj : j < s.nodes.length), j < k → (s.nodes[j].name.toList == nm.toList) = false := by
  unfold ndX
  cases hq : s.nodes.findIdx? (fun n => n.name.toList == nm.toList) with
  | none => exact .inl ⟨rfl, fun j hj => by simpa using List.findIdx?_eq_none_iff.1 hq s.nodes[j] (List.getElem_mem hj)⟩
  | some k =>
    obtain ⟨hk, hp, hn⟩ := List.findIdx?_eq_some_iff_getElem.1 hq
    exact .inr ⟨k, hk, rfl, by simpa using hp, fun j hj hlt => by simpa using hn j hlt⟩
theorem vmX_at {s : CL} {nm : ByteArray} {k : Nat} (hk : k < s.vms.length) (h : (s.vms[k].name.toList == nm.toList) = true) (hn : ∀ j (hj : j < s.vms.length), j < k → (s.vms[j].name.toList == nm.toList) = false) : vmX s nm = k := by
  have : s.vms.findIdx? (fun n => n.name.toList == nm.toList) = some k := List.findIdx?_eq_some_iff_getElem.2 ⟨hk, h, fun j hj => by rw [hn j (Nat.lt_trans hj hk) hj]; decide⟩
  simp [vmX, this]
theorem vmX_none {s : CL} {nm : ByteArray} (hn : ∀ j (hj : j < s.vms.length), (s.vms[j].name.toList == nm.toList) = false) : vmX s nm = -1 := by
  have : s.vms.findIdx? (fun n => n.name.toList == nm.toList) = none := List.findIdx?_eq_none_iff.2 fun x hx => by
    obtain ⟨j, hj, rfl⟩ := List.getElem_of_mem hx
    exact hn j hj
  simp [vmX, this]
theorem vmX_or (s : CL) (nm : ByteArray) : vmX s nm = -1 ∧ (∀ j (hj : j < s.vms.length), (s.vms[j].name.toList == nm.toList) = false) ∨ ∃ (k : Nat) (hk : k < s.vms.length), vmX s nm = k ∧ s.vms[k].name.toList = nm.toList ∧ ∀ j (hj : j < s.vms.length), j < k → (s.vms[j].name.toList == nm.toList) = false := by
  unfold vmX
  cases hq : s.vms.findIdx? (fun n => n.name.toList == nm.toList) with
  | none => exact .inl ⟨rfl, fun j hj => by simpa using List.findIdx?_eq_none_iff.1 hq s.vms[j] (List.getElem_mem hj)⟩
  | some k =>
    obtain ⟨hk, hp, hn⟩ := List.findIdx?_eq_some_iff_getElem.1 hq
    exact .inr ⟨k, hk, rfl, by simpa using hp, fun j hj hlt => by simpa using hn j hlt⟩
set_option maxRecDepth 100000 in
set_option maxHeartbeats 4000000 in
theorem l22Node_any {w : World} {s : CL} {a : CA} (h : CLRows w s a) (hl : s.nodes.length ≤ 1048576) (nm : ByteArray) : Calls Tryz.prog 28 #[clA s a, .string nm] w fun e w' => e = .returned (.int .i64 (ndX s nm)) ∧ Below w.heap.size w w' := by
  obtain ⟨an, kn, av, kv, ae, ke, e⟩ := h.sl
  subst e
  have HR : Hid (NODrow w (.slice an s.nodes.length kn) s.nodes) := h.rnodes
  clear h
  have HAT : Hid (∀ k (hk : k < s.nodes.length), (s.nodes[k].name.toList == nm.toList) = true → (∀ j (hj : j < s.nodes.length), j < k → (s.nodes[j].name.toList == nm.toList) = false) → ndX s nm = k) := fun k hk h1 h2 => ndX_at hk h1 h2
  have HNO : Hid ((∀ j (hj : j < s.nodes.length), (s.nodes[j].name.toList == nm.toList) = false) → ndX s nm = -1) := ndX_none
  generalize ndX s nm = V at *
  have HL0 : Hid (LG w (w.alloc (.cells #[.slice an s.nodes.length kn, .slice av s.vms.length kv, .slice ae s.tenants.length ke, .int .i64 s.over, .int .i64 s.time] 37)) w.heap.size #[.slice an s.nodes.length kn, .slice av s.vms.length kv, .slice ae s.tenants.length ke, .int .i64 s.over, .int .i64 s.time] 37) := LG.new w _ _
  unfold clA clC
  simp only
  go_enter Tryz.func28, Tryz.ntmps28
  go_upto_region 1 with fail
  generalize (w.alloc (.cells #[.slice an s.nodes.length kn, .slice av s.vms.length kv, .slice ae s.tenants.length ke, .int .i64 s.over, .int .i64 s.time] 37)) = u0 at *
  have k0 := HL0.out.cel 0 _ rfl
  have k1 := HL0.out.cel 1 _ rfl
  have k2 := HL0.out.cel 2 _ rfl
  have k3 := HL0.out.cel 3 _ rfl
  have k4 := HL0.out.cel 4 _ rfl
  have kl := HL0.out.lt
  go_wp2
  clear k1 k2 k3 k4 k0 kl
  generalize hbb : w.heap.size = bb at HL0 ⊢
  go_loopw [5] (fun i wr => ∃ k : Nat, k ≤ s.nodes.length ∧ i = .int .i64 k ∧ (∀ j (hj : j < s.nodes.length), j < k → (s.nodes[j].name.toList == nm.toList) = false) ∧ LG w wr bb #[.slice an s.nodes.length kn, .slice av s.vms.length kv, .slice ae s.tenants.length ke, .int .i64 s.over, .int .i64 s.time] 37) (fun i _ => s.nodes.length - (intOf i).toNat)
  case atStart => exact ⟨0, Nat.zero_le _, rfl, fun j hj h => absurd h (by omega), HL0.out⟩
  case round =>
    obtain ⟨k, hk, rfl, hno, hb⟩ := hrel
    have HX : Hid (LG w wr bb #[.slice an s.nodes.length kn, .slice av s.vms.length kv, .slice ae s.tenants.length ke, .int .i64 s.over, .int .i64 s.time] 37) := hb
    have HB : Hid (Below w.heap.size w wr) := hb.bel
    have HN : Hid (∀ j (hj : j < s.nodes.length), j < k → (s.nodes[j].name.toList == nm.toList) = false) := hno
    clear hno hb HL0
    have c0 := HX.out.cel 0 _ rfl
    have cl := HX.out.lt
    by_cases hlt : k < s.nodes.length
    · skip
      obtain ⟨g, o, cap2, hv, _, hg, hc⟩ := HR.out.resolve_left (fun h => by rw [h.1] at hlt; simp at hlt)
      injection hv with hv1 hv2 hv3
      subst hv1 hv3
      have hgw : g < wr.heap.size := Nat.lt_of_lt_of_le hg HB.out.size
      have hk0 : (0 : Int) ≤ (k : Int) := by omega
      have hk1 : (k : Int) < (s.nodes.length : Int) := by omega
      obtain ⟨d0, d1, d2, d3, d4, d5, d6⟩ := hc.below HB.out hg k hlt
      have HA2 : Hid ((s.nodes[k].name.toList == nm.toList) = true → V = k) := fun h1 => HAT.out k hlt h1 HN.out
      have HN2 : Hid ((s.nodes[k].name.toList == nm.toList) = false → ∀ j (hj : j < s.nodes.length), j < k + 1 → (s.nodes[j].name.toList == nm.toList) = false) := fun h1 j hj h2 => if h3 : j < k then HN.out j hj h3 else by
        obtain rfl : j = k := by omega
        exact h1
      clear hc d1 d2 d3 d4 d5 d6 HAT HNO HN
      generalize s.nodes[k] = z at *
      cases hq : (z.name.toList == nm.toList)
      · have E2 : Hid _ := HN2.out hq
        clear HA2 HN2
        go_wp2
        exact ⟨⟨k + 1, hlt, by go_num, E2.out, HX.out⟩, by simp [intOf]; omega⟩
      · have E2 : Hid _ := HA2.out hq
        clear HA2 HN2
        go_wp2
        go_ret
        exact ⟨ret_int E2.out.symm, hbb ▸ HB.out⟩
    · obtain rfl : k = s.nodes.length := by omega
      have E2 : Hid (V = -1) := HNO.out fun j hj => HN.out j hj hj
      clear HAT HNO HN
      go_wp2
      go_ret
      exact ⟨ret_int E2.out.symm, hbb ▸ HB.out⟩
set_option maxRecDepth 100000 in
set_option maxHeartbeats 4000000 in
theorem l22Used_any {w : World} {s : CL} {a : CA} (h : CLRows w s a) (hl : s.vms.length ≤ 1048576) (t : Int) : Calls Tryz.prog 30 #[clA s a, .int .i64 t] w fun e w' => e = .returned (.tuple #[.int .i64 (usC s t), .int .i64 (usM s t)]) ∧ Below w.heap.size w w' := by
  obtain ⟨an, kn, av, kv, ae, ke, e⟩ := h.sl
  subst e
  have HR : Hid (VMCrow w (.slice av s.vms.length kv) s.vms) := h.rvms
  clear h
  have HFC : Hid (usC s t = smW VMC.cpu (fun x => decide (x.tenant = t)) 0 (s.vms.take s.vms.length)) := by rw [List.take_length]; rfl
  generalize usC s t = VC at *
  have HFM : Hid (usM s t = smW VMC.mem (fun x => decide (x.tenant = t)) 0 (s.vms.take s.vms.length)) := by rw [List.take_length]; rfl
  generalize usM s t = VM at *
  have HL0 : Hid (LG w (w.alloc (.cells #[.slice an s.nodes.length kn, .slice av s.vms.length kv, .slice ae s.tenants.length ke, .int .i64 s.over, .int .i64 s.time] 37)) w.heap.size #[.slice an s.nodes.length kn, .slice av s.vms.length kv, .slice ae s.tenants.length ke, .int .i64 s.over, .int .i64 s.time] 37) := LG.new w _ _
  unfold clA clC
  simp only
  go_enter Tryz.func30, Tryz.ntmps30
  go_upto_region 1 with fail
  generalize (w.alloc (.cells #[.slice an s.nodes.length kn, .slice av s.vms.length kv, .slice ae s.tenants.length ke, .int .i64 s.over, .int .i64 s.time] 37)) = u0 at *
  have k0 := HL0.out.cel 0 _ rfl
  have k1 := HL0.out.cel 1 _ rfl
  have k2 := HL0.out.cel 2 _ rfl
  have k3 := HL0.out.cel 3 _ rfl
  have k4 := HL0.out.cel 4 _ rfl
  have kl := HL0.out.lt
  go_wp2
  clear k1 k2 k3 k4 k0 kl
  generalize hbb : w.heap.size = bb at HL0 ⊢
  go_loopw [6, 7, 8] (fun c m i wr => ∃ k : Nat, k ≤ s.vms.length ∧ c = .int .i64 (smW VMC.cpu (fun x => decide (x.tenant = t)) 0 (s.vms.take k)) ∧ m = .int .i64 (smW VMC.mem (fun x => decide (x.tenant = t)) 0 (s.vms.take k)) ∧ i = .int .i64 k ∧ LG w wr bb #[.slice an s.nodes.length kn, .slice av s.vms.length kv, .slice ae s.tenants.length ke, .int .i64 s.over, .int .i64 s.time] 37) (fun _ _ i _ => s.vms.length - (intOf i).toNat)
  case atStart => exact ⟨0, Nat.zero_le _, rfl, rfl, rfl, HL0.out⟩
  case round =>
    obtain ⟨k, hk, rfl, rfl, rfl, hb⟩ := hrel
    have HX : Hid (LG w wr bb #[.slice an s.nodes.length kn, .slice av s.vms.length kv, .slice ae s.tenants.length ke, .int .i64 s.over, .int .i64 s.time] 37) := hb
    have HB : Hid (Below w.heap.size w wr) := hb.bel
    clear hb HL0
    have c1 := HX.out.cel 1 _ rfl
    have cl := HX.out.lt
    by_cases hlt : k < s.vms.length
    · skip
      obtain ⟨g, o, cap2, hv, _, hg, hc⟩ := HR.out.resolve_left (fun h => by rw [h.1] at hlt; simp at hlt)
      injection hv with hv1 hv2 hv3
      subst hv1 hv3
      have hgw : g < wr.heap.size := Nat.lt_of_lt_of_le hg HB.out.size
      have hk0 : (0 : Int) ≤ (k : Int) := by omega
      have hk1 : (k : Int) < (s.vms.length : Int) := by omega
      obtain ⟨d0, d1, d2, d3, d4, d5, d6, d7⟩ := hc.below HB.out hg k hlt
      have HSC : Hid (smW VMC.cpu (fun x => decide (x.tenant = t)) 0 (s.vms.take (k + 1)) = _) := smW_succ hlt
      have HSM : Hid (smW VMC.mem (fun x => decide (x.tenant = t)) 0 (s.vms.take (k + 1)) = _) := smW_succ hlt
      generalize smW VMC.cpu (fun x => decide (x.tenant = t)) 0 (s.vms.take k) = SC at *
      generalize smW VMC.mem (fun x => decide (x.tenant = t)) 0 (s.vms.take k) = SM at *
      clear hc d0 d4 d5 d6 d7 HFC HFM
      generalize s.vms[k] = z at *
      cases hq : (z.tenant == t)
      · have E2 : Hid (smW VMC.cpu (fun x => decide (x.tenant = t)) 0 (s.vms.take (k + 1)) = SC) := HSC.out.trans (if_neg (by simpa using hq))
        have E3 : Hid (smW VMC.mem (fun x => decide (x.tenant = t)) 0 (s.vms.take (k + 1)) = SM) := HSM.out.trans (if_neg (by simpa using hq))
        clear HSC HSM
        go_wp2
        exact ⟨⟨k + 1, hlt, by rw [E2.out], by rw [E3.out], by go_num, HX.out⟩, by simp [intOf]; omega⟩
      · have E2 : Hid (smW VMC.cpu (fun x => decide (x.tenant = t)) 0 (s.vms.take (k + 1)) = wrap64 (SC + z.cpu)) := HSC.out.trans (if_pos (by simpa using hq))
        have E3 : Hid (smW VMC.mem (fun x => decide (x.tenant = t)) 0 (s.vms.take (k + 1)) = wrap64 (SM + z.mem)) := HSM.out.trans (if_pos (by simpa using hq))
        clear HSC HSM
        go_wp2
        exact ⟨⟨k + 1, hlt, by rw [E2.out], by rw [E3.out], by go_num, HX.out⟩, by simp [intOf]; omega⟩
    · obtain rfl : k = s.vms.length := by omega
      go_wp2
      exact bodyPost_ret (v := .tuple #[.int .i64 (smW VMC.cpu (fun x => decide (x.tenant = t)) 0 (s.vms.take s.vms.length)), .int .i64 (smW VMC.mem (fun x => decide (x.tenant = t)) 0 (s.vms.take s.vms.length))]) (by simp [results, Tryz.results30, go_sem]) rfl ⟨by rw [HFC.out, HFM.out], hbb ▸ HB.out⟩
end Go.Proofs.YtalpcjclahkgnaaGreat
