import Derived.Test.YtkmbhhkgfofcoaaBnX
import Derived.Test.YtkmbhhkgfofcoaaCkN
import Derived.Test.YtkmbhhkgfofcoaaVb2
namespace Go.Proofs.Ytkmbhhkgfofcoaa
open Go.ChangeShapes Go.WideShapes Go.ChangeAt Go.RowKit

def kyV (s : CL) (cs : List (Int × Int)) (v : VMC) (x : Int) : Int := wrap64 (otM s cs x.toNat v.name - (ndA s x.toNat).mem)
def mkL (s : CL) (cs : List (Int × Int)) (v : VMC) (j : Nat) : List Int := ((List.range j).filter (fun k => decide (hcV s cs (ndA s k).name v = 0))).map (fun k : Nat => (k : Int))
theorem mkL_succ (s : CL) (cs : List (Int × Int)) (v : VMC) (j : Nat) : mkL s cs v (j + 1) = if hcV s cs (ndA s j).name v = 0 then mkL s cs v j ++ [(j : Int)] else mkL s cs v j := by
  unfold mkL
  rw [List.range_succ, List.filter_append, List.map_append]
  by_cases h : hcV s cs (ndA s j).name v = 0
  · simp [h]
  · simp [h]
theorem mkL_len (s : CL) (cs : List (Int × Int)) (v : VMC) (j : Nat) : (mkL s cs v j).length ≤ j := by
  unfold mkL
  rw [List.length_map]
  exact Nat.le_trans (List.length_filter_le _ _) (by simp)
theorem mkL_mem {s : CL} {cs : List (Int × Int)} {v : VMC} {j : Nat} {x : Int} (h : x ∈ mkL s cs v j) : ∃ k, k < j ∧ x = (k : Int) := by
  unfold mkL at h
  obtain ⟨k, hk, rfl⟩ := List.mem_map.1 h
  exact ⟨k, List.mem_range.1 (List.mem_filter.1 hk).1, rfl⟩
def bsV (s : CL) (cs : List (Int × Int)) (v : VMC) : ByteArray := match lsF (kyV s cs v) (mkL s cs v s.nodes.length) with
  | none => ⟨#[]⟩
  | some x => (ndA s x.toNat).name
set_option maxRecDepth 100000 in
set_option maxHeartbeats 4000000 in
theorem bestF_any {w u : World} {p t r : Nat} {s : CL} {a : CA} {cb : Nat} {cs : List (Int × Int)} (h : RX u r s a cb cs) (hl : s.vms.length ≤ 1048576) (k : Nat) (hk : k < s.nodes.length) (v : VMC) (h1 : LG w u p #[.pointer (some ⟨r, 0, none⟩)] 66) (h2 : LG w u t #[.string v.name, .int .i64 v.tenant, .int .i64 v.cpu, .int .i64 v.mem, .int .i64 v.zone, .int .i64 v.apart, .string v.node, .int .i64 v.epoch] 41) : Calls Try.prog 67 #[.int .i64 k, .pointer (some ⟨p, 0, none⟩), .pointer (some ⟨t, 0, none⟩)] u fun e w' => e = .returned (.int .i64 (kyV s cs v k)) ∧ Below u.heap.size u w' := by
  have HE : Hid (kyV s cs v k = wrap64 (otM s cs k v.name - s.nodes[k].mem)) := by rw [← ndA_at hk]; rfl
  have HOT : Hid (∀ u, RX u r s a cb cs → Calls Try.prog 68 #[.pointer (some ⟨r, 0, none⟩), .int .i64 k, .string v.name] u fun e w' => e = .returned (.tuple #[.int .i64 (otC s cs k v.name), .int .i64 (otM s cs k v.name)]) ∧ Below u.heap.size u w') := fun u hu => others_any hu hl k hk v.name
  have HX : Hid (RX u r s a cb cs) := h
  have H1 : Hid (LG w u p #[.pointer (some ⟨r, 0, none⟩)] 66) := h1
  have e0 := h1.cel 0 _ rfl
  have el := h1.lt
  have v0 := h2.cel 0 _ rfl
  have vl := h2.lt
  clear h h1 h2
  generalize kyV s cs v k = V at *
  generalize otC s cs k v.name = OC at *
  generalize otM s cs k v.name = OM at *
  go_enter Try.func67, Try.ntmps67
  go_upto_region 2 with (go_at_call 68; refine Calls.mono (HOT.out _ HX.out) ?_; rintro e u2 ⟨rfl, hb⟩)
  have HX2 : Hid (RX u2 r s a cb cs) := HX.out.below hb
  have H2 : Hid (LG w u2 p #[.pointer (some ⟨r, 0, none⟩)] 66) := H1.out.step hb
  have HB : Hid (Below u.heap.size u u2) := hb
  clear hb HX H1 HOT e0 el v0 vl
  obtain ⟨gn, on, kn, en, hgn, hcn⟩ := HX2.out.nodeA hk
  obtain ⟨_, _, d2, _⟩ := hcn _ (Below.refl _ _) k hk
  have c0 := HX2.out.cx.cel 0 a.vnodes rfl
  rw [en] at c0
  have rl := HX2.out.cx.lt
  have hk0 : (0 : Int) ≤ (k : Int) := by omega
  have hk1 : (k : Int) < (s.nodes.length : Int) := by omega
  have e0 := H2.out.cel 0 _ rfl
  have el := H2.out.lt
  clear hcn en HX2 H2
  generalize s.nodes[k] = n at *
  go_wp2
  go_ret
  exact ⟨ret_int HE.out.symm, HB.out⟩
set_option maxRecDepth 100000 in
set_option maxHeartbeats 8000000 in
theorem best_any {w : World} {r : Nat} {s : CL} {a : CA} {cb : Nat} {cs : List (Int × Int)} (h : RX w r s a cb cs) (hn : s.nodes.length ≤ 1048576) (hl : s.vms.length ≤ 1048576) (v : VMC) : Calls Try.prog 38 #[.pointer (some ⟨r, 0, none⟩), .agg #[.string v.name, .int .i64 v.tenant, .int .i64 v.cpu, .int .i64 v.mem, .int .i64 v.zone, .int .i64 v.apart, .string v.node, .int .i64 v.epoch]] w fun e w' => e = .returned (.string (bsV s cs v)) ∧ Below w.heap.size w w' := by
  have HP0 : Hid (LG w ((w.alloc (.cells #[.pointer (some ⟨r, 0, none⟩)] 66)).alloc (.cells #[.string v.name, .int .i64 v.tenant, .int .i64 v.cpu, .int .i64 v.mem, .int .i64 v.zone, .int .i64 v.apart, .string v.node, .int .i64 v.epoch] 41)) w.heap.size #[.pointer (some ⟨r, 0, none⟩)] 66) := (LG.new w _ _).next
  have HV0 : Hid (LG w ((w.alloc (.cells #[.pointer (some ⟨r, 0, none⟩)] 66)).alloc (.cells #[.string v.name, .int .i64 v.tenant, .int .i64 v.cpu, .int .i64 v.mem, .int .i64 v.zone, .int .i64 v.apart, .string v.node, .int .i64 v.epoch] 41)) (w.heap.size + 1) #[.string v.name, .int .i64 v.tenant, .int .i64 v.cpu, .int .i64 v.mem, .int .i64 v.zone, .int .i64 v.apart, .string v.node, .int .i64 v.epoch] 41) := (LG.mk2 (LG.new w _ _).bel).cast (by simp)
  have HX0 : Hid (RX ((w.alloc (.cells #[.pointer (some ⟨r, 0, none⟩)] 66)).alloc (.cells #[.string v.name, .int .i64 v.tenant, .int .i64 v.cpu, .int .i64 v.mem, .int .i64 v.zone, .int .i64 v.apart, .string v.node, .int .i64 v.epoch] 41)) r s a cb cs) := h.below HP0.out.bel
  clear h
  have HHC : Hid (∀ u nm, RX u r s a cb cs → Calls Try.prog 36 #[.pointer (some ⟨r, 0, none⟩), .string nm, .agg #[.string v.name, .int .i64 v.tenant, .int .i64 v.cpu, .int .i64 v.mem, .int .i64 v.zone, .int .i64 v.apart, .string v.node, .int .i64 v.epoch]] u fun e w' => e = .returned (.int .i64 (hcV s cs nm v)) ∧ Below u.heap.size u w') := fun u nm hu => holdCode_any hu hn hl nm v
  have HBV : Hid (bsV s cs v = match lsF (kyV s cs v) (mkL s cs v s.nodes.length) with | none => ⟨#[]⟩ | some x => (ndA s x.toNat).name) := rfl
  generalize bsV s cs v = V at *
  obtain ⟨an, kn, av, kv, ae, ke, ea⟩ := HX0.out.sl
  have HEA : Hid (a.vnodes = .slice an s.nodes.length kn) := (show a.vnodes = _ by rw [ea])
  clear ea
  go_enter Try.func38, Try.ntmps38
  go_upto_region 1 with fail
  generalize ((w.alloc (.cells #[.pointer (some ⟨r, 0, none⟩)] 66)).alloc (.cells #[.string v.name, .int .i64 v.tenant, .int .i64 v.cpu, .int .i64 v.mem, .int .i64 v.zone, .int .i64 v.apart, .string v.node, .int .i64 v.epoch] 41)) = U at *
  generalize hb1 : w.heap.size + 1 = b1 at HV0 ⊢
  generalize hb0 : w.heap.size = b0 at HP0 ⊢
  have p0 := HP0.out.cel 0 _ rfl
  have pl := HP0.out.lt
  have c0 := HX0.out.cx.cel 0 (.slice an s.nodes.length kn) (by rw [← HEA.out]; rfl)
  have rl := HX0.out.cx.lt
  go_wp2
  clear p0 pl c0 rl
  go_loopw [5, 16] (fun nv i wr => ∃ (k : Nat) (ao : Option Addr) (cp : Nat), k ≤ s.nodes.length ∧ nv = .slice ao (mkL s cs v k).length cp ∧ i = .int .i64 k ∧ wr.ownsRow U.heap.size 3 1 (.slice ao (mkL s cs v k).length cp) (mkL s cs v k).length (iR (mkL s cs v k)) ∧ Below U.heap.size U wr) (fun _ i _ => s.nodes.length - (intOf i).toNat)
  case atStart => exact ⟨0, none, 0, Nat.zero_le _, rfl, rfl, World.ownsRow_nil _ _ _ _, Below.refl _ _⟩
  case round =>
    obtain ⟨k, ao, cp, hk, rfl, rfl, ho, hb⟩ := hrel
    have HO : Hid (wr.ownsRow U.heap.size 3 1 (.slice ao (mkL s cs v k).length cp) (mkL s cs v k).length (iR (mkL s cs v k))) := ho
    have HBU : Hid (Below U.heap.size U wr) := hb
    have HX : Hid (RX wr r s a cb cs) := HX0.out.below hb
    have HP : Hid (LG w wr b0 #[.pointer (some ⟨r, 0, none⟩)] 66) := HP0.out.step hb
    have HV : Hid (LG w wr b1 #[.string v.name, .int .i64 v.tenant, .int .i64 v.cpu, .int .i64 v.mem, .int .i64 v.zone, .int .i64 v.apart, .string v.node, .int .i64 v.epoch] 41) := HV0.out.step hb
    clear ho hb
    have HML : Hid ((mkL s cs v k).length ≤ k) := mkL_len s cs v k
    by_cases hlt : k < s.nodes.length
    · obtain ⟨g, o, kn2, en, hg, hcn⟩ := HX.out.nodeA hlt
      have HEN : Hid (Value.slice an s.nodes.length kn = .slice (some ⟨g, o, none⟩) s.nodes.length kn2) := HEA.out.symm.trans en
      obtain ⟨hv1, hv3⟩ : an = some ⟨g, o, none⟩ ∧ kn = kn2 := by
        have h9 := HEN.out
        injection h9 with q1 q2 q3
        exact ⟨q1, q3⟩
      subst hv1 hv3
      obtain ⟨d0, d1, d2, d3, d4, d5, d6⟩ := hcn _ (Below.refl _ _) k hlt
      have hk0 : (0 : Int) ≤ (k : Int) := by omega
      have hk1 : (k : Int) < (s.nodes.length : Int) := by omega
      have HS : Hid (mkL s cs v (k + 1) = if hcV s cs s.nodes[k].name v = 0 then mkL s cs v k ++ [(k : Int)] else mkL s cs v k) := (show _ = _ by rw [mkL_succ, ndA_at hlt])
      have HHK : Hid (∀ u, RX u r s a cb cs → Calls Try.prog 36 #[.pointer (some ⟨r, 0, none⟩), .string s.nodes[k].name, .agg #[.string v.name, .int .i64 v.tenant, .int .i64 v.cpu, .int .i64 v.mem, .int .i64 v.zone, .int .i64 v.apart, .string v.node, .int .i64 v.epoch]] u fun e w' => e = .returned (.int .i64 (hcV s cs s.nodes[k].name v)) ∧ Below u.heap.size u w') := fun u hu => HHC.out u _ hu
      generalize s.nodes[k] = n at *
      generalize hcV s cs n.name v = HC at *
      go_upto_region 5 with fail
      have HX1 : Hid (RX (wr.alloc (.cells #[.string n.name, .int .i64 n.cpu, .int .i64 n.mem, .int .i64 n.zone, .int .i64 n.beat, .bool n.fenced, .bool n.closed] 73)) r s a cb cs) := HX.out.below (bx1 _ _)
      have HP1 : Hid (LG w (wr.alloc (.cells #[.string n.name, .int .i64 n.cpu, .int .i64 n.mem, .int .i64 n.zone, .int .i64 n.beat, .bool n.fenced, .bool n.closed] 73)) b0 #[.pointer (some ⟨r, 0, none⟩)] 66) := HP.out.next
      have HV1 : Hid (LG w (wr.alloc (.cells #[.string n.name, .int .i64 n.cpu, .int .i64 n.mem, .int .i64 n.zone, .int .i64 n.beat, .bool n.fenced, .bool n.closed] 73)) b1 #[.string v.name, .int .i64 v.tenant, .int .i64 v.cpu, .int .i64 v.mem, .int .i64 v.zone, .int .i64 v.apart, .string v.node, .int .i64 v.epoch] 41) := HV.out.next
      have HN1 : Hid (LG U (wr.alloc (.cells #[.string n.name, .int .i64 n.cpu, .int .i64 n.mem, .int .i64 n.zone, .int .i64 n.beat, .bool n.fenced, .bool n.closed] 73)) wr.heap.size #[.string n.name, .int .i64 n.cpu, .int .i64 n.mem, .int .i64 n.zone, .int .i64 n.beat, .bool n.fenced, .bool n.closed] 73) := LG.mk2 HBU.out
      have HO1 : Hid ((wr.alloc (.cells #[.string n.name, .int .i64 n.cpu, .int .i64 n.mem, .int .i64 n.zone, .int .i64 n.beat, .bool n.fenced, .bool n.closed] 73)).ownsRow U.heap.size 3 1 (.slice ao (mkL s cs v k).length cp) (mkL s cs v k).length (iR (mkL s cs v k))) := own_belowN HO.out (bx1 _ _)
      clear d0 d1 d2 d3 d4 d5 d6 hcn hg en HEN HX HP HV HO HBU HHC hk0 hk1
      generalize (wr.alloc (.cells #[.string n.name, .int .i64 n.cpu, .int .i64 n.mem, .int .i64 n.zone, .int .i64 n.beat, .bool n.fenced, .bool n.closed] 73)) = u1 at *
      generalize wr.heap.size = bn at *
      have p0 := HP1.out.cel 0 _ rfl
      have pl := HP1.out.lt
      have n0 := HN1.out.cel 0 _ rfl
      have nl := HN1.out.lt
      have v0 := HV1.out.cel 0 _ rfl
      have v1 := HV1.out.cel 1 _ rfl
      have v2 := HV1.out.cel 2 _ rfl
      have v3 := HV1.out.cel 3 _ rfl
      have v4 := HV1.out.cel 4 _ rfl
      have v5 := HV1.out.cel 5 _ rfl
      have v6 := HV1.out.cel 6 _ rfl
      have v7 := HV1.out.cel 7 _ rfl
      have vl := HV1.out.lt
      cases t1 : (HC == 0)
      · have E2 : Hid (mkL s cs v (k + 1) = mkL s cs v k) := HS.out.trans (if_neg (by simpa using t1))
        clear HS
        go_wp2_with (go_at_call 36; refine Calls.mono (HHK.out _ HX1.out) ?_; rintro e u2 ⟨rfl, hb⟩; have HN2 : Hid (LG U u2 bn #[.string n.name, .int .i64 n.cpu, .int .i64 n.mem, .int .i64 n.zone, .int .i64 n.beat, .bool n.fenced, .bool n.closed] 73) := HN1.out.step hb; have HO2 : Hid (u2.ownsRow U.heap.size 3 1 (.slice ao (mkL s cs v k).length cp) (mkL s cs v k).length (iR (mkL s cs v k))) := own_belowN HO1.out hb; clear hb)
        exact ⟨⟨k + 1, ao, cp, hlt, by rw [E2.out], by go_num, by rw [E2.out]; exact HO2.out, HN2.out.bel⟩, by simp [intOf]; omega⟩
      · have E2 : Hid (mkL s cs v (k + 1) = mkL s cs v k ++ [(k : Int)]) := HS.out.trans (if_pos (by simpa using t1))
        have HLN : Hid ((mkL s cs v k).length + 1 = (mkL s cs v (k + 1)).length) := (show _ = _ by rw [E2.out]; simp)
        have HIR : Hid (iR (mkL s cs v (k + 1)) = iR (mkL s cs v k) ++ [.int .i64 (k : Int)]) := (show _ = _ by rw [E2.out]; exact iR_snoc _ _)
        clear HS E2
        go_upto_region 6 with (go_at_call 36; refine Calls.mono (HHK.out _ HX1.out) ?_; rintro e u2 ⟨rfl, hb⟩; have HN2 : Hid (LG U u2 bn #[.string n.name, .int .i64 n.cpu, .int .i64 n.mem, .int .i64 n.zone, .int .i64 n.beat, .bool n.fenced, .bool n.closed] 73) := HN1.out.step hb; have HO2 : Hid (u2.ownsRow U.heap.size 3 1 (.slice ao (mkL s cs v k).length cp) (mkL s cs v k).length (iR (mkL s cs v k))) := own_belowN HO1.out hb; clear hb)
        clear HP1 HV1 HX1 HN1 HO1 p0 pl n0 nl v0 v1 v2 v3 v4 v5 v6 v7 vl t1
        generalize hM2 : mkL s cs v (k + 1) = M2 at HLN HIR
        have HM2 : Hid _ := hM2
        clear hM2
        generalize mkL s cs v k = M1 at *
        have HAP : Hid _ := app1N HO2.out (k : Int) (by have := HML.out; omega) HN2.out.bel.size
        generalize hm1 : M1.length = m1 at *
        go_wp2_with (at_builtin; (refine wl_append_ex rfl _ _ 103 rfl _ _ rfl rfl HAP.out ?_; rintro v' u6 ⟨ho, hg9⟩; obtain ⟨a9, c9, rfl⟩ := i_slN ho; have HO6 : Hid (u6.ownsRow U.heap.size 3 1 (.slice a9 (m1 + 1) c9) (m1 + 1) (iR M2)) := (by rw [HIR.out]; exact ho); have HB6 : Hid (Below U.heap.size U u6) := (HN2.out.bel.alloc HN2.out.bel.size _).grown hg9 (Nat.le_trans HN2.out.bel.size (by simp)) (own_ge HO2.out); clear ho hg9))
        exact ⟨⟨k + 1, a9, c9, hlt, by rw [HM2.out, ← HLN.out], by go_num, by rw [HM2.out, ← HLN.out]; exact HO6.out, HB6.out⟩, by simp [intOf]; omega⟩
    · obtain rfl : k = s.nodes.length := by omega
      have HZL : Hid ((mkL s cs v s.nodes.length).length ≤ 1048576) := Nat.le_trans HML.out hn
      have HIR0 : Hid (Irow (wr.alloc (.cells #[.slice ao (mkL s cs v s.nodes.length).length cp] 103)) (.slice ao (mkL s cs v s.nodes.length).length cp) (mkL s cs v s.nodes.length)) := (Irow.ofN HO.out).below (bx1 _ _)
      have HX1 : Hid (RX (wr.alloc (.cells #[.slice ao (mkL s cs v s.nodes.length).length cp] 103)) r s a cb cs) := HX.out.below (bx1 _ _)
      have HP1 : Hid (LG w (wr.alloc (.cells #[.slice ao (mkL s cs v s.nodes.length).length cp] 103)) b0 #[.pointer (some ⟨r, 0, none⟩)] 66) := HP.out.next
      have HV1 : Hid (LG w (wr.alloc (.cells #[.slice ao (mkL s cs v s.nodes.length).length cp] 103)) b1 #[.string v.name, .int .i64 v.tenant, .int .i64 v.cpu, .int .i64 v.mem, .int .i64 v.zone, .int .i64 v.apart, .string v.node, .int .i64 v.epoch] 41) := HV.out.next
      have HM1 : Hid (LG U (wr.alloc (.cells #[.slice ao (mkL s cs v s.nodes.length).length cp] 103)) wr.heap.size #[.slice ao (mkL s cs v s.nodes.length).length cp] 103) := LG.mk2 HBU.out
      have HLS : Hid (Calls Try.prog 65 #[.func (.func 79) #[] #[.pointer (some ⟨wr.heap.size, 0, none⟩)], .func (.func 67) #[] #[.pointer (some ⟨b0, 0, none⟩), .pointer (some ⟨b1, 0, none⟩)]] (wr.alloc (.cells #[.slice ao (mkL s cs v s.nodes.length).length cp] 103)) fun r2 w' => r2 = .returned (.tuple #[.int .i64 ((lsF (kyV s cs v) (mkL s cs v s.nodes.length)).getD 0), .bool (lsF (kyV s cs v) (mkL s cs v s.nodes.length)).isSome]) ∧ Below (wr.alloc (.cells #[.slice ao (mkL s cs v s.nodes.length).length cp] 103)).heap.size (wr.alloc (.cells #[.slice ao (mkL s cs v s.nodes.length).length cp] 103)) w') :=
        least_any HIR0.out HZL.out wr.heap.size HM1.out.lt (HM1.out.cel 0 _ rfl) _ _ (kyV s cs v) (fun xs w' => by kernel_rfl) (fun x hx w' hw => by
          obtain ⟨k, hk2, rfl⟩ := mkL_mem hx
          exact bestF_any (HX1.out.below hw) hl k hk2 v (HP1.out.step hw) (HV1.out.step hw))
      have HVI : Hid (Calls Try.prog 66 #[.slice ao (mkL s cs v s.nodes.length).length cp] wr fun e w' => e = .returned (.func (.func 79) #[] #[.pointer (some ⟨wr.heap.size, 0, none⟩)]) ∧ w' = (wr.alloc (.cells #[.slice ao (mkL s cs v s.nodes.length).length cp] 103))) := values_in ao _ cp wr
      have HMM : Hid (∀ x, lsF (kyV s cs v) (mkL s cs v s.nodes.length) = some x → ∃ k, k < s.nodes.length ∧ x = (k : Int)) := fun x hx => mkL_mem (lsF_mem _ _ x hx)
      clear HX HP HV HO HML HZL HIR0 HX0 HP0 HV0 HHC
      generalize lsF (kyV s cs v) (mkL s cs v s.nodes.length) = LS at *
      generalize (mkL s cs v s.nodes.length).length = m at *
      generalize hw1 : (wr.alloc (.cells #[.slice ao m cp] 103)) = w1 at *
      generalize wr.heap.size = bm at *
      cases LS with
      | none =>
        have E2 : Hid (V = ⟨#[]⟩) := HBV.out
        clear HBV HMM
        go_wp2_with (first | (go_at_call 66; refine Calls.mono HVI.out ?_; rintro e w2 ⟨rfl, rfl⟩; clear HVI) | (go_at_call 65; refine Calls.mono HLS.out ?_; rintro e w3 ⟨rfl, hb⟩; have HM3 : Hid (LG U w3 bm #[.slice ao m cp] 103) := HM1.out.step hb; have HP3 : Hid (LG w w3 b0 #[.pointer (some ⟨r, 0, none⟩)] 66) := HP1.out.step hb; clear hb HLS))
        go_ret
        exact ⟨by rw [E2.out]; rfl, hb0 ▸ HP3.out.bel⟩
      | some x =>
        obtain ⟨k, hk2, rfl⟩ := HMM.out x rfl
        have E2 : Hid (V = s.nodes[k].name) := (show V = _ by rw [HBV.out]; exact congrArg NOD.name (ndA_at hk2))
        clear HBV HMM
        go_upto_region 11 with (first | (go_at_call 66; refine Calls.mono HVI.out ?_; rintro e w2 ⟨rfl, rfl⟩; clear HVI) | (go_at_call 65; refine Calls.mono HLS.out ?_; rintro e w3 ⟨rfl, hb⟩; have HX3 : Hid (RX w3 r s a cb cs) := HX1.out.below hb; have HP3 : Hid (LG w w3 b0 #[.pointer (some ⟨r, 0, none⟩)] 66) := HP1.out.step hb; clear hb HLS))
        obtain ⟨g, o, kn2, en, hg, hcn⟩ := HX3.out.nodeA hk2
        obtain ⟨d0, _⟩ := hcn _ (Below.refl _ _) k hk2
        have c0 := HX3.out.cx.cel 0 a.vnodes rfl
        rw [en] at c0
        have rl := HX3.out.cx.lt
        have p0 := HP3.out.cel 0 _ rfl
        have pl := HP3.out.lt
        have hk0 : (0 : Int) ≤ (k : Int) := by omega
        have hk1 : (k : Int) < (s.nodes.length : Int) := by omega
        clear hcn en
        generalize s.nodes[k] = n at *
        go_wp2
        go_ret
        exact ⟨by rw [E2.out]; rfl, hb0 ▸ HP3.out.bel⟩
end Go.Proofs.Ytkmbhhkgfofcoaa
