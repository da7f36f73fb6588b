import Derived.Test.YtnbohdninedjdaaEf2
import Derived.Test.YtnbohdninedjdaaEf3
import Derived.Test.YtnbohdninedjdaaKw1
import Derived.Deep.Onto
namespace Go.Proofs.Ytnbohdninedjdaa
open Go.ChangeShapes Go.WideShapes Go.ChangeAt Go.RowKit

def ve1 : ByteArray := ⟨#[86, 69, 49, 10]⟩
/-- An event's text. -/
def evT (z : EV) : ByteArray := pwT [z.t, z.t / 4294967296, z.kind * 65536 + z.num, z.val]
def peL (zs : List EV) : List ByteArray := ve1 :: zs.map evT
def peT (zs : List EV) : ByteArray := ⟨(catB (peL zs)).toArray⟩
def peV (zs : List EV) : ByteArray := if efB zs = true then peT zs else ⟨#[]⟩
theorem pw_word (n : Int) : pw (n % 4294967296) = pw n := by
  unfold pw
  rw [show n % 4294967296 % 256 = n % 256 by omega, show n % 4294967296 / 256 % 256 = n / 256 % 256 by omega, show n % 4294967296 / 65536 % 256 = n / 65536 % 256 by omega, show n % 4294967296 / 16777216 % 256 = n / 16777216 % 256 by omega]
theorem pwT_size (t : List Int) : (pwT t).size = 4 * t.length := by
  rw [← pwL_size t]
  simp [pwT, ByteArray.size]
theorem evT_size (z : EV) : (evT z).size = 16 := by unfold evT; rw [pwT_size]; rfl
theorem evT_word (z : EV) : pwT [z.t % 4294967296, z.t / 4294967296, z.kind * 65536 + z.num, z.val] = evT z := by
  unfold evT pwT pwL
  simp only [List.map_cons, pw_word]
theorem peL_len (zs : List EV) : (peL zs).length = zs.length + 1 := by simp [peL]
theorem peL_take (zs : List EV) (k : Nat) (hk : k < zs.length) : peL (zs.take (k + 1)) = peL (zs.take k) ++ [evT zs[k]] := by
  unfold peL
  rw [List.take_succ_eq_append_getElem hk, List.map_append]
  rfl
theorem peL_size (zs : List EV) : (catB (peL zs)).length = 4 + 16 * zs.length := by
  have h : ∀ l : List EV, (catB (l.map evT)).length = 16 * l.length := by
    intro l
    induction l with
    | nil => rfl
    | cons z l ih =>
      have e : catB ((z :: l).map evT) = (evT z).data.toList ++ catB (l.map evT) := by simp [catB]
      have h2 : (evT z).data.toList.length = 16 := by rw [← evT_size z]; rfl
      rw [e, List.length_append, ih, h2, List.length_cons]
      omega
  have e : catB (peL zs) = ve1.data.toList ++ catB (zs.map evT) := by simp [peL, catB]
  rw [e, List.length_append, h]
  rfl
theorem ef_ev {zs : List EV} (h : efB zs = true) (k : Nat) (hk : k < zs.length) : evB zs[k] = true := by
  unfold efB at h
  rw [Bool.and_eq_true] at h
  have h2 := allN_iff.1 h.2 k hk
  unfold evk at h2
  rw [Bool.and_eq_true] at h2
  have h3 := h2.1
  simp only [List.getD, List.getElem?_eq_getElem hk, Option.getD_some] at h3
  exact h3
theorem ef_len {zs : List EV} (h : efB zs = true) : zs.length ≤ 200 := by
  unfold efB at h
  rw [Bool.and_eq_true] at h
  have := of_decide_eq_true h.1
  omega
/-- What a right event is bound by. -/
theorem ev_b {z : EV} (h : evB z = true) : 0 ≤ z.t ∧ z.t ≤ 1099511627776 ∧ 1 ≤ z.kind ∧ z.kind ≤ 2 ∧ 0 ≤ z.num ∧ z.num ≤ 2047 ∧ 0 ≤ z.val ∧ z.val < 4294967296 := by
  unfold evB isW at h
  simp only [Bool.and_eq_true, Bool.or_eq_true, decide_eq_true_eq, beq_iff_eq] at h
  omega
theorem words4 (u : World) (a b c d : Int) : Irow (u.alloc (.cells #[.int .i64 a, .int .i64 b, .int .i64 c, .int .i64 d] 2)) (.slice (some ⟨u.heap.size, 0, none⟩) 4 4) [a, b, c, d] := by
  refine .inr ⟨u.heap.size, 0, 4, rfl, Nat.le_refl _, by simp, fun k hk => ?_⟩
  match k, hk with
  | 0, _ => exact (LG.new u #[.int .i64 a, .int .i64 b, .int .i64 c, .int .i64 d] 2).cel 0 _ rfl
  | 1, _ => exact (LG.new u #[.int .i64 a, .int .i64 b, .int .i64 c, .int .i64 d] 2).cel 1 _ rfl
  | 2, _ => exact (LG.new u #[.int .i64 a, .int .i64 b, .int .i64 c, .int .i64 d] 2).cel 2 _ rfl
  | 3, _ => exact (LG.new u #[.int .i64 a, .int .i64 b, .int .i64 c, .int .i64 d] 2).cel 3 _ rfl
set_option maxRecDepth 100000 in
set_option maxHeartbeats 4000000 in
theorem specPE_any {w : World} {v : Value} {zs : List EV} (h : EVrow w v zs) : Calls Try.prog 12 #[v] w fun e w' => e = .returned (.string (peV zs)) ∧ Below w.heap.size w w' := by
  have HR : Hid (EVrow w v zs) := h
  have HF : Hid (Calls Try.prog 8 #[v] w fun e w' => e = .returned (.int .i64 (efV zs)) ∧ Below w.heap.size w w') := specEF_any h
  obtain ⟨ao, cap, rfl⟩ := h.sl
  clear h
  cases hef : efB zs
  · have E : Hid (peV zs = ⟨#[]⟩) := (show peV zs = _ by unfold peV; rw [hef]; rfl)
    have e1 : efV zs = 1 := by unfold efV; rw [hef]; rfl
    rw [e1] at HF
    go_enter Try.func12, Try.ntmps12
    go_wp2_with (go_at_call 8; refine Calls.mono HF.out ?_; rintro e u1 ⟨rfl, hu⟩; have HU : Hid (Below w.heap.size w u1) := hu; clear hu)
    go_ret
    exact ⟨ret_str E.out.symm, HU.out⟩
  have E : Hid (peV zs = peT zs) := (show peV zs = _ by unfold peV; rw [hef]; rfl)
  have e1 : efV zs = 0 := by unfold efV; rw [hef]; rfl
  rw [e1] at HF
  have hlen := ef_len hef
  have HEV : Hid (∀ k (hk : k < zs.length), evB zs[k] = true) := fun k hk => ef_ev hef k hk
  have HG : Hid (peT zs = ⟨(catB (peL zs)).toArray⟩) := (show peT zs = _ from rfl)
  generalize peV zs = G at *
  generalize peT zs = G2 at *
  clear e1 hef
  go_enter Try.func12, Try.ntmps12
  go_wp2_with (go_at_call 8; refine Calls.mono HF.out ?_; rintro e u1 ⟨rfl, hu⟩; have HU : Hid (Below w.heap.size w u1) := hu; clear hu)
  go_loopw [3, 4] (fun out i wr => ∃ k : Nat, k ≤ zs.length ∧ i = .int .i64 k ∧ out = .string ⟨(catB (peL (zs.take k))).toArray⟩ ∧ Below w.heap.size w wr) (fun _ i _ => zs.length - (intOf i).toNat)
  case atStart => exact ⟨0, Nat.zero_le _, rfl, by simp [peL, catB, ve1], HU.out⟩
  case round =>
    obtain ⟨k, hk, rfl, rfl, hb⟩ := hrel
    have HB : Hid (Below w.heap.size w wr) := hb
    by_cases hlt : k < zs.length
    · obtain ⟨g, o, cap2, hv, _, hg, hc⟩ := HR.out.resolve_left (fun h => by rw [h.1] at hlt; simp at hlt)
      injection hv with hv1 hv2 hv3
      subst hv1 hv3
      obtain ⟨d0, d1, d2, d3⟩ := hc.below hb hg k hlt
      have hgw : g < wr.heap.size := Nat.lt_of_lt_of_le hg hb.size
      have HS : Hid ((⟨(catB (peL (zs.take k))).toArray⟩ : ByteArray) ++ evT zs[k] = ⟨(catB (peL (zs.take (k + 1)))).toArray⟩) := (show _ = _ by rw [peL_take zs k hlt, catB_snoc, tx_add])
      have hbs : (⟨(catB (peL (zs.take k))).toArray⟩ : ByteArray).size ≤ 4000 := by
        have := peL_size (zs.take k)
        rw [List.length_take] at this
        show (catB (peL (zs.take k))).toArray.size ≤ 4000
        rw [List.size_toArray]
        omega
      obtain ⟨t0, t1, q0, q1, m0, m1, x0, x1⟩ := ev_b (HEV.out k hlt)
      have hps := evT_size zs[k]
      have HP : Hid (∀ u, Calls Try.prog 27 #[.slice (some ⟨u.heap.size, 0, none⟩) 4 4] (u.alloc (.cells #[.int .i64 zs[k].t, .int .i64 (zs[k].t / 4294967296), .int .i64 (zs[k].kind * 65536 + zs[k].num), .int .i64 zs[k].val] 2)) fun e w' => e = .returned (.string (evT zs[k])) ∧ Below u.heap.size u w') := fun u => Calls.mono (l20Words_any (words4 u zs[k].t (zs[k].t / 4294967296) (zs[k].kind * 65536 + zs[k].num) zs[k].val) (by simp)) (by rintro e w' ⟨rfl, hb⟩; exact ⟨rfl, (bx1 u _).trans (hb.mono (by simp))⟩)
      generalize evT zs[k] = p at *
      generalize zs[k] = z at *
      have HLN : Hid (LG w (wr.alloc (.cells #[.int .i64 z.t, .int .i64 z.kind, .int .i64 z.num, .int .i64 z.val] 46)) wr.heap.size #[.int .i64 z.t, .int .i64 z.kind, .int .i64 z.num, .int .i64 z.val] 46) := ⟨HB.out.trans ((bx1 wr _).mono HB.out.size), heap_new _ _, HB.out.size⟩
      generalize (⟨(catB (peL (zs.take k))).toArray⟩ : ByteArray) = x at *
      have hadd := fun w => run_string_add_sum (P := Try.prog) w x p (by omega)
      have hk0 : (0 : Int) ≤ (k : Int) := by omega
      have hk1 : (k : Int) < (zs.length : Int) := by omega
      have hk9 : (k : Int) ≤ 200 := by omega
      clear hb hc hv2 hbs hps
      go_upto_region 8 with fail
      clear d0 d1 d2 d3
      generalize (wr.alloc (.cells #[.int .i64 z.t, .int .i64 z.kind, .int .i64 z.num, .int .i64 z.val] 46)) = u0 at *
      generalize wr.heap.size = b0 at *
      have k0 := HLN.out.cel 0 _ rfl
      have k1 := HLN.out.cel 1 _ rfl
      have k2 := HLN.out.cel 2 _ rfl
      have k3 := HLN.out.cel 3 _ rfl
      have kl := HLN.out.lt
      go_wp2_with (go_at_call 27; refine Calls.mono (HP.out _) ?_; rintro e u2 ⟨rfl, hu⟩; have HU2 : Hid (Below w.heap.size w u2) := HLN.out.bel.trans (hu.mono HLN.out.bel.size); clear hu)
      exact ⟨⟨k + 1, hlt, by simp, by rw [HS.out], HU2.out⟩, by simp [intOf]; omega⟩
    · obtain rfl : k = zs.length := by omega
      have HG2 : Hid ((⟨(catB (peL (zs.take zs.length))).toArray⟩ : ByteArray) = G) := (show _ = _ by rw [List.take_length, E.out]; exact HG.out.symm)
      generalize (⟨(catB (peL (zs.take zs.length))).toArray⟩ : ByteArray) = x at *
      go_wp2
      go_ret
      exact ⟨ret_str HG2.out, hb⟩
set_option maxRecDepth 100000 in
set_option maxHeartbeats 4000000 in
theorem implPE_any {w : World} {v : Value} {zs : List EV} (h : EVrow w v zs) : Calls Try.prog 13 #[v] w fun e w' => e = .returned (.string (peV zs)) ∧ Below w.heap.size w w' := by
  have HR : Hid (EVrow w v zs) := h
  have HF : Hid (Calls Try.prog 10 #[v] w fun e w' => e = .returned (.int .i64 (efV zs)) ∧ Below w.heap.size w w') := implEF_any h
  obtain ⟨ao, cap, rfl⟩ := h.sl
  clear h
  cases hef : efB zs
  · have E : Hid (peV zs = ⟨#[]⟩) := (show peV zs = _ by unfold peV; rw [hef]; rfl)
    have e1 : efV zs = 1 := by unfold efV; rw [hef]; rfl
    rw [e1] at HF
    go_enter Try.func13, Try.ntmps13
    go_wp2_with (go_at_call 10; refine Calls.mono HF.out ?_; rintro e u1 ⟨rfl, hu⟩; have HU : Hid (Below w.heap.size w u1) := hu; clear hu)
    go_ret
    exact ⟨ret_str E.out.symm, HU.out⟩
  have E : Hid (peV zs = peT zs) := (show peV zs = _ by unfold peV; rw [hef]; rfl)
  have e1 : efV zs = 0 := by unfold efV; rw [hef]; rfl
  rw [e1] at HF
  have hlen := ef_len hef
  have HEV : Hid (∀ k (hk : k < zs.length), evB zs[k] = true) := fun k hk => ef_ev hef k hk
  have HG : Hid (peT zs = ⟨(catB (peL zs)).toArray⟩) := (show peT zs = _ from rfl)
  have HV1 : Hid (∀ u : World, (u.alloc (.cells #[.string ⟨#[86, 69, 49, 10]⟩] 9)).ownsRow u.heap.size 9 1 (.slice (some ⟨u.heap.size, 0, none⟩) 1 1) 1 (sR (peL (zs.take 0)))) := fun u => World.ownsRow_lit u #[.string ⟨#[86, 69, 49, 10]⟩] 1 (by simp) (by decide) rfl
  generalize peV zs = G at *
  generalize peT zs = G2 at *
  clear e1 hef
  go_enter Try.func13, Try.ntmps13
  go_upto_region 3 with (go_at_call 10; refine Calls.mono HF.out ?_; rintro e u1 ⟨rfl, hu⟩; have HU : Hid (Below w.heap.size w u1) := hu; clear hu)
  have HO1 : Hid _ := HV1.out u1
  have HU1 : Hid (Below w.heap.size w (u1.alloc (.cells #[.string ⟨#[86, 69, 49, 10]⟩] 9))) := HU.out.trans ((bx1 _ _).mono HU.out.size)
  go_upto_region 4 with fail
  have HO2 : Hid ((u1.alloc (.cells #[.string ⟨#[86, 69, 49, 10]⟩] 9)).ownsRow w.heap.size 9 1 (.slice (some ⟨u1.heap.size, 0, none⟩) 1 1) 1 (sR (peL (zs.take 0)))) := World.ownsRow.mono HO1.out HU.out.size
  generalize (u1.alloc (.cells #[.string ⟨#[86, 69, 49, 10]⟩] 9)) = v1 at *
  generalize u1.heap.size = vb at *
  clear HV1 HO1 HF
  go_wp2
  go_loopw [3, 12] (fun st i wr => ∃ k : Nat, k ≤ zs.length ∧ i = .int .i64 k ∧ wr.ownsRow w.heap.size 9 1 st (k + 1) (sR (peL (zs.take k))) ∧ Below w.heap.size w wr) (fun _ i _ => zs.length - (intOf i).toNat)
  case atStart => exact ⟨0, Nat.zero_le _, rfl, HO2.out, HU1.out⟩
  case round =>
    obtain ⟨k, hk, rfl, hown, hb⟩ := hrel
    obtain ⟨a3, c3, rfl⟩ := s_sl hown
    have HOW : Hid (wr.ownsRow w.heap.size 9 1 (.slice a3 (k + 1) c3) (k + 1) (sR (peL (zs.take k)))) := hown
    have HB : Hid (Below w.heap.size w wr) := hb
    clear hown HO2
    by_cases hlt : k < zs.length
    · obtain ⟨g, o, cap2, hv, _, hg, hc⟩ := HR.out.resolve_left (fun h => by rw [h.1] at hlt; simp at hlt)
      injection hv with hv1 hv2 hv3
      subst hv1 hv3
      obtain ⟨d0, d1, d2, d3⟩ := hc.below hb hg k hlt
      have hgw : g < wr.heap.size := Nat.lt_of_lt_of_le hg hb.size
      have HT : Hid (peL (zs.take (k + 1)) = peL (zs.take k) ++ [evT zs[k]]) := peL_take zs k hlt
      obtain ⟨t0, t1, q0, q1, m0, m1, x0, x1⟩ := ev_b (HEV.out k hlt)
      have HWE : Hid (pwT [zs[k].t % 4294967296, zs[k].t / 4294967296, zs[k].kind * 65536 + zs[k].num, zs[k].val] = evT zs[k]) := evT_word zs[k]
      generalize evT zs[k] = p at *
      generalize zs[k] = z at *
      obtain ⟨Q, hQ⟩ : ∃ Q, z.t / 4294967296 = Q := ⟨_, rfl⟩
      obtain ⟨X, hX⟩ : ∃ X, z.kind * 65536 = X := ⟨_, rfl⟩
      obtain ⟨Y, hY⟩ : ∃ Y, X + z.num = Y := ⟨_, rfl⟩
      have hQt : z.t.tdiv 4294967296 = Q := by rw [Int.tdiv_eq_ediv_of_nonneg t0]; exact hQ
      have hQw : IntKind.i64.wrap Q = Q := by rw [IntKind.wrap_i64]; omega
      have hXw : IntKind.i64.wrap X = X := by rw [IntKind.wrap_i64]; omega
      have hYw : IntKind.i64.wrap Y = Y := by rw [IntKind.wrap_i64]; omega
      rw [hX, hY, hQ] at HWE
      have HP : Hid (∀ u, Calls Try.prog 28 #[.slice (some ⟨u.heap.size, 0, none⟩) 4 4] (u.alloc (.cells #[.int .i64 (z.t % 4294967296), .int .i64 Q, .int .i64 Y, .int .i64 z.val] 2)) fun e w' => e = .returned (.string p) ∧ Below u.heap.size u w') := fun u => Calls.mono (packWords_any (words4 u (z.t % 4294967296) Q Y z.val) (by simp)) (by rintro e w' ⟨rfl, hb⟩; exact ⟨ret_str HWE.out, (bx1 u _).trans (hb.mono (by simp))⟩)
      have HLN : Hid (LG w (wr.alloc (.cells #[.int .i64 z.t, .int .i64 z.kind, .int .i64 z.num, .int .i64 z.val] 46)) wr.heap.size #[.int .i64 z.t, .int .i64 z.kind, .int .i64 z.num, .int .i64 z.val] 46) := ⟨HB.out.trans ((bx1 wr _).mono HB.out.size), heap_new _ _, HB.out.size⟩
      have HO0 : Hid ((wr.alloc (.cells #[.int .i64 z.t, .int .i64 z.kind, .int .i64 z.num, .int .i64 z.val] 46)).ownsRow w.heap.size 9 1 (.slice a3 (k + 1) c3) (k + 1) (sR (peL (zs.take k)))) := World.ownsRow.alloc HOW.out _
      have HLT : Hid (∀ j, (Value.slice a3 (k + 1) c3).ownBlock = some j → j < wr.heap.size) := fun j hj => (HOW.out.lt j hj).2
      have hk0 : (0 : Int) ≤ (k : Int) := by omega
      have hk1 : (k : Int) < (zs.length : Int) := by omega
      have hk9 : (k : Int) ≤ 200 := by omega
      clear hb hc hv2 HOW
      go_upto_region 7 with fail
      clear d0 d1 d2 d3
      generalize (wr.alloc (.cells #[.int .i64 z.t, .int .i64 z.kind, .int .i64 z.num, .int .i64 z.val] 46)) = u0 at *
      generalize wr.heap.size = bn at *
      have HSB : Hid (LG w u0.drew bn #[.int .i64 z.t, .int .i64 z.kind, .int .i64 z.num, .int .i64 z.val] 46) := HLN.out.drew
      have HO0d : Hid (u0.drew.ownsRow w.heap.size 9 1 (.slice a3 (k + 1) c3) (k + 1) (sR (peL (zs.take k)))) := HO0.out
      refine wp_region_held (S := fun w9 => LG w w9 bn #[.int .i64 z.t, .int .i64 z.kind, .int .i64 z.num, .int .i64 z.val] 46) (by kernel_rfl) ?_
      change wpAnyH _ _ _ _ _ _ _ _ (World.drew _)
      refine wpAnyH_take (i := 0) (v := .slice a3 (k + 1) c3) rfl (by kernel_rfl) (by kernel_rfl) (by kernel_rfl) (fun _ _ _ h => h) (Or.inl ⟨by kernel_rfl, fun w9 h9 => ?_⟩) HSB.out ?_
      · go_simp
      refine wpAnyH_take (i := 1) (v := .pointer (some ⟨bn, 0, none⟩)) rfl (by kernel_rfl) (by kernel_rfl) (by kernel_rfl) (fun _ _ _ h => h) (Or.inl ⟨by kernel_rfl, fun w9 h9 => ?_⟩) HSB.out ?_
      · go_simp
      refine wpAnyH_take (i := 2) (v := .int .i64 z.t) rfl (by kernel_rfl) (by kernel_rfl) (by kernel_rfl) (fun _ _ _ h => h) (Or.inl ⟨by kernel_rfl, fun w9 h9 => ?_⟩) HSB.out ?_
      · have k0 := h9.cel 0 _ rfl; have k1 := h9.cel 1 _ rfl; have k2 := h9.cel 2 _ rfl; have k3 := h9.cel 3 _ rfl; clear h9; go_simp
      refine wpAnyH_take (i := 4) (v := .pointer (some ⟨bn, 0, none⟩)) rfl (by kernel_rfl) (by kernel_rfl) (by kernel_rfl) (fun _ _ _ h => h) (Or.inl ⟨by kernel_rfl, fun w9 h9 => ?_⟩) HSB.out ?_
      · go_simp
      refine wpAnyH_take (i := 5) (v := .int .i64 z.t) rfl (by kernel_rfl) (by kernel_rfl) (by kernel_rfl) (fun _ _ _ h => h) (Or.inl ⟨by kernel_rfl, fun w9 h9 => ?_⟩) HSB.out ?_
      · have k0 := h9.cel 0 _ rfl; have k1 := h9.cel 1 _ rfl; have k2 := h9.cel 2 _ rfl; have k3 := h9.cel 3 _ rfl; clear h9; go_simp
      refine wpAnyH_take (i := 6) (v := .int .i64 Q) rfl (by kernel_rfl) (by kernel_rfl) (by kernel_rfl) (fun _ _ _ h => h) (Or.inl ⟨by kernel_rfl, fun w9 h9 => ?_⟩) HSB.out ?_
      · go_simp
      refine wpAnyH_take (i := 7) (v := .pointer (some ⟨bn, 1, none⟩)) rfl (by kernel_rfl) (by kernel_rfl) (by kernel_rfl) (fun _ _ _ h => h) (Or.inl ⟨by kernel_rfl, fun w9 h9 => ?_⟩) HSB.out ?_
      · go_simp
      refine wpAnyH_take (i := 8) (v := .int .i64 z.kind) rfl (by kernel_rfl) (by kernel_rfl) (by kernel_rfl) (fun _ _ _ h => h) (Or.inl ⟨by kernel_rfl, fun w9 h9 => ?_⟩) HSB.out ?_
      · have k0 := h9.cel 0 _ rfl; have k1 := h9.cel 1 _ rfl; have k2 := h9.cel 2 _ rfl; have k3 := h9.cel 3 _ rfl; clear h9; go_simp
      refine wpAnyH_take (i := 9) (v := .int .i64 X) rfl (by kernel_rfl) (by kernel_rfl) (by kernel_rfl) (fun _ _ _ h => h) (Or.inl ⟨by kernel_rfl, fun w9 h9 => ?_⟩) HSB.out ?_
      · go_simp
      refine wpAnyH_take (i := 10) (v := .pointer (some ⟨bn, 2, none⟩)) rfl (by kernel_rfl) (by kernel_rfl) (by kernel_rfl) (fun _ _ _ h => h) (Or.inl ⟨by kernel_rfl, fun w9 h9 => ?_⟩) HSB.out ?_
      · go_simp
      refine wpAnyH_take (i := 11) (v := .int .i64 z.num) rfl (by kernel_rfl) (by kernel_rfl) (by kernel_rfl) (fun _ _ _ h => h) (Or.inl ⟨by kernel_rfl, fun w9 h9 => ?_⟩) HSB.out ?_
      · have k0 := h9.cel 0 _ rfl; have k1 := h9.cel 1 _ rfl; have k2 := h9.cel 2 _ rfl; have k3 := h9.cel 3 _ rfl; clear h9; go_simp
      refine wpAnyH_take (i := 12) (v := .int .i64 Y) rfl (by kernel_rfl) (by kernel_rfl) (by kernel_rfl) (fun _ _ _ h => h) (Or.inl ⟨by kernel_rfl, fun w9 h9 => ?_⟩) HSB.out ?_
      · go_simp
      refine wpAnyH_take (i := 13) (v := .pointer (some ⟨bn, 3, none⟩)) rfl (by kernel_rfl) (by kernel_rfl) (by kernel_rfl) (fun _ _ _ h => h) (Or.inl ⟨by kernel_rfl, fun w9 h9 => ?_⟩) HSB.out ?_
      · go_simp
      refine wpAnyH_take (i := 14) (v := .int .i64 z.val) rfl (by kernel_rfl) (by kernel_rfl) (by kernel_rfl) (fun _ _ _ h => h) (Or.inl ⟨by kernel_rfl, fun w9 h9 => ?_⟩) HSB.out ?_
      · have k0 := h9.cel 0 _ rfl; have k1 := h9.cel 1 _ rfl; have k2 := h9.cel 2 _ rfl; have k3 := h9.cel 3 _ rfl; clear h9; go_simp
      refine held_one 3 (by kernel_rfl) rfl (by kernel_rfl) fun K hK => ?_
      go_simp
      go_wp2_with (go_at_call 29; refine Calls.mono (implWord_any z.t _) ?_; rintro e u1 ⟨rfl, hw1⟩; rw [hw1]; clear hw1 u1)
      refine hK _ _ HSB.out ?_
      clear hK K
      refine held_one 15 (by kernel_rfl) rfl (by kernel_rfl) fun K hK => ?_
      go_simp
      refine hK _ _ (HSB.out.step (bx1 _ _)) ?_
      clear hK K
      refine held_one 16 (by kernel_rfl) rfl (by kernel_rfl) fun K hK => ?_
      go_simp
      go_wp2_with (go_at_call 28; refine Calls.mono (HP.out u0.drew) ?_; rintro e u3 ⟨rfl, hu⟩; have HS3 : Hid (LG w u3 bn #[.int .i64 z.t, .int .i64 z.kind, .int .i64 z.num, .int .i64 z.val] 46) := HSB.out.step hu; have HO3 : Hid (u3.ownsRow w.heap.size 9 1 (.slice a3 (k + 1) c3) (k + 1) (sR (peL (zs.take k)))) := own_below HO0d.out hu; clear hu)
      refine hK _ _ HS3.out ?_
      clear hK K
      refine held_one 17 (by kernel_rfl) rfl (by kernel_rfl) fun K hK => ?_
      have HAP : Hid _ := app1S HO3.out p (by omega) HS3.out.bel.size
      have HOB : Hid (∀ j, (Value.slice a3 (k + 1) c3).ownBlock = some j → w.heap.size ≤ j ∧ j < bn) := fun j hj => ⟨(HO3.out.lt j hj).1, HLT.out j hj⟩
      go_simp
      refine hK _ _ (HS3.out.step (bx1 _ _)) ?_
      clear hK K
      refine held_one 18 (by kernel_rfl) rfl (by kernel_rfl) fun K hK => ?_
      refine wp_append_exB _ _ 54 rfl (.slice a3 (k + 1) c3) (.slice (some ⟨u3.heap.size, 0, none⟩) 1 1) rfl rfl HAP.out ?_
      rintro sv u5 ⟨ho, hg⟩
      obtain ⟨a5, c5, rfl⟩ := s_sl ho
      have hob := HOB.out
      have HS5 : Hid (LG w u5 bn #[.int .i64 z.t, .int .i64 z.kind, .int .i64 z.num, .int .i64 z.val] 46) := ⟨(HS3.out.step (bx1 _ _)).bel.grown hg (HS3.out.step (bx1 _ _)).bel.size (fun j hj => (hob j hj).1), (hg.block bn (HS3.out.step (bx1 _ _)).lt (fun e9 => by have := hob _ e9.symm; omega)).trans (HS3.out.step (bx1 _ _)).box, HS3.out.ge⟩
      have HO5 : Hid (u5.ownsRow w.heap.size 9 1 (.slice a5 (k + 1 + 1) c5) (k + 1 + 1) (sR (peL (zs.take (k + 1))))) := (by rw [HT.out]; unfold sR at ho ⊢; rw [List.map_append]; exact ho)
      clear ho hg hob
      refine hK _ _ HS5.out ?_
      clear hK K
      refine wpAnyH_take (i := 19) (v := .slice a5 (k + 1 + 1) c5) rfl (by kernel_rfl) (by kernel_rfl) (by kernel_rfl) (fun _ _ _ h => h) (Or.inl ⟨by kernel_rfl, fun w9 h9 => ?_⟩) HS5.out ?_
      · go_simp
      refine wpAnyH_done (by kernel_rfl) ?_ _
      go_simp
      go_wp2
      exact ⟨⟨k + 1, hlt, by go_num, HO5.out, HS5.out.bel⟩, by simp [intOf]; omega⟩
    · obtain rfl : k = zs.length := by omega
      have HJ : Hid (Calls Try.prog 30 #[.slice a3 (zs.length + 1) c3] wr fun e w' => e = .returned (.string G) ∧ Below wr.heap.size wr w') := (show Calls _ _ _ _ _ by
        have h1 := joined_row (ps := peL zs) (v := .slice a3 (zs.length + 1) c3) (B := w.heap.size) (w := wr) (by have := HOW.out; rw [List.take_length] at this; rw [peL_len]; exact this) (by rw [peL_len]; omega) (by rw [peL_size]; omega)
        rw [← HG.out, ← E.out] at h1
        exact h1)
      go_wp2_with (go_at_call 30; refine Calls.mono HJ.out ?_; rintro e u1 ⟨rfl, hu⟩; have HU : Hid (Below w.heap.size w u1) := HB.out.trans (hu.mono HB.out.size); clear hu)
      go_ret
      exact ⟨rfl, HU.out⟩
end Go.Proofs.Ytnbohdninedjdaa
