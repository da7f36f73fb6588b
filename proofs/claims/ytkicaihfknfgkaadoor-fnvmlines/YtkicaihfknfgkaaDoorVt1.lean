import Derived.Test.YtkicaihfknfgkaaDoorFmt
import Derived.Test.YtkicaihfknfgkaaDoorCp1
import Derived.Test.YtkicaihfknfgkaaDoorRegE
import Derived.Laws.Concat
import Derived.Maps.AppendAt
namespace Go.Proofs.YtkicaihfknfgkaaDoor
open Go.ChangeShapes Go.WideShapes Go.ChangeAt Go.RowKit

def vk0 : ByteArray := ⟨#[116, 101, 110, 97, 110, 116, 61]⟩
def vk1 : ByteArray := ⟨#[99, 112, 117, 61]⟩
def vk2 : ByteArray := ⟨#[109, 101, 109, 61]⟩
def vk3 : ByteArray := ⟨#[122, 111, 110, 101, 61]⟩
def vk4 : ByteArray := ⟨#[97, 112, 97, 114, 116, 61]⟩
def vbl : ByteArray := ⟨#[32]⟩
/-- The pieces of a machine behind its name. -/
def vtP (v : VMC) : List ByteArray := [vbl, vk0, decB v.tenant, vbl, vk1, decB v.cpu, vbl, vk2, decB v.mem, vbl, vk3, decB v.zone, vbl, vk4, decB v.apart]
def vtL (v : VMC) (k : Nat) : List ByteArray := v.name :: (vtP v).take (3 * k)
/-- A machine's text. -/
def vtT (v : VMC) : ByteArray := ⟨(catB (vtL v 5)).toArray⟩
def vtV (v : VMC) : ByteArray := if vmB 8 v = true then vtT v else ⟨#[]⟩
theorem bapp (l : List UInt8) (b : ByteArray) : (⟨l.toArray⟩ : ByteArray) ++ b = ⟨(l ++ b.data.toList).toArray⟩ := by
  apply ByteArray.ext
  simp
theorem vt_sum (v : VMC) : (((((v.name ++ ⟨#[32, 116, 101, 110, 97, 110, 116, 61]⟩ ++ decB v.tenant) ++ ⟨#[32, 99, 112, 117, 61]⟩ ++ decB v.cpu) ++ ⟨#[32, 109, 101, 109, 61]⟩ ++ decB v.mem) ++ ⟨#[32, 122, 111, 110, 101, 61]⟩ ++ decB v.zone) ++ ⟨#[32, 97, 112, 97, 114, 116, 61]⟩ ++ decB v.apart) = vtT v := by
  have e : v.name = ⟨v.name.data.toList.toArray⟩ := by simp
  conv => lhs; rw [e]
  simp only [bapp]
  unfold vtT
  congr 2
  simp [catB, vtL, vtP, vbl, vk0, vk1, vk2, vk3, vk4]
theorem vm_b {v : VMC} (h : vmB 8 v = true) : v.name.size ≤ 20 ∧ 1 ≤ v.cpu ∧ v.cpu ≤ 64 ∧ 1 ≤ v.mem ∧ v.mem ≤ 1000 ∧ 0 ≤ v.tenant ∧ v.tenant < 8 ∧ 0 ≤ v.zone ∧ v.zone ≤ 20 ∧ 0 ≤ v.apart ∧ v.apart ≤ 20 := by
  unfold vmB nmB at h
  simp only [Bool.and_eq_true, decide_eq_true_eq] at h
  omega
set_option maxRecDepth 100000 in
set_option maxHeartbeats 8000000 in
theorem specVT_any (v : VMC) (w : World) : Calls Tryd.prog 10 #[.agg #[.string v.name, .int .i64 v.tenant, .int .i64 v.cpu, .int .i64 v.mem, .int .i64 v.zone, .int .i64 v.apart, .string v.node, .int .i64 v.epoch]] w fun e w' => e = .returned (.string (vtV v)) ∧ Below w.heap.size w w' := by
  have HI : Hid (∀ u, Calls Tryd.prog 22 #[.agg #[.string v.name, .int .i64 v.tenant, .int .i64 v.cpu, .int .i64 v.mem, .int .i64 v.zone, .int .i64 v.apart, .string v.node, .int .i64 v.epoch], .int .i64 8] u fun e w' => e = .returned (.bool (vmB 8 v)) ∧ Below u.heap.size u w') := fun u => l22IsVm_any v 8 u
  have HL0 : Hid (LG w (w.alloc (.cells #[.string v.name, .int .i64 v.tenant, .int .i64 v.cpu, .int .i64 v.mem, .int .i64 v.zone, .int .i64 v.apart, .string v.node, .int .i64 v.epoch] 23)) w.heap.size #[.string v.name, .int .i64 v.tenant, .int .i64 v.cpu, .int .i64 v.mem, .int .i64 v.zone, .int .i64 v.apart, .string v.node, .int .i64 v.epoch] 23) := LG.new w _ _
  cases hv : vmB 8 v
  · have E : Hid (vtV v = ⟨#[]⟩) := (show _ = _ by unfold vtV; rw [hv]; rfl)
    rw [hv] at HI
    clear hv
    generalize vtV v = G at *
    go_enter Tryd.func10, Tryd.ntmps10
    go_upto_region 1 with fail
    generalize (w.alloc (.cells #[.string v.name, .int .i64 v.tenant, .int .i64 v.cpu, .int .i64 v.mem, .int .i64 v.zone, .int .i64 v.apart, .string v.node, .int .i64 v.epoch] 23)) = u0 at *
    generalize w.heap.size = b0 at *
    have k0 := HL0.out.cel 0 _ rfl
    have k1 := HL0.out.cel 1 _ rfl
    have k2 := HL0.out.cel 2 _ rfl
    have k3 := HL0.out.cel 3 _ rfl
    have k4 := HL0.out.cel 4 _ rfl
    have k5 := HL0.out.cel 5 _ rfl
    have k6 := HL0.out.cel 6 _ rfl
    have k7 := HL0.out.cel 7 _ rfl
    have kl := HL0.out.lt
    go_wp2_with (go_at_call 22; refine Calls.mono (HI.out _) ?_; rintro e u1 ⟨rfl, hb⟩; have HL1 : Hid (Below _ w u1) := (HL0.out.step hb).bel; clear hb)
    go_ret
    exact ⟨ret_str E.out.symm, HL1.out⟩
  · have E : Hid (vtV v = _) := (show vtV v = _ by unfold vtV; rw [hv, if_pos rfl, ← vt_sum v])
    rw [hv] at HI
    obtain ⟨n0, c0, c1, m0, m1, t0, t1, z0, z1, a0, a1⟩ := vm_b hv
    clear hv
    have d0 := decB_size v.tenant (by omega) (by omega)
    have HD0 : Hid (∀ u, Calls Tryd.prog 23 #[.int .i64 v.tenant] u fun e w' => e = .returned (.string (decB v.tenant)) ∧ Below u.heap.size u w') := fun u => l01Dec_any _ u (by omega) (by omega)
    have d1 := decB_size v.cpu (by omega) (by omega)
    have HD1 : Hid (∀ u, Calls Tryd.prog 23 #[.int .i64 v.cpu] u fun e w' => e = .returned (.string (decB v.cpu)) ∧ Below u.heap.size u w') := fun u => l01Dec_any _ u (by omega) (by omega)
    have d2 := decB_size v.mem (by omega) (by omega)
    have HD2 : Hid (∀ u, Calls Tryd.prog 23 #[.int .i64 v.mem] u fun e w' => e = .returned (.string (decB v.mem)) ∧ Below u.heap.size u w') := fun u => l01Dec_any _ u (by omega) (by omega)
    have d3 := decB_size v.zone (by omega) (by omega)
    have HD3 : Hid (∀ u, Calls Tryd.prog 23 #[.int .i64 v.zone] u fun e w' => e = .returned (.string (decB v.zone)) ∧ Below u.heap.size u w') := fun u => l01Dec_any _ u (by omega) (by omega)
    have d4 := decB_size v.apart (by omega) (by omega)
    have HD4 : Hid (∀ u, Calls Tryd.prog 23 #[.int .i64 v.apart] u fun e w' => e = .returned (.string (decB v.apart)) ∧ Below u.heap.size u w') := fun u => l01Dec_any _ u (by omega) (by omega)
    generalize decB v.tenant = D0 at *
    generalize decB v.cpu = D1 at *
    generalize decB v.mem = D2 at *
    generalize decB v.zone = D3 at *
    generalize decB v.apart = D4 at *
    generalize vtV v = G at *
    generalize v.name = N0 at *
    obtain ⟨A0, hA0⟩ : ∃ A, Hid (N0 ++ ⟨#[32, 116, 101, 110, 97, 110, 116, 61]⟩ = A) := ⟨_, rfl⟩
    have s0 : A0.size = N0.size + 8 := by rw [← hA0.out, ByteArray.size_append]; rfl
    have l0 : (⟨#[32, 116, 101, 110, 97, 110, 116, 61]⟩ : ByteArray).size = 8 := rfl
    obtain ⟨A1, hA1⟩ : ∃ A, Hid (A0 ++ D0 = A) := ⟨_, rfl⟩
    have s1 : A1.size = A0.size + D0.size := by rw [← hA1.out, ByteArray.size_append]
    obtain ⟨A2, hA2⟩ : ∃ A, Hid (A1 ++ ⟨#[32, 99, 112, 117, 61]⟩ = A) := ⟨_, rfl⟩
    have s2 : A2.size = A1.size + 5 := by rw [← hA2.out, ByteArray.size_append]; rfl
    have l1 : (⟨#[32, 99, 112, 117, 61]⟩ : ByteArray).size = 5 := rfl
    obtain ⟨A3, hA3⟩ : ∃ A, Hid (A2 ++ D1 = A) := ⟨_, rfl⟩
    have s3 : A3.size = A2.size + D1.size := by rw [← hA3.out, ByteArray.size_append]
    obtain ⟨A4, hA4⟩ : ∃ A, Hid (A3 ++ ⟨#[32, 109, 101, 109, 61]⟩ = A) := ⟨_, rfl⟩
    have s4 : A4.size = A3.size + 5 := by rw [← hA4.out, ByteArray.size_append]; rfl
    have l2 : (⟨#[32, 109, 101, 109, 61]⟩ : ByteArray).size = 5 := rfl
    obtain ⟨A5, hA5⟩ : ∃ A, Hid (A4 ++ D2 = A) := ⟨_, rfl⟩
    have s5 : A5.size = A4.size + D2.size := by rw [← hA5.out, ByteArray.size_append]
    obtain ⟨A6, hA6⟩ : ∃ A, Hid (A5 ++ ⟨#[32, 122, 111, 110, 101, 61]⟩ = A) := ⟨_, rfl⟩
    have s6 : A6.size = A5.size + 6 := by rw [← hA6.out, ByteArray.size_append]; rfl
    have l3 : (⟨#[32, 122, 111, 110, 101, 61]⟩ : ByteArray).size = 6 := rfl
    obtain ⟨A7, hA7⟩ : ∃ A, Hid (A6 ++ D3 = A) := ⟨_, rfl⟩
    have s7 : A7.size = A6.size + D3.size := by rw [← hA7.out, ByteArray.size_append]
    obtain ⟨A8, hA8⟩ : ∃ A, Hid (A7 ++ ⟨#[32, 97, 112, 97, 114, 116, 61]⟩ = A) := ⟨_, rfl⟩
    have s8 : A8.size = A7.size + 7 := by rw [← hA8.out, ByteArray.size_append]; rfl
    have l4 : (⟨#[32, 97, 112, 97, 114, 116, 61]⟩ : ByteArray).size = 7 := rfl
    obtain ⟨A9, hA9⟩ : ∃ A, Hid (A8 ++ D4 = A) := ⟨_, rfl⟩
    have s9 : A9.size = A8.size + D4.size := by rw [← hA9.out, ByteArray.size_append]
    rw [hA0.out, hA1.out, hA2.out, hA3.out, hA4.out, hA5.out, hA6.out, hA7.out, hA8.out, hA9.out] at E
    clear c0 c1 m0 m1 t0 t1 z0 z1 a0 a1
    go_enter Tryd.func10, Tryd.ntmps10
    go_upto_region 1 with fail
    generalize (w.alloc (.cells #[.string N0, .int .i64 v.tenant, .int .i64 v.cpu, .int .i64 v.mem, .int .i64 v.zone, .int .i64 v.apart, .string v.node, .int .i64 v.epoch] 23)) = u0 at *
    generalize hb0 : w.heap.size = b0 at *
    have k0 := HL0.out.cel 0 _ rfl
    have k1 := HL0.out.cel 1 _ rfl
    have k2 := HL0.out.cel 2 _ rfl
    have k3 := HL0.out.cel 3 _ rfl
    have k4 := HL0.out.cel 4 _ rfl
    have k5 := HL0.out.cel 5 _ rfl
    have k6 := HL0.out.cel 6 _ rfl
    have k7 := HL0.out.cel 7 _ rfl
    have kl := HL0.out.lt
    go_upto_region 3 with (go_at_call 22; refine Calls.mono (HI.out _) ?_; rintro e v1 ⟨rfl, hb⟩; have HL1 : Hid (LG w v1 b0 #[.string N0, .int .i64 v.tenant, .int .i64 v.cpu, .int .i64 v.mem, .int .i64 v.zone, .int .i64 v.apart, .string v.node, .int .i64 v.epoch] 23) := HL0.out.step hb; clear hb)
    clear k0 k1 k2 k3 k4 k5 k6 k7 kl HL0 HI
    have HSB : Hid (LG w v1.drew b0 #[.string N0, .int .i64 v.tenant, .int .i64 v.cpu, .int .i64 v.mem, .int .i64 v.zone, .int .i64 v.apart, .string v.node, .int .i64 v.epoch] 23) := HL1.out.drew
    refine wp_region_held (S := fun w9 => LG w w9 b0 #[.string N0, .int .i64 v.tenant, .int .i64 v.cpu, .int .i64 v.mem, .int .i64 v.zone, .int .i64 v.apart, .string v.node, .int .i64 v.epoch] 23) (by kernel_rfl) ?_
    change wpAnyH _ _ _ _ _ _ _ _ (World.drew _)
    refine wpAnyH_take (i := 0) (v := .pointer (some ⟨b0, 0, none⟩)) rfl (by kernel_rfl) (by kernel_rfl) (by kernel_rfl) (fun _ _ _ h => h) (Or.inl ⟨by kernel_rfl, fun w9 h9 => ?_⟩) HSB.out ?_
    · go_simp
    refine wpAnyH_take (i := 1) (v := .string N0) rfl (by kernel_rfl) (by kernel_rfl) (by kernel_rfl) (fun _ _ _ h => h) (Or.inl ⟨by kernel_rfl, fun w9 h9 => ?_⟩) HSB.out ?_
    · have k0 := h9.cel 0 _ rfl; have k1 := h9.cel 1 _ rfl; have k2 := h9.cel 2 _ rfl; have k3 := h9.cel 3 _ rfl; have k4 := h9.cel 4 _ rfl; have k5 := h9.cel 5 _ rfl; have k6 := h9.cel 6 _ rfl; have k7 := h9.cel 7 _ rfl; clear h9; go_simp
    refine wpAnyH_take (i := 2) (v := .string A0) rfl (by kernel_rfl) (by kernel_rfl) (by kernel_rfl) (fun _ _ _ h => h) (Or.inl ⟨by kernel_rfl, fun w9 h9 => ?_⟩) HSB.out ?_
    · rw [← hA0.out]; have ha := fun w => run_string_add_sum (P := Tryd.prog) w N0 ⟨#[32, 116, 101, 110, 97, 110, 116, 61]⟩ (by omega); go_simp
    refine wpAnyH_take (i := 3) (v := .pointer (some ⟨b0, 1, none⟩)) rfl (by kernel_rfl) (by kernel_rfl) (by kernel_rfl) (fun _ _ _ h => h) (Or.inl ⟨by kernel_rfl, fun w9 h9 => ?_⟩) HSB.out ?_
    · go_simp
    refine wpAnyH_take (i := 4) (v := .int .i64 v.tenant) rfl (by kernel_rfl) (by kernel_rfl) (by kernel_rfl) (fun _ _ _ h => h) (Or.inl ⟨by kernel_rfl, fun w9 h9 => ?_⟩) HSB.out ?_
    · have k0 := h9.cel 0 _ rfl; have k1 := h9.cel 1 _ rfl; have k2 := h9.cel 2 _ rfl; have k3 := h9.cel 3 _ rfl; have k4 := h9.cel 4 _ rfl; have k5 := h9.cel 5 _ rfl; have k6 := h9.cel 6 _ rfl; have k7 := h9.cel 7 _ rfl; clear h9; go_simp
    refine wpAnyH_take (i := 8) (v := .pointer (some ⟨b0, 2, none⟩)) rfl (by kernel_rfl) (by kernel_rfl) (by kernel_rfl) (fun _ _ _ h => h) (Or.inl ⟨by kernel_rfl, fun w9 h9 => ?_⟩) HSB.out ?_
    · go_simp
    refine wpAnyH_take (i := 9) (v := .int .i64 v.cpu) rfl (by kernel_rfl) (by kernel_rfl) (by kernel_rfl) (fun _ _ _ h => h) (Or.inl ⟨by kernel_rfl, fun w9 h9 => ?_⟩) HSB.out ?_
    · have k0 := h9.cel 0 _ rfl; have k1 := h9.cel 1 _ rfl; have k2 := h9.cel 2 _ rfl; have k3 := h9.cel 3 _ rfl; have k4 := h9.cel 4 _ rfl; have k5 := h9.cel 5 _ rfl; have k6 := h9.cel 6 _ rfl; have k7 := h9.cel 7 _ rfl; clear h9; go_simp
    refine wpAnyH_take (i := 13) (v := .pointer (some ⟨b0, 3, none⟩)) rfl (by kernel_rfl) (by kernel_rfl) (by kernel_rfl) (fun _ _ _ h => h) (Or.inl ⟨by kernel_rfl, fun w9 h9 => ?_⟩) HSB.out ?_
    · go_simp
    refine wpAnyH_take (i := 14) (v := .int .i64 v.mem) rfl (by kernel_rfl) (by kernel_rfl) (by kernel_rfl) (fun _ _ _ h => h) (Or.inl ⟨by kernel_rfl, fun w9 h9 => ?_⟩) HSB.out ?_
    · have k0 := h9.cel 0 _ rfl; have k1 := h9.cel 1 _ rfl; have k2 := h9.cel 2 _ rfl; have k3 := h9.cel 3 _ rfl; have k4 := h9.cel 4 _ rfl; have k5 := h9.cel 5 _ rfl; have k6 := h9.cel 6 _ rfl; have k7 := h9.cel 7 _ rfl; clear h9; go_simp
    refine wpAnyH_take (i := 18) (v := .pointer (some ⟨b0, 4, none⟩)) rfl (by kernel_rfl) (by kernel_rfl) (by kernel_rfl) (fun _ _ _ h => h) (Or.inl ⟨by kernel_rfl, fun w9 h9 => ?_⟩) HSB.out ?_
    · go_simp
    refine wpAnyH_take (i := 19) (v := .int .i64 v.zone) rfl (by kernel_rfl) (by kernel_rfl) (by kernel_rfl) (fun _ _ _ h => h) (Or.inl ⟨by kernel_rfl, fun w9 h9 => ?_⟩) HSB.out ?_
    · have k0 := h9.cel 0 _ rfl; have k1 := h9.cel 1 _ rfl; have k2 := h9.cel 2 _ rfl; have k3 := h9.cel 3 _ rfl; have k4 := h9.cel 4 _ rfl; have k5 := h9.cel 5 _ rfl; have k6 := h9.cel 6 _ rfl; have k7 := h9.cel 7 _ rfl; clear h9; go_simp
    refine wpAnyH_take (i := 23) (v := .pointer (some ⟨b0, 5, none⟩)) rfl (by kernel_rfl) (by kernel_rfl) (by kernel_rfl) (fun _ _ _ h => h) (Or.inl ⟨by kernel_rfl, fun w9 h9 => ?_⟩) HSB.out ?_
    · go_simp
    refine wpAnyH_take (i := 24) (v := .int .i64 v.apart) rfl (by kernel_rfl) (by kernel_rfl) (by kernel_rfl) (fun _ _ _ h => h) (Or.inl ⟨by kernel_rfl, fun w9 h9 => ?_⟩) HSB.out ?_
    · have k0 := h9.cel 0 _ rfl; have k1 := h9.cel 1 _ rfl; have k2 := h9.cel 2 _ rfl; have k3 := h9.cel 3 _ rfl; have k4 := h9.cel 4 _ rfl; have k5 := h9.cel 5 _ rfl; have k6 := h9.cel 6 _ rfl; have k7 := h9.cel 7 _ rfl; clear h9; go_simp
    refine held_one 5 (by kernel_rfl) rfl (by kernel_rfl) fun K hK => ?_
    go_simp
    go_wp2_with (go_at_call 23; refine Calls.mono (HD0.out _) ?_; rintro e u1 ⟨rfl, hb⟩; have HS1 : Hid (LG w u1 b0 #[.string N0, .int .i64 v.tenant, .int .i64 v.cpu, .int .i64 v.mem, .int .i64 v.zone, .int .i64 v.apart, .string v.node, .int .i64 v.epoch] 23) := (HSB.out).step hb; clear hb)
    refine hK _ _ HS1.out ?_
    clear hK K
    refine wpAnyH_take (i := 6) (v := .string A1) rfl (by kernel_rfl) (by kernel_rfl) (by kernel_rfl) (fun _ _ _ h => h) (Or.inl ⟨by kernel_rfl, fun w9 h9 => ?_⟩) HS1.out ?_
    · rw [← hA1.out]; have ha := fun w => run_string_add_sum (P := Tryd.prog) w A0 D0 (by omega); go_simp
    refine wpAnyH_take (i := 7) (v := .string A2) rfl (by kernel_rfl) (by kernel_rfl) (by kernel_rfl) (fun _ _ _ h => h) (Or.inl ⟨by kernel_rfl, fun w9 h9 => ?_⟩) HS1.out ?_
    · rw [← hA2.out]; have ha := fun w => run_string_add_sum (P := Tryd.prog) w A1 ⟨#[32, 99, 112, 117, 61]⟩ (by omega); go_simp
    refine held_one 10 (by kernel_rfl) rfl (by kernel_rfl) fun K hK => ?_
    go_simp
    go_wp2_with (go_at_call 23; refine Calls.mono (HD1.out _) ?_; rintro e u2 ⟨rfl, hb⟩; have HS2 : Hid (LG w u2 b0 #[.string N0, .int .i64 v.tenant, .int .i64 v.cpu, .int .i64 v.mem, .int .i64 v.zone, .int .i64 v.apart, .string v.node, .int .i64 v.epoch] 23) := (HS1.out).step hb; clear hb)
    refine hK _ _ HS2.out ?_
    clear hK K
    refine wpAnyH_take (i := 11) (v := .string A3) rfl (by kernel_rfl) (by kernel_rfl) (by kernel_rfl) (fun _ _ _ h => h) (Or.inl ⟨by kernel_rfl, fun w9 h9 => ?_⟩) HS2.out ?_
    · rw [← hA3.out]; have ha := fun w => run_string_add_sum (P := Tryd.prog) w A2 D1 (by omega); go_simp
    refine wpAnyH_take (i := 12) (v := .string A4) rfl (by kernel_rfl) (by kernel_rfl) (by kernel_rfl) (fun _ _ _ h => h) (Or.inl ⟨by kernel_rfl, fun w9 h9 => ?_⟩) HS2.out ?_
    · rw [← hA4.out]; have ha := fun w => run_string_add_sum (P := Tryd.prog) w A3 ⟨#[32, 109, 101, 109, 61]⟩ (by omega); go_simp
    refine held_one 15 (by kernel_rfl) rfl (by kernel_rfl) fun K hK => ?_
    go_simp
    go_wp2_with (go_at_call 23; refine Calls.mono (HD2.out _) ?_; rintro e u3 ⟨rfl, hb⟩; have HS3 : Hid (LG w u3 b0 #[.string N0, .int .i64 v.tenant, .int .i64 v.cpu, .int .i64 v.mem, .int .i64 v.zone, .int .i64 v.apart, .string v.node, .int .i64 v.epoch] 23) := (HS2.out).step hb; clear hb)
    refine hK _ _ HS3.out ?_
    clear hK K
    refine wpAnyH_take (i := 16) (v := .string A5) rfl (by kernel_rfl) (by kernel_rfl) (by kernel_rfl) (fun _ _ _ h => h) (Or.inl ⟨by kernel_rfl, fun w9 h9 => ?_⟩) HS3.out ?_
    · rw [← hA5.out]; have ha := fun w => run_string_add_sum (P := Tryd.prog) w A4 D2 (by omega); go_simp
    refine wpAnyH_take (i := 17) (v := .string A6) rfl (by kernel_rfl) (by kernel_rfl) (by kernel_rfl) (fun _ _ _ h => h) (Or.inl ⟨by kernel_rfl, fun w9 h9 => ?_⟩) HS3.out ?_
    · rw [← hA6.out]; have ha := fun w => run_string_add_sum (P := Tryd.prog) w A5 ⟨#[32, 122, 111, 110, 101, 61]⟩ (by omega); go_simp
    refine held_one 20 (by kernel_rfl) rfl (by kernel_rfl) fun K hK => ?_
    go_simp
    go_wp2_with (go_at_call 23; refine Calls.mono (HD3.out _) ?_; rintro e u4 ⟨rfl, hb⟩; have HS4 : Hid (LG w u4 b0 #[.string N0, .int .i64 v.tenant, .int .i64 v.cpu, .int .i64 v.mem, .int .i64 v.zone, .int .i64 v.apart, .string v.node, .int .i64 v.epoch] 23) := (HS3.out).step hb; clear hb)
    refine hK _ _ HS4.out ?_
    clear hK K
    refine wpAnyH_take (i := 21) (v := .string A7) rfl (by kernel_rfl) (by kernel_rfl) (by kernel_rfl) (fun _ _ _ h => h) (Or.inl ⟨by kernel_rfl, fun w9 h9 => ?_⟩) HS4.out ?_
    · rw [← hA7.out]; have ha := fun w => run_string_add_sum (P := Tryd.prog) w A6 D3 (by omega); go_simp
    refine wpAnyH_take (i := 22) (v := .string A8) rfl (by kernel_rfl) (by kernel_rfl) (by kernel_rfl) (fun _ _ _ h => h) (Or.inl ⟨by kernel_rfl, fun w9 h9 => ?_⟩) HS4.out ?_
    · rw [← hA8.out]; have ha := fun w => run_string_add_sum (P := Tryd.prog) w A7 ⟨#[32, 97, 112, 97, 114, 116, 61]⟩ (by omega); go_simp
    refine held_one 25 (by kernel_rfl) rfl (by kernel_rfl) fun K hK => ?_
    go_simp
    go_wp2_with (go_at_call 23; refine Calls.mono (HD4.out _) ?_; rintro e u5 ⟨rfl, hb⟩; have HS5 : Hid (LG w u5 b0 #[.string N0, .int .i64 v.tenant, .int .i64 v.cpu, .int .i64 v.mem, .int .i64 v.zone, .int .i64 v.apart, .string v.node, .int .i64 v.epoch] 23) := (HS4.out).step hb; clear hb)
    refine hK _ _ HS5.out ?_
    clear hK K
    refine wpAnyH_take (i := 26) (v := .string A9) rfl (by kernel_rfl) (by kernel_rfl) (by kernel_rfl) (fun _ _ _ h => h) (Or.inl ⟨by kernel_rfl, fun w9 h9 => ?_⟩) HS5.out ?_
    · rw [← hA9.out]; have ha := fun w => run_string_add_sum (P := Tryd.prog) w A8 D4 (by omega); go_simp
    refine wpAnyH_take (i := 27) (v := .string A9) rfl (by kernel_rfl) (by kernel_rfl) (by kernel_rfl) (fun _ _ _ h => h) (Or.inl ⟨by kernel_rfl, fun w9 h9 => ?_⟩) HS5.out ?_
    · go_simp
    refine wpAnyH_done (by kernel_rfl) ?_ _
    go_simp
    go_wp2
    go_ret
    exact ⟨ret_str E.out.symm, hb0 ▸ HS5.out.bel⟩
end Go.Proofs.YtkicaihfknfgkaaDoor
