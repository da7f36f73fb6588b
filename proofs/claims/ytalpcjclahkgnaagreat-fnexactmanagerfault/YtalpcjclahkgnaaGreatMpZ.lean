import Derived.Test.YtalpcjclahkgnaaGreatMg1
import Derived.Test.YtalpcjclahkgnaaGreatMp1
import Derived.Test.YtalpcjclahkgnaaGreatIdxANS
import Derived.Test.YtalpcjclahkgnaaGreatIdxS
namespace Go.Proofs.YtalpcjclahkgnaaGreat
open Go.ChangeShapes Go.WideShapes Go.ChangeAt Go.RowKit

def asB (z : ANS) : Bool := decide (1 ≤ z.id) && decide (z.id ≤ 999999999) && decide (z.ask.size ≤ 400) && decide (z.reply.size ≤ 400)
def jbN (j : JB) (k : Nat) : Bool := nmB (j.ls.getD k ⟨#[]⟩)
def jbB (j : JB) : Bool := decide (j.ls.length ≤ 30) && allD (jbN j) j.ls.length && nmB j.node && decide (0 ≤ j.done) && decide (j.done ≤ 1099511627776) && decide (0 ≤ j.state) && decide (j.state ≤ 3)
theorem any_all (zs : List ByteArray) : (zs.any fun s => !nmB s) = !allD (fun k => nmB (zs.getD k ⟨#[]⟩)) zs.length := by
  cases h : allD (fun k => nmB (zs.getD k ⟨#[]⟩)) zs.length
  · rw [Bool.not_false, List.any_eq_true]
    unfold allD at h
    rw [List.all_eq_false] at h
    obtain ⟨k, hk, h2⟩ := h
    have hk2 := List.mem_range.1 hk
    refine ⟨zs[k], List.getElem_mem hk2, ?_⟩
    simp only [List.getD, List.getElem?_eq_getElem hk2, Option.getD_some] at h2
    simpa using h2
  · rw [Bool.not_true, List.any_eq_false]
    unfold allD at h
    rw [List.all_eq_true] at h
    intro x hx
    obtain ⟨k, hk, rfl⟩ := List.getElem_of_mem hx
    have h2 := h k (List.mem_range.2 hk)
    simp only [List.getD, List.getElem?_eq_getElem hk, Option.getD_some] at h2
    simp [h2]
set_option maxRecDepth 100000 in
set_option maxHeartbeats 8000000 in
theorem asRight_any (z : ANS) (h1 : z.ask.size ≤ 1048576) (h2 : z.reply.size ≤ 1048576) (w : World) : Calls Tryz.prog 53 #[.agg #[.int .i64 z.id, .string z.ask, .string z.reply]] w fun e w' => e = .returned (.bool (asB z)) ∧ Below w.heap.size w w' := by
  have HL0 : Hid (LG w (w.alloc (.cells #[.int .i64 z.id, .string z.ask, .string z.reply] 50)) w.heap.size #[.int .i64 z.id, .string z.ask, .string z.reply] 50) := LG.new w _ _
  have E : Hid (asB z = (decide (1 ≤ z.id) && decide (z.id ≤ 999999999) && decide (z.ask.size ≤ 400) && decide (z.reply.size ≤ 400))) := rfl
  have a0 : (0 : Int) ≤ (z.ask.size : Int) := by omega
  have a1 : (z.ask.size : Int) ≤ 1048576 := by omega
  have b0 : (0 : Int) ≤ (z.reply.size : Int) := by omega
  have b1 : (z.reply.size : Int) ≤ 1048576 := by omega
  generalize asB z = V at *
  cases q1 : decide (1 ≤ z.id)
  · have r := of_decide_eq_false q1
    have E2 : Hid (V = false) := (show V = false by rw [E.out, show decide (1 ≤ z.id) = false from decide_eq_false (by omega)]; simp)
    clear r
    clear E
    go_enter Tryz.func53, Tryz.ntmps53
    go_upto_region 1 with fail
    generalize (w.alloc (.cells #[.int .i64 z.id, .string z.ask, .string z.reply] 50)) = u0 at *
    generalize w.heap.size = bb at HL0 ⊢
    have k0 := HL0.out.cel 0 _ rfl
    have k1 := HL0.out.cel 1 _ rfl
    have k2 := HL0.out.cel 2 _ rfl
    have kl := HL0.out.lt
    go_wp2
    go_ret
    exact ⟨ret_bool E2.out.symm, HL0.out.bel⟩
  have r0 := of_decide_eq_true q1
  cases q2 : decide (z.id ≤ 999999999)
  · have r := of_decide_eq_false q2
    have E2 : Hid (V = false) := (show V = false by rw [E.out, show decide (z.id ≤ 999999999) = false from decide_eq_false (by omega)]; simp)
    clear r
    clear E
    go_enter Tryz.func53, Tryz.ntmps53
    go_upto_region 1 with fail
    generalize (w.alloc (.cells #[.int .i64 z.id, .string z.ask, .string z.reply] 50)) = u0 at *
    generalize w.heap.size = bb at HL0 ⊢
    have k0 := HL0.out.cel 0 _ rfl
    have k1 := HL0.out.cel 1 _ rfl
    have k2 := HL0.out.cel 2 _ rfl
    have kl := HL0.out.lt
    go_wp2
    go_ret
    exact ⟨ret_bool E2.out.symm, HL0.out.bel⟩
  have r1 := of_decide_eq_true q2
  cases q3 : decide ((z.ask.size : Int) ≤ 400)
  · have r := of_decide_eq_false q3
    have E2 : Hid (V = false) := (show V = false by rw [E.out, show decide (z.ask.size ≤ 400) = false from decide_eq_false (by omega)]; simp)
    clear r
    clear E
    go_enter Tryz.func53, Tryz.ntmps53
    go_upto_region 1 with fail
    generalize (w.alloc (.cells #[.int .i64 z.id, .string z.ask, .string z.reply] 50)) = u0 at *
    generalize w.heap.size = bb at HL0 ⊢
    have k0 := HL0.out.cel 0 _ rfl
    have k1 := HL0.out.cel 1 _ rfl
    have k2 := HL0.out.cel 2 _ rfl
    have kl := HL0.out.lt
    go_wp2
    go_ret
    exact ⟨ret_bool E2.out.symm, HL0.out.bel⟩
  have r2 := of_decide_eq_true q3
  cases q4 : decide ((z.reply.size : Int) ≤ 400)
  · have r := of_decide_eq_false q4
    have E2 : Hid (V = false) := (show V = false by rw [E.out, show decide (z.reply.size ≤ 400) = false from decide_eq_false (by omega)]; simp)
    clear r
    clear E
    go_enter Tryz.func53, Tryz.ntmps53
    go_upto_region 1 with fail
    generalize (w.alloc (.cells #[.int .i64 z.id, .string z.ask, .string z.reply] 50)) = u0 at *
    generalize w.heap.size = bb at HL0 ⊢
    have k0 := HL0.out.cel 0 _ rfl
    have k1 := HL0.out.cel 1 _ rfl
    have k2 := HL0.out.cel 2 _ rfl
    have kl := HL0.out.lt
    go_wp2
    go_ret
    exact ⟨ret_bool E2.out.symm, HL0.out.bel⟩
  have r3 := of_decide_eq_true q4
  have E2 : Hid (V = true) := (show V = true by rw [E.out, decide_eq_true r0, decide_eq_true r1, show decide (z.ask.size ≤ 400) = true from decide_eq_true (by omega), show decide (z.reply.size ≤ 400) = true from decide_eq_true (by omega)]; rfl)
  clear r0 r1 r2 r3
  clear E
  go_enter Tryz.func53, Tryz.ntmps53
  go_upto_region 1 with fail
  generalize (w.alloc (.cells #[.int .i64 z.id, .string z.ask, .string z.reply] 50)) = u0 at *
  generalize w.heap.size = bb at HL0 ⊢
  have k0 := HL0.out.cel 0 _ rfl
  have k1 := HL0.out.cel 1 _ rfl
  have k2 := HL0.out.cel 2 _ rfl
  have kl := HL0.out.lt
  go_wp2
  go_ret
  exact ⟨ret_bool E2.out.symm, HL0.out.bel⟩
set_option maxRecDepth 100000 in
set_option maxHeartbeats 8000000 in
theorem answerAtF_any {w0 u : World} {b : Nat} {d : Int} (h : LG w0 u b #[.int .i64 d] 2) (z : ANS) : Calls Tryz.prog 71 #[.agg #[.int .i64 z.id, .string z.ask, .string z.reply], .pointer (some ⟨b, 0, none⟩)] u fun e w' => e = .returned (.bool (z.id == d)) ∧ Below u.heap.size u w' := by
  have HL0 : Hid (LG u (u.alloc (.cells #[.int .i64 z.id, .string z.ask, .string z.reply] 50)) u.heap.size #[.int .i64 z.id, .string z.ask, .string z.reply] 50) := LG.new u _ _
  have HX : Hid (LG w0 (u.alloc (.cells #[.int .i64 z.id, .string z.ask, .string z.reply] 50)) b #[.int .i64 d] 2) := h.step (bx1 _ _)
  clear h
  go_enter Tryz.func71, Tryz.ntmps71
  go_upto_region 1 with fail
  generalize (u.alloc (.cells #[.int .i64 z.id, .string z.ask, .string z.reply] 50)) = u0 at *
  generalize u.heap.size = bb at HL0 ⊢
  have k0 := HL0.out.cel 0 _ rfl
  have kl := HL0.out.lt
  have x0 := HX.out.cel 0 _ rfl
  have xl := HX.out.lt
  go_wp2
  go_ret
  exact ⟨rfl, HL0.out.bel⟩
set_option maxRecDepth 100000 in
set_option maxHeartbeats 8000000 in
theorem answerAt_any {w : World} {v : Value} {zs : List ANS} (h : ANSrow w v zs) (hl : zs.length ≤ 1048576) (d : Int) : Calls Tryz.prog 54 #[v, .int .i64 d] w fun e w' => e = .returned (.int .i64 (ixANS (fun y => y.id == d) zs)) ∧ Below w.heap.size w w' := by
  have HL0 : Hid (LG w (w.alloc (.cells #[.int .i64 d] 2)) w.heap.size #[.int .i64 d] 2) := LG.new w _ _
  have HI : Hid (Calls Tryz.prog 70 #[v, .func (.func 71) #[] #[.pointer (some ⟨w.heap.size, 0, none⟩)]] (w.alloc (.cells #[.int .i64 d] 2)) fun e w' => e = .returned (.int .i64 (ixANS (fun y => y.id == d) zs)) ∧ Below (w.alloc (.cells #[.int .i64 d] 2)).heap.size (w.alloc (.cells #[.int .i64 d] 2)) w') := indexANS_any (h.below (bx1 _ _)) hl _ _ _ (fun xs w' => by kernel_rfl) (fun x w' hw => answerAtF_any (HL0.out.step hw) x)
  clear h
  generalize ixANS (fun y => y.id == d) zs = X at *
  go_enter Tryz.func54, Tryz.ntmps54
  go_upto_region 1 with fail
  generalize (w.alloc (.cells #[.int .i64 d] 2)) = u0 at *
  generalize w.heap.size = bb at *
  go_wp2_with (go_at_call 70; refine Calls.mono HI.out ?_; rintro e u1 ⟨rfl, hb⟩; have HL1 : Hid (LG w u1 bb #[.int .i64 d] 2) := HL0.out.step hb; clear hb)
  go_ret
  exact ⟨rfl, HL1.out.bel⟩

set_option maxRecDepth 100000 in
set_option maxHeartbeats 16000000 in
theorem jbRightF_any (x : ByteArray) (w : World) : Calls Tryz.prog 73 #[.string x] w fun e w' => e = .returned (.bool (!nmB x)) ∧ Below w.heap.size w w' := by
  have HI := isImageName_any x
  go_enter Tryz.func73, Tryz.ntmps73
  go_wp2_with (go_at_call 74; refine Calls.mono (HI _) ?_; rintro e u1 ⟨rfl, rfl⟩)
  go_ret
  exact ⟨rfl, Below.refl _ _⟩
set_option maxRecDepth 100000 in
set_option maxHeartbeats 16000000 in
theorem jbRight_any (j : JB) {w : World} {v : Value} (h : Srow w v j.ls) (hl : j.ls.length ≤ 1048576) : Calls Tryz.prog 55 #[jbA j v] w fun e w' => e = .returned (.bool (jbB j)) ∧ Below w.heap.size w w' := by
  obtain ⟨al, kl, rfl⟩ := h.sl
  have HL0 : Hid (LG w (w.alloc (.cells #[.int .i64 j.number, .string j.node, .slice al j.ls.length kl, .int .i64 j.done, .int .i64 j.state] 53)) w.heap.size #[.int .i64 j.number, .string j.node, .slice al j.ls.length kl, .int .i64 j.done, .int .i64 j.state] 53) := LG.new w _ _
  have HR : Hid (Srow w (.slice al j.ls.length kl) j.ls) := h
  have E : Hid (jbB j = (decide (j.ls.length ≤ 30) && allD (jbN j) j.ls.length && nmB j.node && decide (0 ≤ j.done) && decide (j.done ≤ 1099511627776) && decide (0 ≤ j.state) && decide (j.state ≤ 3))) := rfl
  have a0 : (0 : Int) ≤ (j.ls.length : Int) := by omega
  have a1 : (j.ls.length : Int) ≤ 1048576 := by omega
  have HCF : Hid (∀ u, Below w.heap.size w u → Calls Tryz.prog 72 #[.slice al j.ls.length kl, .func (.func 73) #[] #[]] u fun e w' => e = .returned (.bool (!allD (jbN j) j.ls.length)) ∧ Below u.heap.size u w') := fun u hu => Calls.mono (containsByteArray_any (HR.out.below hu) hl _ _ (fun s => !nmB s) (fun xs w' => by kernel_rfl) (fun x w' _ => jbRightF_any x w')) (by rintro e w' ⟨rfl, hb⟩; exact ⟨ret_bool (any_all j.ls), hb⟩)
  have HNM : Hid (∀ u, Calls Tryz.prog 74 #[.string j.node] u fun e w' => e = .returned (.bool (nmB j.node)) ∧ w' = u) := fun u => isImageName_any _ u
  clear h hl HR
  generalize jbB j = V at *
  generalize allD (jbN j) j.ls.length = AL at *
  generalize nmB j.node = NM at *
  unfold jbA jbC
  cases q0 : decide ((j.ls.length : Int) ≤ 30)
  · have r := of_decide_eq_false q0
    have E2 : Hid (V = false) := (show V = false by rw [E.out, show decide (j.ls.length ≤ 30) = false from decide_eq_false (by omega)]; simp)
    have t0 : decide ((30 : Int) < (j.ls.length : Int)) = true := decide_eq_true (by omega)
    clear r q0
    clear E
    go_enter Tryz.func55, Tryz.ntmps55
    go_upto_region 1 with fail
    generalize (w.alloc (.cells #[.int .i64 j.number, .string j.node, .slice al j.ls.length kl, .int .i64 j.done, .int .i64 j.state] 53)) = u0 at *
    generalize hbb : w.heap.size = bb at HL0 ⊢
    have HB9 : Hid (w.heap.size = bb) := hbb
    clear hbb
    have k0 := HL0.out.cel 0 _ rfl
    have k1 := HL0.out.cel 1 _ rfl
    have k2 := HL0.out.cel 2 _ rfl
    have k3 := HL0.out.cel 3 _ rfl
    have k4 := HL0.out.cel 4 _ rfl
    have kl2 := HL0.out.lt
    go_wp2
    go_ret
    exact ⟨ret_bool E2.out.symm, HB9.out ▸ HL0.out.bel⟩
  have r0 := of_decide_eq_true q0
  have hd0 : decide (j.ls.length ≤ 30) = true := decide_eq_true (by omega)
  have t0 : decide ((30 : Int) < (j.ls.length : Int)) = false := decide_eq_false (by omega)
  rw [hd0] at E
  clear r0 hd0 q0
  cases AL
  · have E2 : Hid (V = false) := (show V = false by rw [E.out]; simp)
    clear E
    go_enter Tryz.func55, Tryz.ntmps55
    go_upto_region 1 with fail
    generalize (w.alloc (.cells #[.int .i64 j.number, .string j.node, .slice al j.ls.length kl, .int .i64 j.done, .int .i64 j.state] 53)) = u0 at *
    generalize hbb : w.heap.size = bb at HL0 ⊢
    have HB9 : Hid (w.heap.size = bb) := hbb
    clear hbb
    have k0 := HL0.out.cel 0 _ rfl
    have k1 := HL0.out.cel 1 _ rfl
    have k2 := HL0.out.cel 2 _ rfl
    have k3 := HL0.out.cel 3 _ rfl
    have k4 := HL0.out.cel 4 _ rfl
    have kl2 := HL0.out.lt
    go_wp2_with (go_at_call 72; refine Calls.mono (HCF.out _ HL0.out.bel) ?_; rintro e u1 ⟨rfl, hb⟩; have HL1 : Hid (LG w u1 bb #[.int .i64 j.number, .string j.node, .slice al j.ls.length kl, .int .i64 j.done, .int .i64 j.state] 53) := HL0.out.step hb; clear hb)
    go_ret
    exact ⟨ret_bool E2.out.symm, HB9.out ▸ HL1.out.bel⟩
  cases NM
  · have E2 : Hid (V = false) := (show V = false by rw [E.out]; simp)
    clear E
    go_enter Tryz.func55, Tryz.ntmps55
    go_upto_region 1 with fail
    generalize (w.alloc (.cells #[.int .i64 j.number, .string j.node, .slice al j.ls.length kl, .int .i64 j.done, .int .i64 j.state] 53)) = u0 at *
    generalize hbb : w.heap.size = bb at HL0 ⊢
    have HB9 : Hid (w.heap.size = bb) := hbb
    clear hbb
    have k0 := HL0.out.cel 0 _ rfl
    have k1 := HL0.out.cel 1 _ rfl
    have k2 := HL0.out.cel 2 _ rfl
    have k3 := HL0.out.cel 3 _ rfl
    have k4 := HL0.out.cel 4 _ rfl
    have kl2 := HL0.out.lt
    go_upto_region 3 with (go_at_call 72; refine Calls.mono (HCF.out _ HL0.out.bel) ?_; rintro e u1 ⟨rfl, hb⟩; have HL1 : Hid (LG w u1 bb #[.int .i64 j.number, .string j.node, .slice al j.ls.length kl, .int .i64 j.done, .int .i64 j.state] 53) := HL0.out.step hb; clear hb)
    clear k0 k1 k2 k3 k4 kl2 HL0
    have k0 := HL1.out.cel 0 _ rfl
    have k1 := HL1.out.cel 1 _ rfl
    have k2 := HL1.out.cel 2 _ rfl
    have k3 := HL1.out.cel 3 _ rfl
    have k4 := HL1.out.cel 4 _ rfl
    have kl2 := HL1.out.lt
    go_wp2_with (go_at_call 74; refine Calls.mono (HNM.out _) ?_; rintro e u2 ⟨rfl, rfl⟩)
    go_ret
    exact ⟨ret_bool E2.out.symm, HB9.out ▸ HL1.out.bel⟩
  cases q1 : decide (0 ≤ j.done)
  · have E2 : Hid (V = false) := (show V = false by rw [E.out, q1]; simp)
    clear E
    go_enter Tryz.func55, Tryz.ntmps55
    go_upto_region 1 with fail
    generalize (w.alloc (.cells #[.int .i64 j.number, .string j.node, .slice al j.ls.length kl, .int .i64 j.done, .int .i64 j.state] 53)) = u0 at *
    generalize hbb : w.heap.size = bb at HL0 ⊢
    have HB9 : Hid (w.heap.size = bb) := hbb
    clear hbb
    have k0 := HL0.out.cel 0 _ rfl
    have k1 := HL0.out.cel 1 _ rfl
    have k2 := HL0.out.cel 2 _ rfl
    have k3 := HL0.out.cel 3 _ rfl
    have k4 := HL0.out.cel 4 _ rfl
    have kl2 := HL0.out.lt
    go_upto_region 3 with (go_at_call 72; refine Calls.mono (HCF.out _ HL0.out.bel) ?_; rintro e u1 ⟨rfl, hb⟩; have HL1 : Hid (LG w u1 bb #[.int .i64 j.number, .string j.node, .slice al j.ls.length kl, .int .i64 j.done, .int .i64 j.state] 53) := HL0.out.step hb; clear hb)
    clear k0 k1 k2 k3 k4 kl2 HL0
    have k0 := HL1.out.cel 0 _ rfl
    have k1 := HL1.out.cel 1 _ rfl
    have k2 := HL1.out.cel 2 _ rfl
    have k3 := HL1.out.cel 3 _ rfl
    have k4 := HL1.out.cel 4 _ rfl
    have kl2 := HL1.out.lt
    go_wp2_with (go_at_call 74; refine Calls.mono (HNM.out _) ?_; rintro e u2 ⟨rfl, rfl⟩)
    go_ret
    exact ⟨ret_bool E2.out.symm, HB9.out ▸ HL1.out.bel⟩
  cases q2 : decide (j.done ≤ 1099511627776)
  · have E2 : Hid (V = false) := (show V = false by rw [E.out, q2]; simp)
    clear E
    go_enter Tryz.func55, Tryz.ntmps55
    go_upto_region 1 with fail
    generalize (w.alloc (.cells #[.int .i64 j.number, .string j.node, .slice al j.ls.length kl, .int .i64 j.done, .int .i64 j.state] 53)) = u0 at *
    generalize hbb : w.heap.size = bb at HL0 ⊢
    have HB9 : Hid (w.heap.size = bb) := hbb
    clear hbb
    have k0 := HL0.out.cel 0 _ rfl
    have k1 := HL0.out.cel 1 _ rfl
    have k2 := HL0.out.cel 2 _ rfl
    have k3 := HL0.out.cel 3 _ rfl
    have k4 := HL0.out.cel 4 _ rfl
    have kl2 := HL0.out.lt
    go_upto_region 3 with (go_at_call 72; refine Calls.mono (HCF.out _ HL0.out.bel) ?_; rintro e u1 ⟨rfl, hb⟩; have HL1 : Hid (LG w u1 bb #[.int .i64 j.number, .string j.node, .slice al j.ls.length kl, .int .i64 j.done, .int .i64 j.state] 53) := HL0.out.step hb; clear hb)
    clear k0 k1 k2 k3 k4 kl2 HL0
    have k0 := HL1.out.cel 0 _ rfl
    have k1 := HL1.out.cel 1 _ rfl
    have k2 := HL1.out.cel 2 _ rfl
    have k3 := HL1.out.cel 3 _ rfl
    have k4 := HL1.out.cel 4 _ rfl
    have kl2 := HL1.out.lt
    go_wp2_with (go_at_call 74; refine Calls.mono (HNM.out _) ?_; rintro e u2 ⟨rfl, rfl⟩)
    go_ret
    exact ⟨ret_bool E2.out.symm, HB9.out ▸ HL1.out.bel⟩
  cases q3 : decide (0 ≤ j.state)
  · have E2 : Hid (V = false) := (show V = false by rw [E.out, q3]; simp)
    clear E
    go_enter Tryz.func55, Tryz.ntmps55
    go_upto_region 1 with fail
    generalize (w.alloc (.cells #[.int .i64 j.number, .string j.node, .slice al j.ls.length kl, .int .i64 j.done, .int .i64 j.state] 53)) = u0 at *
    generalize hbb : w.heap.size = bb at HL0 ⊢
    have HB9 : Hid (w.heap.size = bb) := hbb
    clear hbb
    have k0 := HL0.out.cel 0 _ rfl
    have k1 := HL0.out.cel 1 _ rfl
    have k2 := HL0.out.cel 2 _ rfl
    have k3 := HL0.out.cel 3 _ rfl
    have k4 := HL0.out.cel 4 _ rfl
    have kl2 := HL0.out.lt
    go_upto_region 3 with (go_at_call 72; refine Calls.mono (HCF.out _ HL0.out.bel) ?_; rintro e u1 ⟨rfl, hb⟩; have HL1 : Hid (LG w u1 bb #[.int .i64 j.number, .string j.node, .slice al j.ls.length kl, .int .i64 j.done, .int .i64 j.state] 53) := HL0.out.step hb; clear hb)
    clear k0 k1 k2 k3 k4 kl2 HL0
    have k0 := HL1.out.cel 0 _ rfl
    have k1 := HL1.out.cel 1 _ rfl
    have k2 := HL1.out.cel 2 _ rfl
    have k3 := HL1.out.cel 3 _ rfl
    have k4 := HL1.out.cel 4 _ rfl
    have kl2 := HL1.out.lt
    go_wp2_with (go_at_call 74; refine Calls.mono (HNM.out _) ?_; rintro e u2 ⟨rfl, rfl⟩)
    go_ret
    exact ⟨ret_bool E2.out.symm, HB9.out ▸ HL1.out.bel⟩
  cases q4 : decide (j.state ≤ 3)
  · have E2 : Hid (V = false) := (show V = false by rw [E.out, q4]; simp)
    clear E
    go_enter Tryz.func55, Tryz.ntmps55
    go_upto_region 1 with fail
    generalize (w.alloc (.cells #[.int .i64 j.number, .string j.node, .slice al j.ls.length kl, .int .i64 j.done, .int .i64 j.state] 53)) = u0 at *
    generalize hbb : w.heap.size = bb at HL0 ⊢
    have HB9 : Hid (w.heap.size = bb) := hbb
    clear hbb
    have k0 := HL0.out.cel 0 _ rfl
    have k1 := HL0.out.cel 1 _ rfl
    have k2 := HL0.out.cel 2 _ rfl
    have k3 := HL0.out.cel 3 _ rfl
    have k4 := HL0.out.cel 4 _ rfl
    have kl2 := HL0.out.lt
    go_upto_region 3 with (go_at_call 72; refine Calls.mono (HCF.out _ HL0.out.bel) ?_; rintro e u1 ⟨rfl, hb⟩; have HL1 : Hid (LG w u1 bb #[.int .i64 j.number, .string j.node, .slice al j.ls.length kl, .int .i64 j.done, .int .i64 j.state] 53) := HL0.out.step hb; clear hb)
    clear k0 k1 k2 k3 k4 kl2 HL0
    have k0 := HL1.out.cel 0 _ rfl
    have k1 := HL1.out.cel 1 _ rfl
    have k2 := HL1.out.cel 2 _ rfl
    have k3 := HL1.out.cel 3 _ rfl
    have k4 := HL1.out.cel 4 _ rfl
    have kl2 := HL1.out.lt
    go_wp2_with (go_at_call 74; refine Calls.mono (HNM.out _) ?_; rintro e u2 ⟨rfl, rfl⟩)
    go_ret
    exact ⟨ret_bool E2.out.symm, HB9.out ▸ HL1.out.bel⟩
  have E2 : Hid (V = true) := (show V = true by rw [E.out, q1, q2, q3, q4]; rfl)
  clear E
  go_enter Tryz.func55, Tryz.ntmps55
  go_upto_region 1 with fail
  generalize (w.alloc (.cells #[.int .i64 j.number, .string j.node, .slice al j.ls.length kl, .int .i64 j.done, .int .i64 j.state] 53)) = u0 at *
  generalize hbb : w.heap.size = bb at HL0 ⊢
  have HB9 : Hid (w.heap.size = bb) := hbb
  clear hbb
  have k0 := HL0.out.cel 0 _ rfl
  have k1 := HL0.out.cel 1 _ rfl
  have k2 := HL0.out.cel 2 _ rfl
  have k3 := HL0.out.cel 3 _ rfl
  have k4 := HL0.out.cel 4 _ rfl
  have kl2 := HL0.out.lt
  go_upto_region 3 with (go_at_call 72; refine Calls.mono (HCF.out _ HL0.out.bel) ?_; rintro e u1 ⟨rfl, hb⟩; have HL1 : Hid (LG w u1 bb #[.int .i64 j.number, .string j.node, .slice al j.ls.length kl, .int .i64 j.done, .int .i64 j.state] 53) := HL0.out.step hb; clear hb)
  clear k0 k1 k2 k3 k4 kl2 HL0
  have k0 := HL1.out.cel 0 _ rfl
  have k1 := HL1.out.cel 1 _ rfl
  have k2 := HL1.out.cel 2 _ rfl
  have k3 := HL1.out.cel 3 _ rfl
  have k4 := HL1.out.cel 4 _ rfl
  have kl2 := HL1.out.lt
  go_wp2_with (go_at_call 74; refine Calls.mono (HNM.out _) ?_; rintro e u2 ⟨rfl, rfl⟩)
  go_ret
  exact ⟨ret_bool E2.out.symm, HB9.out ▸ HL1.out.bel⟩
set_option maxRecDepth 100000 in
set_option maxHeartbeats 16000000 in
theorem l23Job_any (j : JB) {w : World} {v : Value} (h : Srow w v j.ls) (hl : j.ls.length ≤ 1048576) : Calls Tryz.prog 13 #[jbA j v] w fun e w' => e = .returned (.bool (jbB j)) ∧ Below w.heap.size w w' := by
  obtain ⟨al, kl, rfl⟩ := h.sl
  have HL0 : Hid (LG w (w.alloc (.cells #[.int .i64 j.number, .string j.node, .slice al j.ls.length kl, .int .i64 j.done, .int .i64 j.state] 53)) w.heap.size #[.int .i64 j.number, .string j.node, .slice al j.ls.length kl, .int .i64 j.done, .int .i64 j.state] 53) := LG.new w _ _
  have HR : Hid (Srow w (.slice al j.ls.length kl) j.ls) := h
  have E : Hid (jbB j = (decide (j.ls.length ≤ 30) && allD (jbN j) j.ls.length && nmB j.node && decide (0 ≤ j.done) && decide (j.done ≤ 1099511627776) && decide (0 ≤ j.state) && decide (j.state ≤ 3))) := rfl
  have a0 : (0 : Int) ≤ (j.ls.length : Int) := by omega
  have a1 : (j.ls.length : Int) ≤ 1048576 := by omega
  have HNM : Hid (∀ u, Calls Tryz.prog 31 #[.string j.node] u fun e w' => e = .returned (.bool (nmB j.node)) ∧ w' = u) := fun u => l13Name_any _ u
  have HNX : Hid (∀ s u, Calls Tryz.prog 31 #[.string s] u fun e w' => e = .returned (.bool (nmB s)) ∧ w' = u) := fun s u => l13Name_any s u
  clear h hl
  generalize jbB j = V at *
  generalize nmB j.node = NM at *
  unfold jbA jbC
  cases NM
  · have E2 : Hid (V = false) := (show V = false by rw [E.out]; simp)
    clear E
    go_enter Tryz.func13, Tryz.ntmps13
    go_upto_region 1 with fail
    generalize (w.alloc (.cells #[.int .i64 j.number, .string j.node, .slice al j.ls.length kl, .int .i64 j.done, .int .i64 j.state] 53)) = u0 at *
    generalize hbb : w.heap.size = bb at HL0 ⊢
    have HB9 : Hid (w.heap.size = bb) := hbb
    clear hbb
    have k0 := HL0.out.cel 0 _ rfl
    have k1 := HL0.out.cel 1 _ rfl
    have k2 := HL0.out.cel 2 _ rfl
    have k3 := HL0.out.cel 3 _ rfl
    have k4 := HL0.out.cel 4 _ rfl
    have kl2 := HL0.out.lt
    go_wp2_with (go_at_call 31; refine Calls.mono (HNM.out _) ?_; rintro e u2 ⟨rfl, rfl⟩)
    go_ret
    exact ⟨ret_bool E2.out.symm, HB9.out ▸ HL0.out.bel⟩
  cases q0 : decide ((j.ls.length : Int) ≤ 30)
  · have r := of_decide_eq_false q0
    have E2 : Hid (V = false) := (show V = false by rw [E.out, show decide (j.ls.length ≤ 30) = false from decide_eq_false (by omega)]; simp)
    have t0 : decide ((30 : Int) < (j.ls.length : Int)) = true := decide_eq_true (by omega)
    clear r q0
    clear E
    go_enter Tryz.func13, Tryz.ntmps13
    go_upto_region 1 with fail
    generalize (w.alloc (.cells #[.int .i64 j.number, .string j.node, .slice al j.ls.length kl, .int .i64 j.done, .int .i64 j.state] 53)) = u0 at *
    generalize hbb : w.heap.size = bb at HL0 ⊢
    have HB9 : Hid (w.heap.size = bb) := hbb
    clear hbb
    have k0 := HL0.out.cel 0 _ rfl
    have k1 := HL0.out.cel 1 _ rfl
    have k2 := HL0.out.cel 2 _ rfl
    have k3 := HL0.out.cel 3 _ rfl
    have k4 := HL0.out.cel 4 _ rfl
    have kl2 := HL0.out.lt
    go_wp2_with (go_at_call 31; refine Calls.mono (HNM.out _) ?_; rintro e u2 ⟨rfl, rfl⟩)
    go_ret
    exact ⟨ret_bool E2.out.symm, HB9.out ▸ HL0.out.bel⟩
  have r0 := of_decide_eq_true q0
  have hd0 : decide (j.ls.length ≤ 30) = true := decide_eq_true (by omega)
  have t0 : decide ((30 : Int) < (j.ls.length : Int)) = false := decide_eq_false (by omega)
  rw [hd0] at E
  clear hd0 q0
  cases q1 : decide (0 ≤ j.done)
  · have E2 : Hid (V = false) := (show V = false by rw [E.out, q1]; simp)
    have t1 : decide (j.done < 0) = true := decide_eq_true (by have := of_decide_eq_false q1; omega)
    clear E
    go_enter Tryz.func13, Tryz.ntmps13
    go_upto_region 1 with fail
    generalize (w.alloc (.cells #[.int .i64 j.number, .string j.node, .slice al j.ls.length kl, .int .i64 j.done, .int .i64 j.state] 53)) = u0 at *
    generalize hbb : w.heap.size = bb at HL0 ⊢
    have HB9 : Hid (w.heap.size = bb) := hbb
    clear hbb
    have k0 := HL0.out.cel 0 _ rfl
    have k1 := HL0.out.cel 1 _ rfl
    have k2 := HL0.out.cel 2 _ rfl
    have k3 := HL0.out.cel 3 _ rfl
    have k4 := HL0.out.cel 4 _ rfl
    have kl2 := HL0.out.lt
    go_wp2_with (go_at_call 31; refine Calls.mono (HNM.out _) ?_; rintro e u2 ⟨rfl, rfl⟩)
    go_ret
    exact ⟨ret_bool E2.out.symm, HB9.out ▸ HL0.out.bel⟩
  have t1 : decide (j.done < 0) = false := decide_eq_false (by have := of_decide_eq_true q1; omega)
  cases q2 : decide (j.done ≤ 1099511627776)
  · have E2 : Hid (V = false) := (show V = false by rw [E.out, q2]; simp)
    have t2 : decide (1099511627776 < j.done) = true := decide_eq_true (by have := of_decide_eq_false q2; omega)
    clear E
    go_enter Tryz.func13, Tryz.ntmps13
    go_upto_region 1 with fail
    generalize (w.alloc (.cells #[.int .i64 j.number, .string j.node, .slice al j.ls.length kl, .int .i64 j.done, .int .i64 j.state] 53)) = u0 at *
    generalize hbb : w.heap.size = bb at HL0 ⊢
    have HB9 : Hid (w.heap.size = bb) := hbb
    clear hbb
    have k0 := HL0.out.cel 0 _ rfl
    have k1 := HL0.out.cel 1 _ rfl
    have k2 := HL0.out.cel 2 _ rfl
    have k3 := HL0.out.cel 3 _ rfl
    have k4 := HL0.out.cel 4 _ rfl
    have kl2 := HL0.out.lt
    go_wp2_with (go_at_call 31; refine Calls.mono (HNM.out _) ?_; rintro e u2 ⟨rfl, rfl⟩)
    go_ret
    exact ⟨ret_bool E2.out.symm, HB9.out ▸ HL0.out.bel⟩
  have t2 : decide (1099511627776 < j.done) = false := decide_eq_false (by have := of_decide_eq_true q2; omega)
  cases q3 : decide (0 ≤ j.state)
  · have E2 : Hid (V = false) := (show V = false by rw [E.out, q3]; simp)
    have t3 : decide (j.state < 0) = true := decide_eq_true (by have := of_decide_eq_false q3; omega)
    clear E
    go_enter Tryz.func13, Tryz.ntmps13
    go_upto_region 1 with fail
    generalize (w.alloc (.cells #[.int .i64 j.number, .string j.node, .slice al j.ls.length kl, .int .i64 j.done, .int .i64 j.state] 53)) = u0 at *
    generalize hbb : w.heap.size = bb at HL0 ⊢
    have HB9 : Hid (w.heap.size = bb) := hbb
    clear hbb
    have k0 := HL0.out.cel 0 _ rfl
    have k1 := HL0.out.cel 1 _ rfl
    have k2 := HL0.out.cel 2 _ rfl
    have k3 := HL0.out.cel 3 _ rfl
    have k4 := HL0.out.cel 4 _ rfl
    have kl2 := HL0.out.lt
    go_wp2_with (go_at_call 31; refine Calls.mono (HNM.out _) ?_; rintro e u2 ⟨rfl, rfl⟩)
    go_ret
    exact ⟨ret_bool E2.out.symm, HB9.out ▸ HL0.out.bel⟩
  have t3 : decide (j.state < 0) = false := decide_eq_false (by have := of_decide_eq_true q3; omega)
  cases q4 : decide (j.state ≤ 3)
  · have E2 : Hid (V = false) := (show V = false by rw [E.out, q4]; simp)
    have t4 : decide (3 < j.state) = true := decide_eq_true (by have := of_decide_eq_false q4; omega)
    clear E
    go_enter Tryz.func13, Tryz.ntmps13
    go_upto_region 1 with fail
    generalize (w.alloc (.cells #[.int .i64 j.number, .string j.node, .slice al j.ls.length kl, .int .i64 j.done, .int .i64 j.state] 53)) = u0 at *
    generalize hbb : w.heap.size = bb at HL0 ⊢
    have HB9 : Hid (w.heap.size = bb) := hbb
    clear hbb
    have k0 := HL0.out.cel 0 _ rfl
    have k1 := HL0.out.cel 1 _ rfl
    have k2 := HL0.out.cel 2 _ rfl
    have k3 := HL0.out.cel 3 _ rfl
    have k4 := HL0.out.cel 4 _ rfl
    have kl2 := HL0.out.lt
    go_wp2_with (go_at_call 31; refine Calls.mono (HNM.out _) ?_; rintro e u2 ⟨rfl, rfl⟩)
    go_ret
    exact ⟨ret_bool E2.out.symm, HB9.out ▸ HL0.out.bel⟩
  have t4 : decide (3 < j.state) = false := decide_eq_false (by have := of_decide_eq_true q4; omega)
  have E2 : Hid (V = allD (jbN j) j.ls.length) := (show V = _ by rw [E.out, q1, q2, q3, q4]; simp)
  clear E
  go_enter Tryz.func13, Tryz.ntmps13
  go_upto_region 1 with fail
  generalize (w.alloc (.cells #[.int .i64 j.number, .string j.node, .slice al j.ls.length kl, .int .i64 j.done, .int .i64 j.state] 53)) = u0 at *
  generalize hbb : w.heap.size = bb at HL0 ⊢
  have HB9 : Hid (w.heap.size = bb) := hbb
  clear hbb
  have k0 := HL0.out.cel 0 _ rfl
  have k1 := HL0.out.cel 1 _ rfl
  have k2 := HL0.out.cel 2 _ rfl
  have k3 := HL0.out.cel 3 _ rfl
  have k4 := HL0.out.cel 4 _ rfl
  have kl2 := HL0.out.lt
  go_upto_region 3 with (go_at_call 31; refine Calls.mono (HNM.out _) ?_; rintro e u2 ⟨rfl, rfl⟩)
  clear q1 q2 q3 q4 r0 t0 t1 t2 t3 t4 k0 k1 k2 k3 k4 kl2
  go_wp2
  go_loopw [3] (fun i wr => ∃ k : Nat, k ≤ j.ls.length ∧ i = .int .i64 k ∧ allD (jbN j) k = true ∧ LG w wr bb #[.int .i64 j.number, .string j.node, .slice al j.ls.length kl, .int .i64 j.done, .int .i64 j.state] 53) (fun i _ => j.ls.length - (intOf i).toNat)
  case atStart => exact ⟨0, Nat.zero_le _, rfl, rfl, HL0.out⟩
  case round =>
    obtain ⟨k, hk, rfl, hok, hlg⟩ := hrel
    have HOK : Hid (allD (jbN j) k = true) := hok
    have HLG : Hid (LG w wr bb #[.int .i64 j.number, .string j.node, .slice al j.ls.length kl, .int .i64 j.done, .int .i64 j.state] 53) := hlg
    clear hok hlg HL0
    have k2 := HLG.out.cel 2 _ rfl
    have kl2 := HLG.out.lt
    by_cases hlt : k < j.ls.length
    · obtain ⟨g, o, cap2, hv, _, hg, hc⟩ := HR.out.resolve_left (fun h => by rw [h.1] at hlt; simp at hlt)
      injection hv with hv1 hv2 hv3
      subst hv1 hv3
      have d0 := hc.below HLG.out.bel hg k hlt
      have hgw : g < wr.heap.size := Nat.lt_of_lt_of_le hg HLG.out.bel.size
      have HN : Hid (jbN j k = nmB j.ls[k]) := (show _ = _ by unfold jbN; rw [List.getD_eq_getElem?_getD, List.getElem?_eq_getElem hlt]; rfl)
      have HX : Hid (∀ u, Calls Tryz.prog 31 #[.string j.ls[k]] u fun e w' => e = .returned (.bool (nmB j.ls[k])) ∧ w' = u) := HNX.out _
      have hk0 : (0 : Int) ≤ (k : Int) := by omega
      have hk1 : (k : Int) < (j.ls.length : Int) := by omega
      clear hc hv2
      generalize j.ls[k] = x at *
      cases hq : nmB x
      · rw [hq] at HX HN
        have hbad : Hid (allD (jbN j) j.ls.length = false) := allD_badI hlt HN.out
        clear hq HN
        go_wp2_with (go_at_call 31; refine Calls.mono (HX.out _) ?_; rintro e u3 ⟨rfl, rfl⟩)
        go_ret
        exact ⟨ret_bool (E2.out.trans hbad.out).symm, HB9.out ▸ HLG.out.bel⟩
      · rw [hq] at HX HN
        have hok2 : Hid (allD (jbN j) (k + 1) = true) := (show _ = _ by rw [allD_succ, HOK.out, HN.out]; rfl)
        clear hq HN
        go_wp2_with (go_at_call 31; refine Calls.mono (HX.out _) ?_; rintro e u3 ⟨rfl, rfl⟩)
        go_roundw
        case rel => exact ⟨k + 1, hlt, by go_num, hok2.out, HLG.out⟩
        case measure => simp [intOf]; omega
    · obtain rfl : k = j.ls.length := by omega
      go_wp2
      go_ret
      exact ⟨ret_bool (E2.out.trans HOK.out).symm, HB9.out ▸ HLG.out.bel⟩
end Go.Proofs.YtalpcjclahkgnaaGreat
