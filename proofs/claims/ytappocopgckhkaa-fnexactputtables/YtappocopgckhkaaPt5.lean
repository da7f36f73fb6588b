import Derived.Test.YtappocopgckhkaaPt4
namespace Go.Proofs.Ytappocopgckhkaa
open Go.ChangeShapes Go.WideShapes Go.ChangeAt Go.RowKit

theorem slT (s : ByteArray) (k : Nat) (h : k ≤ s.size) (w : World) : Sem.run Try.prog (Instr.slice 9 (.string s) none (some (.int .i64 (k : Int))) none) w = .ok (.string (s.extract 0 k)) w := by
  rw [run_slice_string_to_if _ _ _ _ _ Try.underlying9, if_pos (by omega)]
  rfl
theorem slF (s : ByteArray) (k : Nat) (h : k ≤ s.size) (w : World) : Sem.run Try.prog (Instr.slice 9 (.string s) (some (.int .i64 (k : Int))) none none) w = .ok (.string (s.extract k s.size)) w := by
  rw [run_slice_string_from_if _ _ _ _ _ Try.underlying9, if_pos (by omega)]
  rfl
/-- The tables put. -/
def ptB (m : ByteArray) (p : Int) (ts : List FT) : Bool := memOk m && decide (ts.length ≤ 10) && ts.all ftOk && tbB m.size p ((fmT p ts).size : Int)
def ptT (m : ByteArray) (p : Int) (ts : List FT) : ByteArray := m.extract 0 p.toNat ++ fmT p ts ++ m.extract (p.toNat + (fmT p ts).size) m.size
def ptV (m : ByteArray) (p : Int) (ts : List FT) : ByteArray := if ptB m p ts = true then ptT m p ts else ⟨#[]⟩
theorem any_nt (zs : List FT) : (zs.any fun x => !ftOk x) = !zs.all ftOk := by simp [List.all_eq_not_any_not]
theorem fmT_size {p : Int} {ts : List FT} (hok : ∀ t ∈ ts, ftOk t = true) : (fmT p ts).size = 12 + 4 * ts.length + fsz ts ts.length := by rw [fmT, ba_sz, fmH_size, fmB_size hok]
set_option maxRecDepth 100000 in
set_option maxHeartbeats 4000000 in
theorem implPT_any {w : World} {ao : Option Addr} {cap : Nat} {ts : List FT} (h : FTrow w (.slice ao ts.length cap) ts) (hl : ts.length ≤ 1048576) (m : ByteArray) (p : Int) (hm : m.size ≤ 1048576) : Calls Try.prog 13 #[.string m, .int .i64 p, .slice ao ts.length cap] w fun e w' => e = .returned (.string (ptV m p ts)) ∧ Below w.heap.size w w' := by
  have HR : Hid (FTrow w (.slice ao ts.length cap) ts) := h
  have HM : Hid (∀ u, Calls Try.prog 40 #[.string m] u fun e w' => e = .returned (.int .i64 (memC m)) ∧ w' = u) := fun u => implMemFault_any m u (by omega)
  have HC : Hid (Calls Try.prog 41 #[.slice ao ts.length cap, .func (.func 38) #[] #[]] w fun r w' => r = .returned (.bool (!ts.all ftOk)) ∧ Below w.heap.size w w') := (by have h9 := containsFT_any HR.out hl _ #[] (fun x => !ftOk x) cfFT (fun x w' _ => ftFn_any x w'); rw [any_nt] at h9; exact h9)
  have E : Hid (ptV m p ts = if (memOk m && decide (ts.length ≤ 10) && ts.all ftOk && tbB m.size p ((fmT p ts).size : Int)) = true then ptT m p ts else ⟨#[]⟩) := rfl
  clear h
  cases q0 : memOk m
  · have e1 : memC m = 1 := by unfold memC; rw [q0]; rfl
    rw [e1] at HM
    have E2 : Hid (ptV m p ts = ⟨#[]⟩) := (show ptV m p ts = _ by rw [E.out]; exact if_neg (by rw [q0]; simp))
    generalize ptV m p ts = V at *
    clear E
    go_enter Try.func13, Try.ntmps13
    go_wp2_with (go_at_call 40; refine Calls.mono (HM.out _) ?_; rintro e u1 ⟨rfl, hw1⟩; rw [hw1]; clear hw1)
    go_ret
    exact ⟨by rw [E2.out]; rfl, Below.refl _ _⟩
  have e1 : memC m = 0 := by unfold memC; rw [q0]; rfl
  rw [e1] at HM
  cases q1 : decide (10 < (ts.length : Int))
  rotate_left
  · have hq := of_decide_eq_true q1
    have E2 : Hid (ptV m p ts = ⟨#[]⟩) := (show ptV m p ts = _ by rw [E.out]; exact if_neg (by simp; intros; omega))
    generalize ptV m p ts = V at *
    clear E
    go_enter Try.func13, Try.ntmps13
    go_wp2_with (go_at_call 40; refine Calls.mono (HM.out _) ?_; rintro e u1 ⟨rfl, hw1⟩; rw [hw1]; clear hw1)
    go_ret
    exact ⟨by rw [E2.out]; rfl, Below.refl _ _⟩
  have hl10 : ts.length ≤ 10 := by have := of_decide_eq_false q1; omega
  cases q2 : ts.all ftOk
  · rw [q2] at HC
    have E2 : Hid (ptV m p ts = ⟨#[]⟩) := (show ptV m p ts = _ by rw [E.out]; exact if_neg (by rw [q2]; simp))
    generalize ptV m p ts = V at *
    clear E
    go_enter Try.func13, Try.ntmps13
    go_wp2_with (first | (go_at_call 40; refine Calls.mono (HM.out _) ?_; rintro e u1 ⟨rfl, hw1⟩; rw [hw1]; clear hw1) | (go_at_call 41; refine Calls.mono HC.out ?_; rintro e u2 ⟨rfl, hb2⟩; have HB2 : Hid (Below w.heap.size w u2) := hb2; clear hb2))
    go_ret
    exact ⟨by rw [E2.out]; rfl, HB2.out⟩
  rw [q2] at HC
  have hok : ∀ t ∈ ts, ftOk t = true := fun t ht => List.all_eq_true.1 q2 t ht
  have hsz := fmT_size (p := p) hok
  have hfz := fsz_b hok ts.length (Nat.le_refl _)
  have HFT : Hid (∀ u, Below w.heap.size w u → Calls Try.prog 42 #[.int .i64 p, .slice ao ts.length cap] u fun e w' => e = .returned (.string (fmT p ts)) ∧ Below u.heap.size u w') := fun u hu => firmText_any (HR.out.below hu) p hl10 hok
  have HHT : Hid (∀ u, Calls Try.prog 43 #[.string m, .int .i64 p, .int .i64 ((fmT p ts).size : Int)] u fun e w' => e = .returned (.bool (tbB m.size p ((fmT p ts).size : Int))) ∧ w' = u) := fun u => holdsTable_any m p _ u hm ⟨by omega, by omega⟩
  have hfs : (fmT p ts).size ≤ 3000 := by omega
  have ET : Hid (ptT m p ts = m.extract 0 p.toNat ++ fmT p ts ++ m.extract (p.toNat + (fmT p ts).size) m.size) := rfl
  have HTB : Hid (tbB m.size p ((fmT p ts).size : Int) = (decide (p % 4 = 0) && inW m.size p ((fmT p ts).size : Int))) := rfl
  generalize fmT p ts = F at *
  clear hsz hfz hok HR
  cases q3 : tbB m.size p (F.size : Int)
  · rw [q3] at HHT
    have E2 : Hid (ptV m p ts = ⟨#[]⟩) := (show ptV m p ts = _ by rw [E.out]; exact if_neg (by rw [q3]; simp))
    generalize ptV m p ts = V at *
    clear E
    go_enter Try.func13, Try.ntmps13
    go_wp2_with (first | (go_at_call 40; refine Calls.mono (HM.out _) ?_; rintro e u1 ⟨rfl, hw1⟩; rw [hw1]; clear hw1) | (go_at_call 41; refine Calls.mono HC.out ?_; rintro e u2 ⟨rfl, hb2⟩; have HB2 : Hid (Below w.heap.size w u2) := hb2; clear hb2) | (go_at_call 42; refine Calls.mono (HFT.out _ HB2.out) ?_; rintro e u3 ⟨rfl, hb3⟩; have HB3 : Hid (Below w.heap.size w u3) := HB2.out.trans (hb3.mono HB2.out.size); clear hb3) | (go_at_call 43; refine Calls.mono (HHT.out _) ?_; rintro e u4 ⟨rfl, hw4⟩; rw [hw4]; clear hw4))
    go_ret
    exact ⟨by rw [E2.out]; rfl, HB3.out⟩
  have hin : 0 ≤ p ∧ p + (F.size : Int) ≤ (m.size : Int) := by
    have h9 := HTB.out
    rw [q3] at h9
    have h10 := (Bool.and_eq_true _ _).mp h9.symm
    have h11 := inW_iff.1 h10.2
    omega
  rw [q3] at HHT
  have E2 : Hid (ptV m p ts = m.extract 0 p.toNat ++ F ++ m.extract (p.toNat + F.size) m.size) := (show _ = _ by rw [E.out, ← ET.out]; exact if_pos (by rw [q0, q2, q3]; simp; omega))
  obtain ⟨k, hk⟩ : ∃ k : Nat, p = (k : Int) := ⟨p.toNat, by omega⟩
  subst hk
  rw [Int.toNat_natCast] at E2
  have s1 := fun u => slT m k (by omega) u
  have s2 : ∀ u, Sem.run Try.prog (Instr.slice 9 (.string m) (some (.int .i64 ((k : Int) + (F.size : Int)))) none none) u = .ok (.string (m.extract (k + F.size) m.size)) u := (fun u => by have h9 := slF m (k + F.size) (by omega) u; rw [show ((k + F.size : Nat) : Int) = (k : Int) + (F.size : Int) by omega] at h9; exact h9)
  have z1 : (m.extract 0 k).size ≤ m.size := by rw [ByteArray.size_extract]; omega
  have z2 : (m.extract (k + F.size) m.size).size ≤ m.size := by rw [ByteArray.size_extract]; omega
  have HJ : Hid (∀ u : World, Calls Try.prog 28 #[.slice (some ⟨u.heap.size, 0, none⟩) 3 3] (u.alloc (.cells #[.string (m.extract 0 k), .string F, .string (m.extract (k + F.size) m.size)] 9)) fun e w' => e = .returned (.string (m.extract 0 k ++ F ++ m.extract (k + F.size) m.size)) ∧ Below u.heap.size u w') := fun u => join3B u _ _ _ (by omega)
  have hkb : (k : Int) ≤ 1048576 := by omega
  have hkf : (k : Int) + (F.size : Int) ≤ 1100000 := by omega
  have hwr : IntKind.i64.wrap ((k : Int) + (F.size : Int)) = (k : Int) + (F.size : Int) := by rw [IntKind.wrap_i64]; omega
  clear E ET HTB z1 z2 q0 hin
  generalize ptV m (k : Int) ts = V at *
  go_enter Try.func13, Try.ntmps13
  go_wp2_with fail
  refine Calls.mono (HM.out _) ?_
  rintro e u1 ⟨rfl, hw1⟩
  rw [hw1]
  clear hw1
  go_wp2_with fail
  refine Calls.mono HC.out ?_
  rintro e u2 ⟨rfl, hb⟩
  have HB2 : Hid (Below w.heap.size w u2) := hb
  clear hb
  go_wp2_with fail
  refine Calls.mono (HFT.out _ HB2.out) ?_
  rintro e u3 ⟨rfl, hb⟩
  have HB3 : Hid (Below w.heap.size w u3) := HB2.out.trans (hb.mono HB2.out.size)
  clear hb HB2
  go_wp2_with fail
  refine Calls.mono (HHT.out _) ?_
  rintro e u4 ⟨rfl, hw4⟩
  rw [hw4]
  clear hw4
  go_upto_region 8 with fail
  have HZ0 : Hid (Below w.heap.size w u3.drew) := bdn HB3.out 1
  clear HB3
  refine wp_region_held (S := fun w9 => Below w.heap.size w w9) (by kernel_rfl) ?_
  change wpAnyH _ _ _ _ _ _ _ _ (World.drew _)
  generalize u3.drew = x0 at *
  refine wpAnyH_take (i := 0) (v := .string m) rfl (by kernel_rfl) (by kernel_rfl) (by kernel_rfl) (fun _ _ _ h => h) (Or.inl ⟨by kernel_rfl, fun w9 h9 => ?_⟩) HZ0.out ?_
  · go_simp
  refine wpAnyH_take (i := 1) (v := .int .i64 (k : Int)) rfl (by kernel_rfl) (by kernel_rfl) (by kernel_rfl) (fun _ _ _ h => h) (Or.inl ⟨by kernel_rfl, fun w9 h9 => ?_⟩) HZ0.out ?_
  · go_simp
  refine wpAnyH_take (i := 2) (v := .string (m.extract 0 k)) rfl (by kernel_rfl) (by kernel_rfl) (by kernel_rfl) (fun _ _ _ h => h) (Or.inl ⟨by kernel_rfl, fun w9 h9 => ?_⟩) HZ0.out ?_
  · go_simp
  refine wpAnyH_take (i := 3) (v := .string F) rfl (by kernel_rfl) (by kernel_rfl) (by kernel_rfl) (fun _ _ _ h => h) (Or.inl ⟨by kernel_rfl, fun w9 h9 => ?_⟩) HZ0.out ?_
  · go_simp
  refine wpAnyH_take (i := 4) (v := .string m) rfl (by kernel_rfl) (by kernel_rfl) (by kernel_rfl) (fun _ _ _ h => h) (Or.inl ⟨by kernel_rfl, fun w9 h9 => ?_⟩) HZ0.out ?_
  · go_simp
  refine wpAnyH_take (i := 5) (v := .int .i64 (k : Int)) rfl (by kernel_rfl) (by kernel_rfl) (by kernel_rfl) (fun _ _ _ h => h) (Or.inl ⟨by kernel_rfl, fun w9 h9 => ?_⟩) HZ0.out ?_
  · go_simp
  refine wpAnyH_take (i := 6) (v := .int .i64 (F.size : Int)) rfl (by kernel_rfl) (by kernel_rfl) (by kernel_rfl) (fun _ _ _ h => h) (Or.inl ⟨by kernel_rfl, fun w9 h9 => ?_⟩) HZ0.out ?_
  · go_simp
  refine wpAnyH_take (i := 7) (v := .int .i64 ((k : Int) + (F.size : Int))) rfl (by kernel_rfl) (by kernel_rfl) (by kernel_rfl) (fun _ _ _ h => h) (Or.inl ⟨by kernel_rfl, fun w9 h9 => ?_⟩) HZ0.out ?_
  · go_simp
  refine wpAnyH_take (i := 8) (v := .string (m.extract (k + F.size) m.size)) rfl (by kernel_rfl) (by kernel_rfl) (by kernel_rfl) (fun _ _ _ h => h) (Or.inl ⟨by kernel_rfl, fun w9 h9 => ?_⟩) HZ0.out ?_
  · go_simp
  have HZ1 : Hid (Below w.heap.size w (x0.alloc (.cells #[.string (m.extract 0 k), .string F, .string (m.extract (k + F.size) m.size)] 9))) := HZ0.out.trans ((LG.new x0 _ _).bel.mono HZ0.out.size)
  refine held_one 9 (by kernel_rfl) rfl (by kernel_rfl) fun K hK => ?_
  go_simp
  refine hK _ _ HZ1.out ?_
  clear hK K
  refine held_one 10 (by kernel_rfl) rfl (by kernel_rfl) fun K hK => ?_
  go_simp
  go_wp2_with (go_at_call 28; refine Calls.mono (HJ.out x0) ?_; rintro e x1 ⟨rfl, hb⟩; have HZ2 : Hid (Below w.heap.size w x1) := HZ0.out.trans (hb.mono HZ0.out.size); clear hb HZ0 HZ1)
  refine hK _ _ HZ2.out ?_
  clear hK K
  refine wpAnyH_take (i := 11) (v := .string (m.extract 0 k ++ F ++ m.extract (k + F.size) m.size)) rfl (by kernel_rfl) (by kernel_rfl) (by kernel_rfl) (fun _ _ _ h => h) (Or.inl ⟨by kernel_rfl, fun w9 h9 => ?_⟩) HZ2.out ?_
  · go_simp
  refine wpAnyH_done (by kernel_rfl) ?_ _
  go_simp
  go_wp2
  go_ret
  exact ⟨by rw [E2.out]; rfl, HZ2.out⟩
end Go.Proofs.Ytappocopgckhkaa
