import Derived.Test.YtmbdclbddbbdpaaKm0
import Derived.Stop.BytesEq
import Derived.Deep.DeepCutAuto
namespace Go.Proofs.Ytmbdclbddbbdpaa
open Go.ChangeShapes Go.WideShapes Go.ChangeAt Go.RowKit

theorem bdF (w : World) : (Instr.build 52 #[]).run Try.prog w = .ok (frA (zB 256)) w := run_build w 52 #[] (cells8 (zB 256).data.toList).toArray (by kernel_rfl)
theorem undF : Try.prog.underlying 52 = some (.array 256 5) := by kernel_rfl
theorem eq_fr (f g : ByteArray) (w : World) (hf : f.size = 256) (hg : g.size = 256) : (binOp .eql 52 (frA f) (frA g)).run Try.prog w = .ok (.bool (decide (f = g))) w := by
  have h := run_eql_bytes (P := Try.prog) w 52 5 256 undF Try.underlying5 u8size f.data.toList g.data.toList ((bsize f).trans hf) ((bsize g).trans hg)
  have e : (f.data.toList == g.data.toList) = decide (f = g) := by
    rw [Bool.eq_iff_iff, beq_iff_eq, decide_eq_true_eq]
    constructor
    · intro h2
      cases f
      cases g
      simpa using h2
    · intro h2
      rw [h2]
  rw [e] at h
  exact h
theorem fr_self (f : ByteArray) (hf : f.size = 256) : fr f 0 = f := by
  unfold fr
  rw [show 0 * 256 = 0 from rfl, Nat.zero_add, ← hf]
  exact ByteArray.extract_zero_size
set_option maxRecDepth 100000 in
set_option maxHeartbeats 4000000 in
theorem isZero_any (f : ByteArray) (w : World) (hf : f.size = 256) : Calls Try.prog 74 #[frA f] w fun e w' => e = .returned (.bool (decide (f = zB 256))) ∧ Below w.heap.size w w' := by
  have HM : Hid (MemAt (w.alloc (.cells (cells8 f.data.toList).toArray 52)) w.heap.size f) := (show MemAt _ _ _ from heap_new _ _)
  have HB : Hid (Below w.heap.size w (w.alloc (.cells (cells8 f.data.toList).toArray 52))) := bx1 _ _
  have hgt : Try.prog.eqGuardType Try.prog.depth 52 = false := by kernel_rfl
  have hzc : frA (zB 256) = .agg Try.zeroCells52 := by kernel_rfl
  have heq : ∀ w, (binOp .eql 52 (.agg (cells8 f.data.toList).toArray) (.agg Try.zeroCells52)).run Try.prog w = .ok (.bool (decide (f = zB 256))) w := by
    intro w
    rw [← hzc]
    exact eq_fr f (zB 256) w hf (zB_size 256)
  have HS : Hid (fr f 0 = f) := fr_self f hf
  have HF : Hid (0 * 256 + 256 ≤ f.size) := (show _ ≤ _ by omega)
  have HXF : Hid (frA f = .agg (cells8 f.data.toList).toArray) := (show _ = _ from rfl)
  clear hzc
  generalize zB 256 = z at *
  unfold frA
  generalize (cells8 f.data.toList).toArray = X at *
  go_enter Try.func74, Try.ntmps74
  go_upto_region 1 with fail
  generalize (w.alloc (.cells X 52)) = u0 at *
  go_wp2_with (refine wl_load rfl _ rfl w.heap.size 0 f rfl HM.out HF.out ?_; rw [HS.out, HXF.out])
  go_ret
  exact ⟨rfl, HB.out⟩
/-- A frame is not all bytes 0. -/
def nzB (s : ByteArray) (f : Nat) : Bool := !decide (fr s f = zB 256)
set_option maxRecDepth 100000 in
set_option maxHeartbeats 4000000 in
theorem packFn_any {w : World} {b B n : Nat} {s : ByteArray} (hM : MemAt w b s) (hn : s.size = n * 256) (hc : w.cell? ⟨B, 0, none⟩ = some (mv b n)) (k : Nat) (hk : k < n) : Calls Try.prog 73 #[.int .i64 k, .pointer (some ⟨B, 0, none⟩)] w fun e w' => e = .returned (.bool (nzB s k)) ∧ Below w.heap.size w w' := by
  have HM : Hid (MemAt w b s) := hM
  have hbl := hM.lt
  have HKM : Hid (k * 256 + 256 ≤ s.size) := (show _ ≤ _ by omega)
  have HZ : Hid (∀ u, Calls Try.prog 74 #[frA (fr s k)] u fun e w' => e = .returned (.bool (decide (fr s k = zB 256))) ∧ Below u.heap.size u w') := fun u => isZero_any (fr s k) u (fr_size s k (by omega))
  have HN : Hid (nzB s k = !decide (fr s k = zB 256)) := (show _ = _ from rfl)
  unfold mv at hc
  generalize decide (fr s k = zB 256) = d at *
  have hk0 : (0 : Int) ≤ (k : Int) := by omega
  have hk1 : (k : Int) < (n : Int) := by omega
  clear hM
  go_enter Try.func73, Try.ntmps73
  go_wp2_with (first | (refine wl_load rfl _ rfl b k s rfl HM.out HKM.out ?_) | (go_at_call 74; refine Calls.mono (HZ.out _) ?_; rintro e u1 ⟨rfl, hu⟩; have HU : Hid (Below w.heap.size w u1) := hu; clear hu))
  go_ret
  exact ⟨ret_bool HN.out.symm, HU.out⟩
theorem cfPk : ∀ (xs : Array Value) (w' : World), (callFunc 73 xs).run Try.prog w' = .ok (.enter 73 xs) w' := by
  intro xs w'
  kernel_rfl
set_option maxRecDepth 100000 in
set_option maxHeartbeats 4000000 in
theorem setOf_any {w : World} (n : Nat) (hn : n ≤ 256) (F : Nat) (caps : Array Value) (p : Nat → Bool) (hcf : ∀ (xs : Array Value) (w' : World), (callFunc F xs).run Try.prog w' = .ok (.enter F xs) w')
    (hf : ∀ (k : Nat) (w' : World), k < n → Below w.heap.size w w' → Calls Try.prog F (#[.int .i64 k] ++ caps) w' fun r w'' => r = .returned (.bool (p k)) ∧ Below w'.heap.size w' w'') :
    Calls Try.prog 24 #[.int .i64 n, .func (.func F) #[] caps] w fun e w' => e = .returned (.string (sB p ((n + 7) / 8) n)) ∧ Below w.heap.size w w' := by
  have HF : Hid (∀ (k : Nat) (w' : World), k < n → Below w.heap.size w w' → Calls Try.prog F (#[.int .i64 k] ++ caps) w' fun r w'' => r = .returned (.bool (p k)) ∧ Below w'.heap.size w' w'') := hf
  clear hf
  obtain ⟨z, hz⟩ : ∃ z, (n + 7) / 8 = z := ⟨_, rfl⟩
  have hz9 : n ≤ 8 * z := by omega
  have hz8 : z ≤ 32 := by omega
  rw [hz]
  have HRP : Hid (∀ u, Calls Try.prog 50 #[.string { data := #[0] }, .int .i64 z] u fun e w' => e = .returned (.string (sB p z 0)) ∧ Below u.heap.size u w') := fun u => repeat_any z u (by omega)
  have HSB : Hid (∀ u, Calls Try.prog 51 #[.int .i64 n] u fun e w' => e = .returned (.int .i64 z) ∧ w' = u) := fun u => by
    have hqd : ((n : Int) + 7).tdiv 8 = (z : Int) := by rw [Int.tdiv_eq_ediv_of_nonneg (by omega)]; omega
    have hn0 : (n : Int) ≤ 256 := by omega
    have hq2 : ((n : Int) + 7) / 8 = (z : Int) := by omega
    go_enter Try.func51, Try.ntmps51
    go_wp2
    go_ret
    exact ⟨by first | rfl | rw [hq2], rfl⟩
  go_enter Try.func24, Try.ntmps24
  go_wp2_with (first | (go_at_call 51; refine Calls.mono (HSB.out _) ?_; rintro e u1 ⟨rfl, hw1⟩; rw [hw1]; clear hw1 u1) | (go_at_call 50; refine Calls.mono (HRP.out _) ?_; rintro e u2 ⟨rfl, hu⟩; have HU0 : Hid (Below w.heap.size w u2) := hu; clear hu))
  go_loopw [5, 11] (fun v i wr => ∃ k : Nat, k ≤ n ∧ i = .int .i64 k ∧ v = .string (sB p z k) ∧ Below w.heap.size w wr) (fun _ i _ => n - (intOf i).toNat)
  case atStart => exact ⟨0, Nat.zero_le _, rfl, rfl, HU0.out⟩
  case round =>
    obtain ⟨k, hk, rfl, rfl, hb⟩ := hrel
    have HB : Hid (Below w.heap.size w wr) := hb
    clear hb
    by_cases hlt : k < n
    · have hk1 : (k : Int) < (n : Int) := by omega
      have HFK : Hid _ := HF.out k wr hlt HB.out
      have hsz := sB_size p z k (by omega)
      have HPB : Hid (∀ u, Calls Try.prog 52 #[.string (sB p z k), .int .i64 k, .bool true] u fun e w' => e = .returned (.string ⟨(pb (sB p z k) k true).toArray⟩) ∧ Below u.heap.size u w') := fun u => implPutBit_in _ k true u (by omega) (by omega)
      have HON : Hid (p k = true → sB p z (k + 1) = _) := sB_on (p := p) (z := z) (k := k)
      have HOFF : Hid (p k = false → sB p z (k + 1) = _) := sB_off (p := p) (z := z) (k := k)
      clear hsz
      generalize p k = q at *
      cases q
      · have HE : Hid (sB p z (k + 1) = sB p z k) := HOFF.out rfl
        clear HON HOFF
        go_wp2_with fail
        refine Calls.mono HFK.out ?_
        rintro e u1 ⟨rfl, hu⟩
        have HU : Hid (Below w.heap.size w u1) := HB.out.trans (hu.mono HB.out.size)
        clear hu HFK
        go_wp2
        exact ⟨⟨k + 1, hlt, by go_num, by rw [HE.out], HU.out⟩, by simp [intOf]; omega⟩
      · have HE : Hid (sB p z (k + 1) = _) := HON.out rfl
        clear HON HOFF
        go_wp2_with fail
        refine Calls.mono HFK.out ?_
        rintro e u1 ⟨rfl, hu⟩
        have HU : Hid (Below w.heap.size w u1) := HB.out.trans (hu.mono HB.out.size)
        clear hu HFK
        go_wp2_with (go_at_call 52; refine Calls.mono (HPB.out _) ?_; rintro e u2 ⟨rfl, hu⟩; have HU2 : Hid (Below w.heap.size w u2) := HU.out.trans (hu.mono HU.out.size); clear hu)
        exact ⟨⟨k + 1, hlt, by go_num, by rw [HE.out], HU2.out⟩, by simp [intOf]; omega⟩
    · obtain rfl : k = n := by omega
      have hk1 : ¬ (k : Int) < (k : Int) := by omega
      go_wp2
      go_ret
      exact ⟨rfl, HB.out⟩
end Go.Proofs.Ytmbdclbddbbdpaa
