import Derived.Test.YtblmodlpopnckaaMb1
import Derived.Test.YtblmodlpopnckaaRowFZ
import Derived.Test.YtblmodlpopnckaaIdxFT
import Derived.Test.YtblmodlpopnckaaConv
import Derived.Test.YtblmodlpopnckaaHl
import Derived.BigQuiet
namespace Go.Proofs.Ytblmodlpopnckaa
open Go.ChangeShapes Go.WideShapes Go.ChangeAt Go.RowKit

def capB (x : Int) : Bool := decide (65 ≤ x) && decide (x ≤ 90)
def allP (p : Nat → Bool) (k : Nat) : Bool := (List.range k).all p
theorem allP_succ (p : Nat → Bool) (k : Nat) : allP p (k + 1) = (allP p k && p k) := by simp [allP, List.range_succ]
theorem allP_bad {p : Nat → Bool} {k m : Nat} (hk : k < m) (h : p k = false) : allP p m = false := by
  unfold allP
  rw [List.all_eq_false]
  exact ⟨k, List.mem_range.2 hk, by rw [h]; decide⟩
/-- A name of four capitals. -/
def tnB (n : ByteArray) : Bool := decide (n.size = 4) && allP (fun j => capB (bt n j)) 4
def tbdB (z : Int) : Bool := decide (0 ≤ z) && decide (z ≤ 200) && (z % 4 == 0)
/-- A table is right. -/
def ftOk (x : FT) : Bool := tnB x.name && decide (0 ≤ x.rev) && decide (x.rev ≤ 255) && tbdB (x.body.size : Int)
/-- The sum of the first k bytes. -/
def smb (t : ByteArray) : Nat → Int
  | 0 => 0
  | k + 1 => smb t k + bt t k
theorem smb_b (t : ByteArray) : ∀ k, 0 ≤ smb t k ∧ smb t k ≤ 255 * k
  | 0 => by simp [smb]
  | k + 1 => by
    have h1 := smb_b t k
    have h2 := bt_b t k
    simp only [smb]
    omega
def ftW (x : FT) : Int := (8 + (x.body.size : Int)) * 65536 + x.rev * 256
def ftK (x : FT) : ByteArray := x.name ++ pw (ftW x) ++ x.body
def ftX (x : FT) : ByteArray := x.name ++ pw (ftW x + (-(smb (ftK x) (ftK x).size)) % 256) ++ x.body
theorem ftOk_b {x : FT} (h : ftOk x = true) : x.name.size = 4 ∧ 0 ≤ x.rev ∧ x.rev ≤ 255 ∧ x.body.size ≤ 200 ∧ x.body.size % 4 = 0 := by
  unfold ftOk tnB tbdB at h
  simp only [Bool.and_eq_true, decide_eq_true_eq, beq_iff_eq] at h
  omega
theorem ftX_size {x : FT} (h : ftOk x = true) : (ftX x).size = 8 + x.body.size := by
  have hb := ftOk_b h
  rw [ftX, ba_sz, ba_sz, pw_sz]
  omega
theorem u8_of (c : Int) (h0 : 0 ≤ c) (h1 : c < 256) : ((UInt8.ofNat c.toNat).toNat : Int) = c := by
  rw [UInt8.toNat_ofNat']
  omega
theorem text_eq (n b : ByteArray) (W c : Int) (hn : n.size = 4) (hW : W % 256 = 0) (h0 : 0 ≤ c) (h1 : c < 256) : (⟨((n ++ pw W ++ b).data.toList.set 4 (UInt8.ofNat c.toNat)).toArray⟩ : ByteArray) = n ++ pw (W + c) ++ b := by
  have e1 : (W + c) % 256 = c := by omega
  have e2 : (W + c) / 256 % 256 = W / 256 % 256 := by omega
  have e3 : (W + c) / 65536 % 256 = W / 65536 % 256 := by omega
  have e4 : (W + c) / 16777216 % 256 = W / 16777216 % 256 := by omega
  have hl : n.data.toList.length = 4 := by simpa using hn
  apply ByteArray.ext
  apply Array.ext'
  simp only [ByteArray.data_append, Array.toList_append]
  unfold pw
  rw [e1, e2, e3, e4]
  simp only [strOfNums, List.map_cons, List.map_nil, List.append_assoc]
  rw [List.set_append_right _ _ (by omega), hl]
  rfl
set_option maxRecDepth 100000 in
set_option maxHeartbeats 4000000 in
theorem isCapital_any (x : Int) (w : World) : Calls Try.prog 46 #[.int .u8 x] w fun e w' => e = .returned (.bool (capB x)) ∧ w' = w := by
  cases q : decide (65 ≤ x)
  · have E : Hid (capB x = false) := (show capB x = false by unfold capB; rw [q]; rfl)
    go_enter Try.func46, Try.ntmps46
    go_wp2
    go_ret
    exact ⟨ret_bool E.out.symm, rfl⟩
  · have E : Hid (capB x = decide (x ≤ 90)) := (show capB x = _ by unfold capB; rw [q]; rfl)
    go_enter Try.func46, Try.ntmps46
    go_wp2
    go_ret
    exact ⟨ret_bool E.out.symm, rfl⟩
set_option maxRecDepth 100000 in
set_option maxHeartbeats 4000000 in
theorem isTableName_any (n : ByteArray) (w : World) : Calls Try.prog 49 #[.string n] w fun e w' => e = .returned (.bool (tnB n)) ∧ w' = w := by
  cases q : ((n.size : Int) != 4)
  rotate_left
  · have E : Hid (tnB n = false) := (show tnB n = false by unfold tnB; rw [decide_eq_false (fun hh => by rw [hh] at q; simp at q)]; rfl)
    go_enter Try.func49, Try.ntmps49
    go_wp2
    go_ret
    exact ⟨ret_bool E.out.symm, rfl⟩
  have h4 : n.size = 4 := by have : (n.size : Int) = 4 := by simpa using q
                             omega
  have E : Hid (tnB n = allP (fun j => capB (bt n j)) 4) := (show tnB n = _ by unfold tnB; rw [decide_eq_true h4]; rfl)
  have H4 : Hid (n.size = 4) := h4
  go_enter Try.func49, Try.ntmps49
  go_wp2
  clear q
  go_loopw [9] (fun i wr => ∃ k : Nat, k ≤ 4 ∧ i = .int .i64 k ∧ allP (fun j => capB (bt n j)) k = true ∧ wr = w) (fun i _ => 4 - (intOf i).toNat)
  case atStart => exact ⟨0, Nat.zero_le _, rfl, rfl, rfl⟩
  case round =>
    obtain ⟨k, hk, rfl, hall, rfl⟩ := hrel
    have HALL : Hid (allP (fun j => capB (bt n j)) k = true) := hall
    clear hall
    by_cases hlt : k < 4
    · have hix := fun u => idx_str n k (by have := H4.out; omega) u k rfl
      have HS : Hid (allP (fun j => capB (bt n j)) (k + 1) = (allP (fun j => capB (bt n j)) k && capB (bt n k))) := allP_succ _ _
      have HBAD : Hid (capB (bt n k) = false → tnB n = false) := fun hh => by rw [E.out, allP_bad hlt hh]
      have HC : Hid (∀ u, Calls Try.prog 46 #[.int .u8 (bt n k)] u fun e w' => e = .returned (.bool (capB (bt n k))) ∧ w' = u) := fun u => isCapital_any _ u
      generalize bt n k = b at *
      have hk0 : (0 : Int) ≤ (k : Int) := by omega
      have hk1 : (k : Int) < 4 := by omega
      generalize capB b = V at *
      cases V
      · have E2 : Hid (tnB n = false) := HBAD.out rfl
        go_wp2_with (go_at_call 46; refine Calls.mono (HC.out _) ?_; rintro e u1 ⟨rfl, hw1⟩; rw [hw1]; clear hw1)
        go_ret
        exact ⟨ret_bool E2.out.symm, rfl⟩
      · have E2 : Hid (allP (fun j => capB (bt n j)) (k + 1) = true) := (show _ = _ by rw [HS.out, HALL.out]; rfl)
        go_wp2_with (go_at_call 46; refine Calls.mono (HC.out _) ?_; rintro e u1 ⟨rfl, hw1⟩; rw [hw1]; clear hw1)
        exact ⟨⟨k + 1, hlt, by go_num, E2.out, by first | trivial | rfl⟩, by simp [intOf]; omega⟩
    · have hke : k = 4 := by omega
      subst hke
      have E2 : Hid (tnB n = true) := (show _ = _ by rw [E.out, HALL.out])
      go_wp2
      go_ret
      exact ⟨ret_bool E2.out.symm, rfl⟩
set_option maxRecDepth 100000 in
set_option maxHeartbeats 4000000 in
theorem isTableBody_any (z : Int) (w : World) : Calls Try.prog 47 #[.int .i64 z] w fun e w' => e = .returned (.bool (tbdB z)) ∧ w' = w := by
  cases q : decide (0 ≤ z)
  · have E : Hid (tbdB z = false) := (show tbdB z = false by unfold tbdB; rw [q]; rfl)
    go_enter Try.func47, Try.ntmps47
    go_wp2
    go_ret
    exact ⟨ret_bool E.out.symm, rfl⟩
  cases q2 : decide (z ≤ 200)
  · have E : Hid (tbdB z = false) := (show tbdB z = false by unfold tbdB; rw [q, q2]; rfl)
    go_enter Try.func47, Try.ntmps47
    go_wp2
    go_ret
    exact ⟨ret_bool E.out.symm, rfl⟩
  have ht : z.tmod 4 = z % 4 := Int.tmod_eq_emod_of_nonneg (of_decide_eq_true q)
  have E : Hid (tbdB z = (z % 4 == 0)) := (show tbdB z = _ by unfold tbdB; rw [q, q2]; rfl)
  generalize z % 4 = m at *
  go_enter Try.func47, Try.ntmps47
  go_wp2
  go_ret
  exact ⟨ret_bool E.out.symm, rfl⟩
set_option maxRecDepth 100000 in
set_option maxHeartbeats 4000000 in
theorem ftRight_any (x : FT) (w : World) : Calls Try.prog 33 #[.agg #[.string x.name, .int .i64 x.rev, .string x.body]] w fun e w' => e = .returned (.bool (ftOk x)) ∧ Below w.heap.size w w' := by
  have HL0 : Hid (LG w (w.alloc (.cells #[.string x.name, .int .i64 x.rev, .string x.body] 40)) w.heap.size #[.string x.name, .int .i64 x.rev, .string x.body] 40) := LG.new w _ _
  have HN : Hid (∀ u, Calls Try.prog 49 #[.string x.name] u fun e w' => e = .returned (.bool (tnB x.name)) ∧ w' = u) := fun u => isTableName_any _ u
  have HB : Hid (∀ u, Calls Try.prog 47 #[.int .i64 (x.body.size : Int)] u fun e w' => e = .returned (.bool (tbdB (x.body.size : Int))) ∧ w' = u) := fun u => isTableBody_any _ u
  have E : Hid (ftOk x = (tnB x.name && decide (0 ≤ x.rev) && decide (x.rev ≤ 255) && tbdB (x.body.size : Int))) := rfl
  generalize ftOk x = V at *
  generalize tnB x.name = A at *
  generalize tbdB (x.body.size : Int) = B at *
  cases A
  · skip
    have E2 : Hid (V = false) := (show V = false by rw [E.out]; rfl)
    clear E
    go_enter Try.func33, Try.ntmps33
    go_upto_region 1 with fail
    generalize (w.alloc (.cells #[.string x.name, .int .i64 x.rev, .string x.body] 40)) = u0 at *
    generalize w.heap.size = b0 at *
    have k0 := HL0.out.cel 0 _ rfl
    have k1 := HL0.out.cel 1 _ rfl
    have k2 := HL0.out.cel 2 _ rfl
    have kl := HL0.out.lt
    go_wp2_with (first | (go_at_call 49; refine Calls.mono (HN.out _) ?_; rintro e u1 ⟨rfl, hw1⟩; rw [hw1]; clear hw1) | (go_at_call 47; refine Calls.mono (HB.out _) ?_; rintro e u2 ⟨rfl, hw2⟩; rw [hw2]; clear hw2))
    go_ret
    exact ⟨ret_bool E2.out.symm, HL0.out.bel⟩
  cases q1 : decide (0 ≤ x.rev)
  · skip
    have E2 : Hid (V = false) := (show V = false by rw [E.out]; rw [q1]; rfl)
    clear E
    go_enter Try.func33, Try.ntmps33
    go_upto_region 1 with fail
    generalize (w.alloc (.cells #[.string x.name, .int .i64 x.rev, .string x.body] 40)) = u0 at *
    generalize w.heap.size = b0 at *
    have k0 := HL0.out.cel 0 _ rfl
    have k1 := HL0.out.cel 1 _ rfl
    have k2 := HL0.out.cel 2 _ rfl
    have kl := HL0.out.lt
    go_wp2_with (first | (go_at_call 49; refine Calls.mono (HN.out _) ?_; rintro e u1 ⟨rfl, hw1⟩; rw [hw1]; clear hw1) | (go_at_call 47; refine Calls.mono (HB.out _) ?_; rintro e u2 ⟨rfl, hw2⟩; rw [hw2]; clear hw2))
    go_ret
    exact ⟨ret_bool E2.out.symm, HL0.out.bel⟩
  cases q2 : decide (x.rev ≤ 255)
  · skip
    have E2 : Hid (V = false) := (show V = false by rw [E.out]; rw [q1, q2]; rfl)
    clear E
    go_enter Try.func33, Try.ntmps33
    go_upto_region 1 with fail
    generalize (w.alloc (.cells #[.string x.name, .int .i64 x.rev, .string x.body] 40)) = u0 at *
    generalize w.heap.size = b0 at *
    have k0 := HL0.out.cel 0 _ rfl
    have k1 := HL0.out.cel 1 _ rfl
    have k2 := HL0.out.cel 2 _ rfl
    have kl := HL0.out.lt
    go_wp2_with (first | (go_at_call 49; refine Calls.mono (HN.out _) ?_; rintro e u1 ⟨rfl, hw1⟩; rw [hw1]; clear hw1) | (go_at_call 47; refine Calls.mono (HB.out _) ?_; rintro e u2 ⟨rfl, hw2⟩; rw [hw2]; clear hw2))
    go_ret
    exact ⟨ret_bool E2.out.symm, HL0.out.bel⟩
  have E2 : Hid (V = B) := (show V = B by rw [E.out]; rw [q1, q2]; rfl)
  clear E
  go_enter Try.func33, Try.ntmps33
  go_upto_region 1 with fail
  generalize (w.alloc (.cells #[.string x.name, .int .i64 x.rev, .string x.body] 40)) = u0 at *
  generalize w.heap.size = b0 at *
  have k0 := HL0.out.cel 0 _ rfl
  have k1 := HL0.out.cel 1 _ rfl
  have k2 := HL0.out.cel 2 _ rfl
  have kl := HL0.out.lt
  go_wp2_with (first | (go_at_call 49; refine Calls.mono (HN.out _) ?_; rintro e u1 ⟨rfl, hw1⟩; rw [hw1]; clear hw1) | (go_at_call 47; refine Calls.mono (HB.out _) ?_; rintro e u2 ⟨rfl, hw2⟩; rw [hw2]; clear hw2))
  go_ret
  exact ⟨ret_bool E2.out.symm, HL0.out.bel⟩
set_option maxRecDepth 100000 in
set_option maxHeartbeats 4000000 in
theorem ftFn_any (x : FT) (w : World) : Calls Try.prog 32 #[.agg #[.string x.name, .int .i64 x.rev, .string x.body]] w fun e w' => e = .returned (.bool (!ftOk x)) ∧ Below w.heap.size w w' := by
  have HL0 : Hid (LG w (w.alloc (.cells #[.string x.name, .int .i64 x.rev, .string x.body] 40)) w.heap.size #[.string x.name, .int .i64 x.rev, .string x.body] 40) := LG.new w _ _
  have HV : Hid (∀ u, Calls Try.prog 33 #[.agg #[.string x.name, .int .i64 x.rev, .string x.body]] u fun e w' => e = .returned (.bool (ftOk x)) ∧ Below u.heap.size u w') := fun u => ftRight_any x u
  generalize ftOk x = V at *
  go_enter Try.func32, Try.ntmps32
  go_upto_region 1 with fail
  generalize (w.alloc (.cells #[.string x.name, .int .i64 x.rev, .string x.body] 40)) = u0 at *
  generalize w.heap.size = b0 at *
  have k0 := HL0.out.cel 0 _ rfl
  have k1 := HL0.out.cel 1 _ rfl
  have k2 := HL0.out.cel 2 _ rfl
  have kl := HL0.out.lt
  go_wp2_with (go_at_call 33; refine Calls.mono (HV.out _) ?_; rintro e u1 ⟨rfl, hb1⟩; have HL1 : Hid (LG w u1 b0 _ _) := HL0.out.step hb1; clear hb1)
  go_ret
  exact ⟨rfl, HL1.out.bel⟩
theorem cfFT : ∀ (xs : Array Value) (w' : World), (callFunc 32 xs).run Try.prog w' = .ok (.enter 32 xs) w' := by
  intro xs w'
  kernel_rfl
end Go.Proofs.Ytblmodlpopnckaa
