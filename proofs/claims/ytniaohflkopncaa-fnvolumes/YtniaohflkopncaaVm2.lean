import Derived.Test.YtniaohflkopncaaVm1
import Derived.Test.YtniaohflkopncaaVo2
import Derived.Test.YtniaohflkopncaaOv1
namespace Go.Proofs.Ytniaohflkopncaa
open Go.ChangeShapes Go.WideShapes Go.ChangeAt Go.RowKit

def slV (m p : ByteArray) (st : Int) : KS := ⟨st, cryV p st m, tgoV p (cryV p st m)⟩
set_option maxRecDepth 100000 in
set_option maxHeartbeats 4000000 in
theorem slotOf_any (m p : ByteArray) (st : Int) (w : World) (hm : m.size ≤ 1048576) (hp : p.size ≤ 1048576) : Calls Try.prog 26 #[.string m, .string p, .int .i64 st] w fun e w' => e = .returned (ksA (slV m p st)) ∧ Below w.heap.size w w' := by
  have HL0 : Hid (LG w (w.alloc (.cells #[.int .i64 0, .string ⟨#[]⟩, .string ⟨#[]⟩] 70)) w.heap.size #[.int .i64 0, .string ⟨#[]⟩, .string ⟨#[]⟩] 70) := LG.new w _ _
  have E : Hid (slV m p st = ⟨st, cryV p st m, tgoV p (cryV p st m)⟩) := rfl
  have HC : Hid (∀ u, Calls Try.prog 63 #[.string p, .int .i64 st, .string m] u fun e w' => e = .returned (.string (cryV p st m)) ∧ Below u.heap.size u w') := fun u => implCrypt_any p st m u hp hm
  have HT : Hid (∀ u, Calls Try.prog 64 #[.string p, .string (cryV p st m)] u fun e w' => e = .returned (.string (tgoV p (cryV p st m))) ∧ Below u.heap.size u w') := fun u => implTagOf_any p _ u
  generalize slV m p st = R at *
  generalize tgoV p (cryV p st m) = T at *
  generalize cryV p st m = K at *
  go_enter Try.func26, Try.ntmps26
  go_upto_region 1 with fail
  generalize (w.alloc (.cells #[.int .i64 0, .string ⟨#[]⟩, .string ⟨#[]⟩] 70)) = u0 at *
  generalize w.heap.size = b0 at *
  go_wp2_with fail
  refine Calls.mono (HC.out _) ?_
  rintro e u1 ⟨rfl, hu⟩
  have HL1 : Hid (LG w u1 b0 _ _) := HL0.out.step hu
  clear hu
  go_wp2_with fail
  refine Calls.mono (HT.out _) ?_
  rintro e u2 ⟨rfl, hu⟩
  have HL2 : Hid (LG w u2 b0 _ _) := HL1.out.step hu
  clear hu
  have k0 := HL2.out.cel 0 _ rfl
  have k1 := HL2.out.cel 1 _ rfl
  have k2 := HL2.out.cel 2 _ rfl
  have f0 := HL2.out.frz 0
  have f1 := HL2.out.frz 1
  have f2 := HL2.out.frz 2
  have kl := HL2.out.lt
  go_wp2
  refine bodyPost_ret (v := ksA ⟨st, K, T⟩) ?_ rfl ⟨by rw [E.out], ((HL2.out.bel.setCell HL2.out.ge _).setCell HL2.out.ge _).setCell HL2.out.ge _⟩
  simp [results, Try.results26, go_sem, ksA, k0, k1, k2]
set_option maxRecDepth 100000 in
set_option maxHeartbeats 4000000 in
theorem l15Slot_any (m p : ByteArray) (st : Int) (w : World) : Calls Try.prog 29 #[.string m, .string p, .int .i64 st] w fun e w' => e = .returned (ksA (slV m p st)) ∧ Below w.heap.size w w' := by
  have HL0 : Hid (LG w (w.alloc (.cells #[.int .i64 0, .string ⟨#[]⟩, .string ⟨#[]⟩] 70)) w.heap.size #[.int .i64 0, .string ⟨#[]⟩, .string ⟨#[]⟩] 70) := LG.new w _ _
  have E : Hid (slV m p st = ⟨st, cryV p st m, tgoV p (cryV p st m)⟩) := rfl
  have HC : Hid (∀ u, Calls Try.prog 32 #[.string p, .int .i64 st, .string m] u fun e w' => e = .returned (.string (cryV p st m)) ∧ Below u.heap.size u w') := fun u => specCrypt_any p st m u
  have HT : Hid (∀ u, Calls Try.prog 30 #[.string p, .string (cryV p st m)] u fun e w' => e = .returned (.string (tgoV p (cryV p st m))) ∧ Below u.heap.size u w') := fun u => specTagOf_any p _ u
  generalize slV m p st = R at *
  generalize tgoV p (cryV p st m) = T at *
  generalize cryV p st m = K at *
  go_enter Try.func29, Try.ntmps29
  go_upto_region 1 with fail
  generalize (w.alloc (.cells #[.int .i64 0, .string ⟨#[]⟩, .string ⟨#[]⟩] 70)) = u0 at *
  generalize w.heap.size = b0 at *
  go_wp2_with fail
  refine Calls.mono (HC.out _) ?_
  rintro e u1 ⟨rfl, hu⟩
  have HL1 : Hid (LG w u1 b0 _ _) := HL0.out.step hu
  clear hu
  go_wp2_with fail
  refine Calls.mono (HT.out _) ?_
  rintro e u2 ⟨rfl, hu⟩
  have HL2 : Hid (LG w u2 b0 _ _) := HL1.out.step hu
  clear hu
  have k0 := HL2.out.cel 0 _ rfl
  have k1 := HL2.out.cel 1 _ rfl
  have k2 := HL2.out.cel 2 _ rfl
  have f0 := HL2.out.frz 0
  have f1 := HL2.out.frz 1
  have f2 := HL2.out.frz 2
  have kl := HL2.out.lt
  go_wp2
  refine bodyPost_ret (v := ksA ⟨st, K, T⟩) ?_ rfl ⟨by rw [E.out], ((HL2.out.bel.setCell HL2.out.ge _).setCell HL2.out.ge _).setCell HL2.out.ge _⟩
  simp [results, Try.results29, go_sem, ksA, k0, k1, k2]
/-- A volume as an answer: its code, its slots, its check; the slots' row is its own, behind w. -/
structure VR where
  code : Int
  zs : List KS
  check : ByteArray
def vrA (sv : Value) (x : VR) : Value := .agg #[.int .i64 x.code, sv, .string x.check]
def mkR (m p : ByteArray) (st : Int) : VR := if ovB m = true ∨ ovB p = true then ⟨2, [], ⟨#[]⟩⟩ else if ((m.size : Int) != 16) = true ∨ isW st = false then ⟨1, [], ⟨#[]⟩⟩ else ⟨0, [slV m p st], tgoV m ⟨#[]⟩⟩
theorem own_one (u : World) (z : KS) (B : Nat) (hB : B ≤ u.heap.size) : (u.alloc (.cells #[.int .i64 z.salt, .string z.key, .string z.tag] 70)).ownsRow B 70 3 (.slice (some ⟨u.heap.size, 0, none⟩) 1 1) 1 (ksR [z]) := by
  refine ⟨by simp [ksR, ksC], .inr ⟨u.heap.size, 1, _, rfl, hB, heap_new _ _, Nat.le_refl _, by unfold maxLen; omega, rfl, ?_⟩⟩
  simp [ksR, ksC]
end Go.Proofs.Ytniaohflkopncaa
