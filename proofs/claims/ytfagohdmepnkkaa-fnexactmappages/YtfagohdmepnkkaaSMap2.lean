import Derived.Test.YtfagohdmepnkkaaSMap1
namespace Go.Proofs.Ytfagohdmepnkkaa
open Go.ChangeShapes Go.WideShapes Go.ChangeAt Go.RowKit

/-- The entry of a map. -/
def enM (m : PM) : Int := bits .or .i64 (bits .or .i64 (m.frame * 256) m.flags) 1
/-- The place of a map's first entry. -/
def atM (root : Nat) (m : PM) : Nat := root * 256 + 4 * (m.va.toNat / 8192)
def MapAns (F : Nat) (mem : ByteArray) (root : Nat) (m : PM) (fv : Value) (mem2 : ByteArray) (fv2 : Value) (c : Int) (w : World) : Prop := Calls Try.prog F #[.string mem, .int .i64 root, pmA m, fv] w fun e w' => e = .returned (.tuple #[.string mem2, fv2, .int .i64 c]) ∧ Below w.heap.size w w'
set_option maxRecDepth 100000 in
set_option maxHeartbeats 4000000 in
theorem l03Map_l9 (mem : ByteArray) (root : Nat) (m : PM) (ao : Option Addr) (n cap : Nat) (w : World) (hs : mem.size ≤ 65536) (hr : root * 256 + 256 ≤ mem.size) (h : pmOk m = true) (hlg : m.large = true) (he : wv mem (atM root m) % 2 = 1) : MapAns 54 mem root m (.slice ao n cap) mem (.slice ao n cap) 9 w := by
  obtain ⟨va, fr, fl, lg⟩ := m
  unfold MapAns pmA
  unfold pmOk at h
  simp only at h hlg he ⊢
  subst hlg
  obtain ⟨g1, g2, g3, g4, g5, g6, g7, g8⟩ := of_decide_eq_true h
  obtain ⟨v, rfl⟩ : ∃ v : Nat, va = (v : Int) := ⟨va.toNat, by omega⟩
  have h1 : ¬ (v : Int) < 0 := by omega
  have h2 : ¬ 262144 ≤ (v : Int) := by omega
  have ht : (v : Int).tmod 8192 = (v : Int) % 8192 := Int.tmod_eq_emod_of_nonneg (by omega)
  have h3 : (v : Int) % 8192 = 0 := by simpa using g3
  have h4 : ¬ fr < 0 := by omega
  have h5 : ¬ 1023 < fr := by omega
  have h7 : (bits .and .i64 fl 14 == 0) = false := by simpa using g7
  have h8 : (fl != bits .and .i64 fl 158) = false := by rw [g8]; simp
  have E : Hid ((root : Int) * 256 + 4 * ((v : Int) / 8192) = ((root * 256 + 4 * (v / 8192) : Nat) : Int)) := (show (root : Int) * 256 + 4 * ((v : Int) / 8192) = ((root * 256 + 4 * (v / 8192) : Nat) : Int) by omega)
  have HAT : Hid (root * 256 + 4 * (v / 8192) + 4 ≤ mem.size) := (show root * 256 + 4 * (v / 8192) + 4 ≤ mem.size by omega)
  have HB : Hid (Below w.heap.size w (w.alloc (.cells #[.int .i64 v, .int .i64 fr, .int .i64 fl, .bool true] 101))) := (Below.refl _ _).alloc (Nat.le_refl _) _
  have e0 : atM root ⟨(v : Int), fr, fl, true⟩ = root * 256 + 4 * (v / 8192) := by simp [atM]
  rw [e0] at he
  obtain ⟨x, hx⟩ : ∃ x, wv mem (root * 256 + 4 * (v / 8192)) = x := ⟨_, rfl⟩
  have hxb := wv_b mem (root * 256 + 4 * (v / 8192))
  rw [hx] at he hxb
  have k1 : bits .and .i64 x 1 = 1 := by rw [and1 x hxb.1 (by omega)]; exact he
  have HX : Hid (wv mem (root * 256 + 4 * (v / 8192)) = x) := hx
  clear h g1 g2 g3 g7 g8 hx he
  have hf : fr.tmod 32 = fr % 32 := Int.tmod_eq_emod_of_nonneg (by omega)
  have hf2 : fr % 32 = 0 := g6 rfl
  clear g6
  go_enter Try.func54, Try.ntmps54
  go_wp2_with (go_at_call 40; rw [E.out]; refine (l01Word_any _ _ _ HAT.out hs).mono ?_; rintro r u1 ⟨rfl, q, hu1⟩; subst u1; rw [HX.out])
  exact bodyPost_ret (v := .tuple #[.string mem, .slice ao n cap, .int .i64 9]) (by simp [results, Try.results54, go_sem]) rfl ⟨rfl, bdn HB.out _⟩
set_option maxRecDepth 100000 in
set_option maxHeartbeats 4000000 in
theorem l03Map_l0 (mem : ByteArray) (root : Nat) (m : PM) (ao : Option Addr) (n cap : Nat) (w : World) (hs : mem.size ≤ 65536) (hr : root * 256 + 256 ≤ mem.size) (h : pmOk m = true) (hlg : m.large = true) (he : wv mem (atM root m) % 2 = 0) : MapAns 54 mem root m (.slice ao n cap) (setv mem (atM root m) (enM m)) (.slice ao n cap) 0 w := by
  obtain ⟨va, fr, fl, lg⟩ := m
  unfold MapAns pmA
  unfold pmOk at h
  simp only at h hlg he ⊢
  subst hlg
  obtain ⟨g1, g2, g3, g4, g5, g6, g7, g8⟩ := of_decide_eq_true h
  obtain ⟨v, rfl⟩ : ∃ v : Nat, va = (v : Int) := ⟨va.toNat, by omega⟩
  have h1 : ¬ (v : Int) < 0 := by omega
  have h2 : ¬ 262144 ≤ (v : Int) := by omega
  have ht : (v : Int).tmod 8192 = (v : Int) % 8192 := Int.tmod_eq_emod_of_nonneg (by omega)
  have h3 : (v : Int) % 8192 = 0 := by simpa using g3
  have h4 : ¬ fr < 0 := by omega
  have h5 : ¬ 1023 < fr := by omega
  have h7 : (bits .and .i64 fl 14 == 0) = false := by simpa using g7
  have h8 : (fl != bits .and .i64 fl 158) = false := by rw [g8]; simp
  have E : Hid ((root : Int) * 256 + 4 * ((v : Int) / 8192) = ((root * 256 + 4 * (v / 8192) : Nat) : Int)) := (show (root : Int) * 256 + 4 * ((v : Int) / 8192) = ((root * 256 + 4 * (v / 8192) : Nat) : Int) by omega)
  have HAT : Hid (root * 256 + 4 * (v / 8192) + 4 ≤ mem.size) := (show root * 256 + 4 * (v / 8192) + 4 ≤ mem.size by omega)
  have HB : Hid (Below w.heap.size w (w.alloc (.cells #[.int .i64 v, .int .i64 fr, .int .i64 fl, .bool true] 101))) := (Below.refl _ _).alloc (Nat.le_refl _) _
  have e0 : atM root ⟨(v : Int), fr, fl, true⟩ = root * 256 + 4 * (v / 8192) := by simp [atM]
  rw [e0] at he
  obtain ⟨x, hx⟩ : ∃ x, wv mem (root * 256 + 4 * (v / 8192)) = x := ⟨_, rfl⟩
  have hxb := wv_b mem (root * 256 + 4 * (v / 8192))
  rw [hx] at he hxb
  have k1 : bits .and .i64 x 1 = 0 := by rw [and1 x hxb.1 (by omega)]; exact he
  have HX : Hid (wv mem (root * 256 + 4 * (v / 8192)) = x) := hx
  clear h g1 g2 g3 g7 g8 hx he
  have hf : fr.tmod 32 = fr % 32 := Int.tmod_eq_emod_of_nonneg (by omega)
  have hf2 : fr % 32 = 0 := g6 rfl
  clear g6
  rw [e0]
  have EN : Hid (enM ⟨(v : Int), fr, fl, true⟩ = bits .or .i64 (bits .or .i64 (fr * 256) fl) 1) := rfl
  rw [EN.out]
  go_enter Try.func54, Try.ntmps54
  go_wp2_with (first
    | (go_at_call 40; rw [E.out]; refine (l01Word_any _ _ _ HAT.out hs).mono ?_; rintro r u1 ⟨rfl, q, hu1⟩; subst u1; rw [HX.out])
    | (go_at_call 42; go_loud (rw [E.out]; refine (specSetWord_yes _ _ _ _ HAT.out hs).mono ?_; rintro r u2 ⟨rfl, hu2⟩; have HB2 : Hid (Below w.heap.size w u2) := (bdn HB.out q).trans (hu2.mono (bdn HB.out q).size); clear hu2)))
  exact bodyPost_ret (v := .tuple #[.string (setv mem (root * 256 + 4 * (v / 8192)) (bits .or .i64 (bits .or .i64 (fr * 256) fl) 1)), .slice ao n cap, .int .i64 0]) (by simp [results, Try.results54, go_sem]) rfl ⟨rfl, HB2.out⟩
end Go.Proofs.Ytfagohdmepnkkaa
