import Derived.Test.YtohmejfpebjlaaaGreatDoorPEnc
import Derived.Test.YtohmejfpebjlaaaGreatDoorDecodeZ
namespace Go.Proofs.YtohmejfpebjlaaaGreatDoor
open Go.ChangeShapes Go.WideShapes Go.ChangeAt Go.RowKit

/-- The number that an operand reads out of a word. -/
def Opd.rd (o : Opd) (n : Int) : Int := o.lo + (fz n o.from.toNat o.bits.toNat - o.lo) % 2 ^ o.bits.toNat
def dcf (l : List Opd) (n : Int) (f : Int × Int × Int × Int) : Int × Int × Int × Int := l.foldl (fun f o => putF o.plc (o.rd n) f) f
theorem dcf_succ (l : List Opd) (n : Int) (f : Int × Int × Int × Int) (j : Nat) (h : j < l.length) : dcf (l.take (j + 1)) n f = putF l[j].plc (l[j].rd n) (dcf (l.take j) n f) := by
  unfold dcf
  rw [List.take_succ_eq_append_getElem h, List.foldl_append]
  rfl
theorem fz24 (n : Int) (h0 : 0 ≤ n) (h1 : n < 4294967296) : fz n 24 8 = n / 16777216 := by unfold fz; omega
theorem split_w (n : Int) (h0 : 0 ≤ n) (h1 : n < 4294967296) : ∃ o a b c i : Int, 0 ≤ o ∧ o < 256 ∧ 0 ≤ a ∧ a < 16 ∧ 0 ≤ b ∧ b < 16 ∧ 0 ≤ c ∧ c < 16 ∧ 0 ≤ i ∧ i < 4096 ∧ n = o * 16777216 + a * 1048576 + b * 65536 + c * 4096 + i ∧
    n / 16777216 = o ∧ fz n 24 8 = o ∧ fz n 20 4 = a ∧ fz n 16 4 = b ∧ fz n 12 4 = c ∧ fz n 0 12 = i ∧ fz n 0 20 = b * 65536 + c * 4096 + i := by
  refine ⟨n / 16777216, n / 1048576 % 16, n / 65536 % 16, n / 4096 % 16, n % 4096, ?_⟩
  unfold fz
  simp only [Int.reducePow]
  exact ⟨by omega, by omega, by omega, by omega, by omega, by omega, by omega, by omega, by omega, by omega, by omega, trivial, by omega, by omega, by omega, by omega, by omega, by omega⟩
/-- What the program's Decode answers, told apart. -/
def decI (n : Int) : Value :=
  if n < 0 ∨ encV (n / 16777216) (dcf (opsOf (n / 16777216)) n (0, 0, 0, 0)).1 (dcf (opsOf (n / 16777216)) n (0, 0, 0, 0)).2.1 (dcf (opsOf (n / 16777216)) n (0, 0, 0, 0)).2.2.1 (dcf (opsOf (n / 16777216)) n (0, 0, 0, 0)).2.2.2 ≠ n then rdV false 0 0 0 0 0
  else rdV true (n / 16777216) (dcf (opsOf (n / 16777216)) n (0, 0, 0, 0)).1 (dcf (opsOf (n / 16777216)) n (0, 0, 0, 0)).2.1 (dcf (opsOf (n / 16777216)) n (0, 0, 0, 0)).2.2.1 (dcf (opsOf (n / 16777216)) n (0, 0, 0, 0)).2.2.2
theorem decI_of (n a b c i : Int) (h : dcf (opsOf (n / 16777216)) n (0, 0, 0, 0) = (a, b, c, i)) : decI n = if n < 0 ∨ encV (n / 16777216) a b c i ≠ n then rdV false 0 0 0 0 0 else rdV true (n / 16777216) a b c i := by
  unfold decI
  rw [h]
theorem dec_join (n o x y z t a b c s : Int) (h0 : 0 ≤ n)
    (h : isOk o a b c s = true ↔ (isOk o x y z t = true ∧ encV o x y z t = n)) (hv : isOk o a b c s = true → x = a ∧ y = b ∧ z = c ∧ t = s) :
    (if n < 0 ∨ encV o x y z t ≠ n then rdV false 0 0 0 0 0 else rdV true o x y z t) = if isOk o a b c s = true then rdV true o a b c s else rdV false 0 0 0 0 0 := by
  by_cases hg : isOk o a b c s = true
  · obtain ⟨rfl, rfl, rfl, rfl⟩ := hv hg
    obtain ⟨_, h2⟩ := h.1 hg
    rw [if_pos hg, if_neg]
    rintro (h3 | h3)
    · omega
    · exact h3 h2
  · rw [if_neg hg, if_pos]
    refine .inr fun h3 => hg (h.2 ⟨?_, h3⟩)
    unfold encV at h3
    split at h3
    · assumption
    · omega
theorem sg12 (i : Int) (h0 : 0 ≤ i) (h1 : i < 4096) : (i < 2048 ∧ sg i 12 = i) ∨ (2048 ≤ i ∧ sg i 12 = i - 4096) := by
  simp [sg]; omega
theorem sg20 (i : Int) (h0 : 0 ≤ i) (h1 : i < 1048576) : (i < 524288 ∧ sg i 20 = i) ∨ (524288 ≤ i ∧ sg i 20 = i - 1048576) := by
  simp [sg]; omega
set_option maxHeartbeats 8000000 in
theorem decI_eq (n : Int) : decI n = decV n := by
  by_cases h0 : n < 0
  · rw [decI, if_pos (.inl h0), decV, decG, show isW n = false from by simp [isW]; omega]
    rfl
  by_cases h1 : 4294967296 ≤ n
  · have : encV (n / 16777216) (dcf (opsOf (n / 16777216)) n (0, 0, 0, 0)).1 (dcf (opsOf (n / 16777216)) n (0, 0, 0, 0)).2.1 (dcf (opsOf (n / 16777216)) n (0, 0, 0, 0)).2.2.1 (dcf (opsOf (n / 16777216)) n (0, 0, 0, 0)).2.2.2 = -1 := by
      unfold encV isOk
      rw [show kd (n / 16777216) = 0 from if_pos (nm_out _ (.inr (by omega)))]
      rfl
    rw [decI, if_pos (.inr (by rw [this]; omega)), decV, decG, show isW n = false from by simp [isW]; omega]
    rfl
  obtain ⟨o, a, b, c, i, o0, o1, a0, a1, b0, b1, c0, c1, i0, i1, hn, e1, e2, e3, e4, e5, e6, e7⟩ := split_w n (by omega) (by omega)
  have hv : decV n = if isOk o a (if kd o = 4 then 0 else b) (if kd o = 4 then 0 else c) (if kd o = 4 then (if o = 36 then sg (b * 65536 + c * 4096 + i) 20 else b * 65536 + c * 4096 + i) else sg i 12) = true
      then rdV true o a (if kd o = 4 then 0 else b) (if kd o = 4 then 0 else c) (if kd o = 4 then (if o = 36 then sg (b * 65536 + c * 4096 + i) 20 else b * 65536 + c * 4096 + i) else sg i 12) else rdV false 0 0 0 0 0 := by
    unfold decV decG dOp dA dB dC dI dOp
    rw [e2, e3, e4, e5, e6, e7, show isW n = true from by simp [isW]; omega]
    rfl
  rw [hv]
  clear hv
  have hk := kd_lt o
  have hS := sg12 i i0 i1
  have hS2 := sg20 (b * 65536 + c * 4096 + i) (by omega) (by omega)
  have h20 : o = 20 → kd o = 4 := by rintro rfl; decide +kernel
  have h36 : o = 36 → kd o = 4 := by rintro rfl; decide +kernel
  have h4 : kd o = 4 → o = 20 ∨ o = 36 := by
    intro h
    refine kd2_4 o ?_
    unfold kd at h
    split at h
    · cases h
    · exact h
  obtain ⟨k, hkk⟩ : ∃ k, kd o = k := ⟨_, rfl⟩
  have hop : ∀ q, opsOf o = q → dcf (opsOf (n / 16777216)) n (0, 0, 0, 0) = dcf q n (0, 0, 0, 0) := by rintro q rfl; rw [e1]
  rw [hkk] at hk h20 h36 h4 ⊢
  generalize sg i 12 = s at *
  generalize sg (b * 65536 + c * 4096 + i) 20 = s2 at *
  obtain rfl | rfl | rfl | rfl | rfl | rfl | rfl | rfl | rfl : k = 0 ∨ k = 1 ∨ k = 2 ∨ k = 3 ∨ k = 4 ∨ k = 5 ∨ k = 6 ∨ k = 7 ∨ k = 8 := by omega
  · clear hS2 h4 e2 h20 h36
    rw [decI_of n 0 0 0 0 (hop [] (by unfold opsOf; rw [hkk]; rfl)), e1]
    exact dec_join n o 0 0 0 0 _ _ _ _ (by omega) (by simp [isOk, hkk, kOk]) (by simp [isOk, hkk, kOk])
  · clear hS2 h4 e2 h20 h36
    rw [decI_of n a b c 0 ((hop [rP 0, rP 1, rP 2] (by unfold opsOf; rw [hkk]; rfl)).trans (by simp [dcf, Opd.rd, Opd.lo, Opd.from, Opd.bits, Opd.plc, putF, rP, e3, e4, e5]; omega)), e1]
    refine dec_join n o a b c 0 _ _ _ _ (by omega) ?_ ?_
    · simp [isOk, hkk, kOk, reg, encV]; omega
    · simp [isOk, hkk, kOk, reg]; omega
  · clear hS2 h4 e2 h20 h36
    rw [decI_of n a b c 0 ((hop [vP 0, vP 1, vP 2] (by unfold opsOf; rw [hkk]; rfl)).trans (by simp [dcf, Opd.rd, Opd.lo, Opd.from, Opd.bits, Opd.plc, putF, vP, e3, e4, e5]; omega)), e1]
    refine dec_join n o a b c 0 _ _ _ _ (by omega) ?_ ?_
    · simp [isOk, hkk, kOk, reg, encV]; omega
    · simp [isOk, hkk, kOk, reg]; omega
  · clear hS2 h4 e2 h20 h36
    rw [decI_of n a b 0 0 ((hop [vP 0, rP 1] (by unfold opsOf; rw [hkk]; rfl)).trans (by simp [dcf, Opd.rd, Opd.lo, Opd.from, Opd.bits, Opd.plc, putF, rP, vP, e3, e4]; omega)), e1]
    refine dec_join n o a b 0 0 _ _ _ _ (by omega) ?_ ?_
    · simp [isOk, hkk, kOk, reg, encV]; omega
    · simp [isOk, hkk, kOk, reg]; omega
  · clear hS e2 h20 h36
    rcases h4 rfl with rfl | rfl
    · rw [decI_of n a 0 0 (b * 65536 + c * 4096 + i) ((hop [rP 0, .imm 0 20] (by unfold opsOf; rw [hkk]; rfl)).trans (by simp [dcf, Opd.rd, Opd.lo, Opd.from, Opd.bits, Opd.plc, putF, rP, e3, e7]; omega)), e1]
      refine dec_join n 20 a 0 0 (b * 65536 + c * 4096 + i) _ _ _ _ (by omega) ?_ ?_
      · simp [isOk, hkk, kOk, reg, encV, immOk]; omega
      · simp [isOk, hkk, kOk, reg, immOk]
    · rw [decI_of n a 0 0 s2 ((hop [rP 0, .imm (-524288) 20] (by unfold opsOf; rw [hkk]; rfl)).trans (by simp [dcf, Opd.rd, Opd.lo, Opd.from, Opd.bits, Opd.plc, putF, rP, e3, e7]; omega)), e1]
      refine dec_join n 36 a 0 0 s2 _ _ _ _ (by omega) ?_ ?_
      · simp [isOk, hkk, kOk, reg, encV, immOk]; omega
      · simp [isOk, hkk, kOk, reg, immOk]
  · have n20 : ¬ o = 20 := fun h => by have := h20 h; omega
    have n36 : ¬ o = 36 := fun h => by have := h36 h; omega
    clear hS2 h4 e2 h20 h36
    rw [decI_of n a 0 0 s ((hop [rP 0, .imm (-2048) 12] (by unfold opsOf; rw [hkk]; rfl)).trans (by simp [dcf, Opd.rd, Opd.lo, Opd.from, Opd.bits, Opd.plc, putF, rP, e3, e6]; omega)), e1]
    refine dec_join n o a 0 0 s _ _ _ _ (by omega) ?_ ?_
    · simp [isOk, hkk, kOk, reg, encV, immOk, n20, n36]; omega
    · simp [isOk, hkk, kOk, reg, immOk, n20, n36]; omega
  · have n20 : ¬ o = 20 := fun h => by have := h20 h; omega
    have n36 : ¬ o = 36 := fun h => by have := h36 h; omega
    clear hS2 h4 e2 h20 h36
    rw [decI_of n 0 0 0 s ((hop [.imm (-2048) 12] (by unfold opsOf; rw [hkk]; rfl)).trans (by simp [dcf, Opd.rd, Opd.lo, Opd.from, Opd.bits, Opd.plc, putF, e6]; omega)), e1]
    refine dec_join n o 0 0 0 s _ _ _ _ (by omega) ?_ ?_
    · simp [isOk, hkk, kOk, reg, encV, immOk, n20, n36]; omega
    · simp [isOk, hkk, kOk, reg, immOk, n20, n36]; omega
  · clear hS2 h4 e2 h20 h36
    rw [decI_of n 0 0 0 0 (hop [] (by unfold opsOf; rw [hkk]; rfl)), e1]
    refine dec_join n o 0 0 0 0 _ _ _ _ (by omega) ?_ ?_
    · simp [isOk, hkk, kOk, reg, encV]; omega
    · simp [isOk, hkk, kOk, reg]; omega
  · have n20 : ¬ o = 20 := fun h => by have := h20 h; omega
    have n36 : ¬ o = 36 := fun h => by have := h36 h; omega
    clear hS2 h4 e2 h20 h36
    rw [decI_of n a b 0 s ((hop [rP 0, rP 1, .imm (-2048) 12] (by unfold opsOf; rw [hkk]; rfl)).trans (by simp [dcf, Opd.rd, Opd.lo, Opd.from, Opd.bits, Opd.plc, putF, rP, e3, e4, e6]; omega)), e1]
    refine dec_join n o a b 0 s _ _ _ _ (by omega) ?_ ?_
    · simp [isOk, hkk, kOk, reg, encV, immOk, n20, n36]; omega
    · simp [isOk, hkk, kOk, reg, immOk, n20, n36]; omega

theorem wrapped_any (v a b : Int) (w : World) (h0 : 0 ≤ v) (h1 : v < 4294967296) (h2 : a ≤ 0) (h3 : -4294967296 ≤ a) (h4 : 1 ≤ b) (h5 : b ≤ 32) :
    Calls Tryz.prog 29 #[.int .i64 v, .int .i64 a, .int .i64 b] w fun e w' => e = .returned (.int .i64 (a + (v - a) % 2 ^ b.toNat)) ∧ w' = w := by
  have hl := and_low (v - a) b.toNat (by omega) (by omega) (by omega)
  obtain ⟨p1, p2⟩ := pow_b b (by omega) (by omega)
  have p3 := Int.emod_nonneg (v - a) (show (2 : Int) ^ b.toNat ≠ 0 by omega)
  have p4 := Int.emod_lt_of_pos (v - a) (show 0 < (2 : Int) ^ b.toNat by omega)
  go_enter Tryz.func29, Tryz.ntmps29
  go_wp2_with (go_at_call 47; refine (lowBits_any _ _ (by omega) (by omega)).mono ?_; rintro e u ⟨rfl, hu⟩; rw [hu]; clear hu u)
  go_ret
  exact ⟨rfl, rfl⟩
theorem boundsR (s n : Int) (l : ByteArray) (hf : (Opd.reg s l n).fit) (w : World) : Calls Tryz.prog 158 #[.agg #[.int .i64 s, .string l, .int .i64 n]] w fun e w' => e = .returned (.tuple #[.int .i64 (Opd.reg s l n).lo, .int .i64 (Opd.reg s l n).hi]) ∧ Below w.heap.size w w' := by
  simp only [Opd.fit] at hf
  exact regBounds s n l (by omega) (by omega) w
theorem boundsI (a b : Int) (hf : (Opd.imm a b).fit) (w : World) : Calls Tryz.prog 155 #[.agg #[.int .i64 a, .int .i64 b]] w fun e w' => e = .returned (.tuple #[.int .i64 (Opd.imm a b).lo, .int .i64 (Opd.imm a b).hi]) ∧ Below w.heap.size w w' := by
  obtain ⟨rfl, rfl⟩ | ⟨rfl, rfl⟩ | ⟨rfl, rfl⟩ := hf
  · exact immBounds12 _ (by omega) (by omega) w
  · exact immBounds20 _ (by omega) (by omega) w
  · exact immBounds20 _ (by omega) (by omega) w
theorem fieldF (o : Opd) (hf : o.fit) (n : Int) (w : World) : Calls Tryz.prog 30 #[.int .i64 n, .int .i64 o.from, .int .i64 o.bits] w fun e w' => e = .returned (.int .i64 (fz n o.from.toNat o.bits.toNat)) ∧ Below w.heap.size w w' := by
  obtain ⟨a, b, c⟩ := fit_bits hf
  refine (implField_yes _ _ _ _ (isFd_of hf) a b c).mono ?_
  rintro e u ⟨rfl, q, rfl⟩
  exact ⟨rfl, drewB _ _⟩
theorem fz_lt (o : Opd) (hf : o.fit) (n : Int) : 0 ≤ fz n o.from.toNat o.bits.toNat ∧ fz n o.from.toNat o.bits.toNat < 4294967296 := by
  obtain ⟨h0, h1⟩ := fz_b n o.from.toNat o.bits.toNat
  obtain ⟨a, b, c⟩ := fit_bits hf
  obtain ⟨p1, p2⟩ := pow_b o.bits (by omega) (by omega)
  omega
theorem fit_lo {o : Opd} (hf : o.fit) : o.lo ≤ 0 ∧ -4294967296 ≤ o.lo := by
  cases o with
  | reg s l n => simp [Opd.lo]
  | imm a b => simp only [Opd.fit] at hf; simp only [Opd.lo]; omega
theorem wrapF (o : Opd) (hf : o.fit) (n : Int) (w : World) : Calls Tryz.prog 29 #[.int .i64 (fz n o.from.toNat o.bits.toNat), .int .i64 o.lo, .int .i64 o.bits] w fun e w' => e = .returned (.int .i64 (o.rd n)) ∧ w' = w := by
  obtain ⟨a, b, c⟩ := fit_bits hf
  obtain ⟨h0, h1⟩ := fz_lt o hf n
  obtain ⟨h2, h3⟩ := fit_lo hf
  exact wrapped_any _ _ _ w h0 h1 h2 h3 b (by omega)

/-- What the loop keeps. -/
structure PD (w wr : World) (n : Int) (l : List Opd) (v : Value) (j : Nat) : Prop where
  res : wr.heap[w.heap.size]? = some (.cells #[.bool false, .int .i64 0, .int .i64 0, .int .i64 0, .int .i64 0, .int .i64 0] 29 (0, 0))
  ins : InsAt wr (w.heap.size + 1) (n / 16777216) (dcf (l.take j) n (0, 0, 0, 0))
  own : wr.ownsRow (w.heap.size + 2) 51 1 v l.length (l.map Opd.val)
  bel : Below w.heap.size w wr
  two : w.heap.size + 1 < wr.heap.size
theorem PD.step {w wr u : World} {n : Int} {l : List Opd} {v : Value} {j : Nat} (h : PD w wr n l v j) (hu : Below wr.heap.size wr u) : PD w u n l v j :=
  ⟨(hu.block _ (by have := h.two; omega)).trans h.res, h.ins.below hu h.two, own_belowB h.own hu, h.bel.trans (hu.mono (by have := h.two; omega)), by have := h.two; have := hu.size; omega⟩
theorem PD.next {w wr : World} {n : Int} {l : List Opd} {v : Value} {j : Nat} (h : PD w wr n l v j) (hj : j < l.length) (p : Nat) (hp : l[j].plc = p) (y : Int) (hy : l[j].rd n = y) :
    PD w (wr.setCell ⟨w.heap.size + 1, p, none⟩ (.int .i64 y)) n l v (j + 1) := by
  subst hp hy
  refine ⟨(Below.heap_setCell _ _ _ _ (by simp)).trans h.res, ?_, ownsRow_setCell_below h.own (by simp) _, h.bel.setCell (by simp) _, by have := h.two; simpa using this⟩
  rw [dcf_succ l n _ j hj]
  exact h.ins.put _ (plc_b _).1 (plc_b _).2 _

theorem res_cells {wr : World} {b : Nat} (h : wr.heap[b]? = some (.cells #[.bool false, .int .i64 0, .int .i64 0, .int .i64 0, .int .i64 0, .int .i64 0] 29 (0, 0))) :
    wr.cell? ⟨b, 0, none⟩ = some (.bool false) ∧ wr.cell? ⟨b, 1, none⟩ = some (.int .i64 0) ∧ wr.cell? ⟨b, 2, none⟩ = some (.int .i64 0) ∧ wr.cell? ⟨b, 3, none⟩ = some (.int .i64 0) ∧ wr.cell? ⟨b, 4, none⟩ = some (.int .i64 0) ∧ wr.cell? ⟨b, 5, none⟩ = some (.int .i64 0) ∧
    (∀ k, wr.frozen? ⟨b, k, none⟩ = false) ∧ (∀ k, k < 6 → ∃ x, wr.cell? ⟨b, k, none⟩ = some x) := by
  refine ⟨by simp [World.cell?, h], by simp [World.cell?, h], by simp [World.cell?, h], by simp [World.cell?, h], by simp [World.cell?, h], by simp [World.cell?, h], fun k => by simp [World.frozen?, h], fun k hk => ?_⟩
  obtain rfl | rfl | rfl | rfl | rfl | rfl : k = 0 ∨ k = 1 ∨ k = 2 ∨ k = 3 ∨ k = 4 ∨ k = 5 := by omega
  all_goals simp [World.cell?, h]
set_option maxRecDepth 100000 in
set_option maxHeartbeats 8000000 in
theorem implDecode_any (n : Int) (w : World) (hn : Names w) (hw : 0 < w.heap.size) (h0 : -9223372036854775808 ≤ n) (h1 : n ≤ 9223372036854775807) :
    Calls Tryz.prog 9 #[.int .i64 n] w fun e w' => e = .returned (decV n) ∧ Below w.heap.size w w' := by
  have HN : Hid (Names w) := hn
  clear hn
  rw [← decI_eq]
  have hD := decI_of n
  have hfit := opsOf_fit (n / 16777216)
  have hlen := opsOf_len (n / 16777216)
  have hops := fun w => operandsOf_any (n / 16777216) w (by omega) (by omega)
  unfold OpR at hops
  generalize opsOf (n / 16777216) = l at *
  have HF : Hid (∀ o ∈ l, o.fit) := hfit
  have HD : Hid (∀ (a b c i : Int), dcf l n (0, 0, 0, 0) = (a, b, c, i) → decI n = if n < 0 ∨ encV (n / 16777216) a b c i ≠ n then rdV false 0 0 0 0 0 else rdV true (n / 16777216) a b c i) := hD
  generalize decI n = r at *
  clear hfit hD
  go_enter Tryz.func9, Tryz.ntmps9
  go_wp2_with (first | (go_at_call 23; refine Calls.mono (hops _) ?_; rintro e u2 ⟨v, rfl, hown, hw2⟩; obtain ⟨p, cap, rfl⟩ := slice_any hown))
  have hpf : PD w u2 n l (.slice p l.length cap) 0 := by
    refine ⟨?_, InsAt.below (B := w.heap.size + 2) ?_ (hw2.mono (by simp)) (by omega), ?_, ?_, ?_⟩
    · exact (hw2.block _ (by simp; omega)).trans ((Below.heap_alloc _ _ _ (by simp)).trans (heap_new _ _))
    · exact (congrArg (fun k => (World.heap _)[k]?) (by simp)).trans (heap_new (w.alloc _) _)
    · simpa using hown
    · exact ((Below.refl _ _).alloc (Nat.le_refl _) _ |>.alloc (by simp) _).trans (hw2.mono (by simp; omega))
    · have := hw2.size; simp at this; omega
  clear hw2 hown hops
  go_loopw [17] (fun i wr => ∃ j : Nat, j ≤ l.length ∧ i = .int .i64 j ∧ PD w wr n l (.slice p l.length cap) j) (fun i _ => l.length - (intOf i).toNat)
  case atStart => exact ⟨0, Nat.zero_le _, rfl, hpf⟩
  case round =>
    obtain ⟨j, hj, rfl, hp⟩ := hrel
    clear hpf
    by_cases hjl : j < l.length
    · obtain ⟨g, cap', hpe, _, _⟩ := hp.own.form (by omega)
      cases hpe
      have hcell : wr.cell? ⟨g, j, none⟩ = some (l[j].val) := (hp.own.cellAt j (by omega)).trans (by simp [hjl])
      have hft := HF.out l[j] (List.getElem_mem hjl)
      have HP : Hid (PD w wr n l (.slice (some ⟨g, 0, none⟩) l.length cap) j) := hp
      clear hp
      generalize hol : l[j] = o at *
      have HO : Hid (l[j] = o) := hol
      clear hol
      cases o with
      | reg s lt n =>
        have hm := mPlaceR s n lt
        have hm2 := mFieldR s n lt
        have hm3 := mBoundsR s n lt
        unfold Opd.val at hcell
        go_wp2_with (first | (go_at_call 159; refine (fieldR _ _ _ hft _).mono ?_; rintro e u3 ⟨rfl, hu3⟩; replace HP : Hid _ := HP.out.step hu3) | (go_at_call 158; refine (boundsR _ _ _ hft _).mono ?_; rintro e u4 ⟨rfl, hu4⟩; replace HP : Hid _ := HP.out.step hu4) | (go_at_call 160; refine (regPlace _ _ _ _ _).mono ?_; rintro e u5 ⟨rfl, hu5⟩; replace HP : Hid _ := HP.out.step hu5) | (go_at_call 30; refine (fieldF (.reg s lt n) hft _ _).mono ?_; rintro e u6 ⟨rfl, hu6⟩; replace HP := HP.out.step hu6; have hC := HP.ins.cell _ (plc_b (.reg s lt n)).1 (plc_b _).2; have hZ := HP.ins.fz ((Opd.reg s lt n).plc); replace HP : Hid _ := HP) | (go_at_call 29; refine (wrapF (.reg s lt n) hft _ _).mono ?_; rintro e u7 ⟨rfl, hu7⟩; rw [hu7]; clear hu7 u7))
        go_roundw
        case rel => exact ⟨j + 1, by omega, by go_num, HP.out.next hjl _ (by rw [HO.out]) _ (by rw [HO.out])⟩
        case measure => simp [intOf]; omega
      | imm la lb =>
        have hm := mPlaceI la lb
        have hm2 := mFieldI la lb
        have hm3 := mBoundsI la lb
        unfold Opd.val at hcell
        go_wp2_with (first | (go_at_call 156; refine (fieldI _ _ _).mono ?_; rintro e u3 ⟨rfl, hu3⟩; replace HP : Hid _ := HP.out.step hu3) | (go_at_call 155; refine (boundsI _ _ hft _).mono ?_; rintro e u4 ⟨rfl, hu4⟩; replace HP : Hid _ := HP.out.step hu4) | (go_at_call 157; refine (immPlace _ _ _ _).mono ?_; rintro e u5 ⟨rfl, hu5⟩; replace HP : Hid _ := HP.out.step hu5) | (go_at_call 30; refine (fieldF (.imm la lb) hft _ _).mono ?_; rintro e u6 ⟨rfl, hu6⟩; replace HP := HP.out.step hu6; have hC := HP.ins.cell 4 (by omega) (by omega); have hZ := HP.ins.fz (4); replace HP : Hid _ := HP) | (go_at_call 29; refine (wrapF (.imm la lb) hft _ _).mono ?_; rintro e u7 ⟨rfl, hu7⟩; rw [hu7]; clear hu7 u7))
        go_roundw
        case rel => exact ⟨j + 1, by omega, by go_num, HP.out.next hjl _ (by rw [HO.out]; rfl) _ (by rw [HO.out])⟩
        case measure => simp [intOf]; omega
    · obtain rfl : j = l.length := by omega
      have hq := hp.ins
      rw [List.take_length] at hq
      have hD := HD.out
      generalize dcf l n (0, 0, 0, 0) = q at *
      obtain ⟨qa, qb, qc, qi⟩ := q
      have hr := hD _ _ _ _ rfl
      clear hD HD
      have d0 := hq.op
      have d1 := hq.cell 1 (by omega) (by omega)
      have d2 := hq.cell 2 (by omega) (by omega)
      have d3 := hq.cell 3 (by omega) (by omega)
      have d4 := hq.cell 4 (by omega) (by omega)
      simp [fld] at d1 d2 d3 d4
      by_cases hneg : n < 0
      · rw [if_pos (.inl hneg)] at hr
        subst hr
        obtain ⟨r0, r1, r2, r3, r4, r5, hZ, hx⟩ := res_cells hp.res
        have HB : Hid (Below w.heap.size w wr) := hp.bel
        clear hp hq
        go_wp2
        generalize hU : (((((wr.setCell _ _).setCell _ _).setCell _ _).setCell _ _).setCell _ _).setCell _ _ = U
        obtain ⟨f0, f1, f2, f3, f4, f5⟩ := six _ _ _ _ _ _ hx hU
        refine bodyPost_ret (v := rdV false 0 0 0 0 0) (by simp [results, Tryz.results9, go_sem, rdV, f0, f1, f2, f3, f4, f5]) rfl ⟨rfl, ?_⟩
        rw [← hU]
        iterate 6 (refine Below.setCell ?_ (by simp) _)
        exact HB.out
      · have HP : Hid (PD w wr n l (.slice p l.length cap) l.length) := hp
        have HQ : Hid (InsAt wr (w.heap.size + 1) (n / 16777216) (qa, qb, qc, qi)) := hq
        clear hp hq
        have hb0 : -9223372036854775808 ≤ n / 16777216 := by omega
        have hb1 : n / 16777216 ≤ 9223372036854775807 := by omega
        by_cases heq : encV (n / 16777216) qa qb qc qi = n
        · rw [if_neg (not_or.2 ⟨hneg, fun h => h heq⟩)] at hr
          subst hr
          have HE : Hid (encV (n / 16777216) qa qb qc qi = n) := heq
          clear heq
          generalize hop : n / 16777216 = op at *
          have HO : Hid (n / 16777216 = op) := hop
          clear hop
          go_wp2_with (go_at_call 7; refine (implEncode_any op qa qb qc qi _ (HN.out.below HP.out.bel hw) (by have := HP.out.two; omega) hb0 hb1).mono ?_; rintro e u6 ⟨rfl, hu6⟩; rw [HE.out]; replace HQ := HQ.out.below hu6 HP.out.two; replace HP := HP.out.step hu6; obtain ⟨r0, r1, r2, r3, r4, r5, hZ, hx⟩ := res_cells HP.res; have g0 := HQ.op; have g1 := HQ.cell 1 (by omega) (by omega); have g2 := HQ.cell 2 (by omega) (by omega); have g3 := HQ.cell 3 (by omega) (by omega); have g4 := HQ.cell 4 (by omega) (by omega); simp [fld] at g1 g2 g3 g4; have HB : Hid _ := HP.bel; clear HP HQ)
          generalize hU : (((((u6.setCell _ _).setCell _ _).setCell _ _).setCell _ _).setCell _ _).setCell _ _ = U
          obtain ⟨f0, f1, f2, f3, f4, f5⟩ := six _ _ _ _ _ _ hx hU
          refine bodyPost_ret (v := rdV true op qa qb qc qi) (by simp [results, Tryz.results9, go_sem, rdV, f0, f1, f2, f3, f4, f5]) rfl ⟨by rw [HO.out], ?_⟩
          rw [← hU]
          iterate 6 (refine Below.setCell ?_ (by simp) _)
          exact HB.out
        · rw [if_pos (.inr heq)] at hr
          subst hr
          generalize n / 16777216 = op at *
          go_wp2_with (go_at_call 7; refine (implEncode_any op qa qb qc qi _ (HN.out.below HP.out.bel hw) (by have := HP.out.two; omega) hb0 hb1).mono ?_; rintro e u6 ⟨rfl, hu6⟩; replace HQ := HQ.out.below hu6 HP.out.two; replace HP := HP.out.step hu6; obtain ⟨r0, r1, r2, r3, r4, r5, hZ, hx⟩ := res_cells HP.res; have g0 := HQ.op; have g1 := HQ.cell 1 (by omega) (by omega); have g2 := HQ.cell 2 (by omega) (by omega); have g3 := HQ.cell 3 (by omega) (by omega); have g4 := HQ.cell 4 (by omega) (by omega); simp [fld] at g1 g2 g3 g4; have HB : Hid _ := HP.bel; clear HP HQ)
          generalize hU : (((((u6.setCell _ _).setCell _ _).setCell _ _).setCell _ _).setCell _ _).setCell _ _ = U
          obtain ⟨f0, f1, f2, f3, f4, f5⟩ := six _ _ _ _ _ _ hx hU
          refine bodyPost_ret (v := rdV false 0 0 0 0 0) (by simp [results, Tryz.results9, go_sem, rdV, f0, f1, f2, f3, f4, f5]) rfl ⟨rfl, ?_⟩
          rw [← hU]
          iterate 6 (refine Below.setCell ?_ (by simp) _)
          exact HB.out
end Go.Proofs.YtohmejfpebjlaaaGreatDoor
