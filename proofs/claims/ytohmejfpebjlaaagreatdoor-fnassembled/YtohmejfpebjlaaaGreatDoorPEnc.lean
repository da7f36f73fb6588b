import Derived.Test.YtohmejfpebjlaaaGreatDoorPFault
import Derived.Test.YtohmejfpebjlaaaGreatDoorSEnc
import Derived.Test.YtohmejfpebjlaaaGreatDoorImplF
namespace Go.Proofs.YtohmejfpebjlaaaGreatDoor
open Go.ChangeShapes Go.WideShapes Go.ChangeAt Go.RowKit

def Opd.from : Opd → Int
  | .reg s _ _ => 24 - 4 * (s + 1)
  | .imm _ _ => 0
def Opd.bits : Opd → Int
  | .reg _ _ _ => 4
  | .imm _ b => b
theorem fit_bits {o : Opd} (h : o.fit) : 0 ≤ o.from ∧ 1 ≤ o.bits ∧ o.bits ≤ 32 - o.from := by
  cases o with
  | reg s l n => simp only [Opd.fit] at h; simp only [Opd.from, Opd.bits]; omega
  | imm a b => simp only [Opd.fit] at h; simp only [Opd.from, Opd.bits]; omega
/-- The word behind some operands. -/
def wd (l : List Opd) (f : Int × Int × Int × Int) (x : Int) : Int := l.foldl (fun x o => wfl x o.from o.bits (fld o.plc f)) x
theorem wd_succ (l : List Opd) (f : Int × Int × Int × Int) (x : Int) (j : Nat) (h : j < l.length) : wd (l.take (j + 1)) f x = wfl (wd (l.take j) f x) l[j].from l[j].bits (fld l[j].plc f) := by
  unfold wd
  rw [List.take_succ_eq_append_getElem h, List.foldl_append]
  rfl
theorem wfl_20 (n v : Int) (h0 : 0 ≤ n) (h1 : n < 4294967296) (h2 : n % 16777216 = 0) (h3 : 0 ≤ v) (h4 : v ≤ 15) : wfl n 20 4 v = n + v * 1048576 := by
  unfold wfl
  simp only [show (20 : Int).toNat = 20 from rfl, show (4 : Int).toNat = 4 from rfl]
  omega
theorem wfl_16 (n v : Int) (h0 : 0 ≤ n) (h1 : n < 4294967296) (h2 : n % 1048576 = 0) (h3 : 0 ≤ v) (h4 : v ≤ 15) : wfl n 16 4 v = n + v * 65536 := by
  unfold wfl
  simp only [show (16 : Int).toNat = 16 from rfl, show (4 : Int).toNat = 4 from rfl]
  omega
theorem wfl_12 (n v : Int) (h0 : 0 ≤ n) (h1 : n < 4294967296) (h2 : n % 65536 = 0) (h3 : 0 ≤ v) (h4 : v ≤ 15) : wfl n 12 4 v = n + v * 4096 := by
  unfold wfl
  simp only [show (12 : Int).toNat = 12 from rfl, show (4 : Int).toNat = 4 from rfl]
  omega
theorem wfl_i12 (n v : Int) (h0 : 0 ≤ n) (h1 : n < 4294967296) (h2 : n % 4096 = 0) : wfl n 0 12 v = n + v % 4096 := by
  unfold wfl
  simp only [show (0 : Int).toNat = 0 from rfl, show (12 : Int).toNat = 12 from rfl]
  omega
theorem wfl_i20 (n v : Int) (h0 : 0 ≤ n) (h1 : n < 4294967296) (h2 : n % 1048576 = 0) : wfl n 0 20 v = n + v % 1048576 := by
  unfold wfl
  simp only [show (0 : Int).toNat = 0 from rfl, show (20 : Int).toNat = 20 from rfl]
  omega
theorem reg_f {n : Int} {v : Bool} (h : reg n false v = true) : n = 0 := by simpa [reg] using h
theorem wd_enc (op a b c imm : Int) (h : isOk op a b c imm = true) : wd (opsOf op) (a, b, c, imm) (op * 16777216) = encV op a b c imm := by
  obtain ⟨bo, ba, bb, bc, bi⟩ := isOk_b h
  obtain ⟨hk0, _⟩ := kOk_b h
  have hk := kd_lt op
  have hkd : kd op = kd2 op := by
    unfold kd at hk0 ⊢
    split at hk0
    · exact absurd rfl hk0
    · rw [if_neg (by assumption)]
  have h4 : kd op = 4 → op = 20 ∨ op = 36 := fun h5 => kd2_4 op (hkd.symm.trans h5)
  unfold encV
  rw [if_pos h]
  unfold isOk at h
  unfold opsOf
  clear hkd
  generalize kd op = k at *
  obtain rfl | rfl | rfl | rfl | rfl | rfl | rfl | rfl : k = 1 ∨ k = 2 ∨ k = 3 ∨ k = 4 ∨ k = 5 ∨ k = 6 ∨ k = 7 ∨ k = 8 := by omega
  case inr.inr.inr.inl =>
    rcases h4 rfl with rfl | rfl
    all_goals
      simp [wd, Opd.from, Opd.bits, Opd.plc, fld, rP]
      rw [wfl_20 _ _ (by omega) (by omega) (by omega) (by omega) (by omega), wfl_i20 _ _ (by omega) (by omega) (by omega)]
  all_goals
    simp [kOk, reg] at h
    simp [wd, Opd.from, Opd.bits, Opd.plc, fld, rP, vP]
    try rw [wfl_20 _ _ (by omega) (by omega) (by omega) (by omega) (by omega)]
    try rw [wfl_16 _ _ (by omega) (by omega) (by omega) (by omega) (by omega)]
    try rw [wfl_12 _ _ (by omega) (by omega) (by omega) (by omega) (by omega)]
    try rw [wfl_i12 _ _ (by omega) (by omega) (by omega)]
    try omega

theorem own_mono {w : World} {B B' e size n : Nat} {v : Value} {xs : List Value} (h : w.ownsRow B e size v n xs) (hB : B' ≤ B) : w.ownsRow B' e size v n xs := by
  obtain ⟨h1, h2 | ⟨g, cap, cur, h3, h4, h5⟩⟩ := h
  · exact ⟨h1, .inl h2⟩
  · exact ⟨h1, .inr ⟨g, cap, cur, h3, Nat.le_trans hB h4, h5⟩⟩
/-- What the loop keeps. -/
structure PE (w wr : World) (op : Int) (f : Int × Int × Int × Int) (l : List Opd) (v : Value) : Prop where
  ins : InsAt wr w.heap.size op f
  own : wr.ownsRow (w.heap.size + 1) 51 1 v l.length (l.map Opd.val)
  bel : Below w.heap.size w wr
  one : w.heap.size < wr.heap.size
theorem PE.step {w wr u : World} {op : Int} {f : Int × Int × Int × Int} {l : List Opd} {v : Value} (h : PE w wr op f l v) (hu : Below wr.heap.size wr u) : PE w u op f l v :=
  ⟨h.ins.below hu h.one, own_belowB h.own hu, h.bel.trans (hu.mono h.bel.size), Nat.lt_of_lt_of_le h.one hu.size⟩
theorem drewB (w : World) (q : Nat) : Below w.heap.size w (w.drewN q) := bdn (Below.refl _ _) q
theorem isFd_of {o : Opd} (h : o.fit) : isFd o.from o.bits = true := by
  have := fit_bits h
  simp only [isFd, decide_eq_true_eq]
  omega
theorem withF (o : Opd) (hf : o.fit) (x y : Int) (w : World) : Calls Tryz.prog 24 #[.int .i64 x, .int .i64 o.from, .int .i64 o.bits, .int .i64 y] w fun e w' => e = .returned (.int .i64 (wfl x o.from o.bits y)) ∧ Below w.heap.size w w' := by
  obtain ⟨a, b, c⟩ := fit_bits hf
  refine (implWithField_yes _ _ _ _ _ (isFd_of hf) a b c).mono ?_
  rintro e u ⟨rfl, q, rfl⟩
  exact ⟨rfl, drewB _ _⟩
theorem fieldR (s n : Int) (l : ByteArray) (hf : (Opd.reg s l n).fit) (w : World) : Calls Tryz.prog 159 #[.agg #[.int .i64 s, .string l, .int .i64 n]] w fun e w' => e = .returned (.tuple #[.int .i64 (Opd.reg s l n).from, .int .i64 (Opd.reg s l n).bits]) ∧ Below w.heap.size w w' := by
  simp only [Opd.fit] at hf
  exact regField s n l (by omega) (by omega) w
theorem fieldI (a b : Int) (w : World) : Calls Tryz.prog 156 #[.agg #[.int .i64 a, .int .i64 b]] w fun e w' => e = .returned (.tuple #[.int .i64 (Opd.imm a b).from, .int .i64 (Opd.imm a b).bits]) ∧ Below w.heap.size w w' := immField a b w

set_option maxRecDepth 100000 in
set_option maxHeartbeats 8000000 in
theorem implEncode_any (op a b c imm : Int) (w : World) (hn : Names w) (hw : 0 < w.heap.size) (h0 : -9223372036854775808 ≤ op) (h1 : op ≤ 9223372036854775807) :
    Calls Tryz.prog 7 #[ins op a b c imm] w fun e w' => e = .returned (.int .i64 (encV op a b c imm)) ∧ Below w.heap.size w w' := by
  have HN : Hid (Names w) := hn
  clear hn
  cases hok : isOk op a b c imm
  · rw [show encV op a b c imm = -1 from if_neg (by rw [hok]; decide)]
    unfold ins
    go_enter Tryz.func7, Tryz.ntmps7
    go_wp2_with (go_at_call 22; refine (implFault_any _ _ _ _ _ _ (HN.out.alloc _ hw) (by simp) (by omega) (by omega)).mono ?_; rintro e u1 ⟨rfl, hw1⟩; rw [hok])
    go_ret
    exact ⟨rfl, bstep (Below.refl _ _) _ hw1⟩
  · have hwd := wd_enc op a b c imm hok
    obtain ⟨bo, _⟩ := isOk_b hok
    have hfit := opsOf_fit op
    have hlen := opsOf_len op
    have hops := fun w => operandsOf_any op w h0 h1
    unfold OpR at hops
    generalize opsOf op = l at *
    have HF : Hid (∀ o ∈ l, o.fit) := hfit
    have HO : Hid (isOk op a b c imm = true) := hok
    generalize encV op a b c imm = r at *
    have HR : Hid (wd l (a, b, c, imm) (op * 16777216) = r) := hwd
    clear hfit hwd hok
    unfold ins
    go_enter Tryz.func7, Tryz.ntmps7
    go_wp2_with (first | (go_at_call 22; refine (implFault_any _ _ _ _ _ _ (HN.out.alloc _ hw) (by simp) (by omega) (by omega)).mono ?_; rintro e u1 ⟨rfl, hw1⟩; rw [HO.out]; have hia : InsAt u1 w.heap.size op (a, b, c, imm) := InsAt.below (B := w.heap.size + 1) (heap_new _ _) (hw1.mono (by simp)) (by omega); have hi0 := hia.op) | (go_at_call 23; refine Calls.mono (hops _) ?_; rintro e u2 ⟨v, rfl, hown, hw2⟩; obtain ⟨p, cap, rfl⟩ := slice_any hown))
    have hz : w.heap.size < u1.heap.size := by have := hw1.size; simp at this; omega
    have hpf : PE w u2 op (a, b, c, imm) l (.slice p l.length cap) :=
      ⟨hia.below hw2 hz, own_mono hown (by omega), (bstep (Below.refl _ _) _ hw1).trans (hw2.mono (by omega)), Nat.lt_of_lt_of_le hz hw2.size⟩
    clear hw1 hown hops hw2 hia hi0 hz
    go_loopw [3, 18] (fun x i wr => ∃ j : Nat, j ≤ l.length ∧ i = .int .i64 j ∧ x = .int .i64 (wd (l.take j) (a, b, c, imm) (op * 16777216)) ∧ PE w wr op (a, b, c, imm) l (.slice p l.length cap)) (fun _ i _ => l.length - (intOf i).toNat)
    case atStart => exact ⟨0, Nat.zero_le _, rfl, by simp [wd], hpf⟩
    case round =>
      obtain ⟨j, hj, rfl, rfl, hp⟩ := hrel
      clear hpf
      by_cases hjl : j < l.length
      · obtain ⟨g, cap', hpe, _, _⟩ := hp.own.form (by omega)
        cases hpe
        have hcell : wr.cell? ⟨g, j, none⟩ = some (l[j].val) := (hp.own.cellAt j (by omega)).trans (by simp [hjl])
        have hft := HF.out l[j] (List.getElem_mem hjl)
        have HP : Hid (PE w wr op (a, b, c, imm) l (.slice (some ⟨g, 0, none⟩) l.length cap)) := hp
        have HW : Hid (wd (l.take (j + 1)) (a, b, c, imm) (op * 16777216) = wfl (wd (l.take j) (a, b, c, imm) (op * 16777216)) l[j].from l[j].bits (fld l[j].plc (a, b, c, imm))) := wd_succ _ _ _ _ hjl
        clear hp
        generalize hol : l[j] = o at *
        clear hol
        generalize wd (l.take j) (a, b, c, imm) (op * 16777216) = y at *
        cases o with
        | reg s lt n =>
          have hm := mPlaceR s n lt
          have hm2 := mFieldR s n lt
          unfold Opd.val at hcell
          go_wp2_with (first | (go_at_call 159; refine (fieldR _ _ _ hft _).mono ?_; rintro e u3 ⟨rfl, hu3⟩; replace HP : Hid _ := HP.out.step hu3) | (go_at_call 160; refine (regPlace _ _ _ _ _).mono ?_; rintro e u4 ⟨rfl, hu4⟩; replace HP := HP.out.step hu4; have hC := HP.ins.cell _ (plc_b (.reg s lt n)).1 (plc_b _).2; replace HP : Hid _ := HP) | (go_at_call 24; refine (withF (.reg s lt n) hft _ _ _).mono ?_; rintro e u5 ⟨rfl, hu5⟩; replace HP : Hid _ := HP.out.step hu5))
          go_roundw
          case rel => exact ⟨j + 1, by omega, by go_num, by rw [HW.out], HP.out⟩
          case measure => simp [intOf]; omega
        | imm la lb =>
          have hm := mPlaceI la lb
          have hm2 := mFieldI la lb
          unfold Opd.val at hcell
          go_wp2_with (first | (go_at_call 156; refine (fieldI _ _ _).mono ?_; rintro e u3 ⟨rfl, hu3⟩; replace HP : Hid _ := HP.out.step hu3) | (go_at_call 157; refine (immPlace _ _ _ _).mono ?_; rintro e u4 ⟨rfl, hu4⟩; replace HP := HP.out.step hu4; have hC := HP.ins.cell 4 (by omega) (by omega); replace HP : Hid _ := HP) | (go_at_call 24; refine (withF (.imm la lb) hft _ _ _).mono ?_; rintro e u5 ⟨rfl, hu5⟩; replace HP : Hid _ := HP.out.step hu5))
          go_roundw
          case rel => exact ⟨j + 1, by omega, by go_num, by rw [HW.out]; rfl, HP.out⟩
          case measure => simp [intOf]; omega
      · obtain rfl : j = l.length := by omega
        have HB : Hid (Below w.heap.size w wr) := hp.bel
        clear hp
        rw [List.take_length, HR.out]
        go_wp2
        go_ret
        exact ⟨rfl, HB.out⟩
end Go.Proofs.YtohmejfpebjlaaaGreatDoor
