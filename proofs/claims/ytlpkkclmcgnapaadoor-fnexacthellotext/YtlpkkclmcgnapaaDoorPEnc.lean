import Derived.Test.YtlpkkclmcgnapaaDoorPFault
import Derived.Test.YtlpkkclmcgnapaaDoorSEnc
import Derived.Test.YtlpkkclmcgnapaaDoorImplF
namespace Go.Proofs.YtlpkkclmcgnapaaDoor
open Go.ChangeShapes Go.WideShapes Go.ChangeAt Go.RowKit

def Opd.from : Opd → Int
  | .reg s _ _ => 24 - 4 * (s + 1)
  | .imm _ _ => 0
def Opd.bits : Opd → Int
  | .reg _ _ _ => 4
  | .imm _ b => b
theorem fit_bits {o : Opd} (h : o.fit) : 0 ≤ o.from ∧ 1 ≤ o.bits ∧ o.bits ≤ 32 - o.from := by
  cases o with
  | reg s l n => simp only [Opd.fit] at h; simp only [Opd.from, Opd.bits]; omega
  | imm a b => simp only [Opd.fit] at h; simp only [Opd.from, Opd.bits]; omega
/-- The word behind some operands. -/
def wd (l : List Opd) (f : Int × Int × Int × Int) (x : Int) : Int := l.foldl (fun x o => wfl x o.from o.bits (fld o.plc f)) x
theorem wd_succ (l : List Opd) (f : Int × Int × Int × Int) (x : Int) (j : Nat) (h : j < l.length) : wd (l.take (j + 1)) f x = wfl (wd (l.take j) f x) l[j].from l[j].bits (fld l[j].plc f) := by
  unfold wd
  rw [List.take_succ_eq_append_getElem h, List.foldl_append]
  rfl
theorem wfl_20 (n v : Int) (h0 : 0 ≤ n) (h1 : n < 4294967296) (h2 : n % 16777216 = 0) (h3 : 0 ≤ v) (h4 : v ≤ 15) : wfl n 20 4 v = n + v * 1048576 := by
  unfold wfl
  simp only [show (20 : Int).toNat = 20 from rfl, show (4 : Int).toNat = 4 from rfl]
  omega
theorem wfl_16 (n v : Int) (h0 : 0 ≤ n) (h1 : n < 4294967296) (h2 : n % 1048576 = 0) (h3 : 0 ≤ v) (h4 : v ≤ 15) : wfl n 16 4 v = n + v * 65536 := by
  unfold wfl
  simp only [show (16 : Int).toNat = 16 from rfl, show (4 : Int).toNat = 4 from rfl]
  omega
theorem wfl_12 (n v : Int) (h0 : 0 ≤ n) (h1 : n < 4294967296) (h2 : n % 65536 = 0) (h3 : 0 ≤ v) (h4 : v ≤ 15) : wfl n 12 4 v = n + v * 4096 := by
  unfold wfl
  simp only [show (12 : Int).toNat = 12 from rfl, show (4 : Int).toNat = 4 from rfl]
  omega
theorem wfl_i12 (n v : Int) (h0 : 0 ≤ n) (h1 : n < 4294967296) (h2 : n % 4096 = 0) : wfl n 0 12 v = n + v % 4096 := by
  unfold wfl
  simp only [show (0 : Int).toNat = 0 from rfl, show (12 : Int).toNat = 12 from rfl]
  omega
theorem wfl_i20 (n v : Int) (h0 : 0 ≤ n) (h1 : n < 4294967296) (h2 : n % 1048576 = 0) : wfl n 0 20 v = n + v % 1048576 := by
  unfold wfl
  simp only [show (0 : Int).toNat = 0 from rfl, show (20 : Int).toNat = 20 from rfl]
  omega
theorem reg_f {n : Int} {v : Bool} (h : reg n false v = true) : n = 0 := by simpa [reg] using h
theorem wd_enc (op a b c imm : Int) (h : isOk op a b c imm = true) : wd (opsOf op) (a, b, c, imm) (op * 16777216) = encV op a b c imm := by
  obtain ⟨bo, ba, bb, bc, bi⟩ := isOk_b h
  obtain ⟨hk0, _⟩ := kOk_b h
  have hk := kd_lt op
  have hkd : kd op = kd2 op := by
    unfold kd at hk0 ⊢
    split at hk0
    · exact absurd rfl hk0
    · rw [if_neg (by assumption)]
  have h4 : kd op = 4 → op = 20 ∨ op = 36 := fun h5 => kd2_4 op (hkd.symm.trans h5)
  unfold encV
  rw [if_pos h]
  unfold isOk at h
  unfold opsOf
  clear hkd
  generalize kd op = k at *
  obtain rfl | rfl | rfl | rfl | rfl | rfl | rfl | rfl : k = 1 ∨ k = 2 ∨ k = 3 ∨ k = 4 ∨ k = 5 ∨ k = 6 ∨ k = 7 ∨ k = 8 := by omega
  case inr.inr.inr.inl =>
    rcases h4 rfl with rfl | rfl
    all_goals
      simp [wd, Opd.from, Opd.bits, Opd.plc, fld, rP]
      rw [wfl_20 _ _ (by omega) (by omega) (by omega) (by omega) (by omega), wfl_i20 _ _ (by omega) (by omega) (by omega)]
  all_goals
    simp [kOk, reg] at h
    simp [wd, Opd.from, Opd.bits, Opd.plc, fld, rP, vP]
    try rw [wfl_20 _ _ (by omega) (by omega) (by omega) (by omega) (by omega)]
    try rw [wfl_16 _ _ (by omega) (by omega) (by omega) (by omega) (by omega)]
    try rw [wfl_12 _ _ (by omega) (by omega) (by omega) (by omega) (by omega)]
    try rw [wfl_i12 _ _ (by omega) (by omega) (by omega)]
    try omega

theorem own_mono {w : World} {B B' e size n : Nat} {v : Value} {xs : List Value} (h : w.ownsRow B e size v n xs) (hB : B' ≤ B) : w.ownsRow B' e size v n xs := by
  obtain ⟨h1, h2 | ⟨g, cap, cur, h3, h4, h5⟩⟩ := h
  · exact ⟨h1, .inl h2⟩
  · exact ⟨h1, .inr ⟨g, cap, cur, h3, Nat.le_trans hB h4, h5⟩⟩
/-- What the loop keeps. -/
structure PE (w wr : World) (op : Int) (f : Int × Int × Int × Int) (l : List Opd) (v : Value) : Prop where
  ins : InsAt wr w.heap.size op f
  own : wr.ownsRow (w.heap.size + 1) 36 1 v l.length (l.map Opd.val)
  bel : Below w.heap.size w wr
  one : w.heap.size < wr.heap.size
theorem PE.step {w wr u : World} {op : Int} {f : Int × Int × Int × Int} {l : List Opd} {v : Value} (h : PE w wr op f l v) (hu : Below wr.heap.size wr u) : PE w u op f l v :=
  ⟨h.ins.below hu h.one, own_belowB h.own hu, h.bel.trans (hu.mono h.bel.size), Nat.lt_of_lt_of_le h.one hu.size⟩
theorem drewB (w : World) (q : Nat) : Below w.heap.size w (w.drewN q) := bdn (Below.refl _ _) q
theorem isFd_of {o : Opd} (h : o.fit) : isFd o.from o.bits = true := by
  have := fit_bits h
  simp only [isFd, decide_eq_true_eq]
  omega
end Go.Proofs.YtlpkkclmcgnapaaDoor
