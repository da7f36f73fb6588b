import Derived.Test.YtniaohflkopncaaSk6
import Derived.Laws.AppendOwn
import Derived.Laws.DeepStrings4
import Derived.Laws.BitsAllLaws
import Derived.Test.YtniaohflkopncaaMFa
import Derived.Test.YtniaohflkopncaaHl
import Derived.Test.YtniaohflkopncaaBx
namespace Go.Proofs.Ytniaohflkopncaa
open Go.ChangeShapes Go.WideShapes Go.ChangeAt Go.RowKit

theorem new_cellsB (w : World) (xs : List Value) (t : TypeId) : ∀ j u, xs[j]? = some u → (w.alloc (.cells xs.toArray t)).cell? ((⟨w.heap.size, 0, none⟩ : Addr).add j) = some u := by
  intro j u hu
  have hadd : (⟨w.heap.size, 0, none⟩ : Addr).add j = ⟨w.heap.size, j, none⟩ := by unfold Addr.add; split <;> simp_all
  rw [hadd, cell_of_row _ _ _ _ _ _ (heap_new w (.cells xs.toArray t))]
  simpa using hu
set_option maxRecDepth 100000 in
set_option maxHeartbeats 400000 in
theorem joinedB_any (b n cap : Nat) (ps : List ByteArray) (w : World) (hn : ps.length = n) (hb : b < w.heap.size) (hc : ∀ i, i < n → w.cell? ⟨b, i, none⟩ = some (.string (ps.getD i ByteArray.empty)))
    (hN : n ≤ 1048576) (hsz : (catB ps).length ≤ 1099511627776) :
    Calls Try.prog 137 #[.slice (some ⟨b, 0, none⟩) n cap] w fun e w' => e = .returned (.string ⟨(catB ps).toArray⟩) ∧ Below w.heap.size w w' := by
  obtain ⟨i0, hi, hz0, hz1, hz2⟩ := info_parts Try.info5
  go_enter Try.func137, Try.ntmps137
  go_wp2
  go_loopw [3, 8] (fun v i wr => ∃ k : Nat, k ≤ n ∧ i = .int .i64 k ∧ wr.ownsRow w.heap.size 5 1 v (catB (ps.take k)).length (cells8 (catB (ps.take k))) ∧ Below w.heap.size w wr) (fun _ i _ => n - (intOf i).toNat)
  case atStart => exact ⟨0, Nat.zero_le _, rfl, World.ownsRow_nil _ _ _ _, Below.refl _ _⟩
  case round =>
    obtain ⟨k, hk, rfl, hown, hbl⟩ := hrel
    by_cases hlt : k < n
    · have hcx : wr.cell? ⟨b, k, none⟩ = some (.string (ps.getD k ByteArray.empty)) := (hbl.cell (p := ⟨b, k, none⟩) hb).trans (hc k hlt)
      have hle := catB_le ps (k + 1)
      have hsu := catB_succ ps k (by omega)
      have hlen : (catB (ps.take (k + 1))).length = (catB (ps.take k)).length + (ps.getD k ByteArray.empty).size := by rw [hsu, List.length_append]; rfl
      have HS : Hid (catB (ps.take (k + 1)) = catB (ps.take k) ++ (ps.getD k ByteArray.empty).data.toList) := hsu
      have HL : Hid ((catB (ps.take (k + 1))).length = (catB (ps.take k)).length + (ps.getD k ByteArray.empty).size) := hlen
      have hbd : (catB (ps.take k)).length + (ps.getD k ByteArray.empty).size ≤ 1099511627776 := by omega
      clear hle hsu hlen
      generalize ps.getD k ByteArray.empty = p at *
      go_wp2_with (at_builtin; refine Lib.wpList_append_own_string _ rfl _ _ 22 9 rfl w.heap.size 5 i0 Try.underlying22 Try.underlying9 hi hz0 hz1 hz2 _ _ _ rfl hown p rfl (by unfold maxLen; omega) (by omega) hbl.size ?_)
      intro v' w1 hown' hgrow _
      go_wp2
      refine ⟨⟨k + 1, by omega, by go_num, own_cast hown' HL.out.symm (by rw [HS.out, cells8_app]; rfl), hbl.grown hgrow hbl.size (fun j hj => (hown.lt j hj).1)⟩, by simp [intOf]; omega⟩
    · obtain rfl : k = n := by omega
      have hcv := conv_own wr _ _ _ _ hown
      go_wp2
      go_ret
      exact ⟨by rw [List.take_of_length_le (by omega)]; rfl, hbl⟩
set_option maxRecDepth 100000 in
theorem joinedB_nil (w : World) : Calls Try.prog 137 #[.slice none 0 0] w fun e w' => e = .returned (.string ⟨#[]⟩) ∧ Below w.heap.size w w' := by
  go_enter Try.func137, Try.ntmps137
  go_wp2
  go_loopw [3, 8] (fun v i wr => v = .slice none 0 0 ∧ i = .int .i64 0 ∧ wr = w) (fun _ _ _ => 0)
  case atStart => exact ⟨rfl, rfl, rfl⟩
  case round =>
    obtain ⟨rfl, rfl, rfl⟩ := hrel
    have hcv := conv_own wr 0 _ 0 [] (World.ownsRow_nil _ _ _ _)
    go_wp2
    go_ret
    exact ⟨rfl, Below.refl _ _⟩
theorem joinedB_row {w : World} {v : Value} {B : Nat} {ps : List ByteArray} (h : w.ownsRow B 9 1 v ps.length (sR ps)) (hn : ps.length ≤ 1048576) (hsz : (catB ps).length ≤ 1099511627776) :
    Calls Try.prog 137 #[v] w fun e w' => e = .returned (.string (⟨(catB ps).toArray⟩)) ∧ Below w.heap.size w w' := by
  rcases h.2 with ⟨hv, e⟩ | ⟨g, cap, cur, hv, h1, h2, _⟩
  · subst hv
    have : ps = [] := List.eq_nil_of_length_eq_zero e
    subst this
    exact joinedB_nil w
  · subst hv
    refine joinedB_any g ps.length cap ps w rfl (Array.getElem?_eq_some_iff.1 h2).1 (fun i hi => ?_) hn hsz
    rw [h.cellAt i (by omega)]
    simp [sR, List.getElem?_eq_getElem hi]
theorem slTwo (s : ByteArray) (a b : Nat) (x y : Int) (hx : x = a) (hy : y = b) (h : a ≤ b) (h2 : b ≤ s.size) (w : World) : Sem.run Try.prog (Instr.slice 9 (.string s) (some (.int .i64 x)) (some (.int .i64 y)) none) w = .ok (.string (s.extract a b)) w := by
  subst hx
  subst hy
  rw [run_slice_string_if _ _ _ _ _ _ _ Try.underlying9, if_pos (by omega), if_pos (by omega)]
  rfl
/-- A cluster of a disk under its number, and the first k of them. -/
def clV (m d : ByteArray) (i : Nat) : ByteArray := crV m i (d.extract (i * 16) ((i + 1) * 16))
def cdL (m d : ByteArray) (k : Nat) : List ByteArray := (List.range k).map (clV m d)
theorem cdL_len (m d : ByteArray) (k : Nat) : (cdL m d k).length = k := by simp [cdL]
theorem cdL_succ (m d : ByteArray) (k : Nat) : cdL m d (k + 1) = cdL m d k ++ [clV m d k] := by simp [cdL, List.range_succ]
theorem clV_size (m d : ByteArray) (i : Nat) (h : (i + 1) * 16 ≤ d.size) : (clV m d i).size = 16 := by
  unfold clV crV
  show (crK _ _ _).toArray.size = 16
  rw [List.size_toArray, crK_len]
  simp
  omega
theorem catS (ps : List ByteArray) (p : ByteArray) : catB (ps ++ [p]) = catB ps ++ p.data.toList := by simp [catB]
theorem txadd (l : List UInt8) (p : ByteArray) : (⟨l.toArray⟩ : ByteArray) ++ p = ⟨(l ++ p.data.toList).toArray⟩ := by
  apply ByteArray.ext
  simp
theorem cdL_size (m d : ByteArray) : ∀ k, k * 16 ≤ d.size → (catB (cdL m d k)).length = 16 * k
  | 0, _ => rfl
  | k + 1, h => by
    have h2 : (clV m d k).data.toList.length = 16 := by
      have := clV_size m d k h
      simpa using this
    rw [cdL_succ, catS, List.length_append, cdL_size m d k (by omega), h2]
    omega
def cdB (m d : ByteArray) : Bool := !ovB m && decide (d.size ≤ 65536) && decide (d.size % 16 = 0)
def cdT (m d : ByteArray) (k : Nat) : ByteArray := ⟨(catB (cdL m d k)).toArray⟩
def cdV (m d : ByteArray) : ByteArray := if cdB m d = true then cdT m d (d.size / 16) else ⟨#[]⟩
theorem cdB_b {m d : ByteArray} (h : cdB m d = true) : ovB m = false ∧ d.size ≤ 65536 ∧ d.size % 16 = 0 := by
  simpa [cdB, and_assoc] using h
theorem cdT_succ (m d : ByteArray) (k : Nat) : cdT m d (k + 1) = cdT m d k ++ clV m d k := by
  unfold cdT
  rw [cdL_succ, catS, txadd]
theorem cdT_size (m d : ByteArray) (k : Nat) (h : k * 16 ≤ d.size) : (cdT m d k).size = 16 * k := by
  show (catB (cdL m d k)).toArray.size = 16 * k
  rw [List.size_toArray, cdL_size m d k h]
theorem cdB_no {m d : ByteArray} (h : cdB m d = false) : ovB m = true ∨ ovB m = false ∧ 65536 < d.size ∨ ovB m = false ∧ d.size ≤ 65536 ∧ d.size % 16 ≠ 0 := by
  cases h1 : ovB m
  · by_cases h2 : d.size ≤ 65536
    · by_cases h3 : d.size % 16 = 0
      · simp [cdB, h1, h2, h3] at h
      · exact .inr (.inr ⟨rfl, h2, h3⟩)
    · exact .inr (.inl ⟨rfl, by omega⟩)
  · exact .inl rfl

theorem cx_nat (b : UInt8) (Y : Int) (p : Nat) : (cx b Y p).toNat = b.toNat ^^^ (Y / 2 ^ (8 * p) % 256).toNat := by
  have hb := b.toNat_lt
  have h0 : 0 ≤ Y / 2 ^ (8 * p) % 256 := by omega
  have h1 : Y / 2 ^ (8 * p) % 256 < 256 := by omega
  unfold cx
  generalize Y / 2 ^ (8 * p) % 256 = t at *
  obtain ⟨T, rfl⟩ := Int.eq_ofNat_of_zero_le h0
  have h2 : bits .xor .u8 (b.toNat : Int) (T : Int) = ((b.toNat ^^^ T : Nat) : Int) := u8_xor_nat b.toNat T (by omega) (by omega)
  have h3 : b.toNat ^^^ T < 2 ^ 8 := Nat.xor_lt_two_pow (by omega) (by omega)
  rw [h2, Int.toNat_natCast, Int.toNat_natCast, UInt8.toNat_ofNat']
  omega
theorem cx_cx (b : UInt8) (Y : Int) (p : Nat) : cx (cx b Y p) Y p = b := by
  apply UInt8.toNat_inj.1
  rw [cx_nat, cx_nat, Nat.xor_assoc, Nat.xor_self, Nat.xor_zero]
theorem crK_at (x : Int) (d : List UInt8) : ∀ (k j : Nat), j < d.length → (crK x d k).getD j 0 = if j < k then cx (d.getD j 0) (stK x (j + 1)) (j % 3) else d.getD j 0
  | 0, j, _ => by rw [crK, if_neg (Nat.not_lt_zero _)]
  | k + 1, j, hj => by
    have ih := crK_at x d k j hj
    have hl := crK_len x d k
    rw [crK]
    by_cases e : j = k
    · subst e
      rw [if_neg (Nat.lt_irrefl _)] at ih
      rw [if_pos (by omega), List.getD_eq_getElem?_getD, List.getElem?_set_self (by omega), Option.getD_some, ih]
    · rw [List.getD_eq_getElem?_getD, List.getElem?_set_ne (by omega), ← List.getD_eq_getElem?_getD, ih]
      by_cases h2 : j < k
      · rw [if_pos h2, if_pos (by omega)]
      · rw [if_neg h2, if_neg (by omega)]
/-- All bytes of a list are crypted. -/
theorem crK_all (x : Int) (d : List UInt8) (j : Nat) (h : j < d.length) : (crK x d d.length)[j]'(by rw [crK_len]; exact h) = cx d[j] (stK x (j + 1)) (j % 3) := by
  have h1 := crK_at x d d.length j h
  rw [if_pos h, List.getD_eq_getElem?_getD, List.getD_eq_getElem?_getD, List.getElem?_eq_getElem (by rw [crK_len]; exact h), List.getElem?_eq_getElem h] at h1
  simpa using h1
theorem crK_twice (x : Int) (d : List UInt8) : crK x (crK x d d.length) d.length = d := by
  have hl := crK_len x d d.length
  apply List.ext_getElem
  · rw [crK_len, crK_len]
  · intro j h1 h2
    have h3 := crK_all x (crK x d d.length) j (by rw [hl]; exact h2)
    have h4 := crK_all x d j h2
    have e : crK x (crK x d d.length) (crK x d d.length).length = crK x (crK x d d.length) d.length := by rw [hl]
    have h5 : (crK x (crK x d d.length) d.length)[j] = (crK x (crK x d d.length) (crK x d d.length).length)[j]'(by rw [crK_len, hl]; exact h2) := by
      congr 1
      exact e.symm
    rw [h5, h3, h4, cx_cx]
theorem crV_list (s : ByteArray) (tw : Int) (d : ByteArray) : (crV s tw d).data.toList = crK (hdS s tw) d.data.toList d.data.toList.length := by
  show (crK (hdS s tw) d.data.toList d.size) = _
  rw [show d.data.toList.length = d.size by simp]
theorem ba_list {a b : ByteArray} (h : a.data.toList = b.data.toList) : a = b := by
  apply ByteArray.ext
  exact Array.toList_inj.1 h
theorem crV_twice (s : ByteArray) (tw : Int) (d : ByteArray) : crV s tw (crV s tw d) = d := by
  apply ba_list
  rw [crV_list, crV_list, crK_len]
  exact crK_twice _ _
theorem crV_cut (s : ByteArray) (tw : Int) (d : ByteArray) (n : Nat) (hn : n ≤ d.size) : crV s tw (d.extract 0 n) = (crV s tw d).extract 0 n := by
  apply ba_list
  have hl : d.data.toList.length = d.size := by simp
  have e1 : (d.extract 0 n).data.toList = d.data.toList.take n := by simp
  have e2 : ((crV s tw d).extract 0 n).data.toList = (crV s tw d).data.toList.take n := by simp
  rw [crV_list, e1, e2, crV_list]
  generalize d.data.toList = l at *
  generalize hdS s tw = x at *
  apply List.ext_getElem
  · rw [crK_len, List.length_take, List.length_take, crK_len]
  · intro j h1 h2
    have hj : j < l.length := by
      rw [crK_len, List.length_take] at h1
      omega
    rw [crK_all x (l.take n) j (by rw [List.length_take]; rw [crK_len, List.length_take] at h1; omega), List.getElem_take, List.getElem_take, crK_all x l j hj]
theorem cdT_piece (m d : ByteArray) : ∀ (T k : Nat), k < T → T * 16 ≤ d.size → (cdT m d T).extract (k * 16) ((k + 1) * 16) = clV m d k
  | 0, k, h, _ => absurd h (Nat.not_lt_zero _)
  | T + 1, k, h, hd => by
    have hs := cdT_size m d T (by omega)
    have hc := clV_size m d T (by omega)
    rw [cdT_succ]
    by_cases e : k = T
    · subst e
      exact ByteArray.extract_append_eq_right (by omega) (by omega)
    · rw [ByteArray.extract_append, cdT_piece m d T k (by omega) (by omega)]
      have : (clV m d T).extract (k * 16 - (cdT m d T).size) ((k + 1) * 16 - (cdT m d T).size) = ByteArray.empty := by
        rw [ByteArray.extract_eq_empty_iff]
        omega
      rw [this, ByteArray.append_empty]
theorem cdT_back (m d : ByteArray) (T : Nat) (hd : d.size = T * 16) : ∀ k, k ≤ T → cdT m (cdT m d T) k = d.extract 0 (k * 16)
  | 0, _ => by
    rw [Nat.zero_mul]
    show (⟨(catB []).toArray⟩ : ByteArray) = _
    simp [catB]
    rfl
  | k + 1, h => by
    rw [cdT_succ, cdT_back m d T hd k (by omega)]
    have h1 : clV m (cdT m d T) k = d.extract (k * 16) ((k + 1) * 16) := by
      rw [show clV m (cdT m d T) k = crV m k ((cdT m d T).extract (k * 16) ((k + 1) * 16)) from rfl, cdT_piece m d T k (by omega) (by omega)]
      exact crV_twice m k _
    rw [h1, ← ByteArray.extract_eq_extract_append_extract (k * 16) (by omega) (by omega)]
theorem cdV_twice (m d : ByteArray) (h : cdB m d = true) : cdV m (cdV m d) = d := by
  obtain ⟨h1, h2, h3⟩ := cdB_b h
  have e1 : cdV m d = cdT m d (d.size / 16) := by simp [cdV, h]
  have hs := cdT_size m d (d.size / 16) (by omega)
  have hc2 : cdB m (cdT m d (d.size / 16)) = true := by
    simp only [cdB, h1, Bool.not_false, Bool.true_and, Bool.and_eq_true, decide_eq_true_eq]
    omega
  have e2 : cdV m (cdT m d (d.size / 16)) = cdT m (cdT m d (d.size / 16)) ((cdT m d (d.size / 16)).size / 16) := by simp [cdV, hc2]
  rw [e1, e2, hs, show 16 * (d.size / 16) / 16 = d.size / 16 by omega, cdT_back m d (d.size / 16) (by omega) _ (Nat.le_refl _)]
  rw [show d.size / 16 * 16 = d.size by omega]
  exact ByteArray.extract_zero_size
theorem cryV_in {s : ByteArray} {tw : Int} {d : ByteArray} (h1 : s.size ≤ 4096) (h2 : d.size ≤ 65536) : cryV s tw d = crV s tw d := by
  unfold cryV
  rw [if_neg]
  simp [ovB]
  omega

/-- 1 to 8 words. -/
def rgB (zs : List Int) : Bool := decide (1 ≤ zs.length) && decide (zs.length ≤ 8) && zs.all isW
theorem rgB_b {zs : List Int} (h : rgB zs = true) : 1 ≤ zs.length ∧ zs.length ≤ 8 ∧ ∀ j (hj : j < zs.length), 0 ≤ zs[j] ∧ zs[j] < 4294967296 := by
  simp only [rgB, Bool.and_eq_true, decide_eq_true_eq, List.all_eq_true] at h
  refine ⟨h.1.1, h.1.2, fun j hj => ?_⟩
  have := h.2 _ (List.getElem_mem hj)
  simpa [isW] using this
theorem rgB_w (zs : List Int) (h : 1 ≤ zs.length) (h2 : zs.length ≤ 8) : rgB zs = wordsB zs zs.length := by
  unfold rgB wordsB
  simp [h, h2]
theorem rgB_no (zs : List Int) (h : ¬ (1 ≤ zs.length ∧ zs.length ≤ 8)) : rgB zs = false := by
  unfold rgB
  rcases Nat.lt_or_ge zs.length 1 with h1 | h1
  · rw [decide_eq_false (by omega)]
    rfl
  · rw [decide_eq_false (p := zs.length ≤ 8) (by omega)]
    simp

def mkB (zs : List Int) (m : Int) : Bool := rgB zs && decide (0 ≤ m) && decide (m < 2 ^ zs.length)
theorem pow_le8 : ∀ n : Nat, n ≤ 8 → (2 : Int) ^ n ≤ 256
  | 0, _ => by decide
  | 1, _ => by decide
  | 2, _ => by decide
  | 3, _ => by decide
  | 4, _ => by decide
  | 5, _ => by decide
  | 6, _ => by decide
  | 7, _ => by decide
  | 8, _ => by decide
  | n + 9, h => absurd h (by omega)
theorem w64pow (n : Nat) (h : n ≤ 8) : wrap64 (2 ^ n) = 2 ^ n := by
  have h1 := pow_le8 n h
  have h2 : (0 : Int) < 2 ^ n := Int.pow_pos (by omega)
  generalize (2 : Int) ^ n = x at *
  unfold wrap64
  omega
/-- The bit of a register in a mask. -/
def mkT (m : Int) (k : Nat) : Bool := bits .and .i64 (m / 2 ^ k) 1 == 1
/-- The key behind the first k registers. -/
def kyK (root : ByteArray) (zs : List Int) (m : Int) : Nat → ByteArray
  | 0 => root
  | k + 1 => if mkT m k = true then kyK root zs m k ++ pw k ++ pw (zs.getD k 0) else kyK root zs m k
theorem kyK_size (root : ByteArray) (zs : List Int) (m : Int) : ∀ k, (kyK root zs m k).size ≤ root.size + 8 * k
  | 0 => Nat.le_refl _
  | k + 1 => by
    have ih := kyK_size root zs m k
    rw [kyK]
    split
    · rw [ByteArray.size_append, ByteArray.size_append, pw_size, pw_size]
      omega
    · omega

theorem crV_size (s : ByteArray) (tw : Int) (d : ByteArray) : (crV s tw d).size = d.size := by
  show (crK (hdS s tw) d.data.toList d.size).toArray.size = d.size
  rw [List.size_toArray, crK_len]
  simp
def szC (root : ByteArray) (zs : List Int) (d : ByteArray) : Bool := decide (4032 < (root.size : Int)) || decide (1000 < (zs.length : Int)) || ovB d
def scC (root : ByteArray) (zs : List Int) (m : Int) (d : ByteArray) : Int := if szC root zs d = true then 2 else if mkB zs m = true then 0 else 1
theorem szC_no {root : ByteArray} {zs : List Int} {d : ByteArray} (h : szC root zs d = false) : decide (4032 < (root.size : Int)) = false ∧ decide (1000 < (zs.length : Int)) = false ∧ ovB d = false := by
  simpa [szC, and_assoc] using h
theorem mkB_b {zs : List Int} {m : Int} (h : mkB zs m = true) : rgB zs = true ∧ 0 ≤ m ∧ m < 2 ^ zs.length := by
  simpa [mkB, and_assoc] using h
/-- What is sealed: a code, the mask, the data, the tag. -/
structure SE where
  code : Int
  mask : Int
  data : ByteArray
  tag : ByteArray
def seA (x : SE) : Value := .agg #[.int .i64 x.code, .int .i64 x.mask, .string x.data, .string x.tag]
def seV (root : ByteArray) (zs : List Int) (m : Int) (d : ByteArray) : SE :=
  if scC root zs m d = 0 then ⟨0, m, crV (kyK root zs m zs.length) 1 d, tagV (kyK root zs m zs.length) (crV (kyK root zs m zs.length) 1 d)⟩ else ⟨scC root zs m d, 0, ⟨#[]⟩, ⟨#[]⟩⟩
theorem scC_ok {root : ByteArray} {zs : List Int} {m : Int} {d : ByteArray} (h : scC root zs m d = 0) : root.size ≤ 4032 ∧ zs.length ≤ 8 ∧ d.size ≤ 4096 ∧ rgB zs = true ∧ 0 ≤ m ∧ m < 2 ^ zs.length ∧ m < 256 ∧ mkB zs m = true ∧ szC root zs d = false := by
  unfold scC at h
  cases h1 : szC root zs d
  · rw [h1] at h
    cases h2 : mkB zs m
    · rw [h2] at h
      simp at h
    · obtain ⟨a, b, c⟩ := szC_no h1
      obtain ⟨p, q, r⟩ := mkB_b h2
      have a2 := of_decide_eq_false a
      obtain ⟨-, r2, -⟩ := rgB_b p
      have := pow_le8 _ r2
      exact ⟨by omega, r2, ovB_le c, p, q, r, by omega, rfl, rfl⟩
  · rw [h1] at h
    simp at h
theorem scC_is (root : ByteArray) (zs : List Int) (m : Int) (d : ByteArray) : scC root zs m d = 0 ∨ scC root zs m d = 1 ∨ scC root zs m d = 2 := by
  unfold scC
  split
  · exact .inr (.inr rfl)
  · split
    · exact .inl rfl
    · exact .inr (.inl rfl)
end Go.Proofs.Ytniaohflkopncaa
