import Derived.Test.YtniaohflkopncaaBytes
import Derived.Laws.BitsAllLaws
import Derived.Test.YtniaohflkopncaaJoined
import Derived.Test.YtniaohflkopncaaSrc2
import Derived.Test.YtniaohflkopncaaJoinedCore
import Derived.Deep.AppendLies
import Derived.OwnWalk
import Derived.Laws.OwnMore
import Derived.Test.YtniaohflkopncaaPlain
import Derived.RegionTactic
import Derived.Test.YtniaohflkopncaaRowI
import Derived.Test.YtniaohflkopncaaMemF
import Derived.Maps.AppendAt
import Derived.Deep.DeepCutAuto
import Derived.Test.YtniaohflkopncaaTB
import Derived.Test.YtniaohflkopncaaWords
import Derived.Test.YtniaohflkopncaaFcZ
import Derived.Test.YtniaohflkopncaaHl
import Derived.Test.YtniaohflkopncaaLG
import Derived.Laws.DeepStrings4
import Derived.BigQuiet
namespace Go.Proofs.Ytniaohflkopncaa
open Go.ChangeShapes Go.WideShapes Go.ChangeAt Go.RowKit

def bitv (s : ByteArray) (m : Nat) : Int := bt s (m / 8) / 2 ^ (m % 8) % 2
def hbn (s : ByteArray) (m : Nat) : Bool := bitv s m == 1
def hb (s : ByteArray) (n : Int) : Bool := decide (s.size ≤ 65536 ∧ 0 ≤ n ∧ n < 8 * (s.size : Int)) && hbn s n.toNat

theorem and1 (x : Int) (h0 : 0 ≤ x) (h1 : x ≤ 255) : bits .and .u8 x 1 = x % 2 := by
  rw [u8_and x 1 h0 (by omega) (by omega) (by omega)]
  obtain ⟨X, rfl⟩ := Int.eq_ofNat_of_zero_le h0
  rw [Int.toNat_natCast, show (1 : Int).toNat = 1 from rfl, nat_mask1]
  omega
theorem bitq (s : ByteArray) (m : Nat) : 0 ≤ bt s (m / 8) / 2 ^ (m % 8) ∧ bt s (m / 8) / 2 ^ (m % 8) ≤ 255 := by
  have ⟨a, c⟩ := bt_b s (m / 8)
  have p : (0 : Int) < 2 ^ (m % 8) := Int.pow_pos (by omega)
  exact ⟨Int.ediv_nonneg a (by omega), Int.le_trans (Int.ediv_le_self _ a) c⟩

theorem hb_in (s : ByteArray) (m : Nat) (hs : s.size ≤ 65536) (hm : m < 8 * s.size) : (bits .and .u8 (bt s (m / 8) / 2 ^ (m % 8)) 1 == 1) = hb s m := by
  obtain ⟨a, c⟩ := bitq s m
  rw [and1 _ a c]
  unfold hb
  rw [Int.toNat_natCast, show decide (s.size ≤ 65536 ∧ 0 ≤ (m : Int) ∧ (m : Int) < 8 * (s.size : Int)) = true from by simp; omega, Bool.true_and]
  rfl

theorem hb_out (s : ByteArray) (n : Int) (h : ¬ (s.size ≤ 65536 ∧ 0 ≤ n ∧ n < 8 * (s.size : Int))) : hb s n = false := by
  unfold hb
  rw [decide_eq_false h]; rfl

end Go.Proofs.Ytniaohflkopncaa
namespace Go.Proofs.Ytniaohflkopncaa
open Go.RowKit

def zer (n : Nat) : List UInt8 := List.replicate n 0
def bl (s : ByteArray) (k : Nat) : List UInt8 := s.data.toList ++ zer (k + 1 - s.size)
theorem bl_len (s : ByteArray) (k : Nat) : (bl s k).length = s.size + (k + 1 - s.size) := by simp [bl, zer]
theorem bl_at (s : ByteArray) (k j : Nat) : ((bl s k).getD j 0).toNat = (bt s j).toNat := by
  unfold bl
  by_cases h : j < s.size
  · have : j < s.data.toList.length := by simpa using h
    have e := bt_eq s j h
    rw [List.getD_eq_getElem?_getD, List.getElem?_append_left this, List.getElem?_eq_getElem this]
    show (s.data.toList[j]).toNat = _
    rw [Array.getElem_toList]
    show s[j].toNat = _
    omega
  · have hb : bt s j = 0 := by unfold bt; rw [dif_neg h]
    have hl : s.data.toList.length ≤ j := by simpa using (show s.size ≤ j by omega)
    rw [hb]
    rw [List.getD_eq_getElem?_getD, List.getElem?_append_right hl]
    unfold zer
    rw [List.getElem?_replicate]
    split <;> rfl

/-- The byte x with its bit k put. -/
def nbN (x k : Nat) (on : Bool) : Nat := if on then x ||| 2 ^ k else x &&& (255 - 2 ^ k)
def nb (x : Int) (k : Nat) (on : Bool) : UInt8 := UInt8.ofNat (nbN x.toNat k on)

theorem fin_or : ∀ x : Fin 256, ∀ k : Fin 8, (if x.val / 2 ^ k.val % 2 = 1 then x.val else x.val ^^^ 2 ^ k.val) = x.val ||| 2 ^ k.val := by decide +kernel
theorem fin_and : ∀ x : Fin 256, ∀ k : Fin 8, (if x.val / 2 ^ k.val % 2 = 1 then x.val ^^^ 2 ^ k.val else x.val) = x.val &&& (255 - 2 ^ k.val) := by decide +kernel
theorem fin_lt : ∀ x : Fin 256, ∀ k : Fin 8, x.val ||| 2 ^ k.val < 256 := by decide +kernel
theorem fin_bit : ∀ x : Fin 256, ∀ k j : Fin 8, (x.val ||| 2 ^ k.val) / 2 ^ j.val % 2 = (if j = k then 1 else x.val / 2 ^ j.val % 2) := by decide +kernel
theorem fin_bit0 : ∀ x : Fin 256, ∀ k j : Fin 8, (x.val &&& (255 - 2 ^ k.val)) / 2 ^ j.val % 2 = (if j = k then 0 else x.val / 2 ^ j.val % 2) := by decide +kernel

theorem nbN_lt (x k : Nat) (on : Bool) (hx : x < 256) (hk : k < 8) : nbN x k on < 256 := by
  unfold nbN
  split
  · exact fin_lt ⟨x, hx⟩ ⟨k, hk⟩
  · exact Nat.lt_of_le_of_lt Nat.and_le_left hx
theorem nb_nat (x : Int) (k : Nat) (on : Bool) (h0 : 0 ≤ x) (h1 : x ≤ 255) (hk : k < 8) : ((nb x k on).toNat : Int) = nbN x.toNat k on := by
  have := nbN_lt x.toNat k on (by omega) hk
  unfold nb
  rw [UInt8.toNat_ofNat']
  omega

theorem pow8 (k : Nat) (hk : k < 8) : (2 : Int) ^ k % 256 = ((2 ^ k : Nat) : Int) ∧ 2 ^ k < 256 := by
  have h : 2 ^ k ≤ 2 ^ 7 := Nat.pow_le_pow_right (by omega) (by omega)
  have e : (2 : Int) ^ k = ((2 ^ k : Nat) : Int) := by simp
  rw [e]
  clear e
  generalize 2 ^ k = P at h ⊢
  omega
theorem bits_on (x : Int) (k : Nat) (h0 : 0 ≤ x) (h1 : x ≤ 255) (hk : k < 8) : bits .or .u8 x (2 ^ k % 256) = ((nb x k true).toNat : Int) := by
  obtain ⟨e, h⟩ := pow8 k hk
  rw [e, u8_or x _ h0 (by omega) (by omega) (by omega), nb_nat x k true h0 h1 hk, Int.toNat_natCast]
  rfl
theorem bits_off (x : Int) (k : Nat) (h0 : 0 ≤ x) (h1 : x ≤ 255) (hk : k < 8) : bits .andNot .u8 x (2 ^ k % 256) = ((nb x k false).toNat : Int) := by
  obtain ⟨e, h⟩ := pow8 k hk
  rw [e, u8_andNot x _ h0 (by omega) (by omega) (by omega), nb_nat x k false h0 h1 hk, Int.toNat_natCast]
  rfl
theorem bits_flip (x : Int) (k : Nat) (on : Bool) (h0 : 0 ≤ x) (h1 : x ≤ 255) (hk : k < 8) (h : ((x / 2 ^ k % 2 == 1) == on) = false) : bits .xor .u8 x (2 ^ k % 256) = ((nb x k on).toNat : Int) := by
  obtain ⟨e, hp⟩ := pow8 k hk
  rw [e, u8_xor x _ h0 (by omega) (by omega) (by omega), nb_nat x k on h0 h1 hk, Int.toNat_natCast]
  obtain ⟨X, rfl⟩ := Int.eq_ofNat_of_zero_le h0
  rw [Int.toNat_natCast]
  have eb : ((X : Int) / 2 ^ k % 2 == 1) = decide (X / 2 ^ k % 2 = 1) := by
    rw [Bool.eq_iff_iff]
    simp
    have : ((X : Int) / 2 ^ k % 2) = ((X / 2 ^ k % 2 : Nat) : Int) := by simp
    rw [this]
    omega
  rw [eb] at h
  have f1 := fin_or ⟨X, by omega⟩ ⟨k, hk⟩
  have f2 := fin_and ⟨X, by omega⟩ ⟨k, hk⟩
  unfold nbN
  cases on
  · have hh : X / 2 ^ k % 2 = 1 := by simpa using h
    simp only [hh, if_true] at f2
    simp [f2]
  · have hh : ¬ X / 2 ^ k % 2 = 1 := by simpa using h
    simp only [hh, if_false] at f1
    simp [f1]
theorem bits_same (x : Int) (k : Nat) (on : Bool) (h0 : 0 ≤ x) (h1 : x ≤ 255) (hk : k < 8) (h : ((x / 2 ^ k % 2 == 1) == on) = true) : ((nb x k on).toNat : Int) = x := by
  rw [nb_nat x k on h0 h1 hk]
  obtain ⟨X, rfl⟩ := Int.eq_ofNat_of_zero_le h0
  rw [Int.toNat_natCast]
  have eb : ((X : Int) / 2 ^ k % 2 == 1) = decide (X / 2 ^ k % 2 = 1) := by
    rw [Bool.eq_iff_iff]
    simp
    have : ((X : Int) / 2 ^ k % 2) = ((X / 2 ^ k % 2 : Nat) : Int) := by simp
    rw [this]
    omega
  rw [eb] at h
  have f1 := fin_or ⟨X, by omega⟩ ⟨k, hk⟩
  have f2 := fin_and ⟨X, by omega⟩ ⟨k, hk⟩
  unfold nbN
  cases on
  · have hh : ¬ X / 2 ^ k % 2 = 1 := by simpa using h
    simp only [hh, if_false] at f2
    simp [← f2]
  · have hh : X / 2 ^ k % 2 = 1 := by simpa using h
    simp only [hh, if_true] at f1
    simp [← f1]

/-- What a set is with its bit m put. -/
def pb (s : ByteArray) (m : Nat) (on : Bool) : List UInt8 := (bl s (m / 8)).set (m / 8) (nb (bt s (m / 8)) (m % 8) on)

theorem SrcOk.keep {w w' : World} {b : Nat} {a : Option Addr} {len cap : Nat} (h : SrcOk w b a len cap) (hk : ∀ i, i ≤ b → w'.heap[i]? = w.heap[i]?) : SrcOk w' b a len cap := by
  obtain ⟨⟨p, m, z, hw, hr⟩, hc, hl⟩ := h
  refine ⟨⟨p, m, z, (hk b (Nat.le_refl _)).trans hw, hr⟩, ?_, hl⟩
  rcases hc with hc | ⟨cb, co, ha, hlt, hcc⟩
  · exact .inl hc
  · refine .inr ⟨cb, co, ha, hlt, fun i hi => ?_⟩
    obtain ⟨x, h0, h1, hx⟩ := hcc i hi
    exact ⟨x, h0, h1, (World.cell?_of_block (a := ⟨cb, co + i, none⟩) (hk cb (Nat.le_of_lt hlt))).trans hx⟩
theorem gfar {u w w' : World} {b : Nat} {row : Option Nat} (h : u.grownBy w (some b)) (hg : w.grownBy w' row) (hr : ∀ k, row = some k → u.heap.size ≤ k) : u.grownBy w' (some b) :=
  ⟨hg.os.trans h.os, hg.tape.trans h.tape, hg.output.trans h.output, Nat.le_trans h.size hg.size, fun k hk hne =>
    (hg.block k (Nat.lt_of_lt_of_le hk h.size) (fun e => by have := hr k e.symm; omega)).trans (h.block k hk hne)⟩

set_option maxHeartbeats 1000000 in
theorem src_bytes (b : Nat) (a : Option Addr) (len cap : Nat) (n : Nat) (w : World) (h : SrcOk w b a len cap) (hn : n ≤ 65536) :
    Calls Try.prog 20 #[.pointer (some ⟨b, 0, none⟩), .int .i64 n] w fun e w' => ∃ s : ByteArray, e = .returned (.string s) ∧ s.size = n ∧ SrcOk w' b a len cap ∧ w.grownBy w' (some b) := by
  obtain ⟨i0, hi, hz0, hz1, hz2⟩ := info_parts Try.info5
  have hlt := h.lt
  have HS : Hid (SrcOk w b a len cap) := h
  clear h
  go_enter Try.func20, Try.ntmps20
  go_wp2
  go_loopw [5, 6] (fun v i wr => ∃ (k : Nat) (bs : List UInt8), k ≤ n ∧ i = .int .i64 k ∧ bs.length = k ∧ wr.ownsRow w.heap.size 5 1 v k (cells8 bs) ∧ SrcOk wr b a len cap ∧ w.grownBy wr (some b)) (fun _ i _ => n - (intOf i).toNat)
  case atStart => exact ⟨0, [], Nat.zero_le _, rfl, rfl, World.ownsRow_lit w #[] 0 (Nat.le_refl _) (by decide) rfl, HS.out.far (World.grownBy_alloc w _ none), World.grownBy_alloc w _ _⟩
  case round =>
    obtain ⟨k, bs, hk, rfl, hbs, hown, hsr, hgr⟩ := hrel
    have HB : Hid (bs.length = k) := hbs
    clear hbs
    by_cases hkn : k < n
    · go_wp2_with fail
      refine (src_n b a len cap 256 wr hsr (by omega)).mono ?_
      rintro e w1 ⟨r, rfl, r0, r1, hs1, hg1⟩
      have r2 : r < 256 := by omega
      have hne : u5.ownBlock = none ∨ u5.ownBlock ≠ some b := by
        cases ho : u5.ownBlock with
        | none => exact .inl rfl
        | some q => exact .inr (by have := hown.lt q ho; simp; omega)
      have hown1 := hown.kept hg1 hne
      have hgr1 := Lib.grownBy_trans hgr hg1
      clear r1
      go_wp2_with (at_builtin; refine wpList_append_own _ rfl _ _ 22 rfl w.heap.size 5 i0 (.int .u8 0) 1 1 Try.underlying22 hi hz0 hz1 hz2 rfl (by decide) _ _ _ rfl (hown1.alloc _) ⟨w1.heap.size, 0, none⟩ 1 1 [.int .u8 r] rfl rfl ?c1 ?c2 ?c3 ?c4 ?c5 ?_)
      case c1 => exact World.news_of_block (cs := #[.int .u8 r]) (heap_alloc_new w1 _)
      case c2 => intro u hu; simp at hu; subst hu; rfl
      case c3 => unfold maxLen; omega
      case c4 => omega
      case c5 => have := hgr1.size; simp; omega
      intro v' w2 hown2 hg2 _
      have hs2 : SrcOk w2 b a len cap := hs1.keep (fun i hib => (hg2.block i (by have := hgr1.size; simp; omega) (fun hh => by have := hown.lt i hh.symm; omega)).trans (Below.heap_alloc w1 _ i (by have := hgr1.size; omega)))
      have hgr2 : w.grownBy w2 (some b) := gfar (Lib.grownBy_trans hgr1 (World.grownBy_alloc w1 _ (some b))) hg2 (fun q hq => (hown.lt q hq).1)
      have he : Hid (((UInt8.ofNat r.toNat).toNat : Int) = r) := (show ((UInt8.ofNat r.toNat).toNat : Int) = r by rw [UInt8.toNat_ofNat']; omega)
      clear hown1 hown hne hg1 hg2 hgr hgr1 hsr hs1
      go_wp2
      refine ⟨⟨k + 1, bs ++ [UInt8.ofNat r.toNat], by omega, by go_num, by simp [HB.out], own_cast hown2 rfl ?_, hs2, hgr2⟩, by simp [intOf]; omega⟩
      rw [cells8_app]
      show _ = cells8 bs ++ [Value.int .u8 ((UInt8.ofNat r.toNat).toNat : Int)]
      rw [he.out]
    · obtain rfl : k = n := by omega
      have hcv := conv_own wr _ _ _ _ hown
      go_wp2
      go_ret
      exact ⟨_, rfl, by show bs.toArray.size = k; rw [List.size_toArray]; exact HB.out, hsr, hgr⟩

theorem made_z (n : Nat) : (madeCells #[Value.int .u8 0] n).toList = cells8 (zer n) := by
  rw [toList_madeCells_one]
  simp [cells8, zer]
theorem zsz (M : Nat) : (⟨(zer M).toArray⟩ : ByteArray).size = M := by
  show (zer M).toArray.size = M
  rw [List.size_toArray]
  exact List.length_replicate

theorem src_zeros (p : Value) (n : Nat) (w : World) (hn : n ≤ 1048576) :
    Calls Try.prog 57 #[p, .int .i64 n] w fun e w' => e = .returned (.string ⟨(zer n).toArray⟩) ∧ w.grownBy w' none := by
  obtain ⟨i0, hi, hz0, hz1, hz2⟩ := info_parts Try.info5
  go_enter Try.func57, Try.ntmps57
  go_wp2_with (at_make; refine wpList_make_full _ rfl _ _ 22 rfl w.heap.size 5 i0 (.int .u8 0) 1 Try.underlying22 hi hz0 hz1 _ _ _ _ n rfl rfl rfl rfl ?b2 ?b3 (Nat.le_refl _) ?_)
  case b2 => rw [hz2]; omega
  case b3 => unfold maxLen; omega
  intro w1 hown1 hgrow1
  have hcv := conv_own w1 _ _ _ _ (own_cast hown1 rfl ((made_z n).trans rfl))
  clear hown1
  go_wp2
  go_ret
  exact ⟨rfl, hgrow1⟩

theorem gnone {u w w' : World} {b : Nat} (h : u.grownBy w (some b)) (hg : w.grownBy w' none) : u.grownBy w' (some b) := gfar h hg (fun k hk => by cases hk)


/-- How many have not come up yet. -/
def left (L : Array Bool) : Nat := L.toList.countP (fun b => !b)
theorem left_set {L : Array Bool} {i : Nat} (h : L.getD i true = false) : left (L.setIfInBounds i true) + 1 = left L := by
  have hi : i < L.size := by
    rcases Nat.lt_or_ge i L.size with h' | h'
    · exact h'
    · simp [Array.getD, Nat.not_lt.2 h'] at h
  have hv : L[i] = false := by simpa [Array.getD, hi] using h
  unfold left
  rw [Array.toList_setIfInBounds]
  have e : L.toList = L.toList.take i ++ (false :: L.toList.drop (i + 1)) := by
    have h2 : L.toList[i]'(by simpa using hi) = false := by simpa using hv
    rw [← h2, List.getElem_cons_drop, List.take_append_drop]
  have hl : (L.toList.take i).length = i := by rw [List.length_take]; simp; omega
  have e2 : L.toList.set i true = L.toList.take i ++ (true :: L.toList.drop (i + 1)) := by
    conv => lhs; rw [e]
    rw [List.set_append_right _ _ (by omega), hl, Nat.sub_self, List.set_cons_zero]
  rw [e2]
  conv => rhs; rw [e]
  simp [List.countP_append]
  omega
theorem ready_of_left {md : Region.Mode} {ops : Array Oper} {L : Array Bool} (h : left L = 0) : Region.ready md ops L = [] := by
  rw [List.eq_nil_iff_forall_not_mem]
  intro i hi
  have h1 := (mem_ready.1 hi).1
  have := left_set h1
  omega
/-- A region by what holds whichever operations have come up. -/
theorem wpAny_inv {P : Program} {md : Region.Mode} {ops : Array Oper} {Q : Exit → Act → World → Prop} (I : Array Bool → Act → World → Prop)
    (hs : ∀ L a w i, I L a w → i ∈ Region.ready md ops L → wpOp P ops Q i (fun a' w' => I (L.setIfInBounds i true) a' w') a w)
    (hd : ∀ L a w, I L a w → Region.ready md ops L = [] → Q .normal a w) : ∀ (fuel : Nat) (L : Array Bool) (a : Act) (w : World), left L ≤ fuel → I L a w → wpAny P md ops Q fuel L a w
  | 0, L, a, w, hl, hI => by
    have h0 := ready_of_left (md := md) (ops := ops) (Nat.le_zero.1 hl)
    exact ⟨h0, hd L a w hI h0⟩
  | fuel + 1, L, a, w, hl, hI => by
    refine ⟨hd L a w hI, fun i hi => wpOp_mono (fun a' w' h => wpAny_inv I hs hd fuel _ a' w' ?_ h) (hs L a w i hI hi)⟩
    have := left_set (mem_ready.1 hi).1
    omega

/-- A row of numbers of one's own: it may begin anywhere in its block. -/
def Orow (w : World) (B : Nat) (v : Value) (zs : List Int) : Prop := (zs = [] ∧ ∃ ao cap, v = .slice ao 0 cap) ∨ ∃ g o cap cur, v = .slice (some ⟨g, o, none⟩) zs.length cap ∧ B ≤ g ∧ zs.length ≤ cap ∧ w.heap[g]? = some (.cells cur 2 (0, 0)) ∧ ∀ (k : Nat) (hk : k < zs.length), cur[o + k]? = some (.int .i64 zs[k])
theorem Orow.irow {w : World} {B : Nat} {v : Value} {zs : List Int} (h : Orow w B v zs) : Irow w v zs := by
  rcases h with h | ⟨g, o, cap, cur, hv, _, hc, hg, ha⟩
  · exact .inl h
  · exact .inr ⟨g, o, cap, hv, hc, (Array.getElem?_eq_some_iff.1 hg).1, fun k hk => by simp [World.cell?, hg, ha k hk]⟩
theorem Orow.below {w w' : World} {B : Nat} {v : Value} {zs : List Int} (h : Orow w B v zs) (hb : Below w.heap.size w w') : Orow w' B v zs := by
  rcases h with h | ⟨g, o, cap, cur, hv, hB, hc, hg, ha⟩
  · exact .inl h
  · exact .inr ⟨g, o, cap, cur, hv, hB, hc, (hb.block _ (Array.getElem?_eq_some_iff.1 hg).1).trans hg, ha⟩
theorem Orow.of {w : World} {B : Nat} {v : Value} {zs : List Int} (h : w.ownsRow B 2 1 v zs.length (iR zs)) : Orow w B v zs := by
  rcases h.2 with ⟨rfl, e⟩ | ⟨g, cap, cur, rfl, hB, hg, hc, _, _, htk⟩
  · exact .inl ⟨List.length_eq_zero_iff.1 e, _, _, by rfl⟩
  · refine .inr ⟨g, 0, cap, cur, rfl, hB, hc, hg, fun k hk => ?_⟩
    have h1 : (cur.toList.take (zs.length * 1))[k]? = (iR zs)[k]? := by rw [htk]
    rw [List.getElem?_take, if_pos (by omega), Array.getElem?_toList] at h1
    rw [Nat.zero_add, h1]
    simp [iR, List.getElem?_eq_getElem hk]
/-- An append, by what it is known to come to. -/
theorem wl_append_ex {P : Program} {ops : Array Oper} {rest : List Oper} {o : Oper} {a : Act} {w : World} {Q : Exit → Act → World → Prop} (hgd : o.guard = none) (s x : Operand) (t : TypeId)
    (ho : o.op = .call { callee := .builtin .append, args := #[s, x], argTypes := #[t, t] }) (v v2 : Value) (hs : a.eval s = v) (hx : a.eval x = v2) {R : Value → World → Prop}
    (hr : ∃ v' w', (Builtin.append_ #[t, t] o.type #[v, v2]).run P w = .ok v' w' ∧ R v' w') (h : ∀ v' w', R v' w' → wpList P ops Q rest (a.put o.dst v') w') : wpList P ops Q (o :: rest) a w :=
  wpList_plain hgd fun _ hK => by
    obtain ⟨v', w', hr, hR⟩ := hr
    unfold Oper.wp execOp
    simp only [ho, resolve, invoke, builtin, Sem.run_bind, Sem.run_pure, Result.andThen_ok, List.map_toArray, List.map_cons, List.map_nil, hs, hx, hr]
    exact hK _ _ (h v' w' hR)
theorem iR_cells {w : World} {a : Addr} {n cap : Nat} {zs : List Int} (h : Irow w (.slice (some a) n cap) zs) : ∀ j u, (iR zs)[j]? = some u → w.cell? (a.add j) = some u := by
  intro j u hj
  rcases h with ⟨rfl, _⟩ | ⟨g, o, c1, hv, hc, hg, ha⟩
  · simp [iR] at hj
  · injection hv with q1
    injection q1 with q2
    subst q2
    have hjl : j < zs.length := by
      have := (List.getElem?_eq_some_iff.1 hj).1
      simpa [iR] using this
    have e1 : (iR zs)[j]? = some (.int .i64 zs[j]) := by simp [iR, List.getElem?_eq_getElem hjl]
    rw [e1] at hj
    rw [Addr.add_lit, ← hj]
    exact ha j hjl
theorem iR_one (zs : List Int) : ∀ u ∈ iR zs, u.oneCell' = true := by
  intro u hu
  obtain ⟨z, _, rfl⟩ := List.mem_map.1 hu
  rfl
theorem eqNilI (n c : Nat) (w : World) : Sem.run Try.prog (binOp BinOp.eql 63 (.slice none n c) (.slice none 0 0)) w = .ok (.bool true) w := by kernel_rfl
theorem neNilI (a : Addr) (n c : Nat) (w : World) : Sem.run Try.prog (binOp BinOp.eql 63 (.slice (some a) n c) (.slice none 0 0)) w = .ok (.bool false) w := by kernel_rfl

/-- Each waits for earlier ones alone. -/
def early (ops : Array Oper) : Bool := (List.range ops.size).all fun i => match ops[i]? with | some o => o.after.all (fun e => decide (e.on < i)) | none => true
theorem all_up {md : Region.Mode} {ops : Array Oper} {L : Array Bool} (he : early ops = true) (hL : L.size = ops.size) (h : Region.ready md ops L = []) : ∀ i, i < ops.size → L.getD i false = true := by
  intro i
  induction i using Nat.strongRecOn with
  | ind i ih =>
    intro hi
    apply Classical.byContradiction
    intro hn
    have hf : L.getD i true = false := by
      have hi2 : i < L.size := by omega
      simp only [Array.getD, hi2, dite_true] at hn ⊢
      simpa using hn
    have hm : i ∈ Region.ready md ops L := mem_ready.2 ⟨hf, ops[i], Array.getElem?_eq_getElem hi, fun e hee _ => by
      have h1 := List.all_eq_true.1 he i (List.mem_range.2 hi)
      rw [Array.getElem?_eq_getElem hi] at h1
      simp only [Array.all_eq_true] at h1
      obtain ⟨j, hj, rfl⟩ := Array.getElem_of_mem hee
      have h2 := of_decide_eq_true (h1 j hj)
      exact ih _ h2 (by omega)⟩
    rw [h] at hm
    exact (List.not_mem_nil hm).elim
/-- A box of so many cells behind W. -/
structure KB (W u : World) (cs : Array Value) (t : Nat) (v : Value) : Prop where
  ex : ∃ p, v = .pointer (some ⟨p, 0, none⟩) ∧ W.heap.size ≤ p ∧ u.heap[p]? = some (.cells cs t (0, 0))
theorem KB.below {W u u' : World} {cs : Array Value} {t : Nat} {v : Value} (h : KB W u cs t v) (hb : Below u.heap.size u u') : KB W u' cs t v := by
  obtain ⟨p, h1, h2, h3⟩ := h
  exact ⟨p, h1, h2, (hb.block p (Array.getElem?_eq_some_iff.1 h3).1).trans h3⟩
theorem KB.new {W u : World} (cs : Array Value) (t : Nat) (h : W.heap.size ≤ u.heap.size) : KB W (u.alloc (.cells cs t)) cs t (.pointer (some ⟨u.heap.size, 0, none⟩)) := ⟨u.heap.size, rfl, h, heap_new _ _⟩
theorem heap_put {u : World} {p t k : Nat} {cs : Array Value} {x : Value} (h : u.heap[p]? = some (.cells cs t (0, 0))) : (u.setCell ⟨p, k, none⟩ x).heap[p]? = some (.cells (cs.set! k x) t (0, 0)) := by
  simp [World.setCell, Array.getElem?_modify, h]
theorem Below.ups {W u u' : World} (h : Below W.heap.size W u) (hb : Below u.heap.size u u') : Below W.heap.size W u' := h.trans (hb.mono h.size)
theorem put_cel {u : World} {p t : Nat} {cs : Array Value} (h : u.heap[p]? = some (.cells cs t (0, 0))) (k : Nat) (v : Value) (hv : cs[k]? = some v) : u.cell? ⟨p, k, none⟩ = some v := by
  simp [World.cell?, h, hv]
theorem put_frz {u : World} {p t : Nat} {cs : Array Value} (h : u.heap[p]? = some (.cells cs t (0, 0))) (k : Nat) : u.frozen? ⟨p, k, none⟩ = false := by
  simp [World.frozen?, h]

/-- One number more. -/
theorem app1I {w : World} {B n : Nat} {v : Value} {xs : List Value} (H0 : w.ownsRow B 2 1 v n xs) (x : Int) (hn : n ≤ 1048576) (hB : B ≤ w.heap.size) :
    ∃ v' u', (Builtin.append_ #[63, 63] 63 #[v, .slice (some ⟨w.heap.size, 0, none⟩) 1 1]).run Try.prog (w.alloc (.cells #[.int .i64 x] 2)) = .ok v' u' ∧ (u'.ownsRow B 2 1 v' (n + 1) (xs ++ [.int .i64 x]) ∧ (w.alloc (.cells #[.int .i64 x] 2)).grownBy u' v.ownBlock) := by
  obtain ⟨i0, hi0, hz0, hz1, hz2⟩ := info_parts Try.info2
  obtain ⟨v', w', hr, h2, h3, _, _⟩ := run_append_own_at (P := Try.prog) (w.alloc (.cells #[.int .i64 x] 2)) B 63 63 2 i0 (.int .i64 0) 1 8 Try.underlying63 hi0 hz0 hz1 hz2 rfl (by decide) v n xs (World.ownsRow.alloc H0 _) ⟨w.heap.size, 0, none⟩ 1 1 [.int .i64 x] rfl (by
    intro j u hj
    match j, hj with
    | 0, hj =>
      simp at hj
      subst hj
      simp [Addr.add_lit]) (by intro u hu; simp at hu; subst hu; rfl) (by unfold maxLen; omega) (by omega) (by simp; omega)
  exact ⟨v', w', hr, h2, h3⟩
theorem own_weak9 {w : World} {B b : Nat} {v : Value} {n : Nat} {xs : List Value} (h : w.ownsRow B 2 1 v n xs) (hb : b < B) : w.ownsRow (b + 1) 2 1 v n xs := by
  obtain ⟨hl, h | ⟨g, cap, cur, hv, hg, h1, h2, h3, h4, h5⟩⟩ := h
  · exact ⟨hl, .inl h⟩
  · exact ⟨hl, .inr ⟨g, cap, cur, hv, by omega, h1, h2, h3, h4, h5⟩⟩
theorem gb_own {w u u' : World} {b : Nat} {r : Option Nat} (h : w.grownBy u (some b)) (hg : u.grownBy u' r) (hr : ∀ k, r = some k → w.heap.size ≤ k) : w.grownBy u' (some b) :=
  ⟨hg.os.trans h.os, hg.tape.trans h.tape, hg.output.trans h.output, Nat.le_trans h.size hg.size, fun k hk hn => (hg.block k (Nat.lt_of_lt_of_le hk h.size) (fun e => by have := hr k e.symm; omega)).trans (h.block k hk hn)⟩
theorem src_own {w u : World} {b : Nat} {a : Option Addr} {len cap : Nat} {r : Option Nat} (h : SrcOk w b a len cap) (hg : w.grownBy u r) (hr : ∀ k, r = some k → b < k) : SrcOk u b a len cap :=
  h.keep fun i hi => hg.block i (Nat.lt_of_le_of_lt hi h.lt) (fun e => by have := hr i e.symm; omega)
/-- A row of numbers behind the source. -/
structure RPr (b : Nat) (u : World) (v : Value) : Prop where
  ex : ∃ zs : List Int, zs.length ≤ 9 ∧ Orow u (b + 1) v zs
theorem Orow.grown {b : Nat} {u u' : World} {v : Value} {zs : List Int} (h : Orow u (b + 1) v zs) (hg : u.grownBy u' (some b)) : Orow u' (b + 1) v zs := by
  rcases h with h | ⟨g, o, cap, cur, hv, hB, hc, hg2, ha⟩
  · exact .inl h
  · exact .inr ⟨g, o, cap, cur, hv, hB, hc, (hg.block g (Array.getElem?_eq_some_iff.1 hg2).1 (by simp; omega)).trans hg2, ha⟩
theorem RPr.grow {b : Nat} {u u' : World} {v : Value} (h : RPr b u v) (hg : u.grownBy u' (some b)) : RPr b u' v := by
  obtain ⟨zs, h1, h2⟩ := h
  exact ⟨zs, h1, h2.grown hg⟩
theorem RPr.sl {b : Nat} {u : World} {v : Value} (h : RPr b u v) : ∃ ao n c, v = .slice ao n c := by
  obtain ⟨zs, _, h2⟩ := h
  obtain ⟨ao, c, e⟩ := h2.irow.sl
  exact ⟨ao, _, c, e⟩
theorem RPr.new {b : Nat} {u : World} (hb : b < u.heap.size) (zs : List Int) (hz : zs.length ≤ 9) : RPr b (u.alloc (.cells (iR zs).toArray 2)) (.slice (some ⟨u.heap.size, 0, none⟩) zs.length zs.length) :=
  ⟨zs, hz, .inr ⟨u.heap.size, 0, zs.length, (iR zs).toArray, rfl, hb, Nat.le_refl _, heap_new _ _, fun k hk => by simp [iR, List.getElem?_eq_getElem hk]⟩⟩
/-- The row of rows. -/
structure RRw (b : Nat) (u : World) (v : Value) : Prop where
  ex : ∃ q x0 x1 x2 x3 x4, v = .slice (some ⟨q, 0, none⟩) 5 5 ∧ b < q ∧ u.heap[q]? = some (.cells #[x0, x1, x2, x3, x4] 63 (0, 0)) ∧ RPr b u x0 ∧ RPr b u x1 ∧ RPr b u x2 ∧ RPr b u x3 ∧ RPr b u x4
theorem RRw.grow {b : Nat} {u u' : World} {v : Value} (h : RRw b u v) (hg : u.grownBy u' (some b)) : RRw b u' v := by
  obtain ⟨q, x0, x1, x2, x3, x4, h1, h2, h3, r0, r1, r2, r3, r4⟩ := h
  exact ⟨q, x0, x1, x2, x3, x4, h1, h2, (hg.block q (Array.getElem?_eq_some_iff.1 h3).1 (by simp; omega)).trans h3, r0.grow hg, r1.grow hg, r2.grow hg, r3.grow hg, r4.grow hg⟩
structure RPt (b : Nat) (u : World) (v : Value) : Prop where
  ex : ∃ q r x, v = .pointer (some ⟨q, r, none⟩) ∧ b < q ∧ q < u.heap.size ∧ u.cell? ⟨q, r, none⟩ = some x ∧ RPr b u x
theorem RPt.grow {b : Nat} {u u' : World} {v : Value} (h : RPt b u v) (hg : u.grownBy u' (some b)) : RPt b u' v := by
  obtain ⟨q, r, x, h1, h2, h3, h4, h5⟩ := h
  exact ⟨q, r, x, h1, h2, Nat.lt_of_lt_of_le h3 hg.size, (World.cell?_of_block (a := ⟨q, r, none⟩) (hg.block q h3 (by simp; omega))).trans h4, h5.grow hg⟩
structure RNm (v : Value) : Prop where
  ex : ∃ y : Nat, v = .int .i64 (y : Int) ∧ y < 5
structure RJ (b : Nat) (a : Option Addr) (len cap : Nat) (W : World) (bb0 bb1 bb2 bb3 bb4 bb5 bb6 bb7 bb8 bb9 bb10 : Bool) (v21 v22 v23 v24 v25 v26 v27 v28 v29 v30 v3 : Value) (u : World) : Prop where
  src : SrcOk u b a len cap
  gr : W.grownBy u (some b)
  c0 : bb0 = true → RPr b u v21
  c1 : bb1 = true → RPr b u v22
  c2 : bb2 = true → RPr b u v23
  c3 : bb3 = true → RPr b u v24
  c4 : bb4 = true → RPr b u v25
  c5 : bb5 = true → RRw b u v26
  c6 : bb6 = true → v27 = .pointer (some ⟨b, 0, none⟩)
  c7 : bb7 = true → RNm v28
  c8 : bb8 = true → RPt b u v29
  c9 : bb9 = true → RPr b u v30
  c10 : bb10 = true → RPr b u v3

theorem code_of (w : World) (a : Option Addr) (len cap : Nat) (zs : List Int)
    (h : (a = none ∧ len = 0 ∧ cap = 0 ∧ zs = []) ∨ ∃ x, a = some x ∧ len ≤ cap ∧ cap ≤ maxLen ∧ zs.length = cap ∧ (∀ i, i < zs.length → w.cell? (x.add i) = some (.int .u8 (zs.getD i 0))) ∧ ∀ n ∈ zs, (Lit.int .u8 n).wf = true) : CodeAt w w.heap.size a len := by
  rcases h with ⟨_, h, _⟩ | ⟨x, rfl, h1, _, h3, h4, h5⟩
  · exact .inl h
  · by_cases h0 : len = 0
    · exact .inl h0
    · obtain ⟨b, off, rfl, hc⟩ := ints_at h4 (by omega)
      refine .inr ⟨b, off, rfl, World.block_lt_of_cell? w _ (hc 0 (by omega)), fun i hi => ?_⟩
      have hm : zs.getD i 0 ∈ zs := by
        have : i < zs.length := by omega
        simp [List.getD, List.getElem?_eq_getElem this]
      have hb := bounds_u8 (h5 _ hm)
      exact ⟨zs.getD i 0, by omega, by omega, hc i (by omega)⟩

theorem CodeAt.below {w w' : World} {a : Option Addr} {len : Nat} (h : CodeAt w w.heap.size a len) (hb : Below w.heap.size w w') : CodeAt w' w'.heap.size a len := by
  rcases h with h | ⟨cb, co, h1, h2, h3⟩
  · exact .inl h
  · exact .inr ⟨cb, co, h1, Nat.lt_of_lt_of_le h2 hb.size, fun i hi => by
      obtain ⟨x, x0, x1, hx⟩ := h3 i hi
      exact ⟨x, x0, x1, by rw [(bcell hb).1 cb _ h2]; exact hx⟩⟩

def inB9 (lo hi : Int) (C : List Int) : Prop := ∀ x ∈ C, lo ≤ x ∧ x ≤ hi
theorem lit_cell9 {u : World} {p r : Nat} {C : List Int} {t : TypeId} (h : u.heap[p]? = some (.cells (C.map (Value.int .i64)).toArray t (0, 0))) (hr : r < C.length) : u.cell? ⟨p, r, none⟩ = some (.int .i64 C[r]) := by
  simp [World.cell?, h, List.getElem?_map, List.getElem?_eq_getElem hr]
theorem lit_draw9 {u u2 : World} {b t : Nat} {C : List Int} {lo hi : Int} (hb : b < u.heap.size) (hg : (u.alloc (.cells (C.map (Value.int .i64)).toArray t)).grownBy u2 (some b)) (Q : Nat) (hQ : Q < C.length) (hin : inB9 lo hi C) : ∃ y : Int, u2.cell? ⟨u.heap.size, Q, none⟩ = some (.int .i64 y) ∧ lo ≤ y ∧ y ≤ hi := by
  have h1 : u2.heap[u.heap.size]? = some (.cells (C.map (Value.int .i64)).toArray t (0, 0)) := (hg.block _ (by simp) (by simp; omega)).trans (MapKept.heap_alloc u _).1
  exact ⟨C[Q], lit_cell9 h1 hQ, (hin _ (List.getElem_mem hQ)).1, (hin _ (List.getElem_mem hQ)).2⟩
theorem code_up9 {w : World} {B B' : Nat} {a : Option Addr} {len : Nat} (h : CodeAt w B a len) (hB : B ≤ B') : CodeAt w B' a len := by
  rcases h with h | ⟨cb, co, h1, h2, h3⟩
  · exact .inl h
  · exact .inr ⟨cb, co, h1, by omega, h3⟩
theorem src_bel9 {w w' : World} {b : Nat} {a : Option Addr} {len cap : Nat} (h : SrcOk w b a len cap) (hb : Below w.heap.size w w') : SrcOk w' b a len cap :=
  src_own (r := none) h ⟨hb.os, hb.tape, hb.output, hb.size, fun k hk _ => hb.block k hk⟩ (fun k hk => by cases hk)
theorem bel_bel9 {w u u' : World} (h : Below w.heap.size w u) (h2 : Below u.heap.size u u') : Below w.heap.size w u' :=
  ⟨h2.os.trans h.os, h2.tape.trans h.tape, h2.output.trans h.output, Nat.le_trans h.size h2.size, fun k hk => (h2.block k (Nat.lt_of_lt_of_le hk h.size)).trans (h.block k hk)⟩

theorem conv1s (b : UInt8) (x : Int) (hx : x = b.toNat) (w : World) (B : Nat) (h : w.cell? ⟨B, 0, none⟩ = some (.int .u8 x)) : Sem.run Try.prog (convert 22 9 (.slice (some ⟨B, 0, none⟩) 1 1)) w = .ok (.string ⟨#[b]⟩) w := by
  subst hx
  rw [run_convert_bytes_arg w 22 5 Try.underlying22 Try.underlying5 B 0 1 1 [(b.toNat : Int)] rfl ?_ 9 Try.underlying9]
  · exact congrArg (fun x => Result.ok (Value.string x) w) (nums8 [b])
  · intro i hi
    obtain rfl : i = 0 := by omega
    simpa using h

theorem sz1y (y : UInt8) : (⟨#[y]⟩ : ByteArray).size = 1 := rfl
theorem gdrew (w : World) (n : Nat) : w.grownBy (w.drewN n) none := ⟨rfl, rfl, rfl, Nat.le_refl _, fun _ _ _ => rfl⟩
theorem bt_u8 (s : ByteArray) (k : Nat) (h : k < s.size) : bt s k = (s[k].toNat : Int) := (bt_eq s k h).symm
set_option maxRecDepth 100000 in
set_option maxHeartbeats 4000000 in
theorem src_spoil (b : Nat) (a : Option Addr) (len cap : Nat) (t : ByteArray) (w : World) (h : SrcOk w b a len cap) (ht : t.size ≤ 65536) :
    Calls Try.prog 59 #[.pointer (some ⟨b, 0, none⟩), .string t] w fun e w' => ∃ s : ByteArray, e = .returned (.string s) ∧ s.size ≤ t.size + 1 ∧ SrcOk w' b a len cap ∧ w.grownBy w' (some b) := by
  go_enter Try.func59, Try.ntmps59
  go_wp2_with fail
  refine (src_n b a len cap _ w h (by omega)).mono ?_
  rintro e w1 ⟨r1, rfl, p1, q1, hs1, hg1⟩
  obtain ⟨K, rfl⟩ := Int.eq_ofNat_of_zero_le p1
  have hK : K ≤ t.size := by omega
  clear p1 q1 h
  go_wp2_with fail
  refine (src_n b a len cap 14 w1 hs1 (by omega)).mono ?_
  rintro e w2 ⟨r2, rfl, p2, q2, hs2, hg2⟩
  obtain ⟨R, rfl⟩ := Int.eq_ofNat_of_zero_le p2
  have hR : R < 14 := by omega
  have hix := idx_str ⟨#[32, 10, 48, 97, 45, 114, 44, 0, 255, 58, 46, 64, 34, 49]⟩ R hR
  have hbu := bt_u8 ⟨#[32, 10, 48, 97, 45, 114, 44, 0, 255, 58, 46, 64, 34, 49]⟩ R hR
  generalize bt ⟨#[32, 10, 48, 97, 45, 114, 44, 0, 255, 58, 46, 64, 34, 49]⟩ R = x at *
  generalize (⟨#[32, 10, 48, 97, 45, 114, 44, 0, 255, 58, 46, 64, 34, 49]⟩ : ByteArray)[R] = y at *
  have hcv := fun (w : World) (B : Nat) h => conv1s y x hbu w B h
  have G2 : Hid (w.grownBy w2 (some b)) := Lib.grownBy_trans hg1 hg2
  have HS2 : Hid (SrcOk w2 b a len cap) := hs2
  clear p2 q2 hs1 hg1 hg2 hs2
  have hi0 : (0 : Int) ≤ (R : Int) := by omega
  have hi1 : (R : Int) < 14 := by omega
  have e13 : ∀ w : World, Sem.run Try.prog (Instr.index 9 (.string ⟨#[32, 10, 48, 97, 45, 114, 44, 0, 255, 58, 46, 64, 34, 49]⟩) (.int .i64 (R : Int))) w = .ok (.int .u8 x) w := fun w => hix w R rfl
  have hcv2 : ∀ w : World, Sem.run Try.prog (convert 22 9 (.slice (some ⟨w.heap.size, 0, none⟩) 1 1)) (w.alloc (.cells #[.int .u8 x] 5)) = .ok (.string ⟨#[y]⟩) (w.alloc (.cells #[.int .u8 x] 5)) := fun w => hcv _ _ ((LG.new w #[.int .u8 x] 5).cel 0 _ rfl)
  have hc2 := hcv2 w2
  have HS3 : Hid (SrcOk (w2.alloc (.cells #[.int .u8 x] 5)) b a len cap) := HS2.out.far (World.grownBy_alloc w2 _ none)
  have G3 : Hid (w.grownBy (w2.alloc (.cells #[.int .u8 x] 5)) (some b)) := gnone G2.out (World.grownBy_alloc w2 _ none)
  clear hix hcv hcv2 hbu G2 HS2
  have k0 : (0 : Int) ≤ (K : Int) := by omega
  have k1 : (K : Int) ≤ (t.size : Int) := by omega
  cases hkt : ((K : Int) == (t.size : Int))
  · have hlt : K + 1 ≤ t.size := by
      have : (K : Int) ≠ (t.size : Int) := by simpa using hkt
      omega
    have k2 : (K : Int) + 1 ≤ (t.size : Int) := by omega
    go_wp2_with fail
    refine (src_one b a len cap 3 _ HS3.out (by omega)).mono ?_
    rintro e w3 ⟨o3, rfl, hs3, hg3⟩
    have HS4 : Hid (SrcOk w3 b a len cap) := hs3
    have G4 : Hid (w.grownBy w3 (some b)) := Lib.grownBy_trans G3.out hg3
    clear hs3 hg3 HS3 G3
    cases o3
    · go_wp2_with fail
      refine (src_one b a len cap 2 _ HS4.out (by omega)).mono ?_
      rintro e w4 ⟨o4, rfl, hs4, hg4⟩
      have HS5 : Hid (SrcOk w4 b a len cap) := hs4
      have G5 : Hid (w.grownBy w4 (some b)) := Lib.grownBy_trans G4.out hg4
      clear hs4 hg4 HS4 G4
      cases o4
      · skip
        go_wp2
        go_quiet (fail)
        go_wp2
        go_ret
        exact ⟨_, rfl, by rw [ByteArray.size_append]; first | (rw [ByteArray.size_append, sz1y, ByteArray.size_extract, ByteArray.size_extract]; omega) | (rw [ByteArray.size_extract, ByteArray.size_extract]; omega), HS5.out.far (gdrew _ _), gnone G5.out (gdrew _ _)⟩
      · skip
        go_wp2
        go_quiet (fail)
        go_wp2
        go_ret
        exact ⟨_, rfl, by rw [ByteArray.size_append]; first | (rw [ByteArray.size_append, sz1y, ByteArray.size_extract, ByteArray.size_extract]; omega) | (rw [ByteArray.size_extract, ByteArray.size_extract]; omega), HS5.out.far (gdrew _ _), gnone G5.out (gdrew _ _)⟩
    · skip
      go_wp2
      go_quiet (fail)
      go_wp2
      go_ret
      exact ⟨_, rfl, by rw [ByteArray.size_append]; first | (rw [ByteArray.size_append, sz1y, ByteArray.size_extract, ByteArray.size_extract]; omega) | (rw [ByteArray.size_extract, ByteArray.size_extract]; omega), HS4.out.far (gdrew _ _), gnone G4.out (gdrew _ _)⟩
  · skip
    go_wp2
    go_quiet (fail)
    go_wp2
    go_ret
    exact ⟨_, rfl, by rw [ByteArray.size_append]; first | (rw [ByteArray.size_append, sz1y, ByteArray.size_extract, ByteArray.size_extract]; omega) | (rw [ByteArray.size_extract, ByteArray.size_extract]; omega), HS3.out.far (gdrew _ _), gnone G3.out (gdrew _ _)⟩
theorem Orow.grow {w w' : World} {B b : Nat} {v : Value} {zs : List Int} (h : Orow w B v zs) (hg : w.grownBy w' (some b)) (hb : b < B) : Orow w' B v zs := by
  rcases h with h | ⟨g, o, cap, cur, hv, hB, hc, hg2, ha⟩
  · exact .inl h
  · exact .inr ⟨g, o, cap, cur, hv, hB, hc, (hg.block _ (Array.getElem?_eq_some_iff.1 hg2).1 (by simp; omega)).trans hg2, ha⟩
theorem pow9 : ∀ n : Nat, n ≤ 9 → 1 ≤ (2 : Int) ^ n ∧ (2 : Int) ^ n ≤ 512 := by decide
end Go.Proofs.Ytniaohflkopncaa
