import Derived.Test.YtblmodlpopnckaaPt2
import Derived.Test.YtblmodlpopnckaaGetWord
namespace Go.Proofs.Ytblmodlpopnckaa
open Go.ChangeShapes Go.WideShapes Go.ChangeAt Go.RowKit

theorem pw_mdl (n : Int) : pw (n % 4294967296) = pw n := by
  unfold pw
  rw [show n % 4294967296 % 256 = n % 256 by omega, show n % 4294967296 / 256 % 256 = n / 256 % 256 by omega, show n % 4294967296 / 65536 % 256 = n / 65536 % 256 by omega, show n % 4294967296 / 16777216 % 256 = n / 16777216 % 256 by omega]
theorem pw_cong {a b : Int} (h : a % 4294967296 = b % 4294967296) : pw a = pw b := by rw [← pw_mdl a, h, pw_mdl]
theorem wrap_mod (x : Int) : wrap64 x % 4294967296 = x % 4294967296 := by unfold wrap64; omega
theorem pw_wrap (x : Int) : pw (wrap64 x) = pw x := pw_cong (wrap_mod x)
theorem wrap_two (a b : Int) : wrap64 (wrap64 a + b) = wrap64 (a + b) := by
  unfold wrap64
  omega
/-- The sum of the first k numbers. -/
def psum (t : List Int) : Nat → Int
  | 0 => 0
  | k + 1 => psum t k + t.getD k 0
def wrL (t : List Int) : List Int := t.map wrap64
theorem psum_wr (t : List Int) : ∀ k, psum (wrL t) k % 4294967296 = psum t k % 4294967296
  | 0 => rfl
  | k + 1 => by
    have ih := psum_wr t k
    have e : (wrL t).getD k 0 % 4294967296 = t.getD k 0 % 4294967296 := by
      unfold wrL
      rw [List.getD_eq_getElem?_getD, List.getD_eq_getElem?_getD, List.getElem?_map]
      cases t[k]? with
      | none => rfl
      | some y => exact wrap_mod y
    simp only [psum]
    omega
theorem pwT_wr (t : List Int) : pwT (wrL t) = pwT t := by
  unfold pwT pwL wrL
  rw [List.map_map]
  simp only [Function.comp_def, pw_wrap]
theorem pwT_snoc (t : List Int) (x : Int) : pwT (t ++ [x]) = pwT t ++ pw x := by
  unfold pwT pwL
  rw [List.map_append, List.map_cons, List.map_nil, catB_snoc, tx_add]
def ftD : FT := ⟨⟨#[]⟩, 0, ⟨#[]⟩⟩
def fsz (ts : List FT) : Nat → Nat
  | 0 => 0
  | k + 1 => fsz ts k + (8 + (ts.getD k ftD).body.size)
def plc (p : Int) (ts : List FT) (k : Nat) : Int := p + (3 + (ts.length : Int)) * 4 + (fsz ts k : Int)
def fmW (p : Int) (ts : List FT) (k : Nat) : List Int := [1297238342, (ts.length : Int)] ++ (List.range k).map (plc p ts)
theorem fmW_len (p : Int) (ts : List FT) (k : Nat) : (fmW p ts k).length = k + 2 := by simp [fmW]
theorem fmW_succ (p : Int) (ts : List FT) (k : Nat) : fmW p ts (k + 1) = fmW p ts k ++ [plc p ts k] := by simp [fmW, List.range_succ]
def txL (ts : List FT) (k : Nat) : List ByteArray := (ts.take k).map ftX
theorem txL_succ (ts : List FT) (k : Nat) (h : k < ts.length) : txL ts (k + 1) = txL ts k ++ [ftX ts[k]] := by
  unfold txL
  rw [List.take_succ_eq_append_getElem h, List.map_append]
  rfl
theorem txL_len (ts : List FT) (k : Nat) (h : k ≤ ts.length) : (txL ts k).length = k := by
  unfold txL
  rw [List.length_map, List.length_take]
  omega
/-- The head of the tables: words, and the number that makes their sum 0. -/
def fmH (p : Int) (ts : List FT) : ByteArray := pwT (fmW p ts ts.length) ++ pw (-(psum (fmW p ts ts.length) (ts.length + 2)))
def fmB (ts : List FT) : ByteArray := ⟨(catB (txL ts ts.length)).toArray⟩
def fmT (p : Int) (ts : List FT) : ByteArray := fmH p ts ++ fmB ts
theorem fmH_size (p : Int) (ts : List FT) : (fmH p ts).size = 12 + 4 * ts.length := by
  rw [fmH, ba_sz, pwT_sz, pw_sz, fmW_len]
  omega
theorem fsz_b {ts : List FT} (hok : ∀ t ∈ ts, ftOk t = true) : ∀ k, k ≤ ts.length → fsz ts k ≤ 208 * k
  | 0, _ => by simp [fsz]
  | k + 1, h => by
    have ih := fsz_b hok k (by omega)
    have hb := ftOk_b (hok ts[k] (List.getElem_mem (by omega)))
    simp only [fsz, List.getD, List.getElem?_eq_getElem (show k < ts.length by omega), Option.getD_some]
    omega
theorem tx_size {ts : List FT} (hok : ∀ t ∈ ts, ftOk t = true) : ∀ k, k ≤ ts.length → (catB (txL ts k)).length = fsz ts k
  | 0, _ => by simp [fsz, txL, catB]
  | k + 1, h => by
    have ih := tx_size hok k (by omega)
    have hs := ftX_size (hok ts[k] (List.getElem_mem (by omega)))
    rw [txL_succ ts k (by omega), catB_snoc, List.length_append, ih]
    simp only [fsz, List.getD, List.getElem?_eq_getElem (show k < ts.length by omega), Option.getD_some]
    have e : (ftX ts[k]).data.toList.length = (ftX ts[k]).size := rfl
    omega
theorem fmB_size {ts : List FT} (hok : ∀ t ∈ ts, ftOk t = true) : (fmB ts).size = fsz ts ts.length := by
  rw [← tx_size hok ts.length (Nat.le_refl _)]
  simp [fmB, ByteArray.size]
theorem own_apart {w : World} {B B' n n' : Nat} {v v' : Value} {xs ys : List Value} (h : w.ownsRow B 2 1 v n xs) (h' : w.ownsRow B' 9 1 v' n' ys) (k : Nat) (hk : v.ownBlock = some k) : v'.ownBlock ≠ some k := by
  intro hk'
  rcases h.2 with ⟨hv, _⟩ | ⟨g, cap, cur, hv, _, hg, _⟩
  · rw [hv] at hk
    cases hk
  rcases h'.2 with ⟨hv', _⟩ | ⟨g', cap', cur', hv', _, hg', _⟩
  · rw [hv'] at hk'
    cases hk'
  rw [hv] at hk
  rw [hv'] at hk'
  have e1 : g = k := Option.some.inj hk
  have e2 : g' = k := Option.some.inj hk'
  rw [e1] at hg
  rw [e2, hg] at hg'
  injection hg' with e3
  injection e3 with _ e4
  exact absurd e4 (by decide)
/-- One number more. -/
theorem appM {w : World} {lo n : Nat} {v : Value} {ys : List Int} (h : w.ownsRow lo 2 1 v n (iR ys)) (hn : n ≤ 1048576) (hlo : lo ≤ w.heap.size) (x : Int) : ∃ v' u', (Builtin.append_ #[44, 44] 44 #[v, .slice (some ⟨w.heap.size, 0, none⟩) 1 1]).run Try.prog (w.alloc (.cells #[.int .i64 x] 2)) = .ok v' u' ∧ (u'.ownsRow lo 2 1 v' (n + 1) (iR (ys ++ [x])) ∧ (w.alloc (.cells #[.int .i64 x] 2)).grownBy u' v.ownBlock) := by
  obtain ⟨i0, hi0, hz0, hz1, hz2⟩ := info_parts Try.info2
  have hc1 := (LG.new w #[.int .i64 x] 2).cel 0 _ rfl
  obtain ⟨v', w', hr, h2, h3, _⟩ := run_append_own (P := Try.prog) (w.alloc (.cells #[.int .i64 x] 2)) lo 44 44 2 i0 (.int .i64 0) 1 8 Try.underlying44 hi0 hz0 hz1 hz2 rfl (by decide) v n (iR ys) (h.alloc _) ⟨w.heap.size, 0, none⟩ 1 1 [.int .i64 x] rfl (fun j u hj => by
    match j, hj with
    | 0, hj => obtain rfl := Option.some.inj hj; exact hc1
    | j + 1, hj => simp at hj) (fun u hu => by
    simp at hu
    rcases hu with rfl <;> rfl) (by unfold maxLen; omega) (by omega) (by simp; omega)
  have e : iR ys ++ [.int .i64 x] = iR (ys ++ [x]) := by simp [iR]
  rw [e] at h2
  exact ⟨v', w', hr, h2, h3⟩
theorem i_two (u : World) (a b : Int) (B : Nat) (hB : B ≤ u.heap.size) : (u.alloc (.cells #[.int .i64 a, .int .i64 b] 2)).ownsRow B 2 1 (.slice (some ⟨u.heap.size, 0, none⟩) 2 2) 2 (iR [a, b]) :=
  ⟨rfl, .inr ⟨u.heap.size, 2, _, rfl, hB, heap_new _ _, Nat.le_refl _, by unfold maxLen; omega, rfl, rfl⟩⟩
theorem own_keep {w u : World} {B e s n : Nat} {v : Value} {xs : List Value} {r : Option Nat} (h : w.ownsRow B e s v n xs) (hg : w.grownBy u r) (hne : ∀ k, r = some k → v.ownBlock ≠ some k) : u.ownsRow B e s v n xs := h.kept hg (by
  cases hq : v.ownBlock with
  | none => exact .inl rfl
  | some k1 => exact .inr (fun e => hne k1 e.symm hq))
set_option maxRecDepth 100000 in
set_option maxHeartbeats 4000000 in
theorem sumOf_any {w : World} {ao : Option Addr} {cap : Nat} {t : List Int} (h : Irow w (.slice ao t.length cap) t) (hl : t.length ≤ 1000) : Calls Try.prog 44 #[.slice ao t.length cap] w fun e w' => e = .returned (.int .i64 (psum t t.length % 4294967296)) ∧ Below w.heap.size w w' := by
  have HR : Hid (Irow w (.slice ao t.length cap) t) := h
  clear h
  go_enter Try.func44, Try.ntmps44
  go_wp2
  go_loopw [3, 8] (fun sm i wr => ∃ k : Nat, k ≤ t.length ∧ sm = .int .i64 (wrap64 (psum t k)) ∧ i = .int .i64 k ∧ wr = w) (fun _ i _ => t.length - (intOf i).toNat)
  case atStart => exact ⟨0, Nat.zero_le _, by rw [show wrap64 (psum t 0) = 0 from by show wrap64 0 = 0; unfold wrap64; omega], rfl, rfl⟩
  case round =>
    obtain ⟨k, hk, rfl, rfl, rfl⟩ := hrel
    by_cases hlt : k < t.length
    · obtain ⟨g, o, cap2, hv, _, hg, hc⟩ := HR.out.resolve_left (fun h => by rw [h.1] at hlt; simp at hlt)
      injection hv with hv1 hv2 hv3
      subst hv1 hv3
      have d0 := hc k hlt
      have HP : Hid (psum t (k + 1) = psum t k + t[k]) := (show _ = _ by simp [psum, List.getD, List.getElem?_eq_getElem hlt])
      generalize t[k] = y at *
      have HW : Hid (wrap64 (wrap64 (psum t k) + y) = wrap64 (psum t k + y)) := wrap_two _ _
      generalize psum t k = m at *
      generalize wrap64 m = m2 at *
      have hk0 : (0 : Int) ≤ (k : Int) := by omega
      have hk1 : (k : Int) < (t.length : Int) := by omega
      have hk9 : (k : Int) ≤ 1000 := by omega
      clear hc hv2
      go_wp2
      exact ⟨⟨k + 1, hlt, (by rw [HP.out, ← HW.out]), (by go_num), trivial⟩, (by simp [intOf]; omega)⟩
    · have hke : k = t.length := by omega
      rw [hke]
      have hnl : ¬ ((t.length : Nat) : Int) < (t.length : Int) := by omega
      have HWD : Hid (∀ x u, Calls Try.prog 55 #[.int .i64 x] u fun e w' => e = .returned (.int .i64 (x % 4294967296)) ∧ w' = u) := fun x u => implWord_any x u
      have HM : Hid (wrap64 (psum t t.length) % 4294967296 = psum t t.length % 4294967296) := wrap_mod _
      clear hke hk hlt
      generalize wrap64 (psum t t.length) = m2 at *
      go_wp2_with (go_at_call 55; refine Calls.mono (HWD.out _ _) ?_; rintro e u1 ⟨rfl, hw1⟩; rw [hw1]; clear hw1)
      go_ret
      exact ⟨ret_int HM.out, Below.refl _ _⟩
end Go.Proofs.Ytblmodlpopnckaa
