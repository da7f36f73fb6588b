import Derived.Test.YtohmejfpebjlaaaGreatDoorPTextP
import Derived.Lib.ParseIntB
import Derived.Lib.SplitLaws
import Derived.Lib.CountLaws
import Derived.Lib.IndexMore
namespace Go.Proofs.YtohmejfpebjlaaaGreatDoor
open Go.ChangeShapes Go.WideShapes Go.ChangeAt Go.RowKit

theorem dch_nat (n : Nat) (h : n < 10) : (dch n).toNat = 48 + n := by
  have := dig_nat n h
  omega
theorem pu_digit (M acc n : Nat) (r : List UInt8) (h : n < 10) (ha : acc < 1844674407370955162) (hM : acc * 10 + n ≤ M) : Lib.parseUintM M acc (dch n :: r) = Lib.parseUintM M (acc * 10 + n) r := by
  have e := dch_nat n h
  rw [Lib.parseUintM, e, if_pos (by omega), if_neg (by omega), if_neg (by omega), show 48 + n - 48 = n by omega]
theorem pu_decN (M n : Nat) : ∀ (r : List UInt8), n ≤ 1000000000 → n ≤ M → Lib.parseUintM M 0 (decN n ++ r) = Lib.parseUintM M n r := by
  induction n using Nat.strongRecOn with
  | ind n ih =>
    intro r h1 h2
    by_cases h : n < 10
    · rw [decN_lt n h]
      exact (pu_digit M 0 n r h (by omega) (by omega)).trans (by rw [Nat.zero_mul, Nat.zero_add])
    · rw [decN_ge n (by omega), List.append_assoc, ih (n / 10) (by omega) _ (by omega) (by omega)]
      exact (pu_digit M (n / 10) (n % 10) r (by omega) (by omega) (by omega)).trans (by rw [show n / 10 * 10 + n % 10 = n by omega])
theorem decN_head (n : Nat) : ∃ c r, decN n = c :: r ∧ 48 ≤ c.toNat ∧ c.toNat ≤ 57 := by
  induction n using Nat.strongRecOn with
  | ind n ih =>
    by_cases h : n < 10
    · exact ⟨dch n, [], decN_lt n h, by rw [dch_nat n h]; omega, by rw [dch_nat n h]; omega⟩
    · obtain ⟨c, r, e, h1, h2⟩ := ih (n / 10) (by omega)
      exact ⟨c, r ++ [dch (n % 10)], by rw [decN_ge n (by omega), e]; rfl, h1, h2⟩
theorem parse_dec (n : Int) (h0 : -1000000000 ≤ n) (h1 : n ≤ 1000000000) : Lib.parseIntB 64 (decL n) = .ok n := by
  have hp : ∀ k : Nat, k ≤ 1000000000 → Lib.parseUintB 64 (decN k) = .ok k := by
    intro k hk
    obtain ⟨c, r, e, _, _⟩ := decN_head k
    have := pu_decN (2 ^ 64 - 1) k [] hk (by omega)
    rw [List.append_nil] at this
    unfold Lib.parseUintB
    rw [if_neg (by rw [e]; simp), this]
    rfl
  unfold decL
  split
  · rename_i hn
    simp only [Lib.parseIntB]
    rw [if_pos (by decide), hp _ (by omega)]
    have e1 : ¬ ((2 : Nat) ^ (64 - 1) < (-n).toNat) := by omega
    simp [e1]
    omega
  · obtain ⟨c, r, e, h2, h3⟩ := decN_head n.toNat
    have hq := hp n.toNat (by omega)
    rw [e] at hq ⊢
    simp only [Lib.parseIntB]
    rw [if_neg (by omega), hq]
    have e1 : ¬ ((2 : Nat) ^ (64 - 1) ≤ n.toNat) := by omega
    have e2 : ¬ (c.toNat = 45) := by omega
    simp [e1, e2]
    omega
theorem index_free (x r t : List UInt8) (c : UInt8) (hx : c ∉ x) : Lib.index (x ++ (c :: t ++ r)) (c :: t) = x.length := by
  refine Lib.index_first (by simp) ?_ ?_
  · simp [Lib.occAt]
  · intro j hj
    cases h : Lib.occAt (x ++ (c :: t ++ r)) (c :: t) j
    · rfl
    · have := Lib.occAt_head rfl h
      rw [List.getElem?_append_left hj] at this
      exact absurd (List.mem_of_getElem? this) hx
theorem index_nil (s t : List UInt8) (c : UInt8) (hx : c ∉ s) : Lib.index s (c :: t) = -1 := by
  refine Lib.index_none ?_
  intro j _
  cases h : Lib.occAt s (c :: t) j
  · rfl
  · exact absurd (List.mem_of_getElem? (Lib.occAt_head rfl h)) hx
theorem cut_hit (x r : List UInt8) (hx : 32 ∉ x) : Lib.cut (x ++ 32 :: r) [32] = (x, r, true) := by
  have := index_free x r [] 32 hx
  simp only [List.cons_append, List.nil_append] at this
  unfold Lib.cut
  rw [this, if_pos (by omega)]
  simp
theorem cut_miss (x : List UInt8) (hx : 32 ∉ x) : Lib.cut x [32] = (x, [], false) := by
  have := index_nil x [] 32 hx
  unfold Lib.cut
  rw [this, if_neg (by omega)]
theorem joinB_cons (p q : ByteArray) (ps : List ByteArray) : joinB (p :: q :: ps) = p ++ (⟨#[44, 32]⟩ ++ joinB (q :: ps)) := by
  apply ext_list
  simp [joinB, Lib.join, List.intercalate]
theorem joinB_one (p : ByteArray) : joinB [p] = p := by
  apply ext_list
  simp [joinB, Lib.join, List.intercalate]
theorem indexB_free (p r : ByteArray) (h : 44 ∉ p.data.toList) : Lib.indexB (p ++ (⟨#[44, 32]⟩ ++ r)) ⟨#[44, 32]⟩ = p.size := by
  have := index_free p.data.toList r.data.toList [32] 44 h
  unfold Lib.indexB
  rw [app_list, app_list]
  simpa using this
theorem indexB_nil (p : ByteArray) (h : 44 ∉ p.data.toList) : Lib.indexB p ⟨#[44, 32]⟩ = -1 := index_nil _ _ _ h
theorem ex_list (s : ByteArray) (i j : Nat) : (s.extract i j).data.toList = (s.data.toList.take j).drop i := by
  rw [ByteArray.data_extract, Array.toList_extract, List.extract_eq_take_drop]
  rw [List.take_drop]
  by_cases h : i ≤ j
  · rw [Nat.add_sub_cancel' h]
  · rw [List.drop_eq_nil_of_le (by simp; omega), List.drop_eq_nil_of_le (by simp; omega)]
theorem size_list (s : ByteArray) : s.size = s.data.toList.length := by
  rw [Array.length_toList]
  rfl
theorem ex_left (p r : ByteArray) : (p ++ r).extract 0 p.size = p := by
  apply ext_list
  rw [ex_list, app_list, List.drop_zero, size_list, List.take_left]
theorem ex_right (p r : ByteArray) : (p ++ (⟨#[44, 32]⟩ ++ r)).extract (p.size + 2) (p ++ (⟨#[44, 32]⟩ ++ r)).size = r := by
  apply ext_list
  rw [ex_list, size_list (p ++ _), List.take_length, app_list, app_list, size_list p, ← List.drop_drop, List.drop_left]
  rfl
theorem split_join : ∀ (ps : List ByteArray), ps ≠ [] → (∀ p ∈ ps, 44 ∉ p.data.toList) → Lib.countB (joinB ps) ⟨#[44, 32]⟩ + 1 = ps.length ∧ Lib.splitB ⟨#[44, 32]⟩ 0 (Lib.countB (joinB ps) ⟨#[44, 32]⟩) (joinB ps) = ps
  | [], h, _ => absurd rfl h
  | [p], _, h => by
    have hi := indexB_nil p (h p (by simp))
    rw [joinB_one, Lib.countB_miss _ _ hi]
    exact ⟨rfl, rfl⟩
  | p :: q :: ps, _, h => by
    have hi := indexB_free p (joinB (q :: ps)) (h p (by simp))
    obtain ⟨h1, h2⟩ := split_join (q :: ps) (by simp) (fun x hx => h x (by simp at hx ⊢; exact .inr hx))
    rw [joinB_cons, Lib.countB_hit _ _ _ (by decide) hi]
    rw [show (⟨#[44, 32]⟩ : ByteArray).size = 2 from rfl, ex_right]
    refine ⟨by simp at h1 ⊢; omega, ?_⟩
    rw [Nat.add_comm 1, Lib.splitB_hit _ _ _ _ _ hi, show (⟨#[44, 32]⟩ : ByteArray).size = 2 from rfl, ex_right, h2, Nat.add_zero, ex_left]
theorem nmT_no32 : ∀ x ∈ nmT, (32 : UInt8) ∉ x.data.toList := by decide +kernel
theorem nm_mem (op : Int) : nm op = ⟨#[]⟩ ∨ nm op ∈ nmT := by
  unfold nm
  split
  · exact .inl rfl
  split
  · exact .inl rfl
  · rename_i h1 h2
    refine .inr ?_
    have hk : op.toNat - 1 < nmT.length := by rw [nmT_len]; omega
    rw [List.getD_eq_getElem?_getD, List.getElem?_eq_getElem hk]
    exact List.getElem_mem hk
theorem nm_no32 (op : Int) : (32 : UInt8) ∉ (nm op).data.toList := by
  rcases nm_mem op with h | h
  · rw [h]; decide
  · exact nmT_no32 _ h
theorem decN_dig (n : Nat) : ∀ c ∈ decN n, 48 ≤ c.toNat ∧ c.toNat ≤ 57 := by
  induction n using Nat.strongRecOn with
  | ind n ih =>
    intro c hc
    by_cases h : n < 10
    · rw [decN_lt n h] at hc
      simp at hc
      subst hc
      rw [dch_nat n h]; omega
    · rw [decN_ge n (by omega)] at hc
      simp only [List.mem_append, List.mem_singleton] at hc
      rcases hc with hc | hc
      · exact ih (n / 10) (by omega) c hc
      · subst hc
        rw [dch_nat _ (by omega)]; omega
theorem decB_no44 (n : Int) : (44 : UInt8) ∉ (decB n).data.toList := by
  show (44 : UInt8) ∉ (decL n).toArray.toList
  rw [List.toList_toArray]
  unfold decL
  intro h
  split at h
  · simp only [List.mem_cons] at h
    rcases h with h | h
    · exact absurd h (by decide)
    · have := decN_dig _ _ h
      exact absurd this (by decide)
  · have := decN_dig _ _ h
    exact absurd this (by decide)
def Opd.ltr : Opd → Prop
  | .reg _ l _ => l = ⟨#[114]⟩ ∨ l = ⟨#[118]⟩
  | .imm _ _ => True
theorem opsOf_ltr (op : Int) : ∀ o ∈ opsOf op, o.ltr := by
  intro o ho
  unfold opsOf at ho
  split at ho
  all_goals (try split at ho)
  all_goals simp [rP, vP] at ho
  all_goals (first | (rcases ho with rfl | rfl | rfl) | (rcases ho with rfl | rfl) | subst ho)
  all_goals first | exact trivial | exact .inl rfl | exact .inr rfl
theorem opdT_no44 (o : Opd) (h : o.ltr) (f : Int × Int × Int × Int) : (44 : UInt8) ∉ (opdT o f).data.toList := by
  unfold opdT
  cases o with
  | reg s l n =>
    simp only [Opd.ltr] at h
    rw [app_list, List.mem_append]
    rintro (h2 | h2)
    · rcases h with rfl | rfl <;> exact absurd h2 (by decide)
    · exact decB_no44 _ h2
  | imm a b => exact decB_no44 _
theorem pre_yes (l d : List UInt8) : Lib.hasPrefix (l ++ d) l = true := by simp [Lib.hasPrefix]
theorem pre_cut (l d : List UInt8) : Lib.trimPrefix (l ++ d) l = d := by simp [Lib.trimPrefix, pre_yes]
theorem pre_no (n : Int) : Lib.hasPrefix (decL n) [64] = false := by
  unfold decL Lib.hasPrefix
  split
  · rfl
  · obtain ⟨c, r, e, h1, h2⟩ := decN_head n.toNat
    rw [e]
    show ((64 : UInt8) == c && [].isPrefixOf r) = false
    rw [show ((64 : UInt8) == c) = false from by rw [beq_eq_false_iff_ne]; rintro rfl; exact absurd h2 (by decide)]
    rfl
end Go.Proofs.YtohmejfpebjlaaaGreatDoor
