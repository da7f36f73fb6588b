import Derived.Test.YtohmejfpebjlaaaGreatDoorPReadZ
namespace Go.Proofs.YtohmejfpebjlaaaGreatDoor
open Go.ChangeShapes Go.WideShapes Go.ChangeAt Go.RowKit

/-- Each text with a byte 10 behind it. -/
def linB : List ByteArray → ByteArray
  | [] => ⟨#[]⟩
  | p :: ps => p ++ (⟨#[10]⟩ ++ linB ps)
theorem indexL_free (p r : ByteArray) (h : 10 ∉ p.data.toList) : Lib.indexB (p ++ (⟨#[10]⟩ ++ r)) ⟨#[10]⟩ = p.size := by
  have := index_free p.data.toList r.data.toList [] 10 h
  unfold Lib.indexB
  rw [app_list, app_list]
  simpa using this
theorem indexL_nil : Lib.indexB (⟨#[]⟩ : ByteArray) ⟨#[10]⟩ = -1 := index_nil _ _ _ (by simp)
theorem exL_right (p r : ByteArray) : (p ++ (⟨#[10]⟩ ++ r)).extract (p.size + 1) (p ++ (⟨#[10]⟩ ++ r)).size = r := by
  apply ext_list
  rw [ex_list, size_list (p ++ _), List.take_length, app_list, app_list, size_list p, ← List.drop_drop, List.drop_left]
  rfl
theorem split_lines : ∀ (ps : List ByteArray), (∀ p ∈ ps, 10 ∉ p.data.toList) → Lib.countB (linB ps) ⟨#[10]⟩ = ps.length ∧ Lib.splitB ⟨#[10]⟩ 0 (Lib.countB (linB ps) ⟨#[10]⟩) (linB ps) = ps ++ [⟨#[]⟩]
  | [], _ => by
    show Lib.countB ⟨#[]⟩ _ = _ ∧ Lib.splitB _ _ (Lib.countB ⟨#[]⟩ _) _ = _
    rw [Lib.countB_miss _ _ indexL_nil]
    exact ⟨rfl, rfl⟩
  | p :: ps, h => by
    have hi := indexL_free p (linB ps) (h p (by simp))
    obtain ⟨h1, h2⟩ := split_lines ps (fun x hx => h x (by simp [hx]))
    show Lib.countB (p ++ (⟨#[10]⟩ ++ linB ps)) _ = _ ∧ Lib.splitB _ _ (Lib.countB (p ++ (⟨#[10]⟩ ++ linB ps)) _) (p ++ (⟨#[10]⟩ ++ linB ps)) = _
    rw [Lib.countB_hit _ _ _ (by decide) hi]
    rw [show (⟨#[10]⟩ : ByteArray).size = 1 from rfl, exL_right]
    refine ⟨by simp; omega, ?_⟩
    rw [Nat.add_comm 1, Lib.splitB_hit _ _ _ _ _ hi, show (⟨#[10]⟩ : ByteArray).size = 1 from rfl, exL_right, h2, Nat.add_zero, ex_left]
    rfl
/-- A small letter, a digit, a blank, a comma or a minus. -/
def okB (c : UInt8) : Bool := (97 ≤ c.toNat && c.toNat ≤ 122) || (48 ≤ c.toNat && c.toNat ≤ 57) || c.toNat == 32 || c.toNat == 44 || c.toNat == 45
def okL (l : List UInt8) : Prop := ∀ c ∈ l, okB c = true
/-- It ends with a letter or a digit. -/
def Ends (l : List UInt8) : Prop := ∃ p c, l = p ++ [c] ∧ ((97 ≤ c.toNat ∧ c.toNat ≤ 122) ∨ (48 ≤ c.toNat ∧ c.toNat ≤ 57))
theorem okL.app {a b : List UInt8} (ha : okL a) (hb : okL b) : okL (a ++ b) := fun c hc => (List.mem_append.1 hc).elim (ha c) (hb c)
theorem Ends.app (a : List UInt8) {b : List UInt8} (hb : Ends b) : Ends (a ++ b) := by
  obtain ⟨p, c, rfl, h⟩ := hb
  exact ⟨a ++ p, c, by simp, h⟩
theorem decN_ends (n : Nat) : Ends (decN n) := by
  obtain ⟨c, r, e, _⟩ := decN_head n
  have hne : decN n ≠ [] := by rw [e]; simp
  exact ⟨_, _, (List.dropLast_concat_getLast hne).symm, .inr (decN_dig n _ (List.getLast_mem hne))⟩
theorem decN_okL (n : Nat) : okL (decN n) := fun c hc => by
  have := decN_dig n c hc
  simp [okB]
  omega
theorem decB_good (n : Int) : okL (decB n).data.toList ∧ Ends (decB n).data.toList := by
  show okL (decL n).toArray.toList ∧ Ends (decL n).toArray.toList
  rw [List.toList_toArray]
  unfold decL
  split
  · exact ⟨okL.app (a := [45]) (by intro c hc; simp at hc; subst hc; rfl) (decN_okL _), Ends.app [45] (decN_ends _)⟩
  · exact ⟨decN_okL _, decN_ends _⟩
theorem join_good : ∀ ps : List ByteArray, ps ≠ [] → (∀ p ∈ ps, okL p.data.toList ∧ Ends p.data.toList) → okL (joinB ps).data.toList ∧ Ends (joinB ps).data.toList
  | [], h, _ => absurd rfl h
  | [p], _, h => by rw [joinB_one]; exact h p (by simp)
  | p :: q :: ps, _, h => by
    obtain ⟨h1, h2⟩ := join_good (q :: ps) (by simp) (fun x hx => h x (by simp at hx ⊢; exact .inr hx))
    rw [joinB_cons, app_list, app_list]
    exact ⟨(h p (by simp)).1.app (okL.app (by intro c hc; simp at hc; rcases hc with rfl | rfl <;> rfl) h1), .app _ (.app _ h2)⟩
theorem nmT_good : ∀ x ∈ nmT, x ≠ ⟨#[46]⟩ → x.data.toList ≠ [] ∧ (x.data.toList.all fun c => decide (97 ≤ c.toNat ∧ c.toNat ≤ 122)) = true := by decide +kernel
theorem nm_good (op : Int) (h : nm op ≠ ⟨#[]⟩) : (∃ c r, (nm op).data.toList = c :: r ∧ 97 ≤ c.toNat ∧ c.toNat ≤ 122) ∧ okL (nm op).data.toList ∧ Ends (nm op).data.toList := by
  have hx : nm op ∈ nmT ∧ nm op ≠ ⟨#[46]⟩ := by
    refine ⟨(nm_mem op).resolve_left h, ?_⟩
    unfold nm at h ⊢
    split
    · decide
    · split
      · decide
      · assumption
  obtain ⟨hne, hall⟩ := nmT_good _ hx.1 hx.2
  have hl : ∀ c ∈ (nm op).data.toList, 97 ≤ c.toNat ∧ c.toNat ≤ 122 := fun c hc => of_decide_eq_true (List.all_eq_true.1 hall c hc)
  refine ⟨?_, fun c hc => ?_, _, _, (List.dropLast_concat_getLast hne).symm, .inl (hl _ (List.getLast_mem hne))⟩
  · match hh : (nm op).data.toList, hne with
    | c :: r, _ => exact ⟨c, r, rfl, hl c (by rw [hh]; simp)⟩
  · have := hl c hc
    simp [okB]
    omega
theorem opd_good (o : Opd) (f : Int × Int × Int × Int) (h : o.ltr) : okL (opdT o f).data.toList ∧ Ends (opdT o f).data.toList := by
  obtain ⟨h1, h2⟩ := decB_good (fld o.plc f)
  cases o with
  | reg p l b =>
    show okL (l ++ decB _).data.toList ∧ Ends (l ++ decB _).data.toList
    rw [app_list]
    refine ⟨okL.app ?_ h1, h2.app _⟩
    rcases h with rfl | rfl <;> (intro c hc; simp at hc; subst hc; rfl)
  | imm b s => exact ⟨h1, h2⟩
/-- What a right text's bytes are. -/
theorem txt_good (op a b c imm : Int) (h : isOk op a b c imm = true) : (∃ x r, (txt op a b c imm ⟨#[]⟩).data.toList = x :: r ∧ 97 ≤ x.toNat ∧ x.toNat ≤ 122) ∧ okL (txt op a b c imm ⟨#[]⟩).data.toList ∧ Ends (txt op a b c imm ⟨#[]⟩).data.toList := by
  obtain ⟨⟨x, r, e, hx⟩, h1, h2⟩ := nm_good op (nm_ne _ _ _ _ _ h)
  rw [txt_join op a b c imm h]
  by_cases hl : (opsOf op).length = 0
  · rw [if_pos hl]
    exact ⟨⟨x, r, e, hx⟩, h1, h2⟩
  · rw [if_neg hl]
    have hj := join_good (pts (opsOf op) (a, b, c, imm)) (by simp [pts]; exact fun h => hl (by rw [h]; rfl)) (fun p hp => by
      simp only [pts, List.mem_map] at hp
      obtain ⟨o, ho, rfl⟩ := hp
      exact opd_good o _ (opsOf_ltr op o ho))
    have e2 : (⟨(catB [nm op, ⟨#[32]⟩, joinB (pts (opsOf op) (a, b, c, imm))]).toArray⟩ : ByteArray).data.toList = (nm op).data.toList ++ 32 :: (joinB (pts (opsOf op) (a, b, c, imm))).data.toList := by
      show (catB _).toArray.toList = _
      rw [List.toList_toArray]
      simp [catB]
    rw [e2]
    refine ⟨⟨x, r ++ 32 :: _, by rw [e]; rfl, hx⟩, h1.app (okL.app (a := [32]) (by intro c hc; simp at hc; subst hc; rfl) hj.1), ?_⟩
    exact Ends.app _ (Ends.app [32] hj.2)
theorem okL.no10 {l : List UInt8} (h : okL l) : (10 : UInt8) ∉ l := fun hc => absurd (h _ hc) (by decide)
end Go.Proofs.YtohmejfpebjlaaaGreatDoor
