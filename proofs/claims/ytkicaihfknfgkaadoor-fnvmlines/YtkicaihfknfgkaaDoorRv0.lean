import Derived.Test.YtkicaihfknfgkaaDoorSj
namespace Go.Proofs.YtkicaihfknfgkaaDoor
open Go.ChangeShapes Go.WideShapes Go.ChangeAt Go.RowKit

/-- Words, a blank behind each. -/
def catW (ws : List (List UInt8)) : List UInt8 := ws.flatMap fun x => x ++ [32]
theorem cut_blank : ∀ (x y r r' : List UInt8), (32 : UInt8) ∉ x → (32 : UInt8) ∉ y → x ++ 32 :: r = y ++ 32 :: r' → x = y ∧ r = r'
  | [], [], _, _, _, _, h => by simpa using h
  | [], b :: y, _, _, _, hy, h => by simp at h; simp [h.1] at hy
  | a :: x, [], _, _, hx, _, h => by simp at h; simp [h.1] at hx
  | a :: x, b :: y, r, r', hx, hy, h => by
    simp only [List.cons_append, List.cons.injEq] at h
    obtain ⟨h1, h2⟩ := cut_blank x y r r' (fun e => hx (List.mem_cons_of_mem _ e)) (fun e => hy (List.mem_cons_of_mem _ e)) h.2
    exact ⟨by rw [h.1, h1], h2⟩
theorem cat_inj : ∀ (ws vs : List (List UInt8)) (l m : List UInt8), (∀ x ∈ ws, (32 : UInt8) ∉ x) → (∀ x ∈ vs, (32 : UInt8) ∉ x) → (32 : UInt8) ∉ l → (32 : UInt8) ∉ m → catW ws ++ l = catW vs ++ m → ws = vs ∧ l = m
  | [], [], _, _, _, _, _, _, h => ⟨rfl, by simpa [catW] using h⟩
  | [], v :: vs, l, m, _, _, hl, _, h => by
    exfalso
    apply hl
    have : l = catW (v :: vs) ++ m := by simpa [catW] using h
    rw [this]
    simp [catW]
  | w :: ws, [], l, m, _, _, _, hm, h => by
    exfalso
    apply hm
    have : m = catW (w :: ws) ++ l := by simpa [catW] using h.symm
    rw [this]
    simp [catW]
  | w :: ws, v :: vs, l, m, hw, hv, hl, hm, h => by
    have e : w ++ 32 :: (catW ws ++ l) = v ++ 32 :: (catW vs ++ m) := by simpa [catW] using h
    obtain ⟨h1, h2⟩ := cut_blank _ _ _ _ (hw w (by simp)) (hv v (by simp)) e
    obtain ⟨h3, h4⟩ := cat_inj ws vs l m (fun x hx => hw x (List.mem_cons_of_mem _ hx)) (fun x hx => hv x (List.mem_cons_of_mem _ hx)) hl hm h2
    exact ⟨by rw [h1, h3], h4⟩
theorem ex_list (s : ByteArray) (a b : Nat) : (s.extract a b).data.toList = (s.data.toList.take b).drop a := by
  simp [ByteArray.data_extract, List.drop_take]
theorem bt_get (s : ByteArray) (k : Nat) (h : k < s.size) : s.data.toList[k]? = some s[k] := by
  rw [List.getElem?_eq_getElem (by simpa using h)]
  rfl
theorem free_of (s : ByteArray) (a b : Nat) (hb : b ≤ s.size) (h : ∀ j, a ≤ j → j < b → bt s j ≠ 32) : (32 : UInt8) ∉ (s.extract a b).data.toList := by
  intro hm
  rw [ex_list] at hm
  obtain ⟨i, hi, e⟩ := List.getElem_of_mem hm
  have hi2 : a + i < b := by
    simp at hi
    omega
  rw [List.getElem_drop, List.getElem_take] at e
  have h9 := h (a + i) (by omega) hi2
  apply h9
  rw [← bt_eq s (a + i) (by omega)]
  have : s[a + i]'(by omega) = (32 : UInt8) := e
  rw [this]
  rfl
theorem spl_inv (s : ByteArray) : ∀ k, k ≤ s.size → catW ((spl s 32 k).2.map (·.data.toList)) = s.data.toList.take (spl s 32 k).1 ∧ (∀ x ∈ (spl s 32 k).2, (32 : UInt8) ∉ x.data.toList) ∧ ∀ j, (spl s 32 k).1 ≤ j → j < k → bt s j ≠ 32
  | 0, _ => ⟨by simp [spl, catW], by simp [spl], fun j _ hj => absurd hj (by omega)⟩
  | k + 1, hk => by
    obtain ⟨h1, h2, h3⟩ := spl_inv s k (by omega)
    have h0 := (spl_le s 32 k).1
    simp only [spl]
    split
    · rename_i h32
      have hf := free_of s (spl s 32 k).1 k (by omega) h3
      have hk2 : k < s.size := by omega
      have hkl : k < s.data.toList.length := by simpa using hk2
      refine ⟨?_, ?_, fun j hj hj2 => absurd hj2 (by simp at hj; omega)⟩
      · simp only [List.map_append, List.map_cons, List.map_nil]
        unfold catW at h1 ⊢
        rw [List.flatMap_append, h1, List.take_succ_eq_append_getElem hkl]
        simp only [List.flatMap_cons, List.flatMap_nil, List.append_nil]
        rw [ex_list, ← List.append_assoc]
        have e1 : s.data.toList.take (spl s 32 k).1 ++ (s.data.toList.take k).drop (spl s 32 k).1 = s.data.toList.take k := by
          have := List.take_append_drop (spl s 32 k).1 (s.data.toList.take k)
          rwa [List.take_take, Nat.min_eq_left h0] at this
        rw [e1]
        congr 2
        have : (s[k]'(by omega)).toNat = 32 := by have := bt_eq s k (by omega); omega
        exact (UInt8.toNat_inj.1 this).symm
      · intro x hx
        rcases List.mem_append.1 hx with hx | hx
        · exact h2 x hx
        · rw [List.mem_singleton.1 hx]; exact hf
    · rename_i h32
      refine ⟨h1, h2, fun j hj hj2 => ?_⟩
      by_cases e : j = k
      · subst e; exact h32
      · exact h3 j hj (by omega)
theorem split_words (s : ByteArray) : ∃ ws l, splitB s 32 = ws ++ [l] ∧ s.data.toList = catW (ws.map (·.data.toList)) ++ l.data.toList ∧ (∀ x ∈ ws, (32 : UInt8) ∉ x.data.toList) ∧ (32 : UInt8) ∉ l.data.toList := by
  obtain ⟨h1, h2, h3⟩ := spl_inv s s.size (Nat.le_refl _)
  refine ⟨_, _, rfl, ?_, h2, free_of s _ _ (Nat.le_refl _) h3⟩
  rw [h1, ex_list]
  have e : s.data.toList.take s.size = s.data.toList := List.take_of_length_le (by simp)
  rw [e, List.take_append_drop]
theorem split_of (s : ByteArray) (ws : List ByteArray) (l : ByteArray) (hw : ∀ x ∈ ws, (32 : UInt8) ∉ x.data.toList) (hl : (32 : UInt8) ∉ l.data.toList) (e : s.data.toList = catW (ws.map (·.data.toList)) ++ l.data.toList) : splitB s 32 = ws ++ [l] := by
  obtain ⟨vs, m, h1, h2, h3, h4⟩ := split_words s
  rw [h1]
  obtain ⟨a, b⟩ := cat_inj _ _ _ _ (by intro x hx; obtain ⟨y, hy, rfl⟩ := List.mem_map.1 hx; exact h3 y hy) (by intro x hx; obtain ⟨y, hy, rfl⟩ := List.mem_map.1 hx; exact hw y hy) h4 hl (h2.symm.trans e)
  have inj : ∀ (p q : List ByteArray), p.map (·.data.toList) = q.map (·.data.toList) → p = q := by
    intro p
    induction p with
    | nil => intro q h; simp at h; exact h.symm ▸ rfl
    | cons x p ih =>
      intro q h
      cases q with
      | nil => simp at h
      | cons y q =>
        simp only [List.map_cons, List.cons.injEq] at h
        rw [ext_list h.1, ih q h.2]
  rw [inj _ _ a, ext_list b]
/-- One word read. -/
def rfN (m s : ByteArray) : Int := (numP (cpB s m)).1
def rfB (m s : ByteArray) : Bool := beg s m && (numP (cpB s m)).2
def wd (ws : List ByteArray) (k : Nat) : ByteArray := ws.getD k ⟨#[]⟩
def rvM (ws : List ByteArray) : VMC := ⟨wd ws 0, rfN vk0 (wd ws 1), rfN vk1 (wd ws 2), rfN vk2 (wd ws 3), rfN vk3 (wd ws 4), rfN vk4 (wd ws 5), ⟨#[]⟩, 0⟩
def rwA (ws : List ByteArray) : Bool := rfB vk0 (wd ws 1) && rfB vk1 (wd ws 2) && rfB vk2 (wd ws 3) && rfB vk3 (wd ws 4) && rfB vk4 (wd ws 5)
def rwB (ws : List ByteArray) : Bool := decide (ws.length = 6) && rwA ws && vmB 8 (rvM ws)
def rwV (ws : List ByteArray) : VMC := if rwB ws = true then rvM ws else vmc0
/-- What the program reads of a text. -/
def rvP (t : ByteArray) : VMC := if 65536 < t.size then vmc0 else rwV (splitB t 32)
def l23V (m s : ByteArray) : Int := if beg s m = true ∧ (numV (s.extract m.size s.size)).2 = true then (numV (s.extract m.size s.size)).1 else -1
def svM (ws : List ByteArray) : VMC := ⟨wd ws 0, l23V vk0 (wd ws 1), l23V vk1 (wd ws 2), l23V vk2 (wd ws 3), l23V vk3 (wd ws 4), l23V vk4 (wd ws 5), ⟨#[]⟩, 0⟩
/-- What the specification reads of it. -/
def rvS (t : ByteArray) : VMC := if t.size ≤ 200 ∧ (splitB t 32).length = 6 ∧ vtV (svM (splitB t 32)) = t then svM (splitB t 32) else vmc0
theorem beg_app {s m : ByteArray} (h : beg s m = true) : s = m ++ s.extract m.size s.size := by
  have hl := beg_le h
  unfold beg at h
  rw [Bool.and_eq_true, beq_iff_eq] at h
  have h2 : s.extract 0 m.size = m := by
    have := h.2
    rw [ByteArray.toList_eq, ByteArray.toList_eq] at this
    exact ext_list this
  apply ext_list
  rw [ByteArray.data_append, Array.toList_append]
  conv => rhs; rw [← h2]
  rw [ex_list, ex_list, h2]
  have e : s.data.toList.take s.size = s.data.toList := List.take_of_length_le (by simp)
  rw [e, List.drop_zero, List.take_append_drop]
theorem beg_of (m d : ByteArray) : beg (m ++ d) m = true := by
  unfold beg
  rw [Bool.and_eq_true, beq_iff_eq]
  refine ⟨decide_eq_true (by rw [ByteArray.size_append]; omega), ?_⟩
  rw [ByteArray.toList_eq, ByteArray.toList_eq, ex_list]
  simp
theorem ex_of (m d : ByteArray) : (m ++ d).extract m.size (m ++ d).size = d := by
  apply ext_list
  rw [ex_list]
  have e : (m ++ d).data.toList.take (m ++ d).size = (m ++ d).data.toList := List.take_of_length_le (by simp)
  rw [e, ByteArray.data_append, Array.toList_append]
  exact List.drop_left' (by simp)
theorem cp_of (m d : ByteArray) : cpB (m ++ d) m = d := by unfold cpB; rw [if_pos (beg_of m d), ex_of]
theorem rf_of (m : ByteArray) (n : Int) (h0 : -1000000000 ≤ n) (h1 : n ≤ 1000000000) : rfN m (m ++ decB n) = n ∧ rfB m (m ++ decB n) = true := by
  unfold rfN rfB
  rw [cp_of, numP_dec n h0 h1, beg_of]
  exact ⟨rfl, rfl⟩
theorem l23_of (m : ByteArray) (n : Int) (h0 : -1000000000 ≤ n) (h1 : n ≤ 1000000000) : l23V m (m ++ decB n) = n := by
  unfold l23V
  rw [ex_of, numV_dec n (by omega) (by omega), beg_of]
  rfl
theorem rf_word {m s : ByteArray} (h : rfB m s = true) : s = m ++ decB (rfN m s) := by
  unfold rfB at h
  rw [Bool.and_eq_true] at h
  have h1 := beg_app h.1
  have h2 := numP_good h.2
  have h3 : cpB s m = s.extract m.size s.size := by unfold cpB; rw [if_pos h.1]
  unfold rfN
  rw [← h2, h3]
  exact h1
theorem dec_small (n : Int) (h0 : 0 ≤ n) (h1 : n < 10000) : (decB n).size ≤ 4 ∧ (32 : UInt8) ∉ (decB n).data.toList := by
  have e : (decB n).data.toList = decN n.toNat := by unfold decB decL; rw [if_neg (by omega)]
  have hd : ∀ k, (32 : UInt8) ∉ decN k := by
    intro k
    induction k using Nat.strongRecOn with
    | ind k ih =>
      by_cases h : k < 10
      · rw [decN_lt k h]
        intro hm
        have := dch_nat k h
        rw [← List.mem_singleton.1 hm] at this
        have h9 : (32 : UInt8).toNat = 32 := rfl
        omega
      · rw [decN_ge k (by omega)]
        intro hm
        rcases List.mem_append.1 hm with hm | hm
        · exact ih (k / 10) (by omega) hm
        · have := dch_nat (k % 10) (by omega)
          rw [← List.mem_singleton.1 hm] at this
          have h9 : (32 : UInt8).toNat = 32 := rfl
          omega
  refine ⟨?_, by rw [e]; exact hd _⟩
  have := decN_len 3 n.toNat (by omega)
  show (decB n).data.size ≤ 4
  rw [← Array.length_toList, e]
  exact this
theorem nm_free {s : ByteArray} (h : nmB s = true) : (32 : UInt8) ∉ s.data.toList := by
  have h2 := (of_decide_eq_true h).2.2
  have e : s.extract 0 s.size = s := by simp
  have := free_of s 0 s.size (Nat.le_refl _) (fun j _ hj h32 => by
    have h3 := h2 j hj
    rw [h32] at h3
    exact absurd h3 (by decide))
  rwa [e] at this
/-- The words of a machine's text. -/
def vtW (v : VMC) : List ByteArray := [v.name, vk0 ++ decB v.tenant, vk1 ++ decB v.cpu, vk2 ++ decB v.mem, vk3 ++ decB v.zone, vk4 ++ decB v.apart]
theorem vt_list (v : VMC) : (vtT v).data.toList = catW ([v.name, vk0 ++ decB v.tenant, vk1 ++ decB v.cpu, vk2 ++ decB v.mem, vk3 ++ decB v.zone].map (·.data.toList)) ++ (vk4 ++ decB v.apart).data.toList := by
  unfold vtT
  simp [catB, catW, vtL, vtP, vbl]
theorem vt_split {v : VMC} (h : vmB 8 v = true) : splitB (vtT v) 32 = vtW v := by
  obtain ⟨n0, c0, c1, m0, m1, t0, t1, z0, z1, a0, a1⟩ := vm_b h
  have hn : nmB v.name = true := by unfold vmB at h; simp only [Bool.and_eq_true] at h; exact h.1.1.1.1.1.1.1.1.1.1
  have f0 := nm_free hn
  have g : ∀ (m : ByteArray) (n : Int), (32 : UInt8) ∉ m.data.toList → 0 ≤ n → n < 10000 → (32 : UInt8) ∉ (m ++ decB n).data.toList := by
    intro m n hm h0 h1
    rw [ByteArray.data_append, Array.toList_append]
    intro hx
    rcases List.mem_append.1 hx with hx | hx
    · exact hm hx
    · exact (dec_small n h0 h1).2 hx
  refine split_of (vtT v) _ _ ?_ (g vk4 v.apart (by decide) (by omega) (by omega)) (vt_list v)
  intro x hx
  simp only [List.mem_cons, List.not_mem_nil, or_false] at hx
  rcases hx with rfl | rfl | rfl | rfl | rfl
  · exact f0
  · exact g vk0 v.tenant (by decide) (by omega) (by omega)
  · exact g vk1 v.cpu (by decide) (by omega) (by omega)
  · exact g vk2 v.mem (by decide) (by omega) (by omega)
  · exact g vk3 v.zone (by decide) (by omega) (by omega)
theorem vtT_size {v : VMC} (h : vmB 8 v = true) : (vtT v).size ≤ 200 := by
  obtain ⟨n0, c0, c1, m0, m1, t0, t1, z0, z1, a0, a1⟩ := vm_b h
  have d0 := (dec_small v.tenant (by omega) (by omega)).1
  have d1 := (dec_small v.cpu (by omega) (by omega)).1
  have d2 := (dec_small v.mem (by omega) (by omega)).1
  have d3 := (dec_small v.zone (by omega) (by omega)).1
  have d4 := (dec_small v.apart (by omega) (by omega)).1
  have e : (vtT v).size = (catB (vtL v 5)).length := by unfold vtT; simp [ByteArray.size]
  have e0 : vtL v 5 = [v.name, vbl, vk0, decB v.tenant, vbl, vk1, decB v.cpu, vbl, vk2, decB v.mem, vbl, vk3, decB v.zone, vbl, vk4, decB v.apart] := by simp [vtL, vtP]
  clear h c0 c1 m0 m1 t0 t1 z0 z1 a0 a1
  rw [e, e0]
  clear e e0
  simp only [catB_len]
  generalize decB v.tenant = D0 at *
  generalize decB v.cpu = D1 at *
  generalize decB v.mem = D2 at *
  generalize decB v.zone = D3 at *
  generalize decB v.apart = D4 at *
  have b0 : vbl.size = 1 := rfl
  have b1 : vk0.size = 7 := rfl
  have b2 : vk1.size = 4 := rfl
  have b3 : vk2.size = 4 := rfl
  have b4 : vk3.size = 5 := rfl
  have b5 : vk4.size = 6 := rfl
  have b6 : (catB []).length = 0 := rfl
  generalize vbl.size = x0 at *
  generalize vk0.size = x1 at *
  generalize vk1.size = x2 at *
  generalize vk2.size = x3 at *
  generalize vk3.size = x4 at *
  generalize vk4.size = x5 at *
  generalize (catB []).length = x6 at *
  generalize v.name.size = x7 at *
  generalize D0.size = y0 at *
  generalize D1.size = y1 at *
  generalize D2.size = y2 at *
  generalize D3.size = y3 at *
  generalize D4.size = y4 at *
  clear D0 D1 D2 D3 D4
  omega
/-- The text of a machine is read as it. -/
theorem rw_vt {v : VMC} (h : vmB 8 v = true) (hn : v.node = ⟨#[]⟩) (he : v.epoch = 0) : rwB (vtW v) = true ∧ rvM (vtW v) = v ∧ svM (vtW v) = v := by
  obtain ⟨n0, c0, c1, m0, m1, t0, t1, z0, z1, a0, a1⟩ := vm_b h
  have e1 : rvM (vtW v) = v := by
    show VMC.mk v.name (rfN vk0 (vk0 ++ decB v.tenant)) (rfN vk1 (vk1 ++ decB v.cpu)) (rfN vk2 (vk2 ++ decB v.mem)) (rfN vk3 (vk3 ++ decB v.zone)) (rfN vk4 (vk4 ++ decB v.apart)) ⟨#[]⟩ 0 = v
    rw [(rf_of vk0 v.tenant (by omega) (by omega)).1, (rf_of vk1 v.cpu (by omega) (by omega)).1, (rf_of vk2 v.mem (by omega) (by omega)).1, (rf_of vk3 v.zone (by omega) (by omega)).1, (rf_of vk4 v.apart (by omega) (by omega)).1, ← hn, ← he]
  refine ⟨?_, e1, ?_⟩
  · unfold rwB
    rw [e1, h]
    have : rwA (vtW v) = true := by
      show (rfB vk0 (vk0 ++ decB v.tenant) && rfB vk1 (vk1 ++ decB v.cpu) && rfB vk2 (vk2 ++ decB v.mem) && rfB vk3 (vk3 ++ decB v.zone) && rfB vk4 (vk4 ++ decB v.apart)) = true
      rw [(rf_of vk0 v.tenant (by omega) (by omega)).2, (rf_of vk1 v.cpu (by omega) (by omega)).2, (rf_of vk2 v.mem (by omega) (by omega)).2, (rf_of vk3 v.zone (by omega) (by omega)).2, (rf_of vk4 v.apart (by omega) (by omega)).2]
      rfl
    rw [this]
    rfl
  · show VMC.mk v.name (l23V vk0 (vk0 ++ decB v.tenant)) (l23V vk1 (vk1 ++ decB v.cpu)) (l23V vk2 (vk2 ++ decB v.mem)) (l23V vk3 (vk3 ++ decB v.zone)) (l23V vk4 (vk4 ++ decB v.apart)) ⟨#[]⟩ 0 = v
    rw [l23_of vk0 v.tenant (by omega) (by omega), l23_of vk1 v.cpu (by omega) (by omega), l23_of vk2 v.mem (by omega) (by omega), l23_of vk3 v.zone (by omega) (by omega), l23_of vk4 v.apart (by omega) (by omega), ← hn, ← he]
theorem rvP_vt {v : VMC} (h : vmB 8 v = true) (hn : v.node = ⟨#[]⟩) (he : v.epoch = 0) : rvP (vtT v) = v := by
  have := vtT_size h
  obtain ⟨h1, h2, h3⟩ := rw_vt h hn he
  unfold rvP rwV
  rw [if_neg (by omega), vt_split h, if_pos h1, h2]
theorem rv_eq (t : ByteArray) : rvS t = rvP t := by
  by_cases hp : rwB (splitB t 32) = true ∧ t.size ≤ 65536
  · obtain ⟨hb, hz⟩ := hp
    have hb2 := hb
    unfold rwB at hb2
    simp only [Bool.and_eq_true, decide_eq_true_eq] at hb2
    obtain ⟨⟨hl, ha⟩, hv⟩ := hb2
    unfold rwA at ha
    simp only [Bool.and_eq_true] at ha
    obtain ⟨⟨⟨⟨a0, a1⟩, a2⟩, a3⟩, a4⟩ := ha
    have w0 := rf_word a0
    have w1 := rf_word a1
    have w2 := rf_word a2
    have w3 := rf_word a3
    have w4 := rf_word a4
    obtain ⟨ws, l, e1, e2, _, _⟩ := split_words t
    have hs : splitB t 32 = vtW (rvM (splitB t 32)) := by
      generalize splitB t 32 = L at *
      match L, hl with
      | [x0, x1, x2, x3, x4, x5], _ =>
        show [x0, x1, x2, x3, x4, x5] = [x0, vk0 ++ decB (rfN vk0 x1), vk1 ++ decB (rfN vk1 x2), vk2 ++ decB (rfN vk2 x3), vk3 ++ decB (rfN vk3 x4), vk4 ++ decB (rfN vk4 x5)]
        have w0 : x1 = vk0 ++ decB (rfN vk0 x1) := w0
        have w1 : x2 = vk1 ++ decB (rfN vk1 x2) := w1
        have w2 : x3 = vk2 ++ decB (rfN vk2 x3) := w2
        have w3 : x4 = vk3 ++ decB (rfN vk3 x4) := w3
        have w4 : x5 = vk4 ++ decB (rfN vk4 x5) := w4
        rw [← w0, ← w1, ← w2, ← w3, ← w4]
    have ht : t = vtT (rvM (splitB t 32)) := by
      apply ext_list
      rw [vt_list, e2]
      have h9 : ws ++ [l] = [(rvM (splitB t 32)).name, vk0 ++ decB (rvM (splitB t 32)).tenant, vk1 ++ decB (rvM (splitB t 32)).cpu, vk2 ++ decB (rvM (splitB t 32)).mem, vk3 ++ decB (rvM (splitB t 32)).zone] ++ [vk4 ++ decB (rvM (splitB t 32)).apart] := by rw [← e1]; exact hs
      obtain ⟨p, q⟩ := List.append_inj' h9 rfl
      rw [p, (List.cons.inj q).1]
    obtain ⟨r1, r2, r3⟩ := rw_vt hv rfl rfl
    have hsv : svM (splitB t 32) = rvM (splitB t 32) := by
      have : svM (splitB t 32) = svM (vtW (rvM (splitB t 32))) := by rw [← hs]
      rw [this, r3]
    have hP : rvP t = rvM (splitB t 32) := by
      unfold rvP rwV
      rw [if_neg (by omega), if_pos hb]
    rw [hP]
    unfold rvS
    rw [hsv, if_pos]
    refine ⟨?_, hl, ?_⟩
    · rw [ht]; exact vtT_size hv
    · unfold vtV; rw [if_pos hv]; exact ht.symm
  · have hz : rvP t = vmc0 := by
      unfold rvP rwV
      split
      · rfl
      · rw [if_neg (fun h => hp ⟨h, by omega⟩)]
    rw [hz]
    unfold rvS
    rw [if_neg]
    rintro ⟨h1, h2, h3⟩
    cases hv : vmB 8 (svM (splitB t 32)) with
    | false =>
      unfold vtV at h3
      rw [hv] at h3
      have h4 : t = ⟨#[]⟩ := by rw [← h3]; rfl
      rw [h4] at h2
      exact absurd h2 (by decide +kernel)
    | true =>
      unfold vtV at h3
      rw [if_pos hv] at h3
      have hs : splitB t 32 = vtW (svM (splitB t 32)) := by
        have := vt_split hv
        rw [h3] at this
        exact this
      obtain ⟨r1, r2, r3⟩ := rw_vt hv rfl rfl
      rw [← hs] at r1
      exact hp ⟨r1, by omega⟩
end Go.Proofs.YtkicaihfknfgkaaDoor
