import Derived.Test.YtalpcjclahkgnaaGreatCrY
namespace Go.Proofs.YtalpcjclahkgnaaGreat
open Go.ChangeShapes Go.WideShapes Go.ChangeAt Go.RowKit

/-- A plain sum over machines. -/
def smP (f : VMC → Int) (p : VMC → Bool) : List VMC → Int
  | [] => 0
  | x :: xs => (if p x then f x else 0) + smP f p xs
theorem smP_bd {f : VMC → Int} {p : VMC → Bool} : ∀ xs : List VMC, (∀ x ∈ xs, 0 ≤ f x ∧ f x ≤ 1000) → 0 ≤ smP f p xs ∧ smP f p xs ≤ 1000 * (xs.length : Int)
  | [], _ => by simp [smP]
  | x :: xs, h => by
    have ih := smP_bd (f := f) (p := p) xs (fun y hy => h y (List.mem_cons_of_mem _ hy))
    have hx := h x List.mem_cons_self
    simp only [smP, List.length_cons]
    split <;> omega
theorem smW_eq {f : VMC → Int} {p : VMC → Bool} : ∀ (xs : List VMC) (a : Int), (∀ x ∈ xs, 0 ≤ f x ∧ f x ≤ 1000) → 0 ≤ a → a + 1000 * (xs.length : Int) ≤ 4000000000 → smW f p a xs = a + smP f p xs
  | [], a, _, _, _ => by simp [smW, smP]
  | x :: xs, a, h, h0, h1 => by
    have hx := h x List.mem_cons_self
    simp only [List.length_cons] at h1
    have e : smW f p a (x :: xs) = smW f p (if p x then wrap64 (a + f x) else a) xs := rfl
    have hw : wrap64 (a + f x) = a + f x := by unfold wrap64; omega
    rw [e, smP]
    cases hp : p x
    · simp only [Bool.false_eq_true, if_false]
      rw [smW_eq xs a (fun y hy => h y (List.mem_cons_of_mem _ hy)) h0 (by omega)]
      omega
    · simp only [if_true]
      rw [hw, smW_eq xs (a + f x) (fun y hy => h y (List.mem_cons_of_mem _ hy)) (by omega) (by omega)]
      omega
theorem smP_congr {f : VMC → Int} {p q : VMC → Bool} : ∀ xs : List VMC, (∀ x ∈ xs, p x = q x) → smP f p xs = smP f q xs
  | [], _ => rfl
  | x :: xs, h => by
    rw [smP, smP, h x List.mem_cons_self, smP_congr xs (fun y hy => h y (List.mem_cons_of_mem _ hy))]
theorem smP_split {f : VMC → Int} (p r : VMC → Bool) : ∀ xs : List VMC, smP f p xs = smP f (fun x => p x && r x) xs + smP f (fun x => p x && !r x) xs
  | [] => by simp [smP]
  | x :: xs => by
    rw [smP, smP, smP, smP_split p r xs]
    cases p x <;> cases r x <;> simp <;> omega
theorem smP_zero {f : VMC → Int} {p : VMC → Bool} : ∀ xs : List VMC, (∀ x ∈ xs, p x = false) → smP f p xs = 0
  | [], _ => rfl
  | x :: xs, h => by
    rw [smP, h x List.mem_cons_self, smP_zero xs (fun y hy => h y (List.mem_cons_of_mem _ hy))]
    simp
theorem smP_one {f : VMC → Int} {q : VMC → Bool} : ∀ (xs : List VMC) (j : Nat) (hj : j < xs.length), (∀ i (hi : i < xs.length), i ≠ j → q xs[i] = false) → smP f q xs = if q xs[j] then f xs[j] else 0
  | [], j, hj, _ => by simp at hj
  | x :: xs, 0, hj, h => by
    rw [smP, smP_zero xs (fun y hy => by
      obtain ⟨i, hi, rfl⟩ := List.getElem_of_mem hy
      exact h (i + 1) (by simpa using hi) (by omega))]
    simp
  | x :: xs, j + 1, hj, h => by
    rw [smP, smP_one xs j (by simpa using hj) (fun i hi hne => h (i + 1) (by simpa using hi) (by omega))]
    have := h 0 (by simp) (by omega)
    simp at this
    simp [this]
theorem getD_set_eq {cs : List (Int × Int)} {q : Nat} (hq : q < cs.length) (v : Int × Int) : (cs.set q v).getD q (0, 0) = v := by
  simp [List.getD, hq]
theorem getD_set_ne' {cs : List (Int × Int)} {q k : Nat} (h : q ≠ k) (v : Int × Int) : (cs.set q v).getD k (0, 0) = cs.getD k (0, 0) := by
  simp [List.getD, List.getElem?_set_ne h]
theorem stC_fold (s : CL) (k : Nat) : ∀ (l : List VMC) (cs : List (Int × Int)), (∀ x ∈ l, (0 ≤ x.cpu ∧ x.cpu ≤ 1000) ∧ 0 ≤ x.mem ∧ x.mem ≤ 1000) → cs.length = s.nodes.length →
    0 ≤ (cs.getD k (0, 0)).1 → (cs.getD k (0, 0)).1 + 1000 * (l.length : Int) ≤ 4000000000 → 0 ≤ (cs.getD k (0, 0)).2 → (cs.getD k (0, 0)).2 + 1000 * (l.length : Int) ≤ 4000000000 →
    ((l.foldl (stC s) cs).getD k (0, 0)).1 = (cs.getD k (0, 0)).1 + smP VMC.cpu (fun x => decide (ndX s x.node = k)) l ∧ ((l.foldl (stC s) cs).getD k (0, 0)).2 = (cs.getD k (0, 0)).2 + smP VMC.mem (fun x => decide (ndX s x.node = k)) l
  | [], cs, _, _, _, _, _, _ => by simp [smP]
  | x :: l, cs, h, hl, h0, h1, h2, h3 => by
    have hx := h x List.mem_cons_self
    simp only [List.length_cons] at h1 h3
    rw [List.foldl_cons, smP, smP]
    rcases ndX_or s x.node with ⟨e, _⟩ | ⟨q, hq, e, _⟩
    · rw [stC_no e]
      have := stC_fold s k l cs (fun y hy => h y (List.mem_cons_of_mem _ hy)) hl h0 (by omega) h2 (by omega)
      have hd : decide (ndX s x.node = (k : Int)) = false := decide_eq_false (by rw [e]; omega)
      rw [hd]
      simp only [Bool.false_eq_true, if_false]
      omega
    · have hq2 : q < cs.length := by omega
      rw [stC_yes e hq2]
      have g : cs[q] = cs.getD q (0, 0) := by simp [List.getD, hq2]
      by_cases hk : q = k
      · subst hk
        have hd : decide (ndX s x.node = (q : Int)) = true := decide_eq_true e
        have w1 : wrap64 (cs[q].1 + x.cpu) = (cs.getD q (0, 0)).1 + x.cpu := by rw [g]; unfold wrap64; omega
        have w2 : wrap64 (cs[q].2 + x.mem) = (cs.getD q (0, 0)).2 + x.mem := by rw [g]; unfold wrap64; omega
        rw [w1, w2]
        have gs := getD_set_eq hq2 ((cs.getD q (0, 0)).1 + x.cpu, (cs.getD q (0, 0)).2 + x.mem)
        have := stC_fold s q l (cs.set q ((cs.getD q (0, 0)).1 + x.cpu, (cs.getD q (0, 0)).2 + x.mem)) (fun y hy => h y (List.mem_cons_of_mem _ hy)) (by simpa using hl) (by rw [gs]; simp only; omega) (by rw [gs]; simp only; omega) (by rw [gs]; simp only; omega) (by rw [gs]; simp only; omega)
        rw [gs] at this
        rw [hd]
        simp only [if_true]
        simp only at this
        omega
      · have hd : decide (ndX s x.node = (k : Int)) = false := decide_eq_false (by rw [e]; omega)
        have gs := getD_set_ne' (cs := cs) hk (wrap64 (cs[q].1 + x.cpu), wrap64 (cs[q].2 + x.mem))
        have := stC_fold s k l (cs.set q (wrap64 (cs[q].1 + x.cpu), wrap64 (cs[q].2 + x.mem))) (fun y hy => h y (List.mem_cons_of_mem _ hy)) (by simpa using hl) (by rw [gs]; omega) (by rw [gs]; omega) (by rw [gs]; omega) (by rw [gs]; omega)
        rw [gs] at this
        rw [hd]
        simp only [Bool.false_eq_true, if_false]
        omega
theorem rs_lt {xs : List ByteArray} (h : rsB xs = true) : ∀ j (hj : j < xs.length) i (hi : i < j), tlt (xs[i]'(Nat.lt_trans hi hj)) xs[j] = true
  | 0, _, i, hi => absurd hi (Nat.not_lt_zero i)
  | j + 1, hj, i, hi => by
    have h1 := allD_iff.1 h (j + 1) hj
    rw [rkB_s hj, Bool.and_eq_true] at h1
    by_cases e : i = j
    · subst e
      exact h1.2
    · exact bl_trans _ _ _ (rs_lt h j (by omega) i (by omega)) h1.2
theorem rs_ne {xs : List ByteArray} (h : rsB xs = true) {i j : Nat} (hi : i < xs.length) (hj : j < xs.length) (hne : i ≠ j) : xs[i].toList ≠ xs[j].toList := by
  intro e
  rcases Nat.lt_or_ge i j with h1 | h1
  · have := rs_lt h j hj i h1
    unfold tlt at this
    rw [e, bl_irr] at this
    cases this
  · have := rs_lt h i hi j (by omega)
    unfold tlt at this
    rw [e, bl_irr] at this
    cases this
/-- What holds of a cluster whose lists are right. -/
structure GC (s : CL) : Prop where
  nn : s.nodes.length ≤ 12
  nv : s.vms.length ≤ 30
  nd : ∀ i j (hi : i < s.nodes.length) (hj : j < s.nodes.length), i ≠ j → s.nodes[i].name.toList ≠ s.nodes[j].name.toList
  vd : ∀ i j (hi : i < s.vms.length) (hj : j < s.vms.length), i ≠ j → s.vms[i].name.toList ≠ s.vms[j].name.toList
  vb : ∀ x ∈ s.vms, (0 ≤ x.cpu ∧ x.cpu ≤ 1000) ∧ 0 ≤ x.mem ∧ x.mem ≤ 1000
theorem GC.ndX {s : CL} (h : GC s) {k : Nat} (hk : k < s.nodes.length) (nm : ByteArray) : decide (ndX s nm = k) = (nm.toList == s.nodes[k].name.toList) := by
  rcases ndX_or s nm with ⟨e, hn⟩ | ⟨q, hq, e, hqe, _⟩
  · rw [decide_eq_false (by rw [e]; omega)]
    have := hn k hk
    cases h2 : (nm.toList == s.nodes[k].name.toList) with
    | false => rfl
    | true => rw [eq_of_beq h2] at this; simp at this
  · rw [e]
    by_cases hqk : q = k
    · subst hqk
      rw [decide_eq_true rfl, hqe]
      simp
    · rw [decide_eq_false (by omega)]
      cases h2 : (nm.toList == s.nodes[k].name.toList) with
      | false => rfl
      | true => exact absurd (hqe.trans (eq_of_beq h2)) (h.nd q k hq hk hqk)
theorem GC.cn {s : CL} (h : GC s) {k : Nat} (hk : k < s.nodes.length) :
    ((cnL s).getD k (0, 0)).1 = smP VMC.cpu (fun x => x.node.toList == s.nodes[k].name.toList) s.vms ∧ ((cnL s).getD k (0, 0)).2 = smP VMC.mem (fun x => x.node.toList == s.nodes[k].name.toList) s.vms := by
  have nv := h.nv
  have g : (List.replicate s.nodes.length ((0 : Int), (0 : Int))).getD k (0, 0) = (0, 0) := by simp [List.getD, hk]
  have := stC_fold s k s.vms (List.replicate s.nodes.length (0, 0)) h.vb (by simp) (by rw [g]; simp) (by rw [g]; simp only; omega) (by rw [g]; simp) (by rw [g]; simp only; omega)
  rw [g] at this
  simp only [Int.zero_add] at this
  refine ⟨this.1.trans (smP_congr _ fun x _ => h.ndX hk x.node), this.2.trans (smP_congr _ fun x _ => h.ndX hk x.node)⟩
theorem GC.one {s : CL} (h : GC s) (f : VMC → Int) (k : Nat) (hk : k < s.nodes.length) (nm : ByteArray) :
    smP f (fun x => (x.node.toList == s.nodes[k].name.toList) && (x.name.toList == nm.toList)) s.vms = if isO s k nm = true then f (vmA s (vmX s nm).toNat) else 0 := by
  rcases vmX_or s nm with ⟨e, hn⟩ | ⟨j, hj, e, he, _⟩
  · rw [isO_no e, smP_zero]
    · rfl
    · intro x hx
      obtain ⟨i, hi, rfl⟩ := List.getElem_of_mem hx
      rw [hn i hi, Bool.and_false]
  · rw [isO_at e hj hk, show vmA s (vmX s nm).toNat = s.vms[j] by rw [e]; exact vmA_at hj]
    rw [smP_one s.vms j hj]
    · rw [he]
      simp
    · intro i hi hne
      have := h.vd i j hi hj hne
      rw [he] at this
      have h2 : (s.vms[i].name.toList == nm.toList) = false := by simpa using this
      rw [h2, Bool.and_false]
theorem GC.ot {s : CL} (h : GC s) {k : Nat} (hk : k < s.nodes.length) (nm : ByteArray) : otC s (cnL s) k nm = smP VMC.cpu (onB s k nm) s.vms ∧ otM s (cnL s) k nm = smP VMC.mem (onB s k nm) s.vms := by
  have nv := h.nv
  obtain ⟨c1, c2⟩ := h.cn hk
  have o1 := h.one VMC.cpu k hk nm
  have o2 := h.one VMC.mem k hk nm
  have s1 := smP_split (f := VMC.cpu) (fun x => x.node.toList == s.nodes[k].name.toList) (fun x => x.name.toList == nm.toList) s.vms
  have s2 := smP_split (f := VMC.mem) (fun x => x.node.toList == s.nodes[k].name.toList) (fun x => x.name.toList == nm.toList) s.vms
  have e : onB s k nm = fun x => (x.node.toList == s.nodes[k].name.toList) && !(x.name.toList == nm.toList) := by
    funext x
    unfold onB
    rw [ndA_at hk]
  have b1 := smP_bd (f := VMC.cpu) (p := onB s k nm) s.vms (fun x hx => (h.vb x hx).1)
  have b2 := smP_bd (f := VMC.mem) (p := onB s k nm) s.vms (fun x hx => (h.vb x hx).2)
  rw [e] at b1 b2 ⊢
  unfold otC otM
  rw [c1, c2, s1, s2, o1, o2]
  generalize smP VMC.cpu (fun x => (x.node.toList == s.nodes[k].name.toList) && !(x.name.toList == nm.toList)) s.vms = P1 at *
  generalize smP VMC.mem (fun x => (x.node.toList == s.nodes[k].name.toList) && !(x.name.toList == nm.toList)) s.vms = P2 at *
  cases isO s k nm
  · simp
  · simp only [if_true]
    constructor
    · unfold wrap64
      omega
    · unfold wrap64
      omega
theorem GC.ft {s : CL} (h : GC s) {k : Nat} (hk : k < s.nodes.length) {v : VMC} (h1 : 0 ≤ v.cpu ∧ v.cpu ≤ 1000) (h2 : 0 ≤ v.mem ∧ v.mem ≤ 1000) : ftV s (cnL s) k v = hlV s k v := by
  have nv := h.nv
  obtain ⟨o1, o2⟩ := h.ot hk v.name
  have b1 := smP_bd (f := VMC.cpu) (p := onB s k v.name) s.vms (fun x hx => (h.vb x hx).1)
  have b2 := smP_bd (f := VMC.mem) (p := onB s k v.name) s.vms (fun x hx => (h.vb x hx).2)
  have w1 := smW_eq (f := VMC.cpu) (p := onB s k v.name) s.vms v.cpu (fun x hx => (h.vb x hx).1) h1.1 (by omega)
  have w2 := smW_eq (f := VMC.mem) (p := onB s k v.name) s.vms v.mem (fun x hx => (h.vb x hx).2) h2.1 (by omega)
  have e1 : wrap64 (otM s (cnL s) k v.name + v.mem) = smW VMC.mem (onB s k v.name) v.mem s.vms := by rw [w2, o2]; unfold wrap64; omega
  have e2 : wrap64 (otC s (cnL s) k v.name + v.cpu) = smW VMC.cpu (onB s k v.name) v.cpu s.vms := by rw [w1, o1]; unfold wrap64; omega
  unfold ftV hlV
  rw [e1, e2]
theorem GC.ms {s : CL} (h : GC s) {v : VMC} (h1 : 0 ≤ v.cpu ∧ v.cpu ≤ 1000) (h2 : 0 ≤ v.mem ∧ v.mem ≤ 1000) : msB s (cnL s) v = styB s v := by
  unfold msB styB
  rcases ndX_or s v.node with ⟨e, _⟩ | ⟨q, hq, e, _⟩
  · rw [e]
    rfl
  · rw [e, show ((q : Int).toNat) = q from rfl, h.ft hq h1 h2]
theorem rk_nodes {s : CL} {k : Nat} (hk : k < s.nodes.length) : rkB (s.nodes.map NOD.name) k = (nmB (ndA s k).name && (decide (k = 0) || tlt (ndA s (k - 1)).name (ndA s k).name)) := by
  cases k with
  | zero => rw [rkB_0 (by simpa using hk)]; simp [ndA_at hk]
  | succ k => rw [rkB_s (by simpa using hk)]; simp [ndA_at hk, ndA_at (show k < s.nodes.length by omega)]
theorem rk_vms {s : CL} {k : Nat} (hk : k < s.vms.length) : rkB (s.vms.map VMC.name) k = (nmB (vmA s k).name && (decide (k = 0) || tlt (vmA s (k - 1)).name (vmA s k).name)) := by
  cases k with
  | zero => rw [rkB_0 (by simpa using hk)]; simp [vmA_at hk]
  | succ k => rw [rkB_s (by simpa using hk)]; simp [vmA_at hk, vmA_at (show k < s.vms.length by omega)]
theorem nr_eq (s : CL) : nrB s = allD (nkB s) s.nodes.length := by
  rw [Bool.eq_iff_iff]
  unfold nrB rsB
  rw [Bool.and_eq_true, allD_iff, allD_iff, allD_iff]
  simp only [List.length_map]
  constructor
  · intro ⟨h1, h2⟩ k hk
    have a := h1 k hk
    have b := h2 k hk
    rw [rk_nodes hk] at b
    unfold ndR at a
    unfold nkB
    rw [b, a]
    rfl
  · intro h
    refine ⟨fun k hk => ?_, fun k hk => ?_⟩
    · have := h k hk
      unfold nkB at this
      rw [Bool.and_eq_true] at this
      exact this.2
    · have := h k hk
      unfold nkB at this
      rw [Bool.and_eq_true] at this
      rw [rk_nodes hk]
      exact this.1
theorem vr_eq (s : CL) : (vrB s && s.vms.all (styB s)) = allD (vkB s) s.vms.length := by
  rw [Bool.eq_iff_iff]
  unfold vrB rsB
  rw [Bool.and_eq_true, Bool.and_eq_true, allD_iff, allD_iff, allD_iff, List.all_eq_true]
  simp only [List.length_map]
  constructor
  · intro ⟨⟨h1, h2⟩, h3⟩ k hk
    have a := h1 k hk
    have b := h2 k hk
    have c := h3 s.vms[k] (List.getElem_mem hk)
    rw [rk_vms hk, Bool.and_eq_true] at b
    rw [← vmA_at hk] at c
    unfold vmR at a
    rw [Bool.and_eq_true] at a
    unfold vkB
    rw [a.1, b.2, a.2, c]
    rfl
  · intro h
    have h0 : ∀ k (hk : k < s.vms.length), ((vmB s.tenants.length (vmA s k) = true ∧ (decide (k = 0) || tlt (vmA s (k - 1)).name (vmA s k).name) = true) ∧ epB (vmA s k) = true) ∧ styB s (vmA s k) = true := fun k hk => by
      have := h k hk
      unfold vkB at this
      simpa only [Bool.and_eq_true] using this
    refine ⟨⟨fun k hk => ?_, fun k hk => ?_⟩, fun x hx => ?_⟩
    · unfold vmR
      rw [(h0 k hk).1.1.1, (h0 k hk).1.2]
      rfl
    · have h1 := (h0 k hk).1.1.1
      unfold vmB at h1
      simp only [Bool.and_eq_true] at h1
      rw [rk_vms hk, (h0 k hk).1.1.2, h1.1.1.1.1.1.1.1.1.1.1]
      rfl
    · obtain ⟨k, hk, rfl⟩ := List.getElem_of_mem hx
      have := (h0 k hk).2
      rwa [vmA_at hk] at this
theorem vmB_bd {T : Int} {v : VMC} (h : vmB T v = true) : (0 ≤ v.cpu ∧ v.cpu ≤ 1000) ∧ 0 ≤ v.mem ∧ v.mem ≤ 1000 := by
  unfold vmB at h
  simp only [Bool.and_eq_true, decide_eq_true_eq] at h
  omega
theorem GC.of {s : CL} (h1 : bdB s = true) (h2 : nrB s = true) (h3 : vrB s = true) : GC s := by
  unfold bdB lnB at h1
  simp only [Bool.and_eq_true, decide_eq_true_eq] at h1
  unfold nrB at h2
  unfold vrB at h3
  rw [Bool.and_eq_true] at h2 h3
  refine ⟨by omega, by omega, fun i j hi hj hne => ?_, fun i j hi hj hne => ?_, fun x hx => ?_⟩
  · have := rs_ne h2.2 (i := i) (j := j) (by simpa using hi) (by simpa using hj) hne
    simpa using this
  · have := rs_ne h3.2 (i := i) (j := j) (by simpa using hi) (by simpa using hj) hne
    simpa using this
  · obtain ⟨k, hk, rfl⟩ := List.getElem_of_mem hx
    have := allD_iff.1 h3.1 k hk
    unfold vmR at this
    rw [Bool.and_eq_true, vmA_at hk] at this
    exact vmB_bd this.1
def irB (s : CL) : Bool := bdB s && nrB s && vrB s && allD (tkB s) s.tenants.length && !(s.vms.any fun v => !msB s (cnL s) v)
theorem ir_eq (s : CL) : irB s = cfB s := by
  have e : cfB s = (bdB s && nrB s && (vrB s && s.vms.all (styB s)) && allD (tkB s) s.tenants.length) := by
    rw [vr_eq, nr_eq]
    unfold cfB nosB bdB
    generalize ovB s = A
    generalize lnB s = B
    generalize decide ((s.nodes.length : Int) ≤ 12) = C
    generalize allD (nkB s) s.nodes.length = D
    cases A <;> cases B <;> cases C <;> cases D <;> simp
  rw [e]
  unfold irB
  cases h1 : bdB s
  · simp
  cases h2 : nrB s
  · simp
  cases h3 : vrB s
  · simp
  have g := GC.of h1 h2 h3
  have hm : (!(s.vms.any fun v => !msB s (cnL s) v)) = s.vms.all (styB s) := by
    rw [List.any_eq_not_all_not]
    simp only [Bool.not_not]
    rw [Bool.eq_iff_iff, List.all_eq_true, List.all_eq_true]
    constructor
    · intro h x hx
      have := h x hx
      rwa [g.ms (g.vb x hx).1 (g.vb x hx).2] at this
    · intro h x hx
      rw [g.ms (g.vb x hx).1 (g.vb x hx).2]
      exact h x hx
  rw [hm]
  cases allD (tkB s) s.tenants.length <;> cases s.vms.all (styB s) <;> rfl
end Go.Proofs.YtalpcjclahkgnaaGreat
