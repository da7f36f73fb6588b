import Derived.Test.YtcglpigmellfcabEd1
namespace Go.Proofs.Ytcglpigmellfcab
open Go.ChangeShapes Go.WideShapes Go.ChangeAt Go.RowKit

def prodP : List RK → Int
  | [] => 1
  | z :: zs => z.period * prodP zs
/-- What is asked of so much. -/
def askP (W : Int) : List RK → Int
  | [] => 0
  | z :: zs => W / z.period * z.budget + askP W zs
theorem askP_two (A B : Int) (zs : List RK) (h : ∀ z ∈ zs, 1 ≤ z.period ∧ z.period ∣ A ∧ z.period ∣ B) : askP A zs * B = askP B zs * A := by
  induction zs with
  | nil => simp [askP]
  | cons z zs ih =>
    obtain ⟨h1, ⟨x, hx⟩, ⟨y, hy⟩⟩ := h z (by simp)
    have h2 := ih (fun q hq => h q (by simp [hq]))
    have hp : z.period ≠ 0 := by omega
    have e1 : A / z.period = x := by rw [hx]; exact Int.mul_ediv_cancel_left x hp
    have e2 : B / z.period = y := by rw [hy]; exact Int.mul_ediv_cancel_left y hp
    simp only [askP]
    rw [Int.add_mul, Int.add_mul, h2, e1, e2]
    congr 1
    rw [hx, hy]
    simp only [Int.mul_comm, Int.mul_left_comm]
theorem prodP_dvd {zs : List RK} {z : RK} (h : z ∈ zs) : z.period ∣ prodP zs := by
  induction zs with
  | nil => cases h
  | cons y zs ih =>
    simp only [prodP]
    rcases List.mem_cons.1 h with rfl | h
    · exact Int.dvd_mul_right _ _
    · exact Int.dvd_trans (ih h) (Int.dvd_mul_left _ _)
theorem prodP_b (zs : List RK) (h : ∀ z ∈ zs, 1 ≤ z.period ∧ z.period ≤ 40) : 1 ≤ prodP zs ∧ prodP zs ≤ 40 ^ zs.length := by
  induction zs with
  | nil => simp [prodP]
  | cons z zs ih =>
    obtain ⟨i1, i2⟩ := ih (fun q hq => h q (by simp [hq]))
    obtain ⟨h1, h2⟩ := h z (by simp)
    simp only [prodP, List.length_cons, Int.pow_succ]
    constructor
    · have := Int.mul_le_mul h1 i1 (by omega) (by omega)
      simpa using this
    · have := Int.mul_le_mul h2 i2 (by omega) (by omega)
      rw [Int.mul_comm (40 ^ zs.length)]
      exact this
theorem all_dvd {p : Int} (h1 : 1 ≤ p) (h2 : p ≤ 40) : p ∣ 5342931457063200 := by
  obtain ⟨n, rfl⟩ := Int.eq_ofNat_of_zero_le (by omega : 0 ≤ p)
  have : ∀ n : Nat, n ≤ 40 → 1 ≤ n → (n : Int) ∣ 5342931457063200 := by decide
  exact this n (by omega) (by omega)
theorem admit_eq (zs : List RK) (h : ∀ z ∈ zs, 1 ≤ z.period ∧ z.period ≤ 40) : (decide (askP (prodP zs) zs ≤ prodP zs)) = decide (askP 5342931457063200 zs ≤ 5342931457063200) := by
  have e := askP_two (prodP zs) 5342931457063200 zs (fun z hz => ⟨(h z hz).1, prodP_dvd hz, all_dvd (h z hz).1 (h z hz).2⟩)
  have hp := (prodP_b zs h).1
  generalize askP (prodP zs) zs = a at *
  generalize askP 5342931457063200 zs = b at *
  generalize prodP zs = W at *
  rw [decide_eq_decide]
  constructor
  · intro q
    have := Int.mul_le_mul_of_nonneg_right q (by omega : (0:Int) ≤ 5342931457063200)
    rw [e] at this
    rw [Int.mul_comm W] at this
    exact Int.le_of_mul_le_mul_right this (by omega)
  · intro q
    have := Int.mul_le_mul_of_nonneg_right q (by omega : (0:Int) ≤ W)
    rw [← e] at this
    rw [Int.mul_comm _ W] at this
    exact Int.le_of_mul_le_mul_right this (by omega)
theorem askP_b (W : Int) (hW : 0 ≤ W) (zs : List RK) (h : ∀ z ∈ zs, 1 ≤ z.period ∧ 1 ≤ z.budget ∧ z.budget ≤ z.period) : 0 ≤ askP W zs ∧ askP W zs ≤ zs.length * W := by
  induction zs with
  | nil => simp [askP]
  | cons z zs ih =>
    obtain ⟨i1, i2⟩ := ih (fun q hq => h q (by simp [hq]))
    obtain ⟨h1, h2, h3⟩ := h z (by simp)
    have a0 : 0 ≤ W / z.period := Int.ediv_nonneg hW (by omega)
    have a1 : 0 ≤ W / z.period * z.budget := Int.mul_nonneg a0 (by omega)
    have a2 : W / z.period * z.budget ≤ W / z.period * z.period := Int.mul_le_mul_of_nonneg_left h3 a0
    have a3 : W / z.period * z.period ≤ W := Int.ediv_mul_le _ (by omega)
    simp only [askP, List.length_cons]
    constructor
    · omega
    · have : ((zs.length + 1 : Nat) : Int) * W = zs.length * W + W := by rw [Int.natCast_add, Int.add_mul]; simp
      rw [this]
      omega
theorem prodP_app (zs : List RK) (z : RK) : prodP (zs ++ [z]) = prodP zs * z.period := by
  induction zs with
  | nil => simp [prodP]
  | cons y zs ih =>
    simp only [List.cons_append, prodP, ih, Int.mul_assoc]
theorem askP_app (W : Int) (zs : List RK) (z : RK) : askP W (zs ++ [z]) = askP W zs + W / z.period * z.budget := by
  induction zs with
  | nil => simp [askP]
  | cons y zs ih =>
    simp only [List.cons_append, askP, ih, Int.add_assoc]
theorem pow40 {n : Nat} (h : n ≤ 8) : (40 : Int) ^ n ≤ 6553600000000 := by
  have : ∀ n : Nat, n ≤ 8 → (40 : Int) ^ n ≤ 6553600000000 := by decide
  exact this n h
theorem prodP_8 {zs : List RK} (h : ∀ z ∈ zs, rkB z = true) (hl : zs.length ≤ 8) : 1 ≤ prodP zs ∧ prodP zs ≤ 6553600000000 := by
  have h1 := prodP_b zs (fun z hz => by have := rkB_yes (h z hz); omega)
  have h2 := pow40 hl
  exact ⟨h1.1, Int.le_trans h1.2 h2⟩
theorem askP_8 {W : Int} (hW : 0 ≤ W) (hW2 : W ≤ 5342931457063200) {zs : List RK} (h : ∀ z ∈ zs, rkB z = true) (hl : zs.length ≤ 8) : 0 ≤ askP W zs ∧ askP W zs ≤ 42743451656505600 := by
  have h1 := askP_b W hW zs (fun z hz => by have := rkB_yes (h z hz); omega)
  refine ⟨h1.1, Int.le_trans h1.2 ?_⟩
  have h2 : (zs.length : Int) * W ≤ 8 * W := Int.mul_le_mul_of_nonneg_right (by omega) hW
  omega
theorem mem_take {α : Type} {zs : List α} {p : α → Prop} (h : ∀ z ∈ zs, p z) (k : Nat) : ∀ z ∈ zs.take k, p z := fun z hz => h z (List.mem_of_mem_take hz)
theorem prodP_le {zs : List RK} {k : Nat} (hk : k < zs.length) : prodP (zs.take k) * zs[k].period = prodP (zs.take (k + 1)) := by
  rw [List.take_succ_eq_append_getElem hk, prodP_app]
theorem askP_le (W : Int) {zs : List RK} {k : Nat} (hk : k < zs.length) : askP W (zs.take k) + W / zs[k].period * zs[k].budget = askP W (zs.take (k + 1)) := by
  rw [List.take_succ_eq_append_getElem hk, askP_app]
def adB (zs : List RK) : Bool := tasksB zs && decide (askP 5342931457063200 zs ≤ 5342931457063200)
set_option maxRecDepth 100000 in
set_option maxHeartbeats 4000000 in
theorem implAdmit_any {w : World} {v : Value} {zs : List RK} (h : RKrow w v zs) (hl : zs.length ≤ 1048576) : Calls Try.prog 23 #[v] w fun e w' => e = .returned (.bool (adB zs)) ∧ Below w.heap.size w w' := by
  have HR0 : Hid (RKrow w v zs) := h
  have HT : Hid _ := areTasks_any h hl
  obtain ⟨ao, cap, rfl⟩ := h.sl
  clear h hl
  cases ht : tasksB zs
  · have E : Hid (adB zs = false) := (show adB zs = false by unfold adB; rw [ht]; rfl)
    rw [ht] at HT
    go_enter Try.func23, Try.ntmps23
    go_wp2_with fail
    refine Calls.mono HT.out ?_
    rintro e u1 ⟨rfl, hb1⟩
    go_wp2
    go_ret
    exact ⟨ret_bool E.out.symm, hb1⟩
  have hl : zs.length ≤ 8 := by
    simp only [tasksB, Bool.and_eq_true, decide_eq_true_eq] at ht
    omega
  have hall : ∀ z ∈ zs, rkB z = true := by
    simp only [tasksB, Bool.and_eq_true, List.all_eq_true] at ht
    exact ht.2
  have HALL : Hid (∀ z ∈ zs, rkB z = true) := hall
  have E : Hid (adB zs = decide (askP (prodP zs) zs ≤ prodP zs)) := (show adB zs = _ by
    unfold adB
    rw [ht, admit_eq zs (fun z hz => by have := rkB_yes (hall z hz); omega)]
    rfl)
  have HW : Hid (1 ≤ prodP zs ∧ prodP zs ≤ 6553600000000) := prodP_8 hall hl
  rw [ht] at HT
  clear ht hall
  go_enter Try.func23, Try.ntmps23
  go_wp2_with fail
  refine Calls.mono HT.out ?_
  rintro e u1 ⟨rfl, hb1⟩
  have HB1 : Hid (Below w.heap.size w u1) := hb1
  have HR : Hid (RKrow u1 (.slice ao zs.length cap) zs) := HR0.out.below hb1
  clear hb1 HR0 HT
  go_wp2
  go_loopw [3, 14] (fun p i wr => ∃ k : Nat, k ≤ zs.length ∧ i = .int .i64 k ∧ p = .int .i64 (prodP (zs.take k)) ∧ Below u1.heap.size u1 wr) (fun _ i _ => zs.length - (intOf i).toNat)
  case atStart => exact ⟨0, Nat.zero_le _, rfl, rfl, Below.refl _ _⟩
  case round =>
    obtain ⟨k, hk, rfl, rfl, hb⟩ := hrel
    have HB : Hid (Below u1.heap.size u1 wr) := hb
    clear hb
    by_cases hlt : k < zs.length
    · skip
      obtain ⟨g, o, cap2, hv, _, hg, hc⟩ := HR.out.resolve_left (fun h => by rw [h.1] at hlt; simp at hlt)
      injection hv with hv1 hv2 hv3
      subst hv1 hv3
      obtain ⟨d0, d1, d2⟩ := hc.below HB.out hg k hlt
      have hgw : g < wr.heap.size := Nat.lt_of_lt_of_le hg HB.out.size
      have hk0 : (0 : Int) ≤ (k : Int) := by omega
      have hk1 : (k : Int) < (zs.length : Int) := by omega
      have hz := rkB_yes (HALL.out zs[k] (List.getElem_mem hlt))
      have HP : Hid (prodP (zs.take k) * zs[k].period = prodP (zs.take (k + 1))) := prodP_le hlt
      have hp := prodP_8 (mem_take HALL.out (k + 1)) (by rw [List.length_take]; omega)
      rw [← HP.out] at hp
      generalize prodP (zs.take k) = A at *
      generalize zs[k] = z at *
      have HLN : Hid (LG u1 (wr.alloc (.cells #[.int .i64 z.start, .int .i64 z.period, .int .i64 z.budget] 49)) wr.heap.size #[.int .i64 z.start, .int .i64 z.period, .int .i64 z.budget] 49) := ⟨HB.out.trans ((bx1 wr _).mono HB.out.size), heap_new _ _, HB.out.size⟩
      obtain ⟨hp1, hp2⟩ := hp
      clear hc hz
      go_wp2
      exact ⟨⟨k + 1, hlt, by go_num, by rw [← HP.out], HLN.out.bel⟩, by simp [intOf]; omega⟩
    · obtain rfl : k = zs.length := by omega
      rw [List.take_length]
      generalize prodP zs = W at *
      have HB2 : Hid (Below w.heap.size w wr) := HB1.out.trans (HB.out.mono HB1.out.size)
      have HR2 : Hid (RKrow wr (.slice ao zs.length cap) zs) := HR.out.below HB.out
      clear HB1 HB HR
      generalize wr = wa at *
      go_wp2
      go_loopw [6, 25] (fun p i wr2 => ∃ k : Nat, k ≤ zs.length ∧ i = .int .i64 k ∧ p = .int .i64 (askP W (zs.take k)) ∧ Below wa.heap.size wa wr2) (fun _ i _ => zs.length - (intOf i).toNat)
      case atStart => exact ⟨0, Nat.zero_le _, rfl, rfl, Below.refl _ _⟩
      case round =>
        obtain ⟨k, hk, rfl, rfl, hb⟩ := hrel
        have HB : Hid (Below wa.heap.size wa wr) := hb
        clear hb
        obtain ⟨hW1, hW2⟩ := HW.out
        by_cases hlt : k < zs.length
        · skip
          obtain ⟨g, o, cap2, hv, _, hg, hc⟩ := HR2.out.resolve_left (fun h => by rw [h.1] at hlt; simp at hlt)
          injection hv with hv1 hv2 hv3
          subst hv1 hv3
          obtain ⟨d0, d1, d2⟩ := hc.below HB.out hg k hlt
          have hgw : g < wr.heap.size := Nat.lt_of_lt_of_le hg HB.out.size
          have hk0 : (0 : Int) ≤ (k : Int) := by omega
          have hk1 : (k : Int) < (zs.length : Int) := by omega
          have hz := rkB_yes (HALL.out zs[k] (List.getElem_mem hlt))
          have HP : Hid (askP W (zs.take k) + W / zs[k].period * zs[k].budget = askP W (zs.take (k + 1))) := askP_le W hlt
          have ha := askP_8 (show 0 ≤ W by omega) (show W ≤ 5342931457063200 by omega) (mem_take HALL.out k) (by rw [List.length_take]; omega)
          have hp := askP_8 (show 0 ≤ W by omega) (show W ≤ 5342931457063200 by omega) (mem_take HALL.out (k + 1)) (by rw [List.length_take]; omega)
          rw [← HP.out] at hp
          generalize askP W (zs.take k) = A at *
          generalize zs[k] = z at *
          have HLN : Hid (LG wa (wr.alloc (.cells #[.int .i64 z.start, .int .i64 z.period, .int .i64 z.budget] 49)) wr.heap.size #[.int .i64 z.start, .int .i64 z.period, .int .i64 z.budget] 49) := ⟨HB.out.trans ((bx1 wr _).mono HB.out.size), heap_new _ _, HB.out.size⟩
          have hne : z.period ≠ 0 := by omega
          have hdv : W.tdiv z.period = W / z.period := Int.tdiv_eq_ediv_of_nonneg (by omega)
          have hq0 : 0 ≤ W / z.period := Int.ediv_nonneg (by omega) (by omega)
          have hq1 : W / z.period ≤ W := Int.ediv_le_self _ (by omega)
          have hm0 : 0 ≤ W / z.period * z.budget := Int.mul_nonneg hq0 (by omega)
          obtain ⟨hp1, hp2⟩ := hp
          obtain ⟨ha1, ha2⟩ := ha
          have hm1 : W / z.period * z.budget ≤ 42743451656505600 := by omega
          clear hc
          go_wp2
          go_quiet (fail)
          go_wp2
          exact ⟨⟨k + 1, hlt, by go_num, by rw [← HP.out], bdn HLN.out.bel _⟩, by simp [intOf]; omega⟩
        · obtain rfl : k = zs.length := by omega
          rw [List.take_length]
          go_wp2
          go_ret
          exact ⟨ret_bool E.out.symm, HB2.out.trans (HB.out.mono HB2.out.size)⟩
set_option maxRecDepth 100000 in
set_option maxHeartbeats 4000000 in
theorem specAdmit_any {w : World} {v : Value} {zs : List RK} (h : RKrow w v zs) : Calls Try.prog 24 #[v] w fun e w' => e = .returned (.bool (adB zs)) ∧ Below w.heap.size w w' := by
  have HR0 : Hid (RKrow w v zs) := h
  have HT : Hid _ := l18Tasks_any h
  obtain ⟨ao, cap, rfl⟩ := h.sl
  clear h
  cases ht : tasksB zs
  · have E : Hid (adB zs = false) := (show adB zs = false by unfold adB; rw [ht]; rfl)
    rw [ht] at HT
    go_enter Try.func24, Try.ntmps24
    go_wp2_with fail
    refine Calls.mono HT.out ?_
    rintro e u1 ⟨rfl, hb1⟩
    go_wp2
    go_ret
    exact ⟨ret_bool E.out.symm, hb1⟩
  have hl : zs.length ≤ 8 := by
    simp only [tasksB, Bool.and_eq_true, decide_eq_true_eq] at ht
    omega
  have hall : ∀ z ∈ zs, rkB z = true := by
    simp only [tasksB, Bool.and_eq_true, List.all_eq_true] at ht
    exact ht.2
  have HALL : Hid (∀ z ∈ zs, rkB z = true) := hall
  have E : Hid (adB zs = decide (askP 5342931457063200 zs ≤ 5342931457063200)) := (show adB zs = _ by
    unfold adB
    rw [ht]
    rfl)
  rw [ht] at HT
  clear ht hall
  go_enter Try.func24, Try.ntmps24
  go_wp2_with fail
  refine Calls.mono HT.out ?_
  rintro e u1 ⟨rfl, hb1⟩
  have HB1 : Hid (Below w.heap.size w u1) := hb1
  have HR2 : Hid (RKrow u1 (.slice ao zs.length cap) zs) := HR0.out.below hb1
  clear hb1 HR0 HT
  go_wp2
  go_loopw [3, 4] (fun p i wr => ∃ k : Nat, k ≤ zs.length ∧ i = .int .i64 k ∧ p = .int .i64 (askP 5342931457063200 (zs.take k)) ∧ Below u1.heap.size u1 wr) (fun _ i _ => zs.length - (intOf i).toNat)
  case atStart => exact ⟨0, Nat.zero_le _, rfl, rfl, Below.refl _ _⟩
  case round =>
    obtain ⟨k, hk, rfl, rfl, hb⟩ := hrel
    have HB : Hid (Below u1.heap.size u1 wr) := hb
    clear hb
    by_cases hlt : k < zs.length
    · obtain ⟨g, o, cap2, hv, _, hg, hc⟩ := HR2.out.resolve_left (fun h => by rw [h.1] at hlt; simp at hlt)
      injection hv with hv1 hv2 hv3
      subst hv1 hv3
      obtain ⟨d0, d1, d2⟩ := hc.below HB.out hg k hlt
      have hgw : g < wr.heap.size := Nat.lt_of_lt_of_le hg HB.out.size
      have hk0 : (0 : Int) ≤ (k : Int) := by omega
      have hk1 : (k : Int) < (zs.length : Int) := by omega
      have hz := rkB_yes (HALL.out zs[k] (List.getElem_mem hlt))
      have HP : Hid (askP 5342931457063200 (zs.take k) + 5342931457063200 / zs[k].period * zs[k].budget = askP 5342931457063200 (zs.take (k + 1))) := askP_le 5342931457063200 hlt
      have ha := askP_8 (show (0 : Int) ≤ 5342931457063200 by omega) (show (5342931457063200 : Int) ≤ 5342931457063200 by omega) (mem_take HALL.out k) (by rw [List.length_take]; omega)
      have hp := askP_8 (show (0 : Int) ≤ 5342931457063200 by omega) (show (5342931457063200 : Int) ≤ 5342931457063200 by omega) (mem_take HALL.out (k + 1)) (by rw [List.length_take]; omega)
      rw [← HP.out] at hp
      generalize askP 5342931457063200 (zs.take k) = A at *
      generalize zs[k] = z at *
      have hne : z.period ≠ 0 := by omega
      have hdv : (5342931457063200 : Int).tdiv z.period = 5342931457063200 / z.period := Int.tdiv_eq_ediv_of_nonneg (by omega)
      have hq0 : 0 ≤ (5342931457063200 : Int) / z.period := Int.ediv_nonneg (by omega) (by omega)
      have hq1 : (5342931457063200 : Int) / z.period ≤ 5342931457063200 := Int.ediv_le_self _ (by omega)
      have hm0 : 0 ≤ 5342931457063200 / z.period * z.budget := Int.mul_nonneg hq0 (by omega)
      obtain ⟨hp1, hp2⟩ := hp
      obtain ⟨ha1, ha2⟩ := ha
      have hm1 : 5342931457063200 / z.period * z.budget ≤ 42743451656505600 := by omega
      have HZ : Hid _ := hz
      clear hc hz
      go_wp2
      go_quiet (fail)
      go_wp2
      exact ⟨⟨k + 1, hlt, by go_num, by rw [← HP.out], bdn HB.out _⟩, by simp [intOf]; omega⟩
    · obtain rfl : k = zs.length := by omega
      rw [List.take_length]
      go_wp2
      go_ret
      exact ⟨ret_bool E.out.symm, HB1.out.trans (HB.out.mono HB1.out.size)⟩
end Go.Proofs.Ytcglpigmellfcab
