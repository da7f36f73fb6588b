import Derived.Test.YtoihmaefdchicaaTPut4
import Derived.Test.YtoihmaefdchicaaZ1
import Derived.BigQuiet
namespace Go.Proofs.Ytoihmaefdchicaa
open Go.ChangeShapes Go.WideShapes Go.ChangeAt Go.RowKit

/-- Whether an entry's page holds an address. -/
def holdsB (e : TE) (va : Int) : Bool := if e.large = true then decide (e.page / 32 = va / 8192) else decide (e.page = va / 256)
theorem teOk_b {z : TE} (h : teOk z = true) : (0 ≤ z.asid ∧ z.asid ≤ 255) ∧ (0 ≤ z.page ∧ z.page ≤ 1023) ∧ (0 ≤ z.frame ∧ z.frame ≤ 1023) ∧ (0 ≤ z.flags ∧ z.flags ≤ 255) ∧ (z.large = true → z.page % 32 = 0 ∧ z.frame % 32 = 0) := by
  unfold teOk at h
  rw [Bool.and_eq_true] at h
  obtain ⟨h1, h2⟩ := h
  have h3 := of_decide_eq_true h1
  refine ⟨⟨h3.1, h3.2.1⟩, ⟨h3.2.2.1, h3.2.2.2.1⟩, ⟨h3.2.2.2.2.1, h3.2.2.2.2.2.1⟩, h3.2.2.2.2.2.2, fun hl => ?_⟩
  rw [hl] at h2
  simpa using h2
set_option maxRecDepth 100000 in
set_option maxHeartbeats 4000000 in
theorem implHolds_any (z : TE) (va : Int) (w : World) (hz : 0 ≤ z.page ∧ z.page ≤ 1023) (hl : z.large = true → z.page % 32 = 0) : Calls Try.prog 71 #[teA z, .int .i64 va] w fun e w' => e = .returned (.bool (holdsB z va)) ∧ Below w.heap.size w w' := by
  obtain ⟨a, p, f, g, l⟩ := z
  unfold teA holdsB
  simp only at hz hl
  obtain ⟨z0, z1⟩ := hz
  have w1 : IntKind.i64.wrap (p * 256) = p * 256 := by rw [IntKind.wrap_i64]; omega
  cases l
  · have w2 : IntKind.i64.wrap ((p + 1) * 256) = (p + 1) * 256 := by rw [IntKind.wrap_i64]; omega
    go_enter Try.func71, Try.ntmps71
    go_wp2
    all_goals go_ret
    · exact ⟨ret_bool (decide_eq_decide.2 (by omega)), (Below.refl _ _).alloc (Nat.le_refl _) _⟩
    · exact ⟨ret_bool (decide_eq_false (by omega)).symm, (Below.refl _ _).alloc (Nat.le_refl _) _⟩
  · have w2 : IntKind.i64.wrap ((p + 32) * 256) = (p + 32) * 256 := by rw [IntKind.wrap_i64]; omega
    have hl2 := hl rfl
    go_enter Try.func71, Try.ntmps71
    go_wp2
    all_goals go_ret
    · exact ⟨ret_bool (decide_eq_decide.2 (by omega)), (Below.refl _ _).alloc (Nat.le_refl _) _⟩
    · exact ⟨ret_bool (decide_eq_false (by omega)).symm, (Below.refl _ _).alloc (Nat.le_refl _) _⟩
set_option maxRecDepth 100000 in
set_option maxHeartbeats 4000000 in
/-- The first of a row for which a function answers yes. -/
theorem indexFunc_mem {w : World} {v : Value} {zs : List TE} (h : TErow w v zs) (hl : zs.length ≤ 1048576) (F : Nat) (caps : Array Value) (p : TE → Bool) (hcf : ∀ (xs : Array Value) (w' : World), (callFunc F xs).run Try.prog w' = .ok (.enter F xs) w')
    (hf : ∀ (x : TE), x ∈ zs → ∀ (w' : World), Below w.heap.size w w' → Calls Try.prog F (#[teA x] ++ caps) w' fun r w'' => r = .returned (.bool (p x)) ∧ Below w'.heap.size w' w'') :
    Calls Try.prog 72 #[v, .func (.func F) #[] caps] w fun r w' => r = .returned (.int .i64 (idxI p zs)) ∧ Below w.heap.size w w' := by
  obtain ⟨ao, cap, rfl⟩ := h.sl
  have HR : Hid (TErow w (.slice ao zs.length cap) zs) := h
  have HF : Hid (∀ (x : TE), x ∈ zs → ∀ (w' : World), Below w.heap.size w w' → Calls Try.prog F (#[teA x] ++ caps) w' fun r w'' => r = .returned (.bool (p x)) ∧ Below w'.heap.size w' w'') := hf
  clear h hf
  go_enter Try.func72, Try.ntmps72
  go_wp2
  go_loopw [8] (fun i wr => ∃ k : Nat, k ≤ zs.length ∧ i = .int .i64 k ∧ (∀ j (hj : j < k) (hz : j < zs.length), p zs[j] = false) ∧ Below w.heap.size w wr) (fun i _ => zs.length - (intOf i).toNat)
  case atStart => exact ⟨0, Nat.zero_le _, rfl, fun j hj => absurd hj (Nat.not_lt_zero _), Below.refl _ _⟩
  case round =>
    obtain ⟨k, hk, rfl, hno, hb⟩ := hrel
    have HN : Hid (∀ j (hj : j < k) (hz : j < zs.length), p zs[j] = false) := hno
    have HB : Hid (Below w.heap.size w wr) := hb
    by_cases hlt : k < zs.length
    · obtain ⟨g, o, cap2, hv, _, hg, hc⟩ := HR.out.resolve_left (fun h => by rw [h.1] at hlt; simp at hlt)
      injection hv with hv1 hv2 hv3
      subst hv1 hv3
      obtain ⟨d0, d1, d2, d3, d4⟩ := hc.below hb hg k hlt
      obtain ⟨z, hz⟩ : ∃ z, zs[k] = z := ⟨_, rfl⟩
      rw [hz] at d0 d1 d2 d3 d4
      have HZ : Hid (zs[k] = z) := hz
      have hk0 : (0 : Int) ≤ (k : Int) := by omega
      have hk1 : (k : Int) < (zs.length : Int) := by omega
      clear hc hno hb hz
      go_wp2_with fail
      refine Calls.mono (HF.out z (by rw [← HZ.out]; exact List.getElem_mem hlt) _ HB.out) ?_
      rintro r u5 ⟨rfl, hu5⟩
      have HB5 : Hid (Below w.heap.size w u5) := HB.out.trans (hu5.mono HB.out.size)
      clear hu5
      cases hp : p z
      · go_wp2
        refine ⟨⟨k + 1, hlt, by simp, fun j hj hz => ?_, HB5.out⟩, ?_⟩
        · by_cases hjk : j = k
          · subst hjk
            rw [HZ.out]
            exact hp
          · exact HN.out j (by omega) hz
        simp [intOf]
        omega
      · go_wp2
        go_ret
        refine ⟨ret_int (idxI_at hlt (by rw [HZ.out]; exact hp) (fun j hj => HN.out j hj (by omega))).symm, HB5.out⟩
    · obtain rfl : k = zs.length := by omega
      clear hno hb
      go_wp2
      go_ret
      exact ⟨ret_int (idxI_none (fun j hj => HN.out j hj hj)).symm, HB.out⟩

/-- Which entry goes. -/
def flP (asid va : Int) (e : TE) : Bool := (decide (asid < 0) || (decide (e.asid = asid) && decide (e.flags / 128 % 2 = 0))) && (decide (va < 0) || holdsB e va)
set_option maxRecDepth 100000 in
set_option maxHeartbeats 4000000 in
theorem flushFn_any (z : TE) (hz : teOk z = true) (asid va : Int) (b1 b2 : Nat) (w : World) (c1 : w.cell? ⟨b1, 0, none⟩ = some (.int .i64 asid)) (c2 : w.cell? ⟨b2, 0, none⟩ = some (.int .i64 va)) (l1 : b1 < w.heap.size) (l2 : b2 < w.heap.size) : Calls Try.prog 70 #[teA z, .pointer (some ⟨b1, 0, none⟩), .pointer (some ⟨b2, 0, none⟩)] w fun e w' => e = .returned (.bool (flP asid va z)) ∧ Below w.heap.size w w' := by
  obtain ⟨q1, q2, q3, q4, q5⟩ := teOk_b hz
  have HH : Hid _ := fun w' => implHolds_any z va w' q2 (fun h => (q5 h).1)
  have hg : bits .and .i64 z.flags 128 = z.flags / 128 % 2 * 128 := and128 _ q4.1 (by omega)
  obtain ⟨a, p, f, g, l⟩ := z
  simp only at hg
  unfold teA at HH ⊢
  obtain ⟨hb, hhb⟩ : ∃ hb, holdsB ⟨a, p, f, g, l⟩ va = hb := ⟨_, rfl⟩
  rw [hhb] at HH
  clear q1 q2 q3 q5 hz
  have q41 : 0 ≤ g := q4.1
  clear q4
  have HB1 : Hid (holdsB ⟨a, p, f, g, l⟩ va = hb) := hhb
  clear hhb
  have HB0 : Hid (Below w.heap.size w (w.alloc (.cells #[.int .i64 a, .int .i64 p, .int .i64 f, .int .i64 g, .bool l] 51))) := (Below.refl _ _).alloc (Nat.le_refl _) _
  by_cases h1 : asid < 0
  · by_cases h4 : va < 0
    · have E : Hid (flP asid va ⟨a, p, f, g, l⟩ = true) := (show flP asid va ⟨a, p, f, g, l⟩ = true by unfold flP; simp [h1, h4])
      go_enter Try.func70, Try.ntmps70
      go_wp2
      go_ret
      exact ⟨ret_bool E.out.symm, HB0.out⟩
    · have E : Hid (flP asid va ⟨a, p, f, g, l⟩ = hb) := (show flP asid va ⟨a, p, f, g, l⟩ = hb by unfold flP; simp [h1, h4]; try rw [HB1.out])
      go_enter Try.func70, Try.ntmps70
      go_wp2_with (go_at_call 71; refine Calls.mono (HH.out _) ?_; rintro e u5 ⟨rfl, hu5⟩; have HB : Hid (Below w.heap.size w u5) := bstep (Below.refl _ _) _ hu5; clear hu5)
      go_ret
      exact ⟨ret_bool E.out.symm, HB.out⟩
  · by_cases h2 : a = asid
    · subst h2
      rcases (by omega : g / 128 % 2 = 0 ∨ g / 128 % 2 = 1) with h3 | h3
      · rw [h3] at hg
        have h30 : bits .and .i64 g 128 = 0 := by omega
        clear hg
        by_cases h4 : va < 0
        · have E : Hid (flP a va ⟨a, p, f, g, l⟩ = true) := (show flP a va ⟨a, p, f, g, l⟩ = true by unfold flP; simp [h1, h3, h4])
          go_enter Try.func70, Try.ntmps70
          go_wp2
          go_ret
          exact ⟨ret_bool E.out.symm, HB0.out⟩
        · have E : Hid (flP a va ⟨a, p, f, g, l⟩ = hb) := (show flP a va ⟨a, p, f, g, l⟩ = hb by unfold flP; simp [h1, h3, h4]; try rw [HB1.out])
          go_enter Try.func70, Try.ntmps70
          go_wp2_with (go_at_call 71; refine Calls.mono (HH.out _) ?_; rintro e u5 ⟨rfl, hu5⟩; have HB : Hid (Below w.heap.size w u5) := bstep (Below.refl _ _) _ hu5; clear hu5)
          go_ret
          exact ⟨ret_bool E.out.symm, HB.out⟩
      · rw [h3] at hg
        have h31 : bits .and .i64 g 128 = 128 := by omega
        clear hg
        have E : Hid (flP a va ⟨a, p, f, g, l⟩ = false) := (show flP a va ⟨a, p, f, g, l⟩ = false by unfold flP; simp [h1, h3])
        go_enter Try.func70, Try.ntmps70
        go_wp2
        go_ret
        exact ⟨ret_bool E.out.symm, HB0.out⟩
    · have E : Hid (flP asid va ⟨a, p, f, g, l⟩ = false) := (show flP asid va ⟨a, p, f, g, l⟩ = false by unfold flP; simp [h1, h2])
      go_enter Try.func70, Try.ntmps70
      go_wp2
      go_ret
      exact ⟨ret_bool E.out.symm, HB0.out⟩

theorem sl_toT (v : Option Addr) (n cap k : Nat) (hk : k ≤ cap) (w : World) : Sem.run Try.prog (Instr.slice 45 (.slice v n cap) none (some (.int .i64 (k : Int))) none) w = .ok (.slice v k cap) w := by
  go_simp
theorem sl_fromT (g n cap k : Nat) (hk : k < n) (hc : n ≤ cap) (w : World) : Sem.run Try.prog (Instr.slice 45 (.slice (some ⟨g, 0, none⟩) n cap) (some (.int .i64 (k : Int))) none none) w = .ok (.slice (some ⟨g, k * 5, none⟩) (n - k) (cap - k)) w := by
  have h1 : (k : Int) ≤ (n : Int) := by omega
  have h2 : ¬ cap = k := by omega
  have h3 : ¬ cap - k = 0 := by omega
  go_simp
def zC5 : Array Value := #[.int .i64 0, .int .i64 0, .int .i64 0, .int .i64 0, .bool false]
theorem zC_len (n : Nat) : (Builtin.zeroCells zC5 n).toList.length = n * 5 := by
  simp [Builtin.zeroCells, zC5]
theorem zC_one (n : Nat) : ∀ v ∈ (Builtin.zeroCells zC5 n).toList, v.oneCell' = true := by
  intro v hv
  simp only [Builtin.zeroCells, Array.toList_map, List.mem_map] at hv
  obtain ⟨i, _, rfl⟩ := hv
  have h5 : i % 5 < 5 := Nat.mod_lt _ (by omega)
  show (zC5[i % 5]!).oneCell' = true
  generalize i % 5 = j at h5
  obtain rfl | rfl | rfl | rfl | rfl : j = 0 ∨ j = 1 ∨ j = 2 ∨ j = 3 ∨ j = 4 := by omega
  all_goals rfl
set_option maxRecDepth 100000 in
theorem zeroTE (w : World) : Sem.run Try.prog (zeroValue 51) w = .ok (.agg zC5) w := by kernel_rfl
theorem run_clearT (w : World) (ty : TypeId) (g o n c : Nat) (cur : Array Value) (hb : w.heap[g]? = some (.cells cur 51 (0, 0))) (hn : 0 < n) (ho : o + n * 5 ≤ cur.size) :
    (Builtin.clear_ #[45] ty #[.slice (some ⟨g, o, none⟩) n c]).run Try.prog w = .ok (.tuple #[]) (w.setRow g (cur.toList.take o ++ (Builtin.zeroCells zC5 n).toList ++ cur.toList.drop (o + n * 5)).toArray) := by
  have hst := run_storeCells_at Try.prog g o 51 (Builtin.zeroCells zC5 n).toList 0 cur w hb (by rw [zC_len]; omega) (zC_one n)
  rw [zC_len, Nat.add_zero] at hst
  have hz := zeroTE w
  obtain ⟨m, rfl⟩ : ∃ m, n = m + 1 := ⟨n - 1, by omega⟩
  simp [Builtin.clear_, run_underlying Try.underlying45, hz, Value.cells, hst]
theorem fil_take {p : TE → Bool} {zs : List TE} {b : Nat} (hb : b < zs.length) : (zs.take (b + 1)).filter (fun x => !p x) = (zs.take b).filter (fun x => !p x) ++ (if p zs[b] = true then [] else [zs[b]]) := by
  rw [List.take_succ_eq_append_getElem hb, List.filter_append]
  congr 1
  cases h : p zs[b] <;> simp [h]
theorem drop_get {xs ys : List TE} {b : Nat} (h : xs.drop b = ys.drop b) (h1 : b < xs.length) (h2 : b < ys.length) : xs[b] = ys[b] := by
  have e1 : xs[b]? = ys[b]? := by
    have := congrArg (fun l : List TE => l[0]?) h
    simpa [List.getElem?_drop] using this
  rw [List.getElem?_eq_getElem h1, List.getElem?_eq_getElem h2] at e1
  exact Option.some.inj e1
theorem drop_succ {xs ys : List TE} {b : Nat} (h : xs.drop b = ys.drop b) : xs.drop (b + 1) = ys.drop (b + 1) := by
  rw [← List.drop_drop, ← List.drop_drop, h]
theorem take_set_app {xs : List TE} {a : Nat} {z : TE} (h : a < xs.length) : (xs.set a z).take (a + 1) = xs.take a ++ [z] := by
  rw [List.take_succ_eq_append_getElem (by simpa using h), List.getElem_set_self, List.take_set_of_le (Nat.le_refl _)]
end Go.Proofs.Ytoihmaefdchicaa
