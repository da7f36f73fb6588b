import Derived.Test.YtfagohdmepnkkaaLtZ
import Derived.Test.YtfagohdmepnkkaaFlg
import Derived.BigQuiet
import Derived.Laws.CopyOwn
import Derived.Test.YtfagohdmepnkkaaPWk1
import Derived.Test.YtfagohdmepnkkaaSWalkP
import Derived.Deep.RegionWith
import Derived.Deep.QuietTactic
namespace Go.Proofs.Ytfagohdmepnkkaa
open Go.ChangeShapes Go.WideShapes Go.ChangeAt Go.RowKit

/-- Whether an entry's page holds an address. -/
def holdsB (e : TE) (va : Int) : Bool := if e.large = true then decide (e.page / 32 = va / 8192) else decide (e.page = va / 256)
theorem teOk_b {z : TE} (h : teOk z = true) : (0 ≤ z.asid ∧ z.asid ≤ 255) ∧ (0 ≤ z.page ∧ z.page ≤ 1023) ∧ (0 ≤ z.frame ∧ z.frame ≤ 1023) ∧ (0 ≤ z.flags ∧ z.flags ≤ 255) ∧ (z.large = true → z.page % 32 = 0 ∧ z.frame % 32 = 0) := by
  unfold teOk at h
  rw [Bool.and_eq_true] at h
  obtain ⟨h1, h2⟩ := h
  have h3 := of_decide_eq_true h1
  refine ⟨⟨h3.1, h3.2.1⟩, ⟨h3.2.2.1, h3.2.2.2.1⟩, ⟨h3.2.2.2.2.1, h3.2.2.2.2.2.1⟩, h3.2.2.2.2.2.2, fun hl => ?_⟩
  rw [hl] at h2
  simpa using h2
set_option maxRecDepth 100000 in
set_option maxHeartbeats 4000000 in
theorem implHolds_any (z : TE) (va : Int) (w : World) (hz : 0 ≤ z.page ∧ z.page ≤ 1023) (hl : z.large = true → z.page % 32 = 0) : Calls Try.prog 85 #[teA z, .int .i64 va] w fun e w' => e = .returned (.bool (holdsB z va)) ∧ Below w.heap.size w w' := by
  obtain ⟨a, p, f, g, l⟩ := z
  unfold teA holdsB
  simp only at hz hl
  obtain ⟨z0, z1⟩ := hz
  have w1 : IntKind.i64.wrap (p * 256) = p * 256 := by rw [IntKind.wrap_i64]; omega
  cases l
  · have w2 : IntKind.i64.wrap ((p + 1) * 256) = (p + 1) * 256 := by rw [IntKind.wrap_i64]; omega
    go_enter Try.func85, Try.ntmps85
    go_wp2
    all_goals go_ret
    · exact ⟨ret_bool (decide_eq_decide.2 (by omega)), (Below.refl _ _).alloc (Nat.le_refl _) _⟩
    · exact ⟨ret_bool (decide_eq_false (by omega)).symm, (Below.refl _ _).alloc (Nat.le_refl _) _⟩
  · have w2 : IntKind.i64.wrap ((p + 32) * 256) = (p + 32) * 256 := by rw [IntKind.wrap_i64]; omega
    have hl2 := hl rfl
    go_enter Try.func85, Try.ntmps85
    go_wp2
    all_goals go_ret
    · exact ⟨ret_bool (decide_eq_decide.2 (by omega)), (Below.refl _ _).alloc (Nat.le_refl _) _⟩
    · exact ⟨ret_bool (decide_eq_false (by omega)).symm, (Below.refl _ _).alloc (Nat.le_refl _) _⟩
set_option maxRecDepth 100000 in
set_option maxHeartbeats 4000000 in
/-- The first of a row for which a function answers yes. -/
theorem indexFunc_mem {w : World} {v : Value} {zs : List TE} (h : TErow w v zs) (hl : zs.length ≤ 1048576) (F : Nat) (caps : Array Value) (p : TE → Bool) (hcf : ∀ (xs : Array Value) (w' : World), (callFunc F xs).run Try.prog w' = .ok (.enter F xs) w')
    (hf : ∀ (x : TE), x ∈ zs → ∀ (w' : World), Below w.heap.size w w' → Calls Try.prog F (#[teA x] ++ caps) w' fun r w'' => r = .returned (.bool (p x)) ∧ Below w'.heap.size w' w'') :
    Calls Try.prog 86 #[v, .func (.func F) #[] caps] w fun r w' => r = .returned (.int .i64 (idxI p zs)) ∧ Below w.heap.size w w' := by
  obtain ⟨ao, cap, rfl⟩ := h.sl
  have HR : Hid (TErow w (.slice ao zs.length cap) zs) := h
  have HF : Hid (∀ (x : TE), x ∈ zs → ∀ (w' : World), Below w.heap.size w w' → Calls Try.prog F (#[teA x] ++ caps) w' fun r w'' => r = .returned (.bool (p x)) ∧ Below w'.heap.size w' w'') := hf
  clear h hf
  go_enter Try.func86, Try.ntmps86
  go_wp2
  go_loopw [8] (fun i wr => ∃ k : Nat, k ≤ zs.length ∧ i = .int .i64 k ∧ (∀ j (hj : j < k) (hz : j < zs.length), p zs[j] = false) ∧ Below w.heap.size w wr) (fun i _ => zs.length - (intOf i).toNat)
  case atStart => exact ⟨0, Nat.zero_le _, rfl, fun j hj => absurd hj (Nat.not_lt_zero _), Below.refl _ _⟩
  case round =>
    obtain ⟨k, hk, rfl, hno, hb⟩ := hrel
    have HN : Hid (∀ j (hj : j < k) (hz : j < zs.length), p zs[j] = false) := hno
    have HB : Hid (Below w.heap.size w wr) := hb
    by_cases hlt : k < zs.length
    · obtain ⟨g, o, cap2, hv, _, hg, hc⟩ := HR.out.resolve_left (fun h => by rw [h.1] at hlt; simp at hlt)
      injection hv with hv1 hv2 hv3
      subst hv1 hv3
      obtain ⟨d0, d1, d2, d3, d4⟩ := hc.below hb hg k hlt
      obtain ⟨z, hz⟩ : ∃ z, zs[k] = z := ⟨_, rfl⟩
      rw [hz] at d0 d1 d2 d3 d4
      have HZ : Hid (zs[k] = z) := hz
      have hk0 : (0 : Int) ≤ (k : Int) := by omega
      have hk1 : (k : Int) < (zs.length : Int) := by omega
      clear hc hno hb hz
      go_wp2_with fail
      refine Calls.mono (HF.out z (by rw [← HZ.out]; exact List.getElem_mem hlt) _ HB.out) ?_
      rintro r u5 ⟨rfl, hu5⟩
      have HB5 : Hid (Below w.heap.size w u5) := HB.out.trans (hu5.mono HB.out.size)
      clear hu5
      cases hp : p z
      · go_wp2
        refine ⟨⟨k + 1, hlt, by simp, fun j hj hz => ?_, HB5.out⟩, ?_⟩
        · by_cases hjk : j = k
          · subst hjk
            rw [HZ.out]
            exact hp
          · exact HN.out j (by omega) hz
        simp [intOf]
        omega
      · go_wp2
        go_ret
        refine ⟨ret_int (idxI_at hlt (by rw [HZ.out]; exact hp) (fun j hj => HN.out j hj (by omega))).symm, HB5.out⟩
    · obtain rfl : k = zs.length := by omega
      clear hno hb
      go_wp2
      go_ret
      exact ⟨ret_int (idxI_none (fun j hj => HN.out j hj hj)).symm, HB.out⟩

/-- Which entry goes. -/
def flP (asid va : Int) (e : TE) : Bool := (decide (asid < 0) || (decide (e.asid = asid) && decide (e.flags / 128 % 2 = 0))) && (decide (va < 0) || holdsB e va)
set_option maxRecDepth 100000 in
set_option maxHeartbeats 4000000 in
theorem flushFn_any (z : TE) (hz : teOk z = true) (asid va : Int) (b1 b2 : Nat) (w : World) (c1 : w.cell? ⟨b1, 0, none⟩ = some (.int .i64 asid)) (c2 : w.cell? ⟨b2, 0, none⟩ = some (.int .i64 va)) (l1 : b1 < w.heap.size) (l2 : b2 < w.heap.size) : Calls Try.prog 84 #[teA z, .pointer (some ⟨b1, 0, none⟩), .pointer (some ⟨b2, 0, none⟩)] w fun e w' => e = .returned (.bool (flP asid va z)) ∧ Below w.heap.size w w' := by
  obtain ⟨q1, q2, q3, q4, q5⟩ := teOk_b hz
  have HH : Hid _ := fun w' => implHolds_any z va w' q2 (fun h => (q5 h).1)
  have hg : bits .and .i64 z.flags 128 = z.flags / 128 % 2 * 128 := and128 _ q4.1 (by omega)
  obtain ⟨a, p, f, g, l⟩ := z
  simp only at hg
  unfold teA at HH ⊢
  obtain ⟨hb, hhb⟩ : ∃ hb, holdsB ⟨a, p, f, g, l⟩ va = hb := ⟨_, rfl⟩
  rw [hhb] at HH
  clear q1 q2 q3 q5 hz
  have q41 : 0 ≤ g := q4.1
  clear q4
  have HB1 : Hid (holdsB ⟨a, p, f, g, l⟩ va = hb) := hhb
  clear hhb
  have HB0 : Hid (Below w.heap.size w (w.alloc (.cells #[.int .i64 a, .int .i64 p, .int .i64 f, .int .i64 g, .bool l] 66))) := (Below.refl _ _).alloc (Nat.le_refl _) _
  by_cases h1 : asid < 0
  · by_cases h4 : va < 0
    · have E : Hid (flP asid va ⟨a, p, f, g, l⟩ = true) := (show flP asid va ⟨a, p, f, g, l⟩ = true by unfold flP; simp [h1, h4])
      go_enter Try.func84, Try.ntmps84
      go_wp2
      go_ret
      exact ⟨ret_bool E.out.symm, HB0.out⟩
    · have E : Hid (flP asid va ⟨a, p, f, g, l⟩ = hb) := (show flP asid va ⟨a, p, f, g, l⟩ = hb by unfold flP; simp [h1, h4]; try rw [HB1.out])
      go_enter Try.func84, Try.ntmps84
      go_wp2_with (go_at_call 85; refine Calls.mono (HH.out _) ?_; rintro e u5 ⟨rfl, hu5⟩; have HB : Hid (Below w.heap.size w u5) := bstep (Below.refl _ _) _ hu5; clear hu5)
      go_ret
      exact ⟨ret_bool E.out.symm, HB.out⟩
  · by_cases h2 : a = asid
    · subst h2
      rcases (by omega : g / 128 % 2 = 0 ∨ g / 128 % 2 = 1) with h3 | h3
      · rw [h3] at hg
        have h30 : bits .and .i64 g 128 = 0 := by omega
        clear hg
        by_cases h4 : va < 0
        · have E : Hid (flP a va ⟨a, p, f, g, l⟩ = true) := (show flP a va ⟨a, p, f, g, l⟩ = true by unfold flP; simp [h1, h3, h4])
          go_enter Try.func84, Try.ntmps84
          go_wp2
          go_ret
          exact ⟨ret_bool E.out.symm, HB0.out⟩
        · have E : Hid (flP a va ⟨a, p, f, g, l⟩ = hb) := (show flP a va ⟨a, p, f, g, l⟩ = hb by unfold flP; simp [h1, h3, h4]; try rw [HB1.out])
          go_enter Try.func84, Try.ntmps84
          go_wp2_with (go_at_call 85; refine Calls.mono (HH.out _) ?_; rintro e u5 ⟨rfl, hu5⟩; have HB : Hid (Below w.heap.size w u5) := bstep (Below.refl _ _) _ hu5; clear hu5)
          go_ret
          exact ⟨ret_bool E.out.symm, HB.out⟩
      · rw [h3] at hg
        have h31 : bits .and .i64 g 128 = 128 := by omega
        clear hg
        have E : Hid (flP a va ⟨a, p, f, g, l⟩ = false) := (show flP a va ⟨a, p, f, g, l⟩ = false by unfold flP; simp [h1, h3])
        go_enter Try.func84, Try.ntmps84
        go_wp2
        go_ret
        exact ⟨ret_bool E.out.symm, HB0.out⟩
    · have E : Hid (flP asid va ⟨a, p, f, g, l⟩ = false) := (show flP asid va ⟨a, p, f, g, l⟩ = false by unfold flP; simp [h1, h2])
      go_enter Try.func84, Try.ntmps84
      go_wp2
      go_ret
      exact ⟨ret_bool E.out.symm, HB0.out⟩

theorem sl_toT (v : Option Addr) (n cap k : Nat) (hk : k ≤ cap) (w : World) : Sem.run Try.prog (Instr.slice 59 (.slice v n cap) none (some (.int .i64 (k : Int))) none) w = .ok (.slice v k cap) w := by
  go_simp
theorem sl_fromT (g n cap k : Nat) (hk : k < n) (hc : n ≤ cap) (w : World) : Sem.run Try.prog (Instr.slice 59 (.slice (some ⟨g, 0, none⟩) n cap) (some (.int .i64 (k : Int))) none none) w = .ok (.slice (some ⟨g, k * 5, none⟩) (n - k) (cap - k)) w := by
  have h1 : (k : Int) ≤ (n : Int) := by omega
  have h2 : ¬ cap = k := by omega
  have h3 : ¬ cap - k = 0 := by omega
  go_simp
def zC5 : Array Value := #[.int .i64 0, .int .i64 0, .int .i64 0, .int .i64 0, .bool false]
theorem zC_len (n : Nat) : (Builtin.zeroCells zC5 n).toList.length = n * 5 := by
  simp [Builtin.zeroCells, zC5]
theorem zC_one (n : Nat) : ∀ v ∈ (Builtin.zeroCells zC5 n).toList, v.oneCell' = true := by
  intro v hv
  simp only [Builtin.zeroCells, Array.toList_map, List.mem_map] at hv
  obtain ⟨i, _, rfl⟩ := hv
  have h5 : i % 5 < 5 := Nat.mod_lt _ (by omega)
  show (zC5[i % 5]!).oneCell' = true
  generalize i % 5 = j at h5
  obtain rfl | rfl | rfl | rfl | rfl : j = 0 ∨ j = 1 ∨ j = 2 ∨ j = 3 ∨ j = 4 := by omega
  all_goals rfl
set_option maxRecDepth 100000 in
theorem zeroTE (w : World) : Sem.run Try.prog (zeroValue 66) w = .ok (.agg zC5) w := by kernel_rfl
theorem run_clearT (w : World) (ty : TypeId) (g o n c : Nat) (cur : Array Value) (hb : w.heap[g]? = some (.cells cur 66 (0, 0))) (hn : 0 < n) (ho : o + n * 5 ≤ cur.size) :
    (Builtin.clear_ #[59] ty #[.slice (some ⟨g, o, none⟩) n c]).run Try.prog w = .ok (.tuple #[]) (w.setRow g (cur.toList.take o ++ (Builtin.zeroCells zC5 n).toList ++ cur.toList.drop (o + n * 5)).toArray) := by
  have hst := run_storeCells_at Try.prog g o 66 (Builtin.zeroCells zC5 n).toList 0 cur w hb (by rw [zC_len]; omega) (zC_one n)
  rw [zC_len, Nat.add_zero] at hst
  have hz := zeroTE w
  obtain ⟨m, rfl⟩ : ∃ m, n = m + 1 := ⟨n - 1, by omega⟩
  simp [Builtin.clear_, run_underlying Try.underlying59, hz, Value.cells, hst]
theorem fil_take {p : TE → Bool} {zs : List TE} {b : Nat} (hb : b < zs.length) : (zs.take (b + 1)).filter (fun x => !p x) = (zs.take b).filter (fun x => !p x) ++ (if p zs[b] = true then [] else [zs[b]]) := by
  rw [List.take_succ_eq_append_getElem hb, List.filter_append]
  congr 1
  cases h : p zs[b] <;> simp [h]
theorem drop_get {xs ys : List TE} {b : Nat} (h : xs.drop b = ys.drop b) (h1 : b < xs.length) (h2 : b < ys.length) : xs[b] = ys[b] := by
  have e1 : xs[b]? = ys[b]? := by
    have := congrArg (fun l : List TE => l[0]?) h
    simpa [List.getElem?_drop] using this
  rw [List.getElem?_eq_getElem h1, List.getElem?_eq_getElem h2] at e1
  exact Option.some.inj e1
theorem drop_succ {xs ys : List TE} {b : Nat} (h : xs.drop b = ys.drop b) : xs.drop (b + 1) = ys.drop (b + 1) := by
  rw [← List.drop_drop, ← List.drop_drop, h]
theorem take_set_app {xs : List TE} {a : Nat} {z : TE} (h : a < xs.length) : (xs.set a z).take (a + 1) = xs.take a ++ [z] := by
  rw [List.take_succ_eq_append_getElem (by simpa using h), List.getElem_set_self, List.take_set_of_le (Nat.le_refl _)]

set_option maxRecDepth 100000 in
set_option maxHeartbeats 4000000 in
/-- slices.DeleteFunc at a row of one's own. -/
theorem delT {w : World} {B : Nat} {ao : Option Addr} {cap : Nat} {zs : List TE} (h : w.ownsRow B 66 5 (.slice ao zs.length cap) zs.length (teR zs)) (hB : B ≤ w.heap.size) (hl : zs.length ≤ 16) (F : Nat) (caps : Array Value) (p : TE → Bool) (hcf : ∀ (xs : Array Value) (w' : World), (callFunc F xs).run Try.prog w' = .ok (.enter F xs) w')
    (hf : ∀ (x : TE), x ∈ zs → ∀ (w' : World), Below B w w' → Calls Try.prog F (#[teA x] ++ caps) w' fun r w'' => r = .returned (.bool (p x)) ∧ Below w'.heap.size w' w'') :
    Calls Try.prog 82 #[.slice ao zs.length cap, .func (.func F) #[] caps] w fun r w' => r = .returned (.slice ao (zs.filter fun x => !p x).length cap) ∧ w'.ownsRow B 66 5 (.slice ao (zs.filter fun x => !p x).length cap) (zs.filter fun x => !p x).length (teR (zs.filter fun x => !p x)) ∧ Below B w w' := by
  have HI := indexFunc_mem (TErow.of h) (by omega) F caps p hcf (fun x hx w' hw => hf x hx w' (hw.mono hB))
  have HO : Hid (w.ownsRow B 66 5 (.slice ao zs.length cap) zs.length (teR zs)) := h
  have HF : Hid (∀ (x : TE), x ∈ zs → ∀ (w' : World), Below B w w' → Calls Try.prog F (#[teA x] ++ caps) w' fun r w'' => r = .returned (.bool (p x)) ∧ Below w'.heap.size w' w'') := hf
  by_cases ha : zs.any p = true
  · have hi := idxI_yes ha
    obtain ⟨k0, hk0⟩ : ∃ k : Nat, idxI p zs = k := ⟨(idxI p zs).toNat, by omega⟩
    rw [hk0] at HI hi
    have hkl : k0 < zs.length := by omega
    have HK : Hid (zs.findIdx? p = some k0) := by
      show zs.findIdx? p = some k0
      unfold idxI at hk0
      cases hq : zs.findIdx? p with
      | none => rw [hq] at hk0; simp only at hk0; omega
      | some q => rw [hq] at hk0; simp only at hk0; congr 1; omega
    obtain ⟨g, cap2, cur0, hv, hBg, hg0, hcp, hmx, hcs, htk⟩ := h.2.resolve_left (fun q => by omega)
    injection hv with hv1 hv2 hv3
    subst hv1 hv3
    have hI : Hid _ := HI
    have HCP : Hid (zs.length ≤ cap) := hcp
    have hne : ((k0 : Int) == -1) = false := by
      simp
    clear HI hf h ha hk0 hg0 hcs htk hi hv2 cur0
    go_enter Try.func82, Try.ntmps82
    go_wp2_with (go_at_call 86; refine Calls.mono hI.out ?_; rintro r u1 ⟨rfl, hu1⟩; have HB1 : Hid (Below w.heap.size w u1) := hu1; clear hu1 hI)
    go_loopw [5, 6] (fun i j wr => ∃ (a b : Nat) (ys : List TE), i = .int .i64 a ∧ j = .int .i64 b ∧ a < b ∧ b ≤ zs.length ∧ ys.length = zs.length ∧ wr.ownsRow B 66 5 (.slice (some ⟨g, 0, none⟩) zs.length cap) zs.length (teR ys) ∧ Below B w wr ∧ Hid (ys.take a = (zs.take b).filter (fun x => !p x) ∧ ys.drop b = zs.drop b)) (fun _ j _ => zs.length - (intOf j).toNat)
    case atStart =>
      refine ⟨k0, k0 + 1, zs, rfl, by simp, Nat.lt_succ_self _, hkl, rfl, te_below HO.out HB1.out, HB1.out.mono hB, ?_⟩
      obtain ⟨_, q1, q2⟩ := List.findIdx?_eq_some_iff_getElem.1 HK.out
      show zs.take k0 = _ ∧ _
      refine ⟨?_, rfl⟩
      rw [fil_take hkl, if_pos q1, List.append_nil]
      symm
      rw [List.filter_eq_self]
      intro x hx
      obtain ⟨j, hj, rfl⟩ := List.getElem_of_mem hx
      rw [List.length_take] at hj
      rw [List.getElem_take]
      have := q2 j (by omega)
      simpa using this
    case round =>
      obtain ⟨a, b, ys, rfl, rfl, hab, hbl, hy, hown, hb, hx⟩ := hrel
      have HB : Hid (Below B w wr) := hb
      have HOW : Hid (wr.ownsRow B 66 5 (.slice (some ⟨g, 0, none⟩) ys.length cap) ys.length (teR ys)) := (show wr.ownsRow B 66 5 (.slice (some ⟨g, 0, none⟩) ys.length cap) ys.length (teR ys) by rw [hy]; exact hown)
      by_cases hlt : b < zs.length
      · have hz := te_read HOW.out b (by omega)
        have hyz := drop_get hx.out.2 (by omega) hlt
        rw [hyz] at hz
        obtain ⟨z, hze⟩ : ∃ z, zs[b] = z := ⟨_, rfl⟩
        rw [hze] at hz
        obtain ⟨d0, d1, d2, d3, d4⟩ := hz
        have HZ : Hid (zs[b] = z) := hze
        have HY : Hid (ys.length = zs.length) := hy
        have hk0 : (0 : Int) ≤ (b : Int) := by omega
        have hk1 : (b : Int) < (zs.length : Int) := by omega
        have HX : Hid (ys.take a = (zs.take b).filter (fun x => !p x) ∧ ys.drop b = zs.drop b) := hx
        clear hown hb hx hze hyz hy
        have HBA : Hid (Below wr.heap.size wr (wr.alloc (.cells #[.int .i64 z.asid, .int .i64 z.page, .int .i64 z.frame, .int .i64 z.flags, .bool z.large] 66))) := (Below.refl _ _).alloc (Nat.le_refl _) _
        have HBX : Hid ((wr.alloc (.cells #[.int .i64 z.asid, .int .i64 z.page, .int .i64 z.frame, .int .i64 z.flags, .bool z.large] 66)).heap[wr.heap.size]? = some (.cells #[.int .i64 z.asid, .int .i64 z.page, .int .i64 z.frame, .int .i64 z.flags, .bool z.large] 66 (0, 0))) := heap_new _ _
        go_wp2_with fail
        generalize wr.alloc (.cells #[.int .i64 z.asid, .int .i64 z.page, .int .i64 z.frame, .int .i64 z.flags, .bool z.large] 66) = W at *
        have HBW : Hid (Below B w W) := HB.out.trans (HBA.out.mono (Nat.le_trans hB HB.out.size))
        refine Calls.mono (HF.out z (by rw [← HZ.out]; exact List.getElem_mem hlt) _ HBW.out) ?_
        rintro r u5 ⟨rfl, hu5⟩
        have HB5 : Hid (Below B w u5) := HBW.out.trans (hu5.mono (Nat.le_trans hB HBW.out.size))
        have HO5 : Hid (u5.ownsRow B 66 5 (.slice (some ⟨g, 0, none⟩) ys.length cap) ys.length (teR ys)) := te_below (te_below HOW.out HBA.out) hu5
        have HX5 : Hid (u5.heap[wr.heap.size]? = some (.cells #[.int .i64 z.asid, .int .i64 z.page, .int .i64 z.frame, .int .i64 z.flags, .bool z.large] 66 (0, 0))) := (hu5.block _ (Array.getElem?_eq_some_iff.1 HBX.out).1).trans HBX.out
        have hgw : g < wr.heap.size := (HOW.out.lt g rfl).2
        clear hu5 d0 d1 d2 d3 d4
        cases hp : p z
        · obtain ⟨y0, y1, y2, y3, y4⟩ := cel5 HX5.out
          obtain ⟨v, v0, v1, v2, v3, v4⟩ := te_cells HO5.out rfl a (by have := HY.out; omega)
          have hfz := HO5.out.frozenAt
          have n1 : ¬ g = wr.heap.size := by omega
          have n2 : ¬ wr.heap.size = g := by omega
          have ha0 : (0 : Int) ≤ (a : Int) := by omega
          have ha1 : (a : Int) < (zs.length : Int) := by omega
          have ST : Hid _ := own_setTE HO5.out a (by have := HY.out; omega) z
          go_wp2
          refine ⟨⟨a + 1, b + 1, ys.set a z, by go_num, by go_num, by omega, hlt, by rw [List.length_set]; exact HY.out, ?_, ?_, ?_⟩, by simp [intOf]; omega⟩
          · have := ST.out.1
            rw [HY.out] at this
            exact this
          · exact HB5.out.grown ST.out.2 (Nat.le_trans hB HB5.out.size) (fun j hj => by cases hj; exact hBg)
          · show (ys.set a z).take (a + 1) = _ ∧ _
            rw [take_set_app (by have := HY.out; omega), HX.out.1, fil_take hlt, HZ.out, hp, if_neg (by decide), List.drop_set_of_lt (by omega)]
            exact ⟨rfl, drop_succ HX.out.2⟩
        · go_wp2
          refine ⟨⟨a, b + 1, ys, rfl, by go_num, by omega, hlt, HY.out, ?_, HB5.out, ?_⟩, by simp [intOf]; omega⟩
          · have := HO5.out
            rw [HY.out] at this
            exact this
          · show ys.take a = _ ∧ _
            rw [fil_take hlt, HZ.out, hp, if_pos rfl, List.append_nil]
            exact ⟨HX.out.1, drop_succ HX.out.2⟩
      · obtain rfl : b = zs.length := by omega
        have hfl : zs.filter (fun x => !p x) = ys.take a := by rw [hx.out.1, List.take_length]
        have hfn : (zs.filter (fun x => !p x)).length = a := by rw [hfl, List.length_take]; omega
        obtain ⟨g2, cap2, cur, hv, hBg2, hgc, hcp2, hmx2, hcs, htk⟩ := hown.2.resolve_left (fun q => by omega)
        injection hv with hv1 hv2 hv3
        injection hv1 with hv4
        injection hv4 with hv5
        subst hv5 hv3
        have hcl := fun ty => run_clearT wr ty g (a * 5) (zs.length - a) (cap - a) cur hgc (by omega) (by rw [hcs]; omega)
        have s1 := fun u => sl_fromT g zs.length cap a (by omega) HCP.out u
        have s2 := fun u => sl_toT (some ⟨g, 0, none⟩) zs.length cap a (by omega) u
        have HB2 : Hid (Below B w (wr.setRow g (cur.toList.take (a * 5) ++ (Builtin.zeroCells zC5 (zs.length - a)).toList ++ cur.toList.drop (a * 5 + (zs.length - a) * 5)).toArray)) := below_setRow hb hBg _
        have HO2 : Hid ((wr.setRow g (cur.toList.take (a * 5) ++ (Builtin.zeroCells zC5 (zs.length - a)).toList ++ cur.toList.drop (a * 5 + (zs.length - a) * 5)).toArray).ownsRow B 66 5 (.slice (some ⟨g, 0, none⟩) a cap) a (teR (ys.take a))) := by
          have e1 : (teR (ys.take a)).length = a * 5 := by rw [teR_len, List.length_take]; congr 1; omega
          have e2 : (cur.toList.take (a * 5)).length = a * 5 := by rw [List.length_take, Array.length_toList, hcs]; omega
          have e3 : cur.toList.take (a * 5) = teR (ys.take a) := by
            have e4 : teR ys = teR (ys.take a) ++ teR (ys.drop a) := by rw [← teR_app, List.take_append_drop]
            have e5 : (cur.toList.take (zs.length * 5)).take (a * 5) = cur.toList.take (a * 5) := by rw [List.take_take]; congr 1; omega
            rw [← e5, htk, e4, ← e1, List.take_left]
          refine ⟨e1, .inr ⟨g, cap, _, rfl, hBg, setRow_heap _ _ _ _ _ _ hgc, by omega, hmx2, ?_, ?_⟩⟩
          · have q := HCP.out
            rw [List.size_toArray, List.length_append, List.length_append, zC_len, e2, List.length_drop, Array.length_toList (xs := cur), hcs]
            omega
          · rw [List.toList_toArray, List.append_assoc, List.take_left' e2]
            exact e3
        have HFL : Hid (zs.filter (fun x => !p x) = ys.take a) := hfl
        have HFN : Hid ((zs.filter (fun x => !p x)).length = a) := hfn
        simp only [List.append_assoc] at hcl HO2 HB2
        clear hfl hfn hgc hcs htk hown hb hx
        go_wp2
        go_ret
        rw [HFN.out, HFL.out]
        exact ⟨rfl, HO2.out, HB2.out⟩
  · have hn : idxI p zs = -1 := idxI_no (by simpa using ha)
    rw [hn] at HI
    have hI : Hid _ := HI
    have E : Hid (zs.filter (fun x => !p x) = zs) := by
      show zs.filter (fun x => !p x) = zs
      rw [List.filter_eq_self]
      intro x hx
      have := List.any_eq_false.1 (by simpa using ha) x hx
      simpa using this
    rw [E.out]
    clear HI hf h ha hn
    go_enter Try.func82, Try.ntmps82
    go_wp2_with (go_at_call 86; refine Calls.mono hI.out ?_; rintro r u1 ⟨rfl, hu1⟩; have HB1 : Hid (Below w.heap.size w u1) := hu1; clear hu1 hI)
    go_ret
    exact ⟨rfl, te_below HO.out HB1.out, HB1.out.mono hB⟩

theorem all_ok {zs : List TE} {nx : Int} (h : tlbC zs nx = 0) : ∀ x ∈ zs, teOk x = true := by
  intro x hx
  obtain ⟨k, hk, rfl⟩ := List.getElem_of_mem hx
  unfold tlbC at h
  split at h
  · rename_i h2
    have h3 := List.all_eq_true.1 h2.2.2.2 k (List.mem_range.2 hk)
    rw [tok_eq hk, Bool.and_eq_true] at h3
    exact h3.1
  · cases h
theorem cfFlush : ∀ (xs : Array Value) (w' : World), (callFunc 84 xs).run Try.prog w' = .ok (.enter 84 xs) w' := by
  intro xs w'
  kernel_rfl
theorem al4f (w : World) (a b c d : Obj) : ((((w.alloc a).alloc b).alloc c).alloc d).heap[w.heap.size]? = some a ∧ ((((w.alloc a).alloc b).alloc c).alloc d).heap[w.heap.size + 1]? = some b ∧ ((((w.alloc a).alloc b).alloc c).alloc d).heap[w.heap.size + 1 + 1]? = some c ∧ ((((w.alloc a).alloc b).alloc c).alloc d).heap[w.heap.size + 1 + 1 + 1]? = some d := by
  obtain ⟨h0, h1, h2, h3⟩ := al3 w a b c
  have z : (((w.alloc a).alloc b).alloc c).heap.size = w.heap.size + 3 := h3
  refine ⟨(Below.heap_alloc _ _ _ (by omega)).trans h0, (Below.heap_alloc _ _ _ (by omega)).trans h1, (Below.heap_alloc _ _ _ (by omega)).trans h2, ?_⟩
  have := heap_new (((w.alloc a).alloc b).alloc c) d
  rw [z] at this
  exact this
/-- The four boxes of the program's TlbFlush. -/
structure FlX (w u : World) (v : Value) (nx asid va : Int) : Prop where
  bel : Below w.heap.size w u
  b0 : BoxT u w.heap.size v nx
  b1 : u.heap[w.heap.size + 1]? = some (.cells #[.int .i64 asid] 2 (0, 0))
  b2 : u.heap[w.heap.size + 1 + 1]? = some (.cells #[.int .i64 va] 2 (0, 0))
  b3 : u.heap[w.heap.size + 1 + 1 + 1]? = some (.cells #[.slice none 0 0, .int .i64 0] 61 (0, 0))
theorem FlX.lt {w u : World} {v : Value} {nx asid va : Int} (h : FlX w u v nx asid va) : w.heap.size + 1 + 1 + 1 < u.heap.size := (Array.getElem?_eq_some_iff.1 h.b3).1
theorem FlX.keep {w u u' : World} {v : Value} {nx asid va : Int} {B : Nat} (h : FlX w u v nx asid va) (hb : Below B u u') (hB : w.heap.size + 1 + 1 + 1 < B) : FlX w u' v nx asid va :=
  ⟨h.bel.trans (hb.mono (by omega)), h.b0.below hb (by omega), (hb.block _ (by omega)).trans h.b1, (hb.block _ (by omega)).trans h.b2, (hb.block _ (by omega)).trans h.b3⟩
theorem FlX.step {w u u' : World} {v : Value} {nx asid va : Int} (h : FlX w u v nx asid va) (hb : Below u.heap.size u u') : FlX w u' v nx asid va := h.keep hb h.lt
theorem FlX.new (w : World) (ao : Option Addr) (n cap : Nat) (nx asid va : Int) : FlX w ((((w.alloc (.cells #[.slice ao n cap, .int .i64 nx] 61)).alloc (.cells #[.int .i64 asid] 2)).alloc (.cells #[.int .i64 va] 2)).alloc (.cells #[.slice none 0 0, .int .i64 0] 61)) (.slice ao n cap) nx asid va := by
  obtain ⟨h0, h1, h2, h3⟩ := al4f w (.cells #[.slice ao n cap, .int .i64 nx] 61) (.cells #[.int .i64 asid] 2) (.cells #[.int .i64 va] 2) (.cells #[.slice none 0 0, .int .i64 0] 61)
  exact ⟨((((Below.refl _ _).alloc (Nat.le_refl _) _).alloc (by simp) _).alloc (by simp; omega) _).alloc (by simp; omega) _, h0, h1, h2, h3⟩
theorem celO {u : World} {b t : Nat} {a0 : Value} (h : u.heap[b]? = some (.cells #[a0] t (0, 0))) : u.cell? ⟨b, 0, none⟩ = some a0 := by simp [World.cell?, h]
set_option maxRecDepth 100000 in
set_option maxHeartbeats 4000000 in
theorem implFlush_bad {w : World} {ao : Option Addr} {cap : Nat} {zs : List TE} (h : TErow w (.slice ao zs.length cap) zs) (nx asid va : Int) (hl : zs.length ≤ 1048576) (hc : tlbC zs nx = 1) :
    Calls Try.prog 33 #[tlA (.slice ao zs.length cap) nx, .int .i64 asid, .int .i64 va] w fun r w' => r = .returned (tlA (.slice none 0 0) 0) ∧ Below w.heap.size w w' := by
  have HX0 : Hid (FlX w ((((w.alloc (.cells #[.slice ao zs.length cap, .int .i64 nx] 61)).alloc (.cells #[.int .i64 asid] 2)).alloc (.cells #[.int .i64 va] 2)).alloc (.cells #[.slice none 0 0, .int .i64 0] 61)) (.slice ao zs.length cap) nx asid va) := FlX.new w ao zs.length cap nx asid va
  have HF := implFaultT_any (h.below (HX0.out.bel)) nx hl
  rw [hc] at HF
  have HFH : Hid _ := HF
  clear h HF hc
  unfold tlA at *
  go_enter Try.func33, Try.ntmps33
  go_wp2_with (go_at_call 31; refine Calls.mono HFH.out ?_; rintro r u1 ⟨rfl, hu1⟩; have HX : Hid (FlX w u1 (.slice ao zs.length cap) nx asid va) := HX0.out.step hu1; obtain ⟨k0, k1⟩ := cel2 HX.out.b3; have kf : ∀ x, u1.frozen? ⟨w.heap.size + 1 + 1 + 1, x, none⟩ = false := (fun x => by simp [World.frozen?, HX.out.b3]); have yl := HX.out.lt; clear hu1 HFH HX0)
  refine bodyPost_ret (v := .agg #[.slice none 0 0, .int .i64 0]) ?_ rfl ⟨rfl, (HX.out.bel.setCell (by simp only; omega) _).setCell (by simp only; omega) _⟩
  simp [results, Try.results33, go_sem, k0, k1]
set_option maxRecDepth 100000 in
set_option maxHeartbeats 4000000 in
theorem implFlush_good {w : World} {B : Nat} {ao : Option Addr} {cap : Nat} {zs : List TE} (h : w.ownsRow B 66 5 (.slice ao zs.length cap) zs.length (teR zs)) (nx asid va : Int) (hl : zs.length ≤ 16) (hc : tlbC zs nx = 0) :
    Calls Try.prog 33 #[tlA (.slice ao zs.length cap) nx, .int .i64 asid, .int .i64 va] w fun r w' => ∃ ao2 cap2, r = .returned (tlA (.slice ao2 (zs.filter fun x => !flP asid va x).length cap2) 0) ∧ w'.ownsRow w.heap.size 66 5 (.slice ao2 (zs.filter fun x => !flP asid va x).length cap2) (zs.filter fun x => !flP asid va x).length (teR (zs.filter fun x => !flP asid va x)) ∧ Below w.heap.size w w' := by
  have HX0 : Hid (FlX w ((((w.alloc (.cells #[.slice ao zs.length cap, .int .i64 nx] 61)).alloc (.cells #[.int .i64 asid] 2)).alloc (.cells #[.int .i64 va] 2)).alloc (.cells #[.slice none 0 0, .int .i64 0] 61)) (.slice ao zs.length cap) nx asid va) := FlX.new w ao zs.length cap nx asid va
  have HRW : Hid (w.ownsRow B 66 5 (.slice ao zs.length cap) zs.length (teR zs)) := h
  have HOK : Hid (∀ x ∈ zs, teOk x = true) := all_ok hc
  have HF := implFaultT_any ((TErow.of h).below (HX0.out.bel)) nx (by omega)
  rw [hc] at HF
  have HFH : Hid _ := HF
  clear h HF hc
  unfold tlA at *
  go_enter Try.func33, Try.ntmps33
  go_wp2_with (first
    | (go_at_call 31; refine Calls.mono HFH.out ?_; rintro r u1 ⟨rfl, hu1⟩; have HX : Hid (FlX w u1 (.slice ao zs.length cap) nx asid va) := HX0.out.step hu1; obtain ⟨c0, c1⟩ := HX.out.b0.cel; clear hu1 HFH HX0)
    | (go_at_call 83; refine Calls.mono (cloneT_any (te_below HRW.out HX.out.bel) hl) ?_; rintro r u2 ⟨ao2, cap2, rfl, ho, hb⟩; have HO : Hid (u2.ownsRow u1.heap.size 66 5 (.slice ao2 zs.length cap2) zs.length (teR zs)) := ho; have HB2 : Hid (Below u1.heap.size u1 u2) := hb; have HD : Hid _ := delT ho hb.size hl 84 #[.pointer (some ⟨w.heap.size + 1, 0, none⟩), .pointer (some ⟨w.heap.size + 1 + 1, 0, none⟩)] (flP asid va) cfFlush (fun x hx w' hw => by
        have hX2 : FlX w w' (.slice ao zs.length cap) nx asid va := (HX.out.step hb).keep hw HX.out.lt
        exact flushFn_any x (HOK.out x hx) asid va _ _ w' (celO hX2.b1) (celO hX2.b2) (by have := hX2.lt; omega) (by have := hX2.lt; omega)); clear ho hb)
    | (go_at_call 82; refine Calls.mono HD.out ?_; rintro r u3 ⟨rfl, ho, hb⟩; have HX3 : Hid (FlX w u3 (.slice ao zs.length cap) nx asid va) := (HX.out.step HB2.out).keep hb HX.out.lt; have HO3 : Hid (u3.ownsRow u1.heap.size 66 5 (.slice ao2 (zs.filter fun x => !flP asid va x).length cap2) (zs.filter fun x => !flP asid va x).length (teR (zs.filter fun x => !flP asid va x))) := ho; obtain ⟨k0, k1⟩ := cel2 HX3.out.b3; have kf : ∀ x, u3.frozen? ⟨w.heap.size + 1 + 1 + 1, x, none⟩ = false := (fun x => by simp [World.frozen?, HX3.out.b3]); have yl := HX.out.lt; clear ho hb HD))
  generalize (zs.filter fun x => !flP asid va x) = L at *
  have hn : (Value.slice ao2 L.length cap2).ownBlock ≠ some (w.heap.size + 1 + 1 + 1) := fun q => by have := (HO3.out.lt _ q).1; omega
  obtain ⟨r0, r1⟩ := (putBoxT HX3.out.b3 (.slice ao2 L.length cap2) 0).cel
  exact bodyPost_ret (v := .agg #[.slice ao2 L.length cap2, .int .i64 0]) (by simp [results, Try.results33, go_sem, r0, r1]) rfl ⟨ao2, cap2, rfl, te_weak (own_set (own_set HO3.out hn) hn) (by omega), (HX3.out.bel.setCell (by simp only; omega) _).setCell (by simp only; omega) _⟩


/-- Which entry is asked for. -/
def fP (asid va : Int) (e : TE) : Bool := holdsB e va && (decide (e.asid = asid) || decide (e.flags / 128 % 2 = 1))
set_option maxRecDepth 100000 in
set_option maxHeartbeats 4000000 in
theorem findFn_any (z : TE) (hz : teOk z = true) (asid va : Int) (b1 b2 : Nat) (w : World) (c1 : w.cell? ⟨b1, 0, none⟩ = some (.int .i64 va)) (c2 : w.cell? ⟨b2, 0, none⟩ = some (.int .i64 asid)) (l1 : b1 < w.heap.size) (l2 : b2 < w.heap.size) : Calls Try.prog 87 #[teA z, .pointer (some ⟨b1, 0, none⟩), .pointer (some ⟨b2, 0, none⟩)] w fun e w' => e = .returned (.bool (fP asid va z)) ∧ Below w.heap.size w w' := by
  obtain ⟨q1, q2, q3, q4, q5⟩ := teOk_b hz
  have HH : Hid _ := fun w' => implHolds_any z va w' q2 (fun h => (q5 h).1)
  have hg : bits .and .i64 z.flags 128 = z.flags / 128 % 2 * 128 := and128 _ q4.1 (by omega)
  unfold fP
  obtain ⟨a, p, f, g, l⟩ := z
  simp only at hg
  unfold teA at HH ⊢
  generalize holdsB ⟨a, p, f, g, l⟩ va = hb at *
  clear q1 q2 q3 q5 hz
  have q41 : 0 ≤ g := q4.1
  clear q4
  have wz : Hid (w.heap.size < (w.alloc (.cells #[.int .i64 a, .int .i64 p, .int .i64 f, .int .i64 g, .bool l] 66)).heap.size) := (by show _ < _; simp)
  go_enter Try.func87, Try.ntmps87
  go_wp2_with (go_at_call 85; refine Calls.mono (HH.out _) ?_; rintro e u5 ⟨rfl, hu5⟩; have hz0 := (hu5.block w.heap.size wz.out).trans (heap_new _ _); obtain ⟨x0, x1, x2, x3, x4⟩ := cel5 hz0; have y1 : u5.cell? ⟨b1, 0, none⟩ = some (.int .i64 va) := (World.cell?_of_block ((hu5.block b1 (Nat.lt_trans l1 wz.out)).trans (Below.heap_alloc _ _ _ l1))).trans c1; have y2 : u5.cell? ⟨b2, 0, none⟩ = some (.int .i64 asid) := (World.cell?_of_block ((hu5.block b2 (Nat.lt_trans l2 wz.out)).trans (Below.heap_alloc _ _ _ l2))).trans c2; have HB : Hid (Below w.heap.size w u5) := bstep (Below.refl _ _) _ hu5; clear hu5 hz0)
  all_goals go_ret
  all_goals refine ⟨ret_bool ?_, HB.out⟩
  all_goals first
    | (simp [*]; done)
    | (rcases (by omega : g / 128 % 2 = 0 ∨ g / 128 % 2 = 1) with q | q <;> simp [*])

def hitA (g : Bool) (pa at_ : Int) : Value := .agg #[.bool g, .int .i64 pa, .int .i64 at_]
theorem isAccess_any (acc : Int) (w : World) : Calls Try.prog 46 #[.int .i64 acc] w fun e w' => e = .returned (.bool (decide (1 ≤ acc ∧ acc ≤ 3))) ∧ w' = w := by
  by_cases h : 1 ≤ acc ∧ acc ≤ 3
  · rw [decide_eq_true h]
    exact isAccess_yes acc w h.1 h.2
  · rw [decide_eq_false h]
    exact isAccess_no acc w h
theorem l03Acc_any (acc : Int) (w : World) : Calls Try.prog 37 #[.int .i64 acc] w fun e w' => e = .returned (.bool (decide (1 ≤ acc ∧ acc ≤ 3))) ∧ w' = w := by
  by_cases h : 1 ≤ acc ∧ acc ≤ 3
  · rw [decide_eq_true h]
    exact l03Acc_yes acc w h.1 h.2
  · rw [decide_eq_false h]
    exact l03Acc_no acc w h
theorem al4 (w : World) (a b c d : Obj) : ((((w.alloc a).alloc b).alloc c).alloc d).heap[w.heap.size]? = some a ∧ ((((w.alloc a).alloc b).alloc c).alloc d).heap[w.heap.size + 1]? = some b ∧ ((((w.alloc a).alloc b).alloc c).alloc d).heap[w.heap.size + 2]? = some c ∧ ((((w.alloc a).alloc b).alloc c).alloc d).heap[w.heap.size + 3]? = some d ∧ ((((w.alloc a).alloc b).alloc c).alloc d).heap.size = w.heap.size + 4 := by
  obtain ⟨h0, h1, h2, h3⟩ := al3 w a b c
  refine ⟨?_, ?_, ?_, ?_, by simp⟩
  · rw [Below.heap_alloc _ _ _ (by omega)]; exact h0
  · rw [Below.heap_alloc _ _ _ (by omega)]; exact h1
  · rw [Below.heap_alloc _ _ _ (by omega)]; exact h2
  · have := heap_new (((w.alloc a).alloc b).alloc c) d
    rw [h3] at this
    exact this
theorem cel1 {u : World} {b t : Nat} {a0 : Value} (h : u.heap[b]? = some (.cells #[a0] t (0, 0))) : u.cell? ⟨b, 0, none⟩ = some a0 := by
  simp [World.cell?, h]
theorem cel3 {u : World} {b t : Nat} {a0 a1 a2 : Value} (h : u.heap[b]? = some (.cells #[a0, a1, a2] t (0, 0))) : u.cell? ⟨b, 0, none⟩ = some a0 ∧ u.cell? ⟨b, 1, none⟩ = some a1 ∧ u.cell? ⟨b, 2, none⟩ = some a2 ∧ ∀ x, u.frozen? ⟨b, x, none⟩ = false := by
  refine ⟨?_, ?_, ?_, fun x => ?_⟩ <;> simp [World.cell?, World.frozen?, h]
/-- The four boxes of TlbFind. -/
structure FX (w u : World) (v : Value) (nx asid va : Int) : Prop where
  bel : Below w.heap.size w u
  b0 : u.heap[w.heap.size]? = some (.cells #[v, .int .i64 nx] 61 (0, 0))
  b1 : u.heap[w.heap.size + 1]? = some (.cells #[.int .i64 asid] 2 (0, 0))
  b2 : u.heap[w.heap.size + 2]? = some (.cells #[.int .i64 va] 2 (0, 0))
  b3 : u.heap[w.heap.size + 3]? = some (.cells #[.bool false, .int .i64 0, .int .i64 0] 70 (0, 0))
theorem FX.lt {w u : World} {v : Value} {nx asid va : Int} (h : FX w u v nx asid va) : w.heap.size + 3 < u.heap.size := (Array.getElem?_eq_some_iff.1 h.b3).1
theorem FX.step {w u u' : World} {v : Value} {nx asid va : Int} (h : FX w u v nx asid va) (hb : Below u.heap.size u u') : FX w u' v nx asid va := by
  have := h.lt
  exact ⟨h.bel.trans (hb.mono h.bel.size), (hb.block _ (by omega)).trans h.b0, (hb.block _ (by omega)).trans h.b1, (hb.block _ (by omega)).trans h.b2, (hb.block _ (by omega)).trans h.b3⟩
theorem FX.new (w : World) (ao : Option Addr) (n cap : Nat) (nx asid va : Int) : FX w ((((w.alloc (.cells #[.slice ao n cap, .int .i64 nx] 61)).alloc (.cells #[.int .i64 asid] 2)).alloc (.cells #[.int .i64 va] 2)).alloc (.cells #[.bool false, .int .i64 0, .int .i64 0] 70)) (.slice ao n cap) nx asid va := by
  obtain ⟨h0, h1, h2, h3, _⟩ := al4 w (.cells #[.slice ao n cap, .int .i64 nx] 61) (.cells #[.int .i64 asid] 2) (.cells #[.int .i64 va] 2) (.cells #[.bool false, .int .i64 0, .int .i64 0] 70)
  exact ⟨((((Below.refl _ _).alloc (Nat.le_refl _) _).alloc (by simp) _).alloc (by simp; omega) _).alloc (by simp; omega) _, h0, h1, h2, h3⟩
set_option maxRecDepth 100000 in
set_option maxHeartbeats 4000000 in
theorem implFind_bad {w : World} {ao : Option Addr} {cap : Nat} {zs : List TE} (h : TErow w (.slice ao zs.length cap) zs) (nx asid va acc : Int) (user : Bool) (hl : zs.length ≤ 1048576) (hb : ¬ (tlbC zs nx = 0 ∧ 0 ≤ asid ∧ asid ≤ 255 ∧ (decide (0 ≤ va) && decide (va < 262144)) = true ∧ decide (1 ≤ acc ∧ acc ≤ 3) = true)) :
    Calls Try.prog 35 #[tlA (.slice ao zs.length cap) nx, .int .i64 asid, .int .i64 va, .int .i64 acc, .bool user] w fun e w' => e = .returned (hitA false 0 0) ∧ Below w.heap.size w w' := by
  have HX0 : Hid (FX w ((((w.alloc (.cells #[.slice ao zs.length cap, .int .i64 nx] 61)).alloc (.cells #[.int .i64 asid] 2)).alloc (.cells #[.int .i64 va] 2)).alloc (.cells #[.bool false, .int .i64 0, .int .i64 0] 70)) (.slice ao zs.length cap) nx asid va) := FX.new w ao zs.length cap nx asid va
  have HF : Hid _ := implFaultT_any (h.below (HX0.out.bel)) nx hl
  have HV : Hid _ := fun w' => isVirtual_any va w'
  have HA : Hid _ := fun w' => isAccess_any acc w'
  generalize (decide (0 ≤ va) && decide (va < 262144)) = vb at *
  generalize decide (1 ≤ acc ∧ acc ≤ 3) = ab at *
  generalize tlbC zs nx = c at *
  clear h
  unfold tlA at HF ⊢
  go_enter Try.func35, Try.ntmps35
  go_wp2_with (first | (go_at_call 31; refine Calls.mono HF.out ?_; rintro e u1 ⟨rfl, hu1⟩; have HX : Hid (FX w u1 (.slice ao zs.length cap) nx asid va) := HX0.out.step hu1; obtain ⟨z0, z1⟩ := cel2 HX.out.b0; have x1 := cel1 HX.out.b1; have x2 := cel1 HX.out.b2; obtain ⟨y0, y1, y2, yf⟩ := cel3 HX.out.b3; have yl := HX.out.lt; clear hu1 HF HX0) | (go_at_call 45; refine Calls.mono (HV.out _) ?_; rintro e u2 ⟨rfl, hu2⟩; rw [hu2]; clear hu2) | (go_at_call 46; refine Calls.mono (HA.out _) ?_; rintro e u3 ⟨rfl, hu3⟩; rw [hu3]; clear hu3))
  all_goals first
    | (refine bodyPost_ret (v := hitA false 0 0) ?_ rfl ⟨rfl, ((HX.out.bel.setCell (by simp; omega) _).setCell (by simp; omega) _).setCell (by simp; omega) _⟩; simp [results, Try.results35, go_sem, hitA, y0, y1, y2])
    | (exfalso; apply hb; refine ⟨by assumption, by omega, by omega, by assumption, ?_⟩; simp_all)

theorem cfFind : ∀ (xs : Array Value) (w' : World), (callFunc 87 xs).run Try.prog w' = .ok (.enter 87 xs) w' := by
  intro xs w'
  kernel_rfl
set_option maxRecDepth 100000 in
set_option maxHeartbeats 4000000 in
theorem implFind_none {w : World} {ao : Option Addr} {cap : Nat} {zs : List TE} (h : TErow w (.slice ao zs.length cap) zs) (nx asid va acc : Int) (user : Bool) (hl : zs.length ≤ 1048576) (hc : tlbC zs nx = 0) (s0 : 0 ≤ asid) (s1 : asid ≤ 255) (v0 : 0 ≤ va) (v1 : va < 262144) (a0 : 1 ≤ acc) (a1 : acc ≤ 3) (hi : idxI (fP asid va) zs = -1) :
    Calls Try.prog 35 #[tlA (.slice ao zs.length cap) nx, .int .i64 asid, .int .i64 va, .int .i64 acc, .bool user] w fun e w' => e = .returned (hitA false 0 0) ∧ Below w.heap.size w w' := by
  have HX0 : Hid (FX w ((((w.alloc (.cells #[.slice ao zs.length cap, .int .i64 nx] 61)).alloc (.cells #[.int .i64 asid] 2)).alloc (.cells #[.int .i64 va] 2)).alloc (.cells #[.bool false, .int .i64 0, .int .i64 0] 70)) (.slice ao zs.length cap) nx asid va) := FX.new w ao zs.length cap nx asid va
  have HF := implFaultT_any (h.below (HX0.out.bel)) nx hl
  rw [hc] at HF
  have HFH : Hid (Calls Try.prog 31 #[tlA (.slice ao zs.length cap) nx] ((((w.alloc (.cells #[.slice ao zs.length cap, .int .i64 nx] 61)).alloc (.cells #[.int .i64 asid] 2)).alloc (.cells #[.int .i64 va] 2)).alloc (.cells #[.bool false, .int .i64 0, .int .i64 0] 70)) fun r w' => r = .returned (.int .i64 0) ∧ Below ((((w.alloc (.cells #[.slice ao zs.length cap, .int .i64 nx] 61)).alloc (.cells #[.int .i64 asid] 2)).alloc (.cells #[.int .i64 va] 2)).alloc (.cells #[.bool false, .int .i64 0, .int .i64 0] 70)).heap.size ((((w.alloc (.cells #[.slice ao zs.length cap, .int .i64 nx] 61)).alloc (.cells #[.int .i64 asid] 2)).alloc (.cells #[.int .i64 va] 2)).alloc (.cells #[.bool false, .int .i64 0, .int .i64 0] 70)) w') := HF
  have HV := fun w' => isVirtual_any va w'
  rw [show (decide (0 ≤ va) && decide (va < 262144)) = true by simp; omega] at HV
  have HA := fun w' => isAccess_any acc w'
  rw [show decide (1 ≤ acc ∧ acc ≤ 3) = true from decide_eq_true ⟨a0, a1⟩] at HA
  have HVH : Hid _ := HV
  have HAH : Hid _ := HA
  have HR : Hid (TErow ((((w.alloc (.cells #[.slice ao zs.length cap, .int .i64 nx] 61)).alloc (.cells #[.int .i64 asid] 2)).alloc (.cells #[.int .i64 va] 2)).alloc (.cells #[.bool false, .int .i64 0, .int .i64 0] 70)) (.slice ao zs.length cap) zs) := h.below HX0.out.bel
  have HM : Hid (∀ x ∈ zs, teOk x = true) := all_ok hc
  have HIX : Hid (∀ u, FX w u (.slice ao zs.length cap) nx asid va → TErow u (.slice ao zs.length cap) zs → Calls Try.prog 86 #[.slice ao zs.length cap, .func (.func 87) #[] #[.pointer (some ⟨w.heap.size + 2, 0, none⟩), .pointer (some ⟨w.heap.size + 1, 0, none⟩)]] u fun r w' => r = .returned (.int .i64 (idxI (fP asid va) zs)) ∧ Below u.heap.size u w') := by
    intro u hu hru
    refine indexFunc_mem hru hl 87 _ (fP asid va) cfFind (fun x hx w' hw' => ?_)
    have h2 := hu.step hw'
    have h3 := h2.lt
    exact findFn_any x (HM.out x hx) asid va (w.heap.size + 2) (w.heap.size + 1) w' (cel1 h2.b2) (cel1 h2.b1) (by omega) (by omega)
  clear h HF HV HA hc v1
  unfold tlA at HFH ⊢
  go_enter Try.func35, Try.ntmps35
  go_wp2_with (first | (go_at_call 31; refine Calls.mono HFH.out ?_; rintro e u1 ⟨rfl, hu1⟩; have HX : Hid (FX w u1 (.slice ao zs.length cap) nx asid va) := HX0.out.step hu1; have HR1 : Hid (TErow u1 (.slice ao zs.length cap) zs) := HR.out.below hu1; obtain ⟨z0, z1⟩ := cel2 HX.out.b0; have x1 := cel1 HX.out.b1; have x2 := cel1 HX.out.b2; clear hu1 HFH HX0 HR) | (go_at_call 45; refine Calls.mono (HVH.out _) ?_; rintro e u2 ⟨rfl, hu2⟩; rw [hu2]; clear hu2) | (go_at_call 46; refine Calls.mono (HAH.out _) ?_; rintro e u3 ⟨rfl, hu3⟩; rw [hu3]; clear hu3) | (go_at_call 86; have hA := HIX.out u1 HX.out HR1.out; rw [hi] at hA; refine Calls.mono hA ?_; clear hA; rintro e u4 ⟨rfl, hu4⟩; have HX4 : Hid (FX w u4 (.slice ao zs.length cap) nx asid va) := HX.out.step hu4; have HR4 : Hid (TErow u4 (.slice ao zs.length cap) zs) := HR1.out.below hu4; obtain ⟨z2, z3⟩ := cel2 HX4.out.b0; have x3 := cel1 HX4.out.b1; have x4 := cel1 HX4.out.b2; obtain ⟨y0, y1, y2, yf⟩ := cel3 HX4.out.b3; have yl := HX4.out.lt; clear hu4 HX HR1))
  refine bodyPost_ret (v := hitA false 0 0) ?_ rfl ⟨rfl, ((HX4.out.bel.setCell (by simp; omega) _).setCell (by simp; omega) _).setCell (by simp; omega) _⟩
  simp [results, Try.results35, go_sem, hitA, y0, y1, y2]
/-- What is answered of the entry that is found. -/
def tfR (z : TE) (va acc : Int) (user : Bool) (k : Nat) : Value := if (mayV z.flags acc user && !(decide (acc = 2) && decide (z.flags / 64 % 2 = 0))) = true then hitA true (va + (z.frame - z.page) * 256) k else hitA false 0 0
set_option maxRecDepth 100000 in
set_option maxHeartbeats 4000000 in
theorem implFind_at {w : World} {ao : Option Addr} {cap : Nat} {zs : List TE} (h : TErow w (.slice ao zs.length cap) zs) (nx asid va acc : Int) (user : Bool) (hl : zs.length ≤ 1048576) (hc : tlbC zs nx = 0) (s0 : 0 ≤ asid) (s1 : asid ≤ 255) (v0 : 0 ≤ va) (v1 : va < 262144) (a0 : 1 ≤ acc) (a1 : acc ≤ 3) (k : Nat) (hk : k < zs.length) (hi : idxI (fP asid va) zs = k) :
    Calls Try.prog 35 #[tlA (.slice ao zs.length cap) nx, .int .i64 asid, .int .i64 va, .int .i64 acc, .bool user] w fun e w' => e = .returned (tfR zs[k] va acc user k) ∧ Below w.heap.size w w' := by
  have HX0 : Hid (FX w ((((w.alloc (.cells #[.slice ao zs.length cap, .int .i64 nx] 61)).alloc (.cells #[.int .i64 asid] 2)).alloc (.cells #[.int .i64 va] 2)).alloc (.cells #[.bool false, .int .i64 0, .int .i64 0] 70)) (.slice ao zs.length cap) nx asid va) := FX.new w ao zs.length cap nx asid va
  have HF := implFaultT_any (h.below (HX0.out.bel)) nx hl
  rw [hc] at HF
  have HFH : Hid (Calls Try.prog 31 #[tlA (.slice ao zs.length cap) nx] ((((w.alloc (.cells #[.slice ao zs.length cap, .int .i64 nx] 61)).alloc (.cells #[.int .i64 asid] 2)).alloc (.cells #[.int .i64 va] 2)).alloc (.cells #[.bool false, .int .i64 0, .int .i64 0] 70)) fun r w' => r = .returned (.int .i64 0) ∧ Below ((((w.alloc (.cells #[.slice ao zs.length cap, .int .i64 nx] 61)).alloc (.cells #[.int .i64 asid] 2)).alloc (.cells #[.int .i64 va] 2)).alloc (.cells #[.bool false, .int .i64 0, .int .i64 0] 70)).heap.size ((((w.alloc (.cells #[.slice ao zs.length cap, .int .i64 nx] 61)).alloc (.cells #[.int .i64 asid] 2)).alloc (.cells #[.int .i64 va] 2)).alloc (.cells #[.bool false, .int .i64 0, .int .i64 0] 70)) w') := HF
  have HV := fun w' => isVirtual_any va w'
  rw [show (decide (0 ≤ va) && decide (va < 262144)) = true by simp; omega] at HV
  have HA := fun w' => isAccess_any acc w'
  rw [show decide (1 ≤ acc ∧ acc ≤ 3) = true from decide_eq_true ⟨a0, a1⟩] at HA
  have HVH : Hid _ := HV
  have HAH : Hid _ := HA
  have HR : Hid (TErow ((((w.alloc (.cells #[.slice ao zs.length cap, .int .i64 nx] 61)).alloc (.cells #[.int .i64 asid] 2)).alloc (.cells #[.int .i64 va] 2)).alloc (.cells #[.bool false, .int .i64 0, .int .i64 0] 70)) (.slice ao zs.length cap) zs) := h.below HX0.out.bel
  have HM : Hid (∀ x ∈ zs, teOk x = true) := all_ok hc
  have HIX : Hid (∀ u, FX w u (.slice ao zs.length cap) nx asid va → TErow u (.slice ao zs.length cap) zs → Calls Try.prog 86 #[.slice ao zs.length cap, .func (.func 87) #[] #[.pointer (some ⟨w.heap.size + 2, 0, none⟩), .pointer (some ⟨w.heap.size + 1, 0, none⟩)]] u fun r w' => r = .returned (.int .i64 (idxI (fP asid va) zs)) ∧ Below u.heap.size u w') := by
    intro u hu hru
    refine indexFunc_mem hru hl 87 _ (fP asid va) cfFind (fun x hx w' hw' => ?_)
    have h2 := hu.step hw'
    have h3 := h2.lt
    exact findFn_any x (HM.out x hx) asid va (w.heap.size + 2) (w.heap.size + 1) w' (cel1 h2.b2) (cel1 h2.b1) (by omega) (by omega)
  obtain ⟨q1, q2, q3, q4, q5⟩ := teOk_b (HM.out zs[k] (List.getElem_mem hk))
  have hg : bits .and .i64 zs[k].flags 64 = zs[k].flags / 64 % 2 * 64 := and64 _ q4.1 (by omega)
  have hlt2 := fun w' => lets_any zs[k].flags acc user w' q4.1 (by omega) a0 a1
  obtain ⟨z, hz⟩ : ∃ z, zs[k] = z := ⟨_, rfl⟩
  rw [hz] at q1 q2 q3 q4 hg hlt2 ⊢
  have HZ : Hid (zs[k] = z) := hz
  obtain ⟨R, hR⟩ : ∃ R, tfR z va acc user k = R := ⟨_, rfl⟩
  rw [hR]
  unfold tfR at hR
  generalize mayV z.flags acc user = mb at *
  have R1 : Hid (mb = false → R = hitA false 0 0) := (show mb = false → R = hitA false 0 0 from fun h => by rw [← hR, h]; rfl)
  have R2 : Hid (acc = 2 → z.flags / 64 % 2 = 0 → R = hitA false 0 0) := (show acc = 2 → z.flags / 64 % 2 = 0 → R = hitA false 0 0 from fun h h2 => by rw [← hR, h, h2]; simp)
  have R3 : Hid (mb = true → ¬ (acc = 2 ∧ z.flags / 64 % 2 = 0) → R = hitA true (va + (z.frame - z.page) * 256) k) := (show mb = true → ¬ (acc = 2 ∧ z.flags / 64 % 2 = 0) → R = hitA true (va + (z.frame - z.page) * 256) k from fun h h2 => by rw [← hR, h, if_pos]; simp only [Bool.true_and, Bool.not_eq_true', Bool.and_eq_false_iff, decide_eq_false_iff_not]; omega)
  clear hR
  have HLT : Hid (∀ w' : World, Calls Try.prog 88 #[.int .i64 z.flags, .int .i64 acc, .bool user] w' fun x w2 => x = .returned (.bool mb) ∧ Below w'.heap.size w' w2) := hlt2
  clear hlt2
  have hk0 : (0 : Int) ≤ (k : Int) := by omega
  have hk1 : (k : Int) < (zs.length : Int) := by omega
  obtain ⟨q20, q21⟩ := q2
  obtain ⟨q30, q31⟩ := q3
  obtain ⟨q40, q41⟩ := q4
  have V1 : Hid (va < 262144) := v1
  have vw : IntKind.i64.wrap (va + (z.frame - z.page) * 256) = va + (z.frame - z.page) * 256 := by rw [IntKind.wrap_i64]; omega
  clear h HF HV HA hc v1 q1 q5 hz
  unfold tlA at HFH ⊢
  go_enter Try.func35, Try.ntmps35
  go_wp2_with (first | (go_at_call 31; refine Calls.mono HFH.out ?_; rintro e u1 ⟨rfl, hu1⟩; have HX : Hid (FX w u1 (.slice ao zs.length cap) nx asid va) := HX0.out.step hu1; have HR1 : Hid (TErow u1 (.slice ao zs.length cap) zs) := HR.out.below hu1; obtain ⟨z0, z1⟩ := cel2 HX.out.b0; have x1 := cel1 HX.out.b1; have x2 := cel1 HX.out.b2; clear hu1 HFH HX0 HR) | (go_at_call 45; refine Calls.mono (HVH.out _) ?_; rintro e u2 ⟨rfl, hu2⟩; rw [hu2]; clear hu2) | (go_at_call 46; refine Calls.mono (HAH.out _) ?_; rintro e u3 ⟨rfl, hu3⟩; rw [hu3]; clear hu3) | (go_at_call 86; have hA := HIX.out u1 HX.out HR1.out; rw [hi] at hA; refine Calls.mono hA ?_; clear hA; rintro e u4 ⟨rfl, hu4⟩; have HX4 : Hid (FX w u4 (.slice ao zs.length cap) nx asid va) := HX.out.step hu4; have HR4 : Hid (TErow u4 (.slice ao zs.length cap) zs) := HR1.out.below hu4; obtain ⟨z2, z3⟩ := cel2 HX4.out.b0; have x3 := cel1 HX4.out.b1; have x4 := cel1 HX4.out.b2; obtain ⟨y0, y1, y2, yf⟩ := cel3 HX4.out.b3; have yl := HX4.out.lt; clear hu4 HX HR1) | fail)
  obtain ⟨g, o, cap2, hv, hcp, hg2, hcc⟩ := HR4.out.resolve_left (fun h => by rw [h.1] at hk; simp at hk)
  injection hv with hv1 hv2 hv3
  subst hv1 hv3
  obtain ⟨d0, d1, d2, d3, d4⟩ := hcc k hk
  rw [HZ.out] at d0 d1 d2 d3 d4
  clear hcc
  have HX5 : Hid (FX w (u4.alloc (.cells #[.int .i64 z.asid, .int .i64 z.page, .int .i64 z.frame, .int .i64 z.flags, .bool z.large] 66)) (.slice (some ⟨g, o, none⟩) zs.length cap) nx asid va) := HX4.out.step ((Below.refl _ _).alloc (Nat.le_refl _) _)
  have HE5 : Hid (BoxE (u4.alloc (.cells #[.int .i64 z.asid, .int .i64 z.page, .int .i64 z.frame, .int .i64 z.flags, .bool z.large] 66)) u4.heap.size z) := heap_new _ _
  go_wp2_with (go_at_call 88; refine Calls.mono (HLT.out _) ?_; rintro e u5 ⟨rfl, hu5⟩; have HX6 : Hid (FX w u5 (.slice (some ⟨g, o, none⟩) zs.length cap) nx asid va) := HX5.out.step hu5; have HE6 : Hid (BoxE u5 u4.heap.size z) := HE5.out.below hu5 HE5.out.lt; have x5 := cel1 HX6.out.b1; have x6 := cel1 HX6.out.b2; obtain ⟨y3, y4, y5, yg⟩ := cel3 HX6.out.b3; have ym := HX6.out.lt; have yn := HE6.out.lt; obtain ⟨e0, e1, e2, e3, e4⟩ := cel5 HE6.out; clear hu5)
  all_goals
    refine bodyPost_ret (v := R) ?_ rfl ⟨rfl, ((HX6.out.bel.setCell (by simp; omega) _).setCell (by simp; omega) _).setCell (by simp; omega) _⟩
  · rename_i m1 m2 m3
    rw [R2.out m2 (by simp at m3; omega)]
    simp [results, Try.results35, go_sem, hitA, y3, y4, y5]
  · rename_i m1 m2 m3
    rw [R3.out m1 (fun h => by rw [h.2] at m3; simp at m3)]
    simp [results, Try.results35, go_sem, hitA, y3, y4, y5]
  · rename_i m1 m2
    rw [R3.out m1 (fun h => m2 h.1)]
    simp [results, Try.results35, go_sem, hitA, y3, y4, y5]
  · rename_i m1
    rw [R1.out (by simpa using m1)]
    simp [results, Try.results35, go_sem, hitA, y3, y4, y5]
end Go.Proofs.Ytfagohdmepnkkaa
