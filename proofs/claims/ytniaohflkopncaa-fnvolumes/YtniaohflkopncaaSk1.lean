import Derived.Test.YtniaohflkopncaaRow8
import Derived.Test.YtniaohflkopncaaMix
import Derived.Test.YtniaohflkopncaaPutWord
import Derived.Lib.AppendStr
namespace Go.Proofs.Ytniaohflkopncaa
open Go.ChangeShapes Go.WideShapes Go.ChangeAt Go.RowKit

theorem sc_app (a b : ByteArray) : Lib.strCells (a ++ b) = Lib.strCells a ++ Lib.strCells b := by
  simp [Lib.strCells]
theorem sc_get {s : ByteArray} {j : Nat} (hj : j < s.size) : (Lib.strCells s)[j]? = some (.int .u8 (bt s j)) := by
  have h2 := bt_list s j hj
  have h3 : j < s.data.toList.length := by simpa using hj
  rw [← h2]
  simp [Lib.strCells, List.getD, List.getElem?_eq_getElem h3]
/-- A slice of bytes that may be read: its bytes are the text's. -/
structure KY (w : World) (v : Value) (s : ByteArray) : Prop where
  ex : ∃ g cap, v = .slice (some ⟨g, 0, none⟩) s.size cap ∧ s.size ≤ cap ∧ g < w.heap.size ∧ ∀ j u, (Lib.strCells s)[j]? = some u → w.cell? ⟨g, j, none⟩ = some u
theorem KY.below {w w' : World} {v : Value} {s : ByteArray} (h : KY w v s) (hb : Below w.heap.size w w') : KY w' v s := by
  obtain ⟨g, cap, hv, hc, hg, ha⟩ := h
  exact ⟨g, cap, hv, hc, Nat.lt_of_lt_of_le hg hb.size, fun j u hu => (hb.cell (p := ⟨g, j, none⟩) hg).trans (ha j u hu)⟩
theorem KY.sl {w : World} {v : Value} {s : ByteArray} (h : KY w v s) : ∃ g cap, v = .slice (some ⟨g, 0, none⟩) s.size cap ∧ s.size ≤ cap := by
  obtain ⟨g, cap, hv, hc, _⟩ := h
  exact ⟨g, cap, hv, hc⟩
theorem bwk_conv (u : World) (S : ByteArray) : Sem.run Try.prog (convert 9 143 (.string S)) u = .ok (.slice (some ⟨u.heap.size, 0, none⟩) S.size (grownCap u S.size 0 5)) (Lib.bytesWorld u 5 S) :=
  Lib.run_convert_string_bytes u 9 143 5 S Try.underlying9 Try.underlying143 Try.underlying5
theorem ky_conv (u : World) (S : ByteArray) : KY (Lib.bytesWorld u 5 S) (.slice (some ⟨u.heap.size, 0, none⟩) S.size (grownCap u S.size 0 5)) S := by
  refine ⟨_, _, rfl, grownCap_ge _ _ _ _, by rw [Lib.bytesWorld_size]; omega, fun j x hx => ?_⟩
  have hj : j < S.size := by
    have := (List.getElem?_eq_some_iff.1 hx).1
    simpa [Lib.strCells] using this
  rw [sc_get hj] at hx
  rw [bw_cell u S j hj]
  exact hx
theorem ky_back {w : World} {v : Value} {s : ByteArray} (h : KY w v s) : Sem.run Try.prog (convert 143 9 v) w = .ok (.string s) w := by
  obtain ⟨g, cap, rfl, _, _, ha⟩ := h
  have hl : s.data.toList.length = s.size := by simp
  have hr := run_convert_bytes_back (P := Try.prog) w 143 9 5 ⟨g, 0, none⟩ cap s.data.toList Try.underlying143 Try.underlying5 Try.underlying9 (fun j hj => by
    have hadd : (⟨g, 0, none⟩ : Addr).add j = ⟨g, j, none⟩ := by unfold Addr.add; split <;> simp_all
    rw [hadd]
    exact ha j _ (by simp [Lib.strCells, List.getElem?_eq_getElem hj]))
  rw [hl] at hr
  rw [hr]
/-- The same, and it may be appended to: it is full, or its row is the call's own. -/
structure WY (B : Nat) (w : World) (v : Value) (s : ByteArray) : Prop where
  ex : ∃ g cap, v = .slice (some ⟨g, 0, none⟩) s.size cap ∧ s.size ≤ cap ∧ g < w.heap.size ∧ (∀ j u, (Lib.strCells s)[j]? = some u → w.cell? ⟨g, j, none⟩ = some u) ∧ (cap = s.size ∨ w.ownsRow B 5 1 v s.size (Lib.strCells s))
theorem WY.ky {B : Nat} {w : World} {v : Value} {s : ByteArray} (h : WY B w v s) : KY w v s := by
  obtain ⟨g, cap, hv, hc, hg, ha, _⟩ := h
  exact ⟨g, cap, hv, hc, hg, ha⟩
theorem WY.sl {B : Nat} {w : World} {v : Value} {s : ByteArray} (h : WY B w v s) : ∃ g cap, v = .slice (some ⟨g, 0, none⟩) s.size cap := by
  obtain ⟨g, cap, hv, _⟩ := h
  exact ⟨g, cap, hv⟩
theorem WY.of {B : Nat} {w : World} {g cap : Nat} {s : ByteArray} (h : w.ownsRow B 5 1 (.slice (some ⟨g, 0, none⟩) s.size cap) s.size (Lib.strCells s)) : WY B w (.slice (some ⟨g, 0, none⟩) s.size cap) s := by
  have h0 := h
  rcases h.2 with ⟨hv, _⟩ | ⟨g', cap', cur, hv, hB, hg, hc, _⟩
  · cases hv
  · simp only [Value.slice.injEq, Option.some.injEq, Addr.mk.injEq, and_true, true_and] at hv
    obtain ⟨rfl, rfl⟩ := hv
    refine ⟨g, cap, rfl, hc, (Array.getElem?_eq_some_iff.1 hg).1, fun j u hu => ?_, .inr h⟩
    have hj : j < s.size := by
      have := (List.getElem?_eq_some_iff.1 hu).1
      simpa [Lib.strCells] using this
    rw [h0.cellAt j (by omega)]
    exact hu
theorem run_append_wy (B : Nat) (ty : TypeId) (w : World) (v : Value) (s p : ByteArray) (h : WY B w v s) (hB : B ≤ w.heap.size) (hl : s.size + p.size ≤ 1048576) :
    ∃ v' w', (Builtin.append_ #[143, 9] ty #[v, .string p]).run Try.prog w = .ok v' w' ∧ WY B w' v' (s ++ p) ∧ Below B w w' := by
  obtain ⟨i0, hi, hz0, hz1, hz2⟩ := info_parts Try.info5
  obtain ⟨g, cap, rfl, hc, hg, ha, h | h⟩ := h
  · subst h
    by_cases hp : p.size = 0
    · have hpe : p = ByteArray.empty := ByteArray.size_eq_zero_iff.1 hp
      subst hpe
      refine ⟨.slice (some ⟨g, 0, none⟩) s.size s.size, w, ?_, ?_, Below.refl _ _⟩
      · simp [Builtin.append_, run_underlying Try.underlying143, run_underlying Try.underlying9, sizeOf, typeInfo, hi, hz1, Builtin.lenOf, Builtin.firstCells]
        rfl
      · rw [ByteArray.append_empty]
        exact ⟨g, s.size, rfl, Nat.le_refl _, hg, ha, .inl rfl⟩
    · have hadd : ∀ j, (⟨g, 0, none⟩ : Addr).add j = ⟨g, j, none⟩ := fun j => by unfold Addr.add; split <;> simp_all
      have hr := Lib.run_append_grow_string (P := Try.prog) w 143 9 ty 5 i0 (.int .u8 0) Try.underlying143 Try.underlying9 hi hz0 ⟨g, 0, none⟩ s.size s.size (Lib.strCells s) (by rw [hz1, Lib.strCells_length]; omega) (fun j u hu => by rw [hadd]; exact ha j u hu) p (by omega) (by omega) (by rw [hz2]; exact growslice_fits (by omega) (by omega))
      have hge := grownCap_ge w (s.size + p.size) s.size 5
      have hcm : grownCap w (s.size + p.size) s.size 5 ≤ maxLen := grownCap_le_maxLen w (s.size + p.size) s.size 5 (by unfold maxLen; omega)
      refine ⟨_, _, hr, ?_, ((Below.refl B w).drew).alloc hB _⟩
      have hsz : (s ++ p).size = s.size + p.size := ByteArray.size_append
      rw [← hsz] at hge hcm ⊢
      refine WY.of ⟨?_, .inr ⟨w.heap.size, _, _, rfl, hB, heap_alloc_new w.drew _, hge, hcm, ?_, ?_⟩⟩
      · rw [Lib.strCells_length, Nat.mul_one]
      · have hz1 : (Value.int IntKind.u8 0).cells.size = 1 := rfl
        simp only [Array.size_append, List.size_toArray, size_zeroCells, hz1, Lib.strCells_length]
        omega
      · simp only [Array.toList_append, List.append_assoc]
        rw [sc_app, hsz, Nat.mul_one]
        rw [← List.append_assoc]
        have hlen : (Lib.strCells s ++ Lib.strCells p).length = s.size + p.size := by rw [List.length_append, Lib.strCells_length, Lib.strCells_length]
        rw [← hlen]
        exact List.take_left
  · obtain ⟨v', w', hr, h2, h3, h4⟩ := Lib.run_append_own_string (P := Try.prog) w B 143 9 ty 5 i0 Try.underlying143 Try.underlying9 hi hz0 hz1 hz2 _ _ _ h p (by unfold maxLen; omega) (by omega) hB
    refine ⟨v', w', hr, ?_, (Below.refl B w).grown h3 hB (fun j hj => (h.lt j hj).1)⟩
    have hsz : (s ++ p).size = s.size + p.size := ByteArray.size_append
    rw [← sc_app, ← hsz] at h2
    rcases h2.2 with ⟨hv, _⟩ | ⟨g', cap', cur, hv, _⟩
    · have := h4.1 hv
      simp at this
    · subst hv
      exact WY.of h2
theorem wpList_append_wy {w : World} {ops : Array Oper} {rest : List Oper} {o : Oper} {a : Act} {Q : Exit → Act → World → Prop} (hgd : o.guard = none) (sl x : Operand)
    (ho : o.op = .call { callee := .builtin .append, args := #[sl, x], argTypes := #[143, 9] }) (B : Nat) (v : Value) (s p : ByteArray) (hs : a.eval sl = v) (hx : a.eval x = .string p) (h : WY B w v s) (hB : B ≤ w.heap.size) (hl : s.size + p.size ≤ 1048576)
    (hK : ∀ v' w', WY B w' v' (s ++ p) → Below B w w' → wpList Try.prog ops Q rest (a.put o.dst v') w') : wpList Try.prog ops Q (o :: rest) a w := by
  refine wpList_plain hgd fun K hK' => ?_
  obtain ⟨v', w', hr, h2, h3⟩ := run_append_wy B o.type w v s p h hB hl
  unfold Oper.wp execOp
  simp only [ho, resolve, invoke, builtin, Sem.run_bind, Sem.run_pure, Result.andThen_ok, List.map_toArray, List.map_cons, List.map_nil, hs, hx, hr]
  exact hK' _ _ (hK v' w' h2 h3)
/-- Texts put behind a text. -/
def apB (s : ByteArray) (ps : List ByteArray) : ByteArray := ps.foldl (· ++ ·) s
theorem apB_succ (s : ByteArray) (ps : List ByteArray) (k : Nat) (h : k < ps.length) : apB s (ps.take (k + 1)) = apB s (ps.take k) ++ ps.getD k ByteArray.empty := by
  rw [List.take_succ_eq_append_getElem h]
  unfold apB
  rw [List.foldl_append]
  simp [List.getElem?_eq_getElem h]
theorem apB_size (s : ByteArray) (ps : List ByteArray) : (apB s ps).size = s.size + (ps.map ByteArray.size).sum := by
  unfold apB
  induction ps generalizing s with
  | nil => simp
  | cons p ps ih =>
    rw [List.foldl_cons, ih, ByteArray.size_append]
    simp
    omega
theorem apB_le (s : ByteArray) (ps : List ByteArray) (k : Nat) : (apB s (ps.take k)).size ≤ (apB s ps).size := by
  have h : ps = ps.take k ++ ps.drop k := (List.take_append_drop k ps).symm
  rw [apB_size, apB_size]
  conv => rhs; rw [h]
  rw [List.map_append, List.sum_append]
  omega
set_option maxRecDepth 100000 in
set_option maxHeartbeats 400000 in
theorem with_any (b n cap : Nat) (ps : List ByteArray) (w : World) (v : Value) (s : ByteArray) (h : KY w v s) (hn : ps.length = n) (hb : b < w.heap.size) (hc : ∀ i, i < n → w.cell? ⟨b, i, none⟩ = some (.string (ps.getD i ByteArray.empty)))
    (hN : n ≤ 1000) (hsz : (apB s ps).size ≤ 1048576) :
    Calls Try.prog 133 #[v, .slice (some ⟨b, 0, none⟩) n cap] w fun e w' => ∃ r, e = .returned r ∧ KY w' r (apB s ps) ∧ Below w.heap.size w w' := by
  obtain ⟨g, kc, rfl, hkc, hg, ha⟩ := h
  have HS0 : Hid (WY w.heap.size w (.slice (some ⟨g, 0, none⟩) s.size s.size) s) := ⟨g, s.size, rfl, Nat.le_refl _, hg, ha, .inl rfl⟩
  have hs1 : s.size ≤ 1048576 := Nat.le_trans (apB_le s ps 0) hsz
  clear ha hg
  go_enter Try.func133, Try.ntmps133
  go_wp2
  go_loopw [5, 16] (fun v i wr => ∃ k : Nat, k ≤ n ∧ i = .int .i64 k ∧ WY w.heap.size wr v (apB s (ps.take k)) ∧ Below w.heap.size w wr) (fun _ i _ => n - (intOf i).toNat)
  case atStart => exact ⟨0, Nat.zero_le _, rfl, HS0.out, Below.refl _ _⟩
  case round =>
    obtain ⟨k, hk, rfl, hown, hbl⟩ := hrel
    clear HS0
    obtain ⟨g1, c1, rfl⟩ := hown.sl
    by_cases hlt : k < n
    · have hcx : wr.cell? ⟨b, k, none⟩ = some (.string (ps.getD k ByteArray.empty)) := (hbl.cell (p := ⟨b, k, none⟩) hb).trans (hc k hlt)
      have hle := apB_le s ps (k + 1)
      have hsu := apB_succ s ps k (by omega)
      have hlen : (apB s (ps.take (k + 1))).size = (apB s (ps.take k)).size + (ps.getD k ByteArray.empty).size := by rw [hsu, ByteArray.size_append]
      have HS : Hid (apB s (ps.take (k + 1)) = apB s (ps.take k) ++ ps.getD k ByteArray.empty) := hsu
      have hbd : (apB s (ps.take k)).size + (ps.getD k ByteArray.empty).size ≤ 1048576 := by omega
      clear hle hsu hlen
      generalize ps.getD k ByteArray.empty = p at *
      generalize apB s (ps.take k) = S at *
      go_wp2_with (at_builtin; refine wpList_append_wy rfl _ _ rfl w.heap.size _ _ _ rfl rfl hown hbl.size hbd ?_)
      intro v' w1 hown' hgrow
      obtain ⟨g2, c2, rfl⟩ := hown'.sl
      go_wp2
      refine ⟨⟨k + 1, by omega, by go_num, by rw [HS.out]; exact hown', hbl.trans hgrow⟩, by simp [intOf]; omega⟩
    · obtain rfl : k = n := by omega
      go_wp2
      go_ret
      have e : ps.take k = ps := List.take_of_length_le (by omega)
      rw [e] at hown
      exact ⟨_, rfl, by rw [e]; exact hown.ky, hbl⟩
end Go.Proofs.Ytniaohflkopncaa
