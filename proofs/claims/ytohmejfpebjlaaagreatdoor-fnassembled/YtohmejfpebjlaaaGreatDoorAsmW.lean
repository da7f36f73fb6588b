import Derived.Test.YtohmejfpebjlaaaGreatDoorLwA
namespace Go.Proofs.YtohmejfpebjlaaaGreatDoor
open Go.ChangeShapes Go.WideShapes Go.ChangeAt Go.WideMaps Go.WideElems Go.RowKit

theorem lin_snoc (ps : List ByteArray) (p : ByteArray) : linB (ps ++ [p]) = linB ps ++ p ++ ⟨#[10]⟩ := by
  induction ps with
  | nil =>
    apply ext_list
    simp [linB]
  | cons q ps ih =>
    show q ++ (⟨#[10]⟩ ++ linB (ps ++ [p])) = (q ++ (⟨#[10]⟩ ++ linB ps)) ++ p ++ ⟨#[10]⟩
    rw [ih]
    simp only [ByteArray.append_assoc]
/-- What the loop has drawn. -/
structure LA (w wr : World) (L : List I5) (v : Value) : Prop where
  bel : Below w.heap.size w wr
  ok : ∀ i ∈ L, i.ok = true
  own : wr.ownsRow w.heap.size 2 1 v (L.map I5.enc).length ((L.map I5.enc).map (Value.int .i64))
theorem LA.step {w wr u : World} {L : List I5} {v : Value} (h : LA w wr L v) (hu : Below wr.heap.size wr u) : LA w u L v :=
  ⟨h.bel.trans (hu.mono h.bel.size), h.ok, h.own.kept (row := none) ⟨hu.os, hu.tape, hu.output, hu.size, fun k hk _ => hu.block k hk⟩ (by cases v.ownBlock <;> simp)⟩
theorem CodeAt.sub {w : World} {B : Nat} {cb co len : Nat} (k : Nat) (h : ∀ i, i < len → ∃ x : Int, 0 ≤ x ∧ x ≤ 255 ∧ w.cell? ⟨cb, co + i, none⟩ = some (.int .u8 x)) (hb : cb < B) {u : World} (hu : Below B w u) {B' : Nat} (hB : B ≤ B') : CodeAt u B' (some ⟨cb, co + k, none⟩) (len - k) := by
  refine .inr ⟨cb, co + k, rfl, by omega, fun i hi => ?_⟩
  obtain ⟨x, x0, x1, hx⟩ := h (k + i) (by omega)
  exact ⟨x, x0, x1, (hu.cell (p := ⟨cb, co + k + i, none⟩) hb).trans (by rw [Nat.add_assoc]; exact hx)⟩
theorem own_sl {w : World} {B : Nat} {v : Value} {n : Nat} {xs : List Value} (h : w.ownsRow B 2 1 v n xs) : ∃ ao cap, v = .slice ao n cap := by
  rcases h.2 with ⟨rfl, e⟩ | ⟨g, cap, cur, rfl, _⟩
  · exact ⟨none, 0, by rw [e]⟩
  · exact ⟨_, cap, rfl⟩
theorem own_I5 {w : World} {B : Nat} {v : Value} {L : List I5} (h : w.ownsRow B 2 1 v L.length (L.map fun i => .int .i64 i.enc)) : w.ownsRow B 2 1 v (L.map I5.enc).length ((L.map I5.enc).map (Value.int .i64)) := by
  simpa [List.map_map, Function.comp_def] using h
theorem code_below {w u : World} {a : Option Addr} {len : Nat} (h : CodeAt w w.heap.size a len) (hu : Below w.heap.size w u) : CodeAt u u.heap.size a len := by
  rcases h with h | ⟨cb, co, ha, hlt, hcc⟩
  · exact .inl h
  · refine .inr ⟨cb, co, ha, Nat.lt_of_lt_of_le hlt hu.size, fun i hi => ?_⟩
    obtain ⟨x, h0, h1, hx⟩ := hcc i hi
    exact ⟨x, h0, h1, (hu.cell (p := ⟨cb, co + i, none⟩) hlt).trans hx⟩
set_option maxRecDepth 100000 in
set_option maxHeartbeats 4000000 in
theorem walkA (a1 : Option Addr) (l1 c1 : Nat) (a2 : Option Addr) (l2 c2 : Nat) (w : World) (hc1 : CodeAt w w.heap.size a1 l1) (hc2 : CodeAt w w.heap.size a2 l2) (hcap : l2 ≤ c2) (henv : Env w) (h2 : 2 < w.heap.size) :
    Calls Tryz.prog 4 #[.slice a1 l1 c1, .slice a2 l2 c2] w fun e w' => e = .returned (.bool true) ∧ Below w.heap.size w w' := by
  by_cases hl : l1 ≤ 1048576 ∧ l2 ≤ 1048576
  · obtain ⟨hl1, hl2⟩ := hl
    obtain ⟨ti, hti, hz0, hz1, hz2⟩ := info_parts Tryz.info2
    have HE : Hid (Env w) := henv
    have HC1 : Hid (CodeAt w w.heap.size a1 l1) := hc1
    have HC2 : Hid (CodeAt w w.heap.size a2 l2) := hc2
    clear henv hc1 hc2
    go_enter Tryz.func4, Tryz.ntmps4
    go_wp2
    go_loopw [5, 6, 7] (fun t v i wr => ∃ (k : Nat) (L : List I5), k ≤ 5 ∧ k ≤ l2 ∧ i = .int .i64 k ∧ L.length ≤ k ∧ t = .string (linB (L.map I5.text)) ∧ LA w wr L v) (fun _ _ i _ => 5 - (intOf i).toNat)
    case atStart => exact ⟨0, [], Nat.zero_le _, Nat.zero_le _, rfl, Nat.zero_le _, rfl, (Below.refl _ _).alloc (Nat.le_refl _) _, by simp, World.ownsRow_lit w #[] 0 (Nat.le_refl _) (by decide) rfl⟩
    case round =>
      obtain ⟨k, L, hk5, hkl, rfl, hLk, rfl, hla⟩ := hrel
      have HL : Hid (LA w wr L _) := hla
      clear hla
      by_cases hin : k < 5 ∧ k < l2
      · obtain ⟨h5, hm⟩ := hin
        obtain ⟨cb, co, rfl, hcb, hcc⟩ := HC2.out.resolve_left (by omega)
        have i1 : (k : Int) ≤ (l2 : Int) := by omega
        have i2 : (l2 : Int) ≤ (c2 : Int) := by omega
        have i3 : ¬ (l2 : Int) ≤ (k : Int) := by omega
        have hlin := lin_size L HL.out.ok
        have hdraw := drawEncode_any (some ⟨cb, co + k, none⟩) (l2 - k) (c2 - k) wr (CodeAt.sub k hcc hcb HL.out.bel HL.out.bel.size) (by omega)
        have HS : Hid (∀ p, linB ((L.map I5.text) ++ [p]) = linB (L.map I5.text) ++ p ++ ⟨#[10]⟩) := fun p => lin_snoc _ p
        have hts : (linB (L.map I5.text)).size ≤ 5005 := by omega
        generalize hq : linB (L.map I5.text) = tl at *
        have HQ : Hid (linB (L.map I5.text) = tl) := hq
        clear hcc hlin hq
        go_wp2_with fail
        refine Calls.mono hdraw ?_
        rintro e u1 ⟨op, x1, x2, x3, x4, rfl, hin, hb1⟩
        obtain ⟨bo, b1, b2, b3, b4⟩ := hin
        replace HL : Hid _ := HL.out.step hb1
        have hle := HL.out.bel.size
        replace HL : Hid _ := HL.out.step ((Below.refl _ _).alloc (Nat.le_refl _) (.cells #[.int .i64 op, .int .i64 x1, .int .i64 x2, .int .i64 x3, .int .i64 x4] 24))
        have HX : Hid (LX w (u1.alloc (.cells #[.int .i64 op, .int .i64 x1, .int .i64 x2, .int .i64 x3, .int .i64 x4] 24)) u1.heap.size op x1 x2 x3 x4) := ⟨HL.out.bel, heap_new _ _, by simp, hle⟩
        unfold ins
        clear hdraw
        cases hok : isOk op x1 x2 x3 x4
        · go_wp2_with (go_at_call 6; refine (instrFault_any op x1 x2 x3 x4 _ bo.1 bo.2).mono ?_; rintro e u2 ⟨rfl, hu2⟩; rw [hok]; replace HL : Hid _ := HL.out.step hu2)
          go_roundw
          case rel => exact ⟨k + 1, L, h5, hm, by go_num, by omega, by rw [HQ.out], HL.out⟩
          case measure => simp [intOf]; omega
        · have ht : iT op x1 x2 x3 x4 = txt op x1 x2 x3 x4 ⟨#[]⟩ := if_pos hok
          have hsz := text_size op x1 x2 x3 x4 hok
          have HK : Hid (isOk op x1 x2 x3 x4 = true) := hok
          clear hok
          have HT : Hid (iT op x1 x2 x3 x4 = txt op x1 x2 x3 x4 ⟨#[]⟩) := ht
          clear ht
          generalize htx : txt op x1 x2 x3 x4 ⟨#[]⟩ = tx at *
          go_wp2_with (first | (go_at_call 6; refine (instrFault_any op x1 x2 x3 x4 _ bo.1 bo.2).mono ?_; rintro e u2 ⟨rfl, hu2⟩; rw [HK.out]; replace HL : Hid _ := HL.out.step hu2; replace HX : Hid _ := HX.out.step hu2; obtain ⟨i0, i1, i2, i3, i4, _⟩ := InsAt.all HX.out.box) | (go_at_call 11; refine (specText_any op x1 x2 x3 x4 _ bo.1 bo.2).mono ?_; rintro e u3 ⟨rfl, hu3⟩; rw [HT.out]; replace HL : Hid _ := HL.out.step hu3; replace HX : Hid _ := HX.out.step hu3; obtain ⟨i0, i1, i2, i3, i4, _⟩ := InsAt.all HX.out.box) | (go_at_call 12; refine (specEncode_any op x1 x2 x3 x4 _ bo.1 bo.2).mono ?_; rintro e u4 ⟨rfl, hu4⟩; replace HL : Hid _ := HL.out.step hu4) | (at_builtin; refine wpList_append_own _ rfl _ _ 33 rfl w.heap.size 2 ti (.int .i64 0) 1 8 Tryz.underlying33 hti hz0 hz1 hz2 rfl (by decide) _ _ _ rfl (HL.out.own.alloc _) ⟨u4.heap.size, 0, none⟩ 1 1 [.int .i64 (encV op x1 x2 x3 x4)] rfl rfl ?c1 ?c2 ?c3 ?c4 ?c5 ?_))
          case c1 => exact World.news_of_block (cs := #[.int .i64 (encV op x1 x2 x3 x4)]) (heap_alloc_new u4 _)
          case c2 => intro u hu; simp at hu; subst hu; rfl
          case c3 => simp; unfold maxLen; omega
          case c4 => simp; omega
          case c5 => have := HL.out.bel.size; simp; omega
          intro v' w2 hown2 hgrow _
          have HN : Hid (LA w w2 (L ++ [(op, x1, x2, x3, x4)]) v') := by
            refine ⟨Below.grown (HL.out.bel.alloc HL.out.bel.size _) hgrow (by have := HL.out.bel.size; simp; omega) (fun j hj => (HL.out.own.lt j hj).1), fun i hi => ?_, ?_⟩
            · rcases List.mem_append.1 hi with h | h
              · exact HL.out.ok i h
              · rw [List.mem_singleton.1 h]; exact HK.out
            · simpa [I5.enc] using hown2
          clear hown2 hgrow
          go_wp2
          go_roundw
          case rel => exact ⟨k + 1, L ++ [(op, x1, x2, x3, x4)], h5, hm, by go_num, by simp; omega, by rw [List.map_append]; exact congrArg Value.string ((HS.out (I5.text (op, x1, x2, x3, x4))).trans (by rw [show I5.text (op, x1, x2, x3, x4) = tx from htx])).symm, HN.out⟩
          case measure => simp [intOf]; omega
      · have hasm := fun (n : Int) (hn0 : 0 ≤ n) (hn1 : n ≤ 199) => assemble_ok L HL.out.ok (by omega) (4 * n) (by omega) (by omega) (Int.mul_tmod_right 4 n) wr (HE.out.below HL.out.bel h2) (by have := HL.out.bel.size; omega)
        have hlw := lwAt_any a1 l1 c1 wr (code_below HC1.out HL.out.bel) hl1
        have hnl : ¬ (k : Int) < 5 ∨ (l2 : Int) ≤ (k : Int) := by omega
        generalize linB (L.map I5.text) = tl at *
        by_cases h5 : k < 5
        all_goals
          go_wp2_with (first | (go_at_call 14; refine Calls.mono hlw ?_; rintro e u1 ⟨hu1, n, rfl, n0, n1⟩; subst hu1) | (go_at_call 13; refine Calls.mono (hasm n n0 n1) ?_; rintro e u2 ⟨v', rfl, hown', hu2⟩; replace HL : Hid _ := HL.out.step hu2; obtain ⟨ao, cap, hv'⟩ := own_sl hown'; subst hv'; have HW : Hid (u2.ownsRow _ _ 1 _ L.length (L.map fun i => .int .i64 i.enc)) := hown'; clear hown') | (go_at_call 15; refine (lwInts_ok (zs := L.map I5.enc) (World.ownsRow.alloc (own_I5 HW.out) _) (World.ownsRow.alloc HL.out.own _) (by simp; omega)).mono ?_; rintro e u3 ⟨rfl, hu3⟩; have HZ : Hid _ := (HL.out.step ((Below.refl _ _).alloc (Nat.le_refl _) _)).step hu3))
          go_ret
          exact ⟨rfl, HZ.out.bel⟩
  · go_enter Tryz.func4, Tryz.ntmps4
    go_wp2_with fail
    all_goals
      go_ret
      exact ⟨rfl, Below.refl _ _⟩
end Go.Proofs.YtohmejfpebjlaaaGreatDoor
