import Derived.Test.YtlpkkclmcgnapaaTb2
import Derived.Test.YtlpkkclmcgnapaaTb3
import Derived.Test.YtlpkkclmcgnapaaGetWord
import Derived.Laws.StructEq
namespace Go.Proofs.Ytlpkkclmcgnapaa
open Go.ChangeShapes Go.WideShapes Go.ChangeAt Go.RowKit

/-- Two tables are one. -/
def teq (x y : FT) : Bool := (x.name.toList == y.name.toList) && (x.rev == y.rev) && (x.body.toList == y.body.toList)
theorem ba_list {a b : ByteArray} : (a.toList == b.toList) = true ↔ a = b := by
  rw [ByteArray.toList_eq, ByteArray.toList_eq, beq_iff_eq]
  exact ⟨fun h => ByteArray.ext (Array.toList_inj.1 h), fun h => by rw [h]⟩
theorem teq_iff {x y : FT} : teq x y = true ↔ x = y := by
  obtain ⟨a, b, c⟩ := x
  obtain ⟨a', b', c'⟩ := y
  unfold teq
  simp only [Bool.and_eq_true, FT.mk.injEq]
  rw [ba_list, ba_list, beq_iff_eq]
  exact ⟨fun h => ⟨h.1.1, h.1.2, h.2⟩, fun h => ⟨⟨h.1, h.2.1⟩, h.2.2⟩⟩
def tsq : List FT → List FT → Bool
  | [], [] => true
  | x :: xs, y :: ys => teq x y && tsq xs ys
  | _, _ => false
theorem tsq_iff : ∀ {xs ys : List FT}, tsq xs ys = true ↔ xs = ys
  | [], [] => by simp [tsq]
  | [], y :: ys => by simp [tsq]
  | x :: xs, [] => by simp [tsq]
  | x :: xs, y :: ys => by
    simp only [tsq, Bool.and_eq_true, teq_iff, tsq_iff, List.cons.injEq]
theorem tsq_no {xs ys : List FT} (h : ¬ xs = ys) : tsq xs ys = false := by
  cases e : tsq xs ys
  · rfl
  · exact absurd (tsq_iff.1 e) h
theorem tsq_at {xs ys : List FT} {k : Nat} (h1 : k < xs.length) (h2 : k < ys.length) (h : teq xs[k] ys[k] = false) : tsq xs ys = false := tsq_no (fun e => by
  subst e
  have := (teq_iff (x := xs[k]) (y := xs[k])).2 rfl
  rw [h] at this
  cases this)
theorem tsq_all {xs ys : List FT} (hl : xs.length = ys.length) (h : ∀ k (h1 : k < xs.length) (h2 : k < ys.length), teq xs[k] ys[k] = true) : tsq xs ys = true := tsq_iff.2 (List.ext_getElem hl fun k h1 h2 => teq_iff.1 (h k h1 h2))
theorem uFT : Try.prog.underlying 56 = some (.struct (Try.prog.fieldsOf 56)) := by kernel_rfl
theorem stFT : Try.prog.stoodInHeld 56 = false := by kernel_rfl
theorem pf0 (a : ByteArray) (b : Int) (c : ByteArray) (w : World) : (part 9 #[.string a, .int .i64 b, .string c] 0).run Try.prog w = .ok (.string a) w := by kernel_rfl
theorem pf1 (a : ByteArray) (b : Int) (c : ByteArray) (w : World) : (part 2 #[.string a, .int .i64 b, .string c] 1).run Try.prog w = .ok (.int .i64 b) w := by kernel_rfl
theorem pf2 (a : ByteArray) (b : Int) (c : ByteArray) (w : World) : (part 9 #[.string a, .int .i64 b, .string c] 2).run Try.prog w = .ok (.string c) w := by kernel_rfl
theorem fFT : (Try.prog.fieldsOf 56).toList.map (fun f => (f.name == "_", f.type, f.offset)) = [(false, 9, 0), (false, 2, 1), (false, 9, 2)] := by kernel_rfl
theorem listF3 {α : Type} {cs : List α} (h : cs.length = 3) : ∃ x y z, cs = [x, y, z] := by
  match cs, h with
  | [x, y, z], _ => exact ⟨x, y, z, rfl⟩
theorem eqFTN (n : Nat) (x y : FT) (w : World) : (Op.equalIn (n + 2) 56 (.agg #[.string x.name, .int .i64 x.rev, .string x.body]) (.agg #[.string y.name, .int .i64 y.rev, .string y.body])).run Try.prog w = .ok (teq x y) w := by
  rw [run_equalIn_struct w (n + 1) 56 _ _ uFT stFT]
  have hf := fFT
  obtain ⟨f1, f2, f3, hq⟩ := listF3 (show (Try.prog.fieldsOf 56).toList.length = 3 by kernel_rfl)
  rw [hq] at hf ⊢
  simp only [List.map_cons, List.map_nil, List.cons.injEq, Prod.mk.injEq, and_true] at hf
  obtain ⟨⟨n1, t1, o1⟩, ⟨n2, t2, o2⟩, n3, t3, o3⟩ := hf
  have m1 : f1.name ≠ "_" := by simpa using n1
  have m2 : f2.name ≠ "_" := by simpa using n2
  have m3 : f3.name ≠ "_" := by simpa using n3
  unfold teq
  simp only [Op.eqFields, ne_eq, m1, m2, m3, not_false_eq_true, if_true, t1, o1, t2, o2, t3, o3, Sem.run_bind, pf0, pf1, pf2, Result.andThen_ok, run_equalIn_int w n 2 .i64 .i64 _ _ Try.underlying2, run_equalIn_string w n 9 _ _ Try.underlying9, Sem.run_ite, Sem.run_pure]
  cases x.name.toList == y.name.toList <;> cases x.rev == y.rev <;> cases x.body.toList == y.body.toList <;> simp
theorem neqFT (x y : FT) (w : World) : (binOp .neq 56 (.agg #[.string x.name, .int .i64 x.rev, .string x.body]) (.agg #[.string y.name, .int .i64 y.rev, .string y.body])).run Try.prog w = .ok (.bool (!teq x y)) w := by
  have h : (Op.equal 56 (.agg #[.string x.name, .int .i64 x.rev, .string x.body]) (.agg #[.string y.name, .int .i64 y.rev, .string y.body])).run Try.prog w = .ok (teq x y) w := eqFTN 9998 x y w
  simp only [binOp, Sem.run_bind, h]
  rfl
set_option maxRecDepth 100000 in
set_option maxHeartbeats 4000000 in
theorem equalFT_any {w : World} {a1 a2 : Option Addr} {c1 c2 : Nat} {xs ys : List FT} (h : FTrow w (.slice a1 xs.length c1) xs) (h' : FTrow w (.slice a2 ys.length c2) ys) (hl : xs.length ≤ 1048576) : Calls Try.prog 39 #[.slice a1 xs.length c1, .slice a2 ys.length c2] w fun e w' => e = .returned (.bool (tsq xs ys)) ∧ Below w.heap.size w w' := by
  have H1 : Hid (FTrow w (.slice a1 xs.length c1) xs) := h
  have H2 : Hid (FTrow w (.slice a2 ys.length c2) ys) := h'
  clear h h'
  cases hq : ((xs.length : Int) != (ys.length : Int))
  rotate_left
  · have E : Hid (tsq xs ys = false) := tsq_no (fun e => by rw [e] at hq; simp at hq)
    go_enter Try.func39, Try.ntmps39
    go_wp2
    go_ret
    exact ⟨ret_bool E.out.symm, Below.refl _ _⟩
  have hle : xs.length = ys.length := by have : (xs.length : Int) = (ys.length : Int) := by simpa using hq
                                         omega
  have HLE : Hid (xs.length = ys.length) := hle
  go_enter Try.func39, Try.ntmps39
  go_wp2
  clear hq hle
  go_loopw [13] (fun i wr => ∃ k : Nat, k ≤ xs.length ∧ i = .int .i64 k ∧ (∀ j (h1 : j < xs.length) (h2 : j < ys.length), j < k → teq xs[j] ys[j] = true) ∧ Below w.heap.size w wr) (fun i _ => xs.length - (intOf i).toNat)
  case atStart => exact ⟨0, Nat.zero_le _, rfl, fun j _ _ hj => absurd hj (Nat.not_lt_zero _), Below.refl _ _⟩
  case round =>
    obtain ⟨k, hk, rfl, hall, hb⟩ := hrel
    have HALL : Hid (∀ j (h1 : j < xs.length) (h2 : j < ys.length), j < k → teq xs[j] ys[j] = true) := hall
    have HB : Hid (Below w.heap.size w wr) := hb
    clear hb hall
    by_cases hlt : k < xs.length
    · have hlt2 : k < ys.length := by have := HLE.out; omega
      obtain ⟨g, o, cp, hv, _, hg, hc⟩ := H1.out.resolve_left (fun h => by rw [h.1] at hlt; simp at hlt)
      obtain ⟨g2, o2, cp2, hv2, _, hg2, hc2⟩ := H2.out.resolve_left (fun h => by rw [h.1] at hlt2; simp at hlt2)
      injection hv with e1 e2 e3
      injection hv2 with e4 e5 e6
      subst e1 e3 e4 e6
      have HD : Hid (∀ u, Below w.heap.size w u → (u.cell? ⟨g, o + k * 3, none⟩ = some (.string xs[k].name) ∧ u.cell? ⟨g, o + k * 3 + 1, none⟩ = some (.int .i64 xs[k].rev) ∧ u.cell? ⟨g, o + k * 3 + 2, none⟩ = some (.string xs[k].body)) ∧ (u.cell? ⟨g2, o2 + k * 3, none⟩ = some (.string ys[k].name) ∧ u.cell? ⟨g2, o2 + k * 3 + 1, none⟩ = some (.int .i64 ys[k].rev) ∧ u.cell? ⟨g2, o2 + k * 3 + 2, none⟩ = some (.string ys[k].body)) ∧ g < u.heap.size ∧ g2 < u.heap.size) := (fun u hu => ⟨hc.below hu hg k hlt, hc2.below hu hg2 k hlt2, Nat.lt_of_lt_of_le hg hu.size, Nat.lt_of_lt_of_le hg2 hu.size⟩)
      have HBAD : Hid (teq xs[k] ys[k] = false → tsq xs ys = false) := fun hh => tsq_at hlt hlt2 hh
      have HGO : Hid (teq xs[k] ys[k] = true → ∀ j (h1 : j < xs.length) (h2 : j < ys.length), j < k + 1 → teq xs[j] ys[j] = true) := (fun hh j h1 h2 hj => by
        rcases Nat.lt_or_ge j k with h3 | h3
        · exact HALL.out j h1 h2 h3
        · obtain rfl : j = k := by omega
          exact hh)
      generalize xs[k] = x at *
      generalize ys[k] = y at *
      have hk0 : (0 : Int) ≤ (k : Int) := by omega
      have hk1 : (k : Int) < (xs.length : Int) := by omega
      have hk2 : (k : Int) < (ys.length : Int) := by omega
      have hne := fun u => neqFT x y u
      clear hc hc2 HALL
      cases hT : teq x y
      · have E2 : Hid (tsq xs ys = false) := HBAD.out hT
        rw [hT] at hne
        go_upto_region 6 with fail
        have HB6 : Hid (Below w.heap.size w wr.drew) := bdn HB.out 1
        refine wp_region_held (S := fun w9 => (w9.cell? ⟨g, o + k * 3, none⟩ = some (.string x.name) ∧ w9.cell? ⟨g, o + k * 3 + 1, none⟩ = some (.int .i64 x.rev) ∧ w9.cell? ⟨g, o + k * 3 + 2, none⟩ = some (.string x.body)) ∧ (w9.cell? ⟨g2, o2 + k * 3, none⟩ = some (.string y.name) ∧ w9.cell? ⟨g2, o2 + k * 3 + 1, none⟩ = some (.int .i64 y.rev) ∧ w9.cell? ⟨g2, o2 + k * 3 + 2, none⟩ = some (.string y.body)) ∧ g < w9.heap.size ∧ g2 < w9.heap.size) (by kernel_rfl) ?_
        change wpAnyH _ _ _ _ _ _ _ _ (World.drew _)
        refine wpAnyH_take (i := 0) (v := .slice (some ⟨g, o, none⟩) xs.length c1) rfl (by kernel_rfl) (by kernel_rfl) (by kernel_rfl) (fun _ _ _ h => h) (Or.inl ⟨by kernel_rfl, fun w9 h9 => ?_⟩) (HD.out _ HB6.out) ?_
        · go_simp
        refine wpAnyH_take (i := 1) (v := .int .i64 (k : Nat)) rfl (by kernel_rfl) (by kernel_rfl) (by kernel_rfl) (fun _ _ _ h => h) (Or.inl ⟨by kernel_rfl, fun w9 h9 => ?_⟩) (HD.out _ HB6.out) ?_
        · go_simp
        refine wpAnyH_take (i := 2) (v := .pointer (some ⟨g, o + k * 3, none⟩)) rfl (by kernel_rfl) (by kernel_rfl) (by kernel_rfl) (fun _ _ _ h => h) (Or.inl ⟨by kernel_rfl, fun w9 h9 => ?_⟩) (HD.out _ HB6.out) ?_
        · go_simp
        refine wpAnyH_take (i := 3) (v := .agg #[.string x.name, .int .i64 x.rev, .string x.body]) rfl (by kernel_rfl) (by kernel_rfl) (by kernel_rfl) (fun _ _ _ h => h) (Or.inl ⟨by kernel_rfl, fun w9 h9 => ?_⟩) (HD.out _ HB6.out) ?_
        · obtain ⟨⟨x0, x1, x2⟩, _, xl, _⟩ := h9; go_simp
        refine wpAnyH_take (i := 4) (v := .slice (some ⟨g2, o2, none⟩) ys.length c2) rfl (by kernel_rfl) (by kernel_rfl) (by kernel_rfl) (fun _ _ _ h => h) (Or.inl ⟨by kernel_rfl, fun w9 h9 => ?_⟩) (HD.out _ HB6.out) ?_
        · go_simp
        refine wpAnyH_take (i := 5) (v := .int .i64 (k : Nat)) rfl (by kernel_rfl) (by kernel_rfl) (by kernel_rfl) (fun _ _ _ h => h) (Or.inl ⟨by kernel_rfl, fun w9 h9 => ?_⟩) (HD.out _ HB6.out) ?_
        · go_simp
        refine wpAnyH_take (i := 6) (v := .pointer (some ⟨g2, o2 + k * 3, none⟩)) rfl (by kernel_rfl) (by kernel_rfl) (by kernel_rfl) (fun _ _ _ h => h) (Or.inl ⟨by kernel_rfl, fun w9 h9 => ?_⟩) (HD.out _ HB6.out) ?_
        · go_simp
        refine wpAnyH_take (i := 7) (v := .agg #[.string y.name, .int .i64 y.rev, .string y.body]) rfl (by kernel_rfl) (by kernel_rfl) (by kernel_rfl) (fun _ _ _ h => h) (Or.inl ⟨by kernel_rfl, fun w9 h9 => ?_⟩) (HD.out _ HB6.out) ?_
        · obtain ⟨_, ⟨x0, x1, x2⟩, _, xl⟩ := h9; go_simp
        refine wpAnyH_take (i := 8) (v := .bool true) rfl (by kernel_rfl) (by kernel_rfl) (by kernel_rfl) (fun _ _ _ h => h) (Or.inl ⟨by kernel_rfl, fun w9 h9 => ?_⟩) (HD.out _ HB6.out) ?_
        · go_simp
        refine wpAnyH_done (by kernel_rfl) ?_ _
        go_simp
        go_wp2
        go_ret
        exact ⟨ret_bool E2.out.symm, HB6.out⟩
      · have HG2 : Hid (∀ j (h1 : j < xs.length) (h2 : j < ys.length), j < k + 1 → teq xs[j] ys[j] = true) := HGO.out hT
        rw [hT] at hne
        go_upto_region 6 with fail
        have HB6 : Hid (Below w.heap.size w wr.drew) := bdn HB.out 1
        refine wp_region_held (S := fun w9 => (w9.cell? ⟨g, o + k * 3, none⟩ = some (.string x.name) ∧ w9.cell? ⟨g, o + k * 3 + 1, none⟩ = some (.int .i64 x.rev) ∧ w9.cell? ⟨g, o + k * 3 + 2, none⟩ = some (.string x.body)) ∧ (w9.cell? ⟨g2, o2 + k * 3, none⟩ = some (.string y.name) ∧ w9.cell? ⟨g2, o2 + k * 3 + 1, none⟩ = some (.int .i64 y.rev) ∧ w9.cell? ⟨g2, o2 + k * 3 + 2, none⟩ = some (.string y.body)) ∧ g < w9.heap.size ∧ g2 < w9.heap.size) (by kernel_rfl) ?_
        change wpAnyH _ _ _ _ _ _ _ _ (World.drew _)
        refine wpAnyH_take (i := 0) (v := .slice (some ⟨g, o, none⟩) xs.length c1) rfl (by kernel_rfl) (by kernel_rfl) (by kernel_rfl) (fun _ _ _ h => h) (Or.inl ⟨by kernel_rfl, fun w9 h9 => ?_⟩) (HD.out _ HB6.out) ?_
        · go_simp
        refine wpAnyH_take (i := 1) (v := .int .i64 (k : Nat)) rfl (by kernel_rfl) (by kernel_rfl) (by kernel_rfl) (fun _ _ _ h => h) (Or.inl ⟨by kernel_rfl, fun w9 h9 => ?_⟩) (HD.out _ HB6.out) ?_
        · go_simp
        refine wpAnyH_take (i := 2) (v := .pointer (some ⟨g, o + k * 3, none⟩)) rfl (by kernel_rfl) (by kernel_rfl) (by kernel_rfl) (fun _ _ _ h => h) (Or.inl ⟨by kernel_rfl, fun w9 h9 => ?_⟩) (HD.out _ HB6.out) ?_
        · go_simp
        refine wpAnyH_take (i := 3) (v := .agg #[.string x.name, .int .i64 x.rev, .string x.body]) rfl (by kernel_rfl) (by kernel_rfl) (by kernel_rfl) (fun _ _ _ h => h) (Or.inl ⟨by kernel_rfl, fun w9 h9 => ?_⟩) (HD.out _ HB6.out) ?_
        · obtain ⟨⟨x0, x1, x2⟩, _, xl, _⟩ := h9; go_simp
        refine wpAnyH_take (i := 4) (v := .slice (some ⟨g2, o2, none⟩) ys.length c2) rfl (by kernel_rfl) (by kernel_rfl) (by kernel_rfl) (fun _ _ _ h => h) (Or.inl ⟨by kernel_rfl, fun w9 h9 => ?_⟩) (HD.out _ HB6.out) ?_
        · go_simp
        refine wpAnyH_take (i := 5) (v := .int .i64 (k : Nat)) rfl (by kernel_rfl) (by kernel_rfl) (by kernel_rfl) (fun _ _ _ h => h) (Or.inl ⟨by kernel_rfl, fun w9 h9 => ?_⟩) (HD.out _ HB6.out) ?_
        · go_simp
        refine wpAnyH_take (i := 6) (v := .pointer (some ⟨g2, o2 + k * 3, none⟩)) rfl (by kernel_rfl) (by kernel_rfl) (by kernel_rfl) (fun _ _ _ h => h) (Or.inl ⟨by kernel_rfl, fun w9 h9 => ?_⟩) (HD.out _ HB6.out) ?_
        · go_simp
        refine wpAnyH_take (i := 7) (v := .agg #[.string y.name, .int .i64 y.rev, .string y.body]) rfl (by kernel_rfl) (by kernel_rfl) (by kernel_rfl) (fun _ _ _ h => h) (Or.inl ⟨by kernel_rfl, fun w9 h9 => ?_⟩) (HD.out _ HB6.out) ?_
        · obtain ⟨_, ⟨x0, x1, x2⟩, _, xl⟩ := h9; go_simp
        refine wpAnyH_take (i := 8) (v := .bool false) rfl (by kernel_rfl) (by kernel_rfl) (by kernel_rfl) (fun _ _ _ h => h) (Or.inl ⟨by kernel_rfl, fun w9 h9 => ?_⟩) (HD.out _ HB6.out) ?_
        · go_simp
        refine wpAnyH_done (by kernel_rfl) ?_ _
        go_simp
        go_wp2
        exact ⟨⟨k + 1, hlt, by go_num, HG2.out, HB6.out⟩, by simp [intOf]; omega⟩
    · obtain rfl : k = xs.length := by omega
      have E2 : Hid (tsq xs ys = true) := tsq_all HLE.out (fun j h1 h2 => HALL.out j h1 h2 h1)
      have hnl : ¬ ((xs.length : Nat) : Int) < (xs.length : Int) := by omega
      have hnl2 : ¬ ((xs.length : Nat) : Int) < (ys.length : Int) := by have := HLE.out; omega
      go_wp2
      go_ret
      exact ⟨ret_bool E2.out.symm, HB.out⟩
theorem fld1W (g : Bool) (x : Int) (w : World) : Sem.run Try.prog (Instr.field 68 (.agg #[.bool g, .int .i64 x]) 1) w = .ok (.int .i64 x) w := by kernel_rfl
/-- The number that GetWord answers. -/
def gwV (t : ByteArray) (k : Nat) : Int := if hwd t k = true then wv t k else 0
theorem wv_b (t : ByteArray) (k : Nat) : 0 ≤ wv t k ∧ wv t k < 4294967296 := by
  unfold wv
  have := bt_b t k
  have := bt_b t (k + 1)
  have := bt_b t (k + 2)
  have := bt_b t (k + 3)
  omega
theorem gwV_b (t : ByteArray) (k : Nat) : 0 ≤ gwV t k ∧ gwV t k < 4294967296 := by
  unfold gwV
  split
  · exact wv_b t k
  · omega
theorem gw_any (t : ByteArray) (k : Nat) (w : World) : Calls Try.prog 37 #[.string t, .int .i64 k] w fun e w' => ∃ g, e = .returned (.agg #[.bool g, .int .i64 (gwV t k)]) ∧ Below w.heap.size w w' := by
  cases h : hwd t k
  · refine (implGetWord_no t k w h).mono ?_
    rintro e w' ⟨rfl, hb⟩
    refine ⟨false, ?_, hb⟩
    rw [gwV, h]
    rfl
  · have h2 := h
    unfold hwd at h2
    have h3 := of_decide_eq_true h2
    refine (implGetWord_yes t k w h (by omega) h3.1).mono ?_
    rintro e w' ⟨rfl, hb⟩
    refine ⟨true, ?_, hb⟩
    rw [gwV, h]
    rfl
/-- The device of a word. -/
def dvX (x : Int) : DV := ⟨x / 16777216, x % 65536, x / 65536 % 256⟩
def dvn (t : ByteArray) : Nat := min (t.size / 4) 16
def dvl (t : ByteArray) (k : Nat) : List DV := (List.range k).map fun n => dvX (gwV t (n * 4))
theorem dvl_len (t : ByteArray) (k : Nat) : (dvl t k).length = k := by simp [dvl]
theorem dvl_succ (t : ByteArray) (k : Nat) : dvl t (k + 1) = dvl t k ++ [dvX (gwV t (k * 4))] := by simp [dvl, List.range_succ]
theorem infoDV : (Try.prog.info? 49).map (fun i => (i.zero, i.size, i.bytes)) = some (some (.agg #[.int .i64 0, .int .i64 0, .int .i64 0]), 3, 24) := by kernel_rfl
/-- One device more. -/
theorem appDV {w : World} {B n : Nat} {v : Value} {zs : List DV} (h : w.ownsRow B 49 3 v n (dvR zs)) (hB : B ≤ w.heap.size) (hn : n ≤ 100000) (m : DV) :
    ∃ v' u', (Builtin.append_ #[27, 27] 27 #[v, .slice (some ⟨w.heap.size, 0, none⟩) 1 1]).run Try.prog (w.alloc (.cells #[.int .i64 m.kind, .int .i64 m.port, .int .i64 m.line] 49)) = .ok v' u' ∧ (u'.ownsRow B 49 3 v' (n + 1) (dvR (zs ++ [m])) ∧ (w.alloc (.cells #[.int .i64 m.kind, .int .i64 m.port, .int .i64 m.line] 49)).grownBy u' v.ownBlock) := by
  obtain ⟨i0, hi0, hz0, hz1, hz2⟩ := info_parts infoDV
  obtain ⟨v', w', hr, h2, h3, _, _⟩ := run_append_own_at (P := Try.prog) (w.alloc (.cells #[.int .i64 m.kind, .int .i64 m.port, .int .i64 m.line] 49)) B 27 27 49 i0 (.agg #[.int .i64 0, .int .i64 0, .int .i64 0]) 3 24 Try.underlying27 hi0 hz0 hz1 hz2 rfl (by decide) v n (dvR zs) (World.ownsRow.alloc h _) ⟨w.heap.size, 0, none⟩ 1 1 (dvC m) rfl (new_cells w (dvC m) 49) (by intro u hu; simp only [dvC, List.mem_cons, List.not_mem_nil, or_false] at hu; rcases hu with rfl | rfl | rfl <;> rfl) (by unfold maxLen; omega) (by omega) (by simp; omega)
  refine ⟨v', w', hr, ?_, h3⟩
  rw [dvR_app]
  simpa [dvR] using h2
set_option maxRecDepth 100000 in
set_option maxHeartbeats 4000000 in
theorem deviceOf_any (x : Int) (h0 : 0 ≤ x) (h1 : x < 4294967296) (w : World) : Calls Try.prog 47 #[.int .i64 x] w fun e w' => e = .returned (.agg #[.int .i64 (dvX x).kind, .int .i64 (dvX x).port, .int .i64 (dvX x).line]) ∧ Below w.heap.size w w' := by
  have HL0 : Hid (LG w (w.alloc (.cells #[.int .i64 0, .int .i64 0, .int .i64 0] 49)) w.heap.size #[.int .i64 0, .int .i64 0, .int .i64 0] 49) := LG.new w _ _
  have e1 : x.tdiv 16777216 = x / 16777216 := Int.tdiv_eq_ediv_of_nonneg h0
  have e2 : x.tmod 65536 = x % 65536 := Int.tmod_eq_emod_of_nonneg h0
  have e3 : x.tmod 16777216 = x % 16777216 := Int.tmod_eq_emod_of_nonneg h0
  have e4 : (x % 16777216).tdiv 65536 = x / 65536 % 256 := by rw [Int.tdiv_eq_ediv_of_nonneg (by omega)]; omega
  have E : Hid (dvX x = ⟨x / 16777216, x % 65536, x / 65536 % 256⟩) := rfl
  have b1 : 0 ≤ x / 16777216 ∧ x / 16777216 ≤ 255 := by omega
  have b2 : 0 ≤ x % 65536 ∧ x % 65536 ≤ 65535 := by omega
  have b3 : 0 ≤ x / 65536 % 256 ∧ x / 65536 % 256 ≤ 255 := by omega
  have b4 : 0 ≤ x % 16777216 ∧ x % 16777216 ≤ 16777215 := by omega
  generalize x / 16777216 = y1 at *
  generalize x % 65536 = y2 at *
  generalize x / 65536 % 256 = y3 at *
  generalize x % 16777216 = y4 at *
  obtain ⟨b11, b12⟩ := b1
  obtain ⟨b21, b22⟩ := b2
  obtain ⟨b31, b32⟩ := b3
  obtain ⟨b41, b42⟩ := b4
  go_enter Try.func47, Try.ntmps47
  go_upto_region 1 with fail
  generalize (w.alloc (.cells #[.int .i64 0, .int .i64 0, .int .i64 0] 49)) = u0 at *
  generalize w.heap.size = q0 at *
  have k0 := HL0.out.cel 0 _ rfl
  have k1 := HL0.out.cel 1 _ rfl
  have k2 := HL0.out.cel 2 _ rfl
  have f0 := HL0.out.frz 0
  have f1 := HL0.out.frz 1
  have f2 := HL0.out.frz 2
  have kl := HL0.out.lt
  go_wp2
  refine bodyPost_ret (v := .agg #[.int .i64 y1, .int .i64 y2, .int .i64 y3]) ?_ rfl ⟨by rw [E.out], ((HL0.out.bel.setCell HL0.out.ge _).setCell HL0.out.ge _).setCell HL0.out.ge _⟩
  simp [results, Try.results47, go_sem, k0, k1, k2]
set_option maxRecDepth 100000 in
set_option maxHeartbeats 4000000 in
theorem devicesOf_any (t : ByteArray) (w : World) (ht : t.size ≤ 1048576) : Calls Try.prog 38 #[.string t] w fun e w' => ∃ v, e = .returned v ∧ w'.ownsRow w.heap.size 49 3 v (dvn t) (dvR (dvl t (dvn t))) ∧ Below w.heap.size w w' := by
  have e1 : ((t.size : Nat) : Int).tdiv 4 = ((t.size / 4 : Nat) : Int) := by rw [Int.tdiv_eq_ediv_of_nonneg (by omega)]; omega
  obtain ⟨m, hm⟩ : ∃ m, t.size / 4 = m := ⟨_, rfl⟩
  have hmb : (m : Int) ≤ 262144 := by omega
  have HE : Hid (dvn t = min m 16) := (show dvn t = min m 16 by unfold dvn; rw [hm])
  rw [hm] at e1
  clear hm
  rcases Nat.lt_or_ge 16 m with hc | hc
  · have h16 : (16 : Int) < (m : Int) := by omega
    have en : dvn t = 16 := by rw [HE.out]; omega
    rw [en]
    clear en HE hc
    go_enter Try.func38, Try.ntmps38
    go_wp2
    go_loopw [3, 9] (fun st i wr => ∃ k : Nat, k ≤ 16 ∧ i = .int .i64 k ∧ wr.ownsRow w.heap.size 49 3 st k (dvR (dvl t k)) ∧ Below w.heap.size w wr) (fun _ i _ => 16 - (intOf i).toNat)
    case atStart => exact ⟨0, Nat.zero_le _, rfl, World.ownsRow_nil _ _ _ _, Below.refl _ _⟩
    case round =>
      obtain ⟨k, hk, rfl, hown, hb⟩ := hrel
      obtain ⟨a3, c3, hst⟩ := dv_sl hown
      subst hst
      have HO : Hid (wr.ownsRow w.heap.size 49 3 (.slice a3 k c3) k (dvR (dvl t k))) := hown
      have HB : Hid (Below w.heap.size w wr) := hb
      clear hown hb
      by_cases hlt : k < 16
      · have HG : Hid (∀ (y : Int) u, y = ((k * 4 : Nat) : Int) → Calls Try.prog 37 #[.string t, .int .i64 y] u fun e w' => ∃ g, e = .returned (.agg #[.bool g, .int .i64 (gwV t (k * 4))]) ∧ Below u.heap.size u w') := fun y u hy => by rw [hy]; exact gw_any t (k * 4) u
        have hgb := gwV_b t (k * 4)
        have HSU : Hid (dvl t (k + 1) = dvl t k ++ [dvX (gwV t (k * 4))]) := dvl_succ t k
        generalize gwV t (k * 4) = x at *
        have HDV : Hid (∀ u, Calls Try.prog 47 #[.int .i64 x] u fun e w' => e = .returned (.agg #[.int .i64 (dvX x).kind, .int .i64 (dvX x).port, .int .i64 (dvX x).line]) ∧ Below u.heap.size u w') := fun u => deviceOf_any x hgb.1 hgb.2 u
        generalize dvX x = z at *
        have hk0 : (0 : Int) ≤ (k : Int) := by omega
        have hk1 : (k : Int) < (16 : Int) := by omega
        have hk9 : (k : Int) ≤ 16 := by omega
        clear hgb
        go_wp2_with fail
        refine Calls.mono (HG.out _ _ (by omega)) ?_
        rintro e u1 ⟨gg, rfl, hb⟩
        have hfl := fun u => fld1W gg x u
        have HB1 : Hid (Below w.heap.size w u1) := HB.out.trans (hb.mono HB.out.size)
        have HO1 : Hid (u1.ownsRow w.heap.size 49 3 (.slice a3 k c3) k (dvR (dvl t k))) := own_belowN HO.out hb
        clear hb HB HO
        go_wp2_with fail
        refine Calls.mono (HDV.out _) ?_
        rintro e u2 ⟨rfl, hb⟩
        have HB2 : Hid (Below w.heap.size w u2) := HB1.out.trans (hb.mono HB1.out.size)
        have HO2 : Hid (u2.ownsRow w.heap.size 49 3 (.slice a3 k c3) k (dvR (dvl t k))) := own_belowN HO1.out hb
        clear hb HB1 HO1
        have HAP : Hid _ := appDV HO2.out HB2.out.size (by omega) z
        go_wp2_with (at_builtin; (refine wl_append_exB rfl _ _ 27 rfl _ _ rfl rfl HAP.out ?_; rintro v' u' ⟨ho, hg9⟩; obtain ⟨a5, c5, rfl⟩ := dv_sl ho; have HO3 : Hid (u'.ownsRow w.heap.size 49 3 (.slice a5 (k + 1) c5) (k + 1) (dvR (dvl t (k + 1)))) := (by rw [HSU.out]; exact ho); have HB3 : Hid (Below w.heap.size w u') := ((HB2.out.alloc HB2.out.size _).grown hg9 (by have := HB2.out.size; simp; omega) (fun j hj => (HO2.out.lt j hj).1)); clear ho hg9))
        exact ⟨⟨k + 1, hlt, by go_num, HO3.out, HB3.out⟩, by simp [intOf]; omega⟩
      · have hke : k = 16 := by omega
        rw [hke] at HO ⊢
        have hnl : ¬ ((16 : Nat) : Int) < (16 : Int) := by omega
        clear hke hk hlt
        go_wp2
        go_ret
        exact ⟨_, rfl, HO.out, HB.out⟩
  · have h16 : (m : Int) ≤ 16 := by omega
    have en : dvn t = m := by rw [HE.out]; omega
    rw [en]
    clear en HE
    go_enter Try.func38, Try.ntmps38
    go_wp2
    go_loopw [3, 9] (fun st i wr => ∃ k : Nat, k ≤ m ∧ i = .int .i64 k ∧ wr.ownsRow w.heap.size 49 3 st k (dvR (dvl t k)) ∧ Below w.heap.size w wr) (fun _ i _ => m - (intOf i).toNat)
    case atStart => exact ⟨0, Nat.zero_le _, rfl, World.ownsRow_nil _ _ _ _, Below.refl _ _⟩
    case round =>
      obtain ⟨k, hk, rfl, hown, hb⟩ := hrel
      obtain ⟨a3, c3, hst⟩ := dv_sl hown
      subst hst
      have HO : Hid (wr.ownsRow w.heap.size 49 3 (.slice a3 k c3) k (dvR (dvl t k))) := hown
      have HB : Hid (Below w.heap.size w wr) := hb
      clear hown hb
      by_cases hlt : k < m
      · have HG : Hid (∀ (y : Int) u, y = ((k * 4 : Nat) : Int) → Calls Try.prog 37 #[.string t, .int .i64 y] u fun e w' => ∃ g, e = .returned (.agg #[.bool g, .int .i64 (gwV t (k * 4))]) ∧ Below u.heap.size u w') := fun y u hy => by rw [hy]; exact gw_any t (k * 4) u
        have hgb := gwV_b t (k * 4)
        have HSU : Hid (dvl t (k + 1) = dvl t k ++ [dvX (gwV t (k * 4))]) := dvl_succ t k
        generalize gwV t (k * 4) = x at *
        have HDV : Hid (∀ u, Calls Try.prog 47 #[.int .i64 x] u fun e w' => e = .returned (.agg #[.int .i64 (dvX x).kind, .int .i64 (dvX x).port, .int .i64 (dvX x).line]) ∧ Below u.heap.size u w') := fun u => deviceOf_any x hgb.1 hgb.2 u
        generalize dvX x = z at *
        have hk0 : (0 : Int) ≤ (k : Int) := by omega
        have hk1 : (k : Int) < (m : Int) := by omega
        have hk9 : (k : Int) ≤ 16 := by omega
        clear hgb
        go_wp2_with fail
        refine Calls.mono (HG.out _ _ (by omega)) ?_
        rintro e u1 ⟨gg, rfl, hb⟩
        have hfl := fun u => fld1W gg x u
        have HB1 : Hid (Below w.heap.size w u1) := HB.out.trans (hb.mono HB.out.size)
        have HO1 : Hid (u1.ownsRow w.heap.size 49 3 (.slice a3 k c3) k (dvR (dvl t k))) := own_belowN HO.out hb
        clear hb HB HO
        go_wp2_with fail
        refine Calls.mono (HDV.out _) ?_
        rintro e u2 ⟨rfl, hb⟩
        have HB2 : Hid (Below w.heap.size w u2) := HB1.out.trans (hb.mono HB1.out.size)
        have HO2 : Hid (u2.ownsRow w.heap.size 49 3 (.slice a3 k c3) k (dvR (dvl t k))) := own_belowN HO1.out hb
        clear hb HB1 HO1
        have HAP : Hid _ := appDV HO2.out HB2.out.size (by omega) z
        go_wp2_with (at_builtin; (refine wl_append_exB rfl _ _ 27 rfl _ _ rfl rfl HAP.out ?_; rintro v' u' ⟨ho, hg9⟩; obtain ⟨a5, c5, rfl⟩ := dv_sl ho; have HO3 : Hid (u'.ownsRow w.heap.size 49 3 (.slice a5 (k + 1) c5) (k + 1) (dvR (dvl t (k + 1)))) := (by rw [HSU.out]; exact ho); have HB3 : Hid (Below w.heap.size w u') := ((HB2.out.alloc HB2.out.size _).grown hg9 (by have := HB2.out.size; simp; omega) (fun j hj => (HO2.out.lt j hj).1)); clear ho hg9))
        exact ⟨⟨k + 1, hlt, by go_num, HO3.out, HB3.out⟩, by simp [intOf]; omega⟩
      · have hke : k = m := by omega
        rw [hke] at HO ⊢
        have hnl : ¬ ((m : Nat) : Int) < (m : Int) := by omega
        clear hke hk hlt
        go_wp2
        go_ret
        exact ⟨_, rfl, HO.out, HB.out⟩
end Go.Proofs.Ytlpkkclmcgnapaa
