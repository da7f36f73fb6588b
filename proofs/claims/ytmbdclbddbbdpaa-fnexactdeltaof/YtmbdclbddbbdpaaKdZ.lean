import Derived.Test.YtmbdclbddbbdpaaKm5
import Derived.Deep.CutRange
import Derived.Test.YtmbdclbddbbdpaaHl
import Derived.Deep.Onto
namespace Go.Proofs.Ytmbdclbddbbdpaa
open Go.ChangeShapes Go.WideShapes Go.ChangeAt Go.RowKit

set_option maxRecDepth 100000 in
theorem l06Set_any (s f : ByteArray) (j : Nat) (w : World) (hi : j * 256 + 256 ≤ s.size) (hs : s.size ≤ 1048576) (hf : f.size = 256) :
    Calls Try.prog 14 #[.string s, .int .i64 j, .string f] w fun e w' => e = .returned (.string (sfr s j f)) ∧ ∃ q, w' = w.drewN q := by
  have e1 : IntKind.i64.wrap ((j : Int) * 256) = (j : Int) * 256 := by rw [IntKind.wrap_i64]; omega
  have e2 : IntKind.i64.wrap ((j : Int) + 1) = (j : Int) + 1 := by rw [IntKind.wrap_i64]; omega
  have e3 : IntKind.i64.wrap (((j : Int) + 1) * 256) = ((j : Int) + 1) * 256 := by rw [IntKind.wrap_i64]; omega
  have hs1 := fun w => run_slice_string_to_if (P := Try.prog) (w := w) 9 s .i64 ((j : Int) * 256) Try.underlying9
  have hs2 := fun w => run_slice_string_from_if (P := Try.prog) (w := w) 9 s .i64 (((j : Int) + 1) * 256) Try.underlying9
  simp only [if_pos (show 0 ≤ (j : Int) * 256 ∧ (j : Int) * 256 ≤ (s.size : Int) by omega)] at hs1
  simp only [if_pos (show 0 ≤ ((j : Int) + 1) * 256 ∧ ((j : Int) + 1) * 256 ≤ (s.size : Int) by omega)] at hs2
  rw [show ((j : Int) * 256).toNat = j * 256 by omega] at hs1
  rw [show (((j : Int) + 1) * 256).toNat = j * 256 + 256 by omega] at hs2
  have z1 : (s.extract 0 (j * 256)).size = j * 256 := by rw [ByteArray.size_extract]; omega
  have z2 : (s.extract (j * 256 + 256) s.size).size ≤ s.size := by rw [ByteArray.size_extract]; omega
  have c1 := fun w => run_string_add_sum (P := Try.prog) w (s.extract 0 (j * 256)) f (by omega)
  have c2 := fun w => run_string_add_sum (P := Try.prog) w (s.extract 0 (j * 256) ++ f) (s.extract (j * 256 + 256) s.size) (by rw [ByteArray.size_append]; omega)
  clear hf z1 z2
  go_enter Try.func14, Try.ntmps14
  go_wp2
  go_quiet (fail)
  go_wp2
  go_ret
  exact ⟨rfl, nq, rfl⟩
theorem ne_fr (f g : ByteArray) (w : World) (hf : f.size = 256) (hg : g.size = 256) : (binOp .neq 52 (frA f) (frA g)).run Try.prog w = .ok (.bool (decide (f ≠ g))) w := by
  have h := run_equalIn_bytes (P := Try.prog) w 9998 52 5 256 undF Try.underlying5 u8size f.data.toList g.data.toList ((bsize f).trans hf) ((bsize g).trans hg)
  have e : (!(f.data.toList == g.data.toList)) = decide (f ≠ g) := by
    rw [Bool.eq_iff_iff]
    simp only [Bool.not_eq_true', beq_eq_false_iff_ne, decide_eq_true_eq]
    constructor
    · intro h2 h3
      exact h2 (by rw [h3])
    · intro h2 h3
      exact h2 (by cases f; cases g; simpa using h3)
  have h2 := run_neq_struct (P := Try.prog) w 52 (cells8 f.data.toList).toArray (cells8 g.data.toList).toArray
  have h3 : (Op.equalIn 10000 52 (.agg (cells8 f.data.toList).toArray) (.agg (cells8 g.data.toList).toArray)).run Try.prog w = .ok (f.data.toList == g.data.toList) w := h
  rw [h3, Result.andThen_ok, e] at h2
  exact h2
theorem exec_loadF {ρ : Operand → Value} {o : Oper} {w : World} {T : TypeId} {x : Operand} {p v : Value} (ho : o.op = .load T x) (hx : ρ x = p) (hl : (Instr.loadAt T p).run Try.prog w = .ok v w) : (execOp ρ o).run Try.prog w = .ok (.value v) w := by
  unfold execOp
  simp only [ho, hx, Sem.run_bind, hl, Result.andThen_ok, Sem.run_pure]
/-- The newer memory, the frames that are as they were being bytes 0, so many of them looked at. -/
def zdN (s t : ByteArray) : Nat → ByteArray
  | 0 => t
  | k + 1 => if fr s k = fr t k then sfr (zdN s t k) k (zB 256) else zdN s t k
theorem zdN_size {s t : ByteArray} {n : Nat} (ht : t.size = n * 256) : ∀ k, k ≤ n → (zdN s t k).size = n * 256
  | 0, _ => ht
  | k + 1, hk => by
    have ih := zdN_size (s := s) ht k (by omega)
    unfold zdN
    split
    · rw [sfr_size _ _ _ (by omega) (zB_size _), ih]
    · exact ih
set_option maxRecDepth 100000 in
theorem fr_sfr {s f : ByteArray} {j i : Nat} (hs : i * 256 + 256 ≤ s.size) (hf : f.size = 256) (hj : j < i) : fr (sfr s j f) i = fr s i := by
  apply ByteArray.ext
  apply Array.toList_inj.1
  show (fr (sfr s j f) i).data.toList = (fr s i).data.toList
  have hl := bsize s
  have hfl := bsize f
  rw [fr_list, fr_list, sfr_list]
  congr 1
  rw [List.append_assoc, List.drop_append, List.drop_append]
  have e1 : (s.data.toList.take (j * 256)).length = j * 256 := by rw [List.length_take]; omega
  rw [e1, hfl, hf]
  have e2 : (s.data.toList.take (j * 256)).drop (i * 256) = [] := List.drop_of_length_le (by rw [e1]; omega)
  have e3 : f.data.toList.drop (i * 256 - j * 256) = [] := List.drop_of_length_le (by rw [hfl]; omega)
  rw [e2, e3, List.nil_append, List.nil_append, List.drop_drop]
  congr 1
  omega
theorem zdN_at {s t : ByteArray} {n : Nat} (ht : t.size = n * 256) : ∀ k i, k ≤ i → i < n → fr (zdN s t k) i = fr t i
  | 0, _, _, _ => rfl
  | k + 1, i, hk, hi => by
    have ih := zdN_at (s := s) ht k i (by omega) hi
    have hz := zdN_size (s := s) ht k (by omega)
    unfold zdN
    split
    · rw [fr_sfr (by omega) (zB_size _) (by omega)]
      exact ih
    · exact ih
theorem zdN_on {s t : ByteArray} {k : Nat} (h : fr s k = fr t k) : zdN s t (k + 1) = sfr (zdN s t k) k (zB 256) := by
  show (if fr s k = fr t k then _ else _) = _
  rw [if_pos h]
theorem zdN_off {s t : ByteArray} {k : Nat} (h : ¬ fr s k = fr t k) : zdN s t (k + 1) = zdN s t k := by
  show (if fr s k = fr t k then _ else _) = _
  rw [if_neg h]
set_option maxRecDepth 100000 in
set_option maxHeartbeats 4000000 in
theorem deltaFn_any {w : World} {C6 C5 bt bs n : Nat} {s t : ByteArray} (c6 : w.cell? ⟨C6, 0, none⟩ = some (.slice (some ⟨bt, 0, none⟩) n n)) (c5 : w.cell? ⟨C5, 0, none⟩ = some (.slice (some ⟨bs, 0, none⟩) n n)) (hMt : MemAt w bt t) (hMs : MemAt w bs s) (ht : t.size = n * 256) (hs : s.size = n * 256) (k : Nat) (hk : k < n) : Calls Try.prog 25 #[.int .i64 k, .pointer (some ⟨C6, 0, none⟩), .pointer (some ⟨C5, 0, none⟩)] w fun e w' => e = .returned (.bool (dfB s t k)) ∧ Below w.heap.size w w' := by
  have kt : k * 256 + 256 ≤ t.size := by omega
  have ks : k * 256 + 256 ≤ s.size := by omega
  have hgt : Try.prog.eqGuardType Try.prog.depth 52 = false := by kernel_rfl
  have hne := fun w => ne_fr (fr t k) (fr s k) w (fr_size t k kt) (fr_size s k ks)
  have HL1 : Hid (∀ u, MemAt u bt t → (Instr.loadAt 52 (.pointer (some ⟨bt, k * 256, none⟩))).run Try.prog u = .ok (frA (fr t k)) u) := fun u h => load_fr h k kt
  have HL2 : Hid (∀ u, MemAt u bs s → (Instr.loadAt 52 (.pointer (some ⟨bs, k * 256, none⟩))).run Try.prog u = .ok (frA (fr s k)) u) := fun u h => load_fr h k ks
  have HD : Hid (dfB s t k = decide (fr t k ≠ fr s k)) := (show _ = _ by unfold dfB; rw [Bool.eq_iff_iff]; simp only [decide_eq_true_eq]; exact ne_comm)
  unfold frA at HL1 HL2 hne
  generalize (cells8 (fr t k).data.toList).toArray = X1 at *
  generalize (cells8 (fr s k).data.toList).toArray = X2 at *
  generalize decide (fr t k ≠ fr s k) = D at *
  have hk0 : (0 : Int) ≤ (k : Int) := by omega
  have hk1 : (k : Int) < (n : Int) := by omega
  have HSB : Hid ((fun w9 => w9.cell? ⟨C6, 0, none⟩ = some (.slice (some ⟨bt, 0, none⟩) n n) ∧ w9.cell? ⟨C5, 0, none⟩ = some (.slice (some ⟨bs, 0, none⟩) n n) ∧ MemAt w9 bt t ∧ MemAt w9 bs s) w.drew) := ⟨c6, c5, hMt, hMs⟩
  have HBD : Hid (Below w.heap.size w w.drew) := bdn (Below.refl _ _) 1
  clear c6 c5 hMt hMs kt ks ht hs
  go_enter Try.func25, Try.ntmps25
  go_upto_region 1 with fail
  refine wp_region_held (S := fun w9 => w9.cell? ⟨C6, 0, none⟩ = some (.slice (some ⟨bt, 0, none⟩) n n) ∧ w9.cell? ⟨C5, 0, none⟩ = some (.slice (some ⟨bs, 0, none⟩) n n) ∧ MemAt w9 bt t ∧ MemAt w9 bs s) (by kernel_rfl) ?_
  change wpAnyH _ _ _ _ _ _ _ _ (World.drew _)
  refine wpAnyH_take (i := 0) (v := .slice (some ⟨bt, 0, none⟩) n n) rfl (by kernel_rfl) (by kernel_rfl) (by kernel_rfl) (fun _ _ _ h => h) (Or.inl ⟨by kernel_rfl, fun w9 h9 => ?_⟩) HSB.out ?_
  · obtain ⟨d6, d5, hmt, hms⟩ := h9; clear hmt hms; go_simp
  refine wpAnyH_take (i := 1) (v := .int .i64 (k : Int)) rfl (by kernel_rfl) (by kernel_rfl) (by kernel_rfl) (fun _ _ _ h => h) (Or.inl ⟨by kernel_rfl, fun w9 h9 => ?_⟩) HSB.out ?_
  · go_simp
  refine wpAnyH_take (i := 2) (v := .pointer (some ⟨bt, k * 256, none⟩)) rfl (by kernel_rfl) (by kernel_rfl) (by kernel_rfl) (fun _ _ _ h => h) (Or.inl ⟨by kernel_rfl, fun w9 h9 => ?_⟩) HSB.out ?_
  · go_simp
  refine wpAnyH_take (i := 3) (v := .agg X1) rfl (by kernel_rfl) (by kernel_rfl) (by kernel_rfl) (fun _ _ _ h => h) (Or.inl ⟨by kernel_rfl, fun w9 h9 => ?_⟩) HSB.out ?_
  · exact exec_loadF rfl rfl (HL1.out _ h9.2.2.1)
  refine wpAnyH_take (i := 4) (v := .slice (some ⟨bs, 0, none⟩) n n) rfl (by kernel_rfl) (by kernel_rfl) (by kernel_rfl) (fun _ _ _ h => h) (Or.inl ⟨by kernel_rfl, fun w9 h9 => ?_⟩) HSB.out ?_
  · obtain ⟨d6, d5, hmt, hms⟩ := h9; clear hmt hms; go_simp
  refine wpAnyH_take (i := 5) (v := .int .i64 (k : Int)) rfl (by kernel_rfl) (by kernel_rfl) (by kernel_rfl) (fun _ _ _ h => h) (Or.inl ⟨by kernel_rfl, fun w9 h9 => ?_⟩) HSB.out ?_
  · go_simp
  refine wpAnyH_take (i := 6) (v := .pointer (some ⟨bs, k * 256, none⟩)) rfl (by kernel_rfl) (by kernel_rfl) (by kernel_rfl) (fun _ _ _ h => h) (Or.inl ⟨by kernel_rfl, fun w9 h9 => ?_⟩) HSB.out ?_
  · go_simp
  refine wpAnyH_take (i := 7) (v := .agg X2) rfl (by kernel_rfl) (by kernel_rfl) (by kernel_rfl) (fun _ _ _ h => h) (Or.inl ⟨by kernel_rfl, fun w9 h9 => ?_⟩) HSB.out ?_
  · exact exec_loadF rfl rfl (HL2.out _ h9.2.2.2)
  refine wpAnyH_take (i := 8) (v := .bool D) rfl (by kernel_rfl) (by kernel_rfl) (by kernel_rfl) (fun _ _ _ h => h) (Or.inl ⟨by kernel_rfl, fun w9 h9 => ?_⟩) HSB.out ?_
  · go_simp
  refine wpAnyH_take (i := 9) (v := .bool D) rfl (by kernel_rfl) (by kernel_rfl) (by kernel_rfl) (fun _ _ _ h => h) (Or.inl ⟨by kernel_rfl, fun w9 h9 => ?_⟩) HSB.out ?_
  · go_simp
  refine wpAnyH_done (by kernel_rfl) ?_ _
  go_simp
  go_wp2
  go_ret
  exact ⟨ret_bool HD.out.symm, HBD.out⟩
theorem cfDl : ∀ (xs : Array Value) (w' : World), (callFunc 25 xs).run Try.prog w' = .ok (.enter 25 xs) w' := by
  intro xs w'
  kernel_rfl

/-- Operation j waits for operation i, itself or through others. -/
def waits (md : Region.Mode) (ops : Array Oper) (i : Nat) : Nat → Nat → Bool
  | 0, _ => false
  | f + 1, j => match ops[j]? with
    | some o => o.after.toList.any fun e => Region.binds md e && (e.on == i || waits md ops i f e.on)
    | none => false
/-- Of each that has come up all that it waits for have come up. -/
def shutB (md : Region.Mode) (ops : Array Oper) (L : Array Bool) : Bool := (List.range ops.size).all fun k => !L.getD k false || (match ops[k]? with
  | some o => o.after.toList.all fun e => !Region.binds md e || L.getD e.on false
  | none => true)
def Shut (md : Region.Mode) (ops : Array Oper) (L : Array Bool) : Prop := ∀ k o, ops[k]? = some o → L.getD k false = true → ∀ e ∈ o.after, Region.binds md e = true → L.getD e.on false = true
theorem shut_of {md : Region.Mode} {ops : Array Oper} {L : Array Bool} (h : shutB md ops L = true) : Shut md ops L := by
  intro k o ho hk e he hb
  unfold shutB at h
  rw [List.all_eq_true] at h
  have h1 := h k (List.mem_range.2 (Array.getElem?_eq_some_iff.1 ho).1)
  rw [hk, ho] at h1
  simp only [Bool.not_true, Bool.false_or, List.all_eq_true] at h1
  have h2 := h1 e (by simpa using he)
  rw [hb] at h2
  simpa using h2
theorem Shut.set {md : Region.Mode} {ops : Array Oper} {L : Array Bool} (h : Shut md ops L) {i : Nat} (hi : i ∈ Region.ready md ops L) : Shut md ops (L.setIfInBounds i true) := by
  have up : ∀ k, L.getD k false = true → (L.setIfInBounds i true).getD k false = true := fun k hk => by
    by_cases e : i = k
    · subst e
      rcases Nat.lt_or_ge i L.size with h' | h'
      · simp [h']
      · simp [Array.getElem?_eq_none h'] at hk
    · rw [getD_set_ne false e]
      exact hk
  intro k o ho hk e he hb
  by_cases e1 : i = k
  · subst e1
    obtain ⟨_, o2, ho2, hall⟩ := mem_ready.1 hi
    rw [ho] at ho2
    cases ho2
    exact up _ (hall e he hb)
  · rw [getD_set_ne false e1] at hk
    exact up _ (h k o ho hk e he hb)
theorem Shut.waits {md : Region.Mode} {ops : Array Oper} {L : Array Bool} (h : Shut md ops L) {i : Nat} : ∀ (f j : Nat), (∀ o, ops[j]? = some o → ∀ e ∈ o.after, Region.binds md e = true → L.getD e.on false = true) → waits md ops i f j = true → L.getD i false = true
  | 0, _, _, hw => by cases hw
  | f + 1, j, hj, hw => by
    unfold Go.Proofs.Ytmbdclbddbbdpaa.waits at hw
    split at hw
    · rename_i o ho
      simp only [List.any_eq_true, Bool.and_eq_true, Bool.or_eq_true, beq_iff_eq] at hw
      obtain ⟨e, he, h1, h2⟩ := hw
      have h3 := hj o ho e (by simpa using he) h1
      rcases h2 with rfl | h2
      · exact h3
      · exact h.waits f e.on (fun o2 ho2 => h e.on o2 ho2 h3) h2
    · cases hw
/-- Whatever comes up: S holds behind all but the last ones, X. -/
def AnyE (P : Program) (md : Region.Mode) (ops : Array Oper) (Q : Exit → Act → World → Prop) (S : World → Prop) (X : List Nat) : Nat → Array Bool → Act → World → Prop
  | 0, L, a, w => Region.ready md ops L = [] ∧ Q .normal a w
  | f + 1, L, a, w => (Region.ready md ops L = [] → Q .normal a w) ∧ ∀ i ∈ Region.ready md ops L, wpOp P ops Q i (fun a' w' => (i ∉ X → S w') ∧ AnyE P md ops Q S X f (L.setIfInBounds i true) a' w') a w
section
variable {P : Program} {ops : Array Oper} {Q : Exit → Act → World → Prop} {S : World → Prop} {md : Region.Mode} {X : List Nat}
theorem AnyE.any : ∀ (f : Nat) (L : Array Bool) (a : Act) (w : World), AnyE P md ops Q S X f L a w → wpAny P md ops Q f L a w
  | 0, _, _, _, h => h
  | f + 1, _, _, _, h => ⟨h.1, fun i hi => wpOp_mono (fun a' w' h' => AnyE.any f _ a' w' h'.2) (h.2 i hi)⟩
theorem AnyE.first {i : Nat} {oi : Oper} {v : Value} (hi : ops[i]? = some oi) (hsel : ∀ (j : Nat) (o : Oper) cs b, ops[j]? = some o → o.op ≠ .select cs b)
    (hQ : ∀ c a w, Q (.panic c) (a.put oi.dst v) w → Q (.panic c) a w) (hn : X.all (waits md ops i ops.size) = true) :
    ∀ (f : Nat) (L : Array Bool) (a : Act) (w : World), Shut md ops L →
      (∀ j oj, ops[j]? = some oj → j ≠ i → L.getD j true = false → (∀ e ∈ oj.after, Region.binds md e = true → e.on ≠ i) → oi.apart ops oj = true) →
      i ∈ Region.ready md ops L → YieldsIf P ops S oi v a → S w →
      AnyE P md ops Q S X f (L.setIfInBounds i true) (a.put oi.dst v) w → AnyE P md ops Q S X (f + 1) L a w := by
  intro f
  induction f with
  | zero =>
    intro L a w _ _ hr hy hS H
    refine ⟨fun h => absurd (h ▸ hr) (by simp), fun j hj => ?_⟩
    by_cases hji : j = i
    · subst hji
      exact hy.wpOp hi hS ⟨fun _ => hS, H⟩
    · have h9 := ready_mono hj hji
      rw [H.1] at h9
      cases h9
  | succ f ih =>
    intro L a w hsh hfree hr hy hS H
    refine ⟨fun h => absurd (h ▸ hr) (by simp), fun j hj => ?_⟩
    by_cases hji : j = i
    · subst hji
      exact hy.wpOp hi hS ⟨fun _ => hS, H⟩
    · obtain ⟨hjun, oj, hoj, hall⟩ := mem_ready.1 hj
      have hnot : ∀ e ∈ oj.after, Region.binds md e = true → e.on ≠ i := fun e he hb heq => by
        have h1 := hall e he hb
        have h0 := (mem_ready.1 hr).1
        rw [heq] at h1
        rcases Nat.lt_or_ge i L.size with h' | h'
        · simp [h'] at h0 h1
          rw [h0] at h1
          cases h1
        · simp [Array.getElem?_eq_none h'] at h1
      have hjn : j ∉ X := fun e => by
        have h1 := List.all_eq_true.1 hn j e
        have h2 := hsh.waits _ j (fun o ho e he hb => by rw [hoj] at ho; cases ho; exact hall e he hb) h1
        have h0 := (mem_ready.1 hr).1
        rcases Nat.lt_or_ge i L.size with h' | h'
        · simp [h'] at h0 h2
          rw [h0] at h2
          cases h2
        · simp [Array.getElem?_eq_none h'] at h2
      have h2 := wpOp_putIf hoj (hfree j oj hoj hji hjun hnot) (fun cs b => hsel i oi cs b hi) (fun cs b => hsel j oj cs b hoj) hQ hy (H.2 j (ready_mono hj hji))
      refine wpOp_mono (fun a' w' h3 => ⟨h3.2.1, ih _ a' w' (hsh.set hj) ?_ (ready_mono hr (Ne.symm hji)) h3.1 (h3.2.1 hjn) ?_⟩) h2
      · intro k ok hk hki hun hno
        refine hfree k ok hk hki ?_ hno
        by_cases hjk : j = k
        · subst hjk
          exact hjun
        · rwa [getD_set_ne true hjk] at hun
      · rw [Array.setIfInBounds_comm _ _ hji]
        exact h3.2.2
theorem AnyE.take {i : Nat} {oi : Oper} {v : Value} {f : Nat} {L : Array Bool} {a : Act} {w : World} (hi : ops[i]? = some oi)
    (hs : Region.noSelect ops = true) (hf : Region.free md ops L i = true) (hr : (Region.ready md ops L).contains i = true) (hn : X.all (waits md ops i ops.size) = true) (hc : shutB md ops L = true)
    (hQ : ∀ c a w, Q (.panic c) (a.put oi.dst v) w → Q (.panic c) a w) (hy : YieldsIf P ops S oi v a) (hS : S w)
    (h : AnyE P md ops Q S X f (L.setIfInBounds i true) (a.put oi.dst v) w) : AnyE P md ops Q S X (f + 1) L a w :=
  AnyE.first hi (Region.noSelect_spec hs) hQ hn f L a w (shut_of hc) (Region.free_spec hi hf) (by simpa using hr) hy hS h
theorem AnyE.one {f : Nat} {L : Array Bool} {a : Act} {w : World} (i : Nat) {o : Oper} (hr : Region.ready md ops L = [i]) (ho : ops[i]? = some o)
    (hw : Region.wanted o (yielded ops a.tmps) = true) (h : ∀ K : Act → World → Prop, (∀ a' w', (i ∉ X → S w') → AnyE P md ops Q S X f (L.setIfInBounds i true) a' w' → K a' w') → o.wp P a w K Q) : AnyE P md ops Q S X (f + 1) L a w := by
  refine ⟨fun h0 => absurd (hr ▸ h0) (by simp), ?_⟩
  rw [hr]
  intro j hj
  obtain rfl := List.mem_singleton.1 hj
  unfold wpOp
  rw [ho]
  simp only [hw, if_true]
  exact Or.inl (h _ fun a' w' h1 h2 => ⟨h1, h2⟩)
theorem AnyE.two {f : Nat} {L : Array Bool} {a : Act} {w : World} (i j : Nat) {o o2 : Oper} (hr : Region.ready md ops L = [i, j]) (ho : ops[i]? = some o) (ho2 : ops[j]? = some o2)
    (hw : Region.wanted o (yielded ops a.tmps) = true) (hw2 : Region.wanted o2 (yielded ops a.tmps) = true) (h : ∀ K : Act → World → Prop, (∀ a' w', (i ∉ X → S w') → AnyE P md ops Q S X f (L.setIfInBounds i true) a' w' → K a' w') → o.wp P a w K Q)
    (h2 : ∀ K : Act → World → Prop, (∀ a' w', (j ∉ X → S w') → AnyE P md ops Q S X f (L.setIfInBounds j true) a' w' → K a' w') → o2.wp P a w K Q) : AnyE P md ops Q S X (f + 1) L a w := by
  refine ⟨fun h0 => absurd (hr ▸ h0) (by simp), ?_⟩
  rw [hr]
  intro k hk
  rcases List.mem_cons.1 hk with rfl | hk
  · unfold wpOp
    rw [ho]
    simp only [hw, if_true]
    exact Or.inl (h _ fun a' w' h1 h2 => ⟨h1, h2⟩)
  · obtain rfl := List.mem_singleton.1 hk
    unfold wpOp
    rw [ho2]
    simp only [hw2, if_true]
    exact Or.inl (h2 _ fun a' w' h1 h2 => ⟨h1, h2⟩)
theorem AnyE.done {L : Array Bool} {a : Act} {w : World} (hr : Region.ready md ops L = []) (h : Q .normal a w) : ∀ f, AnyE P md ops Q S X f L a w
  | 0 => ⟨hr, h⟩
  | _ + 1 => ⟨fun _ => h, by rw [hr]; simp⟩
theorem AnyE.start (S : World → Prop) (X : List Nat) {id : Nat} {a : Act} {w : World} (hm : P.follows .mixedOrders = true) (h : AnyE P .any ops Q S X ops.size (Array.replicate ops.size false) a w.drew) : (Code.region id ops true).wp P Q a w :=
  wp_region_any hm (AnyE.any _ _ _ _ h)
end

/-- Two machines in their boxes. -/
structure M2 (w u : World) (A B : Nat) (m p : MV) (a b : MA) : Prop where
  bel : Below w.heap.size w u
  bA : u.heap[A]? = some (.cells (mC m a) 30 (0, 0))
  bB : u.heap[B]? = some (.cells (mC p b) 30 (0, 0))
theorem M2.lA {w u : World} {A B : Nat} {m p : MV} {a b : MA} (h : M2 w u A B m p a b) : A < u.heap.size := (Array.getElem?_eq_some_iff.1 h.bA).1
theorem M2.lB {w u : World} {A B : Nat} {m p : MV} {a b : MA} (h : M2 w u A B m p a b) : B < u.heap.size := (Array.getElem?_eq_some_iff.1 h.bB).1
theorem M2.step {w u u' : World} {A B : Nat} {m p : MV} {a b : MA} (h : M2 w u A B m p a b) (hb : Below u.heap.size u u') : M2 w u' A B m p a b :=
  ⟨h.bel.trans (hb.mono h.bel.size), (hb.block _ h.lA).trans h.bA, (hb.block _ h.lB).trans h.bB⟩
theorem M2.new (w : World) (m p : MV) (a b : MA) : M2 w ((w.alloc (.cells (mC m a) 30)).alloc (.cells (mC p b) 30)) w.heap.size (w.heap.size + 1) m p a b := by
  have h := heap_new (w.alloc (.cells (mC m a) 30)) (.cells (mC p b) 30)
  rw [World.size_alloc] at h
  have hbl : Below w.heap.size w ((w.alloc (.cells (mC m a) 30)).alloc (.cells (mC p b) 30)) := (bx1 _ _).trans ((bx1 _ _).mono (by simp))
  exact ⟨hbl, ((bx1 _ _).block _ (by simp)).trans (heap_new _ _), h⟩
theorem M2.cA {w u : World} {A B : Nat} {m p : MV} {a b : MA} (h : M2 w u A B m p a b) : u.cell? ⟨A, 0, none⟩ = some (.int .i64 m.pc) ∧ u.cell? ⟨A, 1, none⟩ = some (.slice a.ar m.rs.length a.cr) ∧ u.cell? ⟨A, 2, none⟩ = some (.int .i64 m.md) ∧ u.cell? ⟨A, 3, none⟩ = some (.slice a.ac m.cs.length a.cc) ∧ u.cell? ⟨A, 4, none⟩ = some (.slice a.av m.vs.length a.cv) ∧ u.cell? ⟨A, 5, none⟩ = some (.string m.mem) ∧ u.cell? ⟨A, 6, none⟩ = some (.int .i64 m.st) ∧ u.cell? ⟨A, 7, none⟩ = some (.int .i64 m.ct) ∧ u.cell? ⟨A, 8, none⟩ = some (.int .i64 m.ln) ∧ u.cell? ⟨A, 9, none⟩ = some (.slice a.ai m.is.length a.ci) ∧ u.cell? ⟨A, 10, none⟩ = some (.slice a.ao m.os.length a.co) ∧ u.cell? ⟨A, 11, none⟩ = some (.int .i64 m.tr) := by
  have h2 := h.bA
  unfold mC at h2
  obtain ⟨c0, c1, c2, c3, c4, c5, c6, c7, c8, c9, c10, c11, _⟩ := cel12 h2
  exact ⟨c0, c1, c2, c3, c4, c5, c6, c7, c8, c9, c10, c11⟩
theorem M2.cB {w u : World} {A B : Nat} {m p : MV} {a b : MA} (h : M2 w u A B m p a b) : u.cell? ⟨B, 0, none⟩ = some (.int .i64 p.pc) ∧ u.cell? ⟨B, 1, none⟩ = some (.slice b.ar p.rs.length b.cr) ∧ u.cell? ⟨B, 2, none⟩ = some (.int .i64 p.md) ∧ u.cell? ⟨B, 3, none⟩ = some (.slice b.ac p.cs.length b.cc) ∧ u.cell? ⟨B, 4, none⟩ = some (.slice b.av p.vs.length b.cv) ∧ u.cell? ⟨B, 5, none⟩ = some (.string p.mem) ∧ u.cell? ⟨B, 6, none⟩ = some (.int .i64 p.st) ∧ u.cell? ⟨B, 7, none⟩ = some (.int .i64 p.ct) ∧ u.cell? ⟨B, 8, none⟩ = some (.int .i64 p.ln) ∧ u.cell? ⟨B, 9, none⟩ = some (.slice b.ai p.is.length b.ci) ∧ u.cell? ⟨B, 10, none⟩ = some (.slice b.ao p.os.length b.co) ∧ u.cell? ⟨B, 11, none⟩ = some (.int .i64 p.tr) := by
  have h2 := h.bB
  unfold mC at h2
  obtain ⟨c0, c1, c2, c3, c4, c5, c6, c7, c8, c9, c10, c11, _⟩ := cel12 h2
  exact ⟨c0, c1, c2, c3, c4, c5, c6, c7, c8, c9, c10, c11⟩
/-- Besides a machine whose memory is another. -/
structure DX (w u : World) (A B C : Nat) (m p : MV) (a b : MA) (q : ByteArray) : Prop where
  m2 : M2 w u A B m p a b
  bC : u.heap[C]? = some (.cells #[.int .i64 p.pc, .slice b.ar p.rs.length b.cr, .int .i64 p.md, .slice b.ac p.cs.length b.cc, .slice b.av p.vs.length b.cv, .string q, .int .i64 p.st, .int .i64 p.ct, .int .i64 p.ln, .slice b.ai p.is.length b.ci, .slice b.ao p.os.length b.co, .int .i64 p.tr] 30 (0, 0))
  gC : w.heap.size ≤ C
  nA : A < C
  nB : B < C
theorem DX.lC {w u : World} {A B C : Nat} {m p : MV} {a b : MA} {q : ByteArray} (h : DX w u A B C m p a b q) : C < u.heap.size := (Array.getElem?_eq_some_iff.1 h.bC).1
theorem DX.step {w u u' : World} {A B C : Nat} {m p : MV} {a b : MA} {q : ByteArray} (h : DX w u A B C m p a b q) (hb : Below u.heap.size u u') : DX w u' A B C m p a b q := ⟨h.m2.step hb, (hb.block _ h.lC).trans h.bC, h.gC, h.nA, h.nB⟩
theorem DX.cC {w u : World} {A B C : Nat} {m p : MV} {a b : MA} {q : ByteArray} (h : DX w u A B C m p a b q) : u.cell? ⟨C, 0, none⟩ = some (.int .i64 p.pc) ∧ u.cell? ⟨C, 1, none⟩ = some (.slice b.ar p.rs.length b.cr) ∧ u.cell? ⟨C, 2, none⟩ = some (.int .i64 p.md) ∧ u.cell? ⟨C, 3, none⟩ = some (.slice b.ac p.cs.length b.cc) ∧ u.cell? ⟨C, 4, none⟩ = some (.slice b.av p.vs.length b.cv) ∧ u.cell? ⟨C, 5, none⟩ = some (.string q) ∧ u.cell? ⟨C, 6, none⟩ = some (.int .i64 p.st) ∧ u.cell? ⟨C, 7, none⟩ = some (.int .i64 p.ct) ∧ u.cell? ⟨C, 8, none⟩ = some (.int .i64 p.ln) ∧ u.cell? ⟨C, 9, none⟩ = some (.slice b.ai p.is.length b.ci) ∧ u.cell? ⟨C, 10, none⟩ = some (.slice b.ao p.os.length b.co) ∧ u.cell? ⟨C, 11, none⟩ = some (.int .i64 p.tr) := by
  obtain ⟨c0, c1, c2, c3, c4, c5, c6, c7, c8, c9, c10, c11, _⟩ := cel12 h.bC
  exact ⟨c0, c1, c2, c3, c4, c5, c6, c7, c8, c9, c10, c11⟩
theorem DX.fz {w u : World} {A B C : Nat} {m p : MV} {a b : MA} {q : ByteArray} (h : DX w u A B C m p a b q) (k : Nat) : u.frozen? ⟨C, k, none⟩ = false := by simp [World.frozen?, h.bC]
theorem DX.rC {w u : World} {A B C : Nat} {m p : MV} {a b : MA} {q : ByteArray} (h : DX w u A B C m p a b q) (hr : MRows w p b) : MRows u { p with mem := q } b := ⟨(hr.below h.m2.bel).r, (hr.below h.m2.bel).c, (hr.below h.m2.bel).v, (hr.below h.m2.bel).i, (hr.below h.m2.bel).o⟩
def vd1 : ByteArray := ⟨#[86, 68, 49, 10]⟩
/-- The machine whose memory has the frames that differ alone. -/
def dcM (m p : MV) (n : Nat) : MV := { p with mem := zdN m.mem p.mem n }
def doT (m p : MV) (n : Nat) : ByteArray := vd1 ++ pw (mixv m.mem 62) ++ sB (dfB m.mem p.mem) ((n + 7) / 8) n ++ pmV (dcM m p n)
def doO (m p : MV) (n : Nat) : ByteArray := if pmV (dcM m p n) = ⟨#[]⟩ then ⟨#[]⟩ else if 65536 < (doT m p n).size then ⟨#[]⟩ else doT m p n
/-- What DeltaOf answers. -/
def doV (m p : MV) : ByteArray := if mfC m = 0 ∧ mfC p = 0 ∧ m.mem.size = p.mem.size then doO m p (m.mem.size / 256) else ⟨#[]⟩
theorem mf_one {m : MV} (hf : ¬ mfC m = 0) : mfC m = 1 := by unfold mfC at hf ⊢; split at hf; exact absurd rfl hf; rename_i h; rw [if_neg h]
theorem pmV_size (m : MV) : (pmV m).size ≤ 65536 := by
  unfold pmV
  split
  · unfold pmO
    split
    · rename_i h
      rw [ByteArray.size_append, pw_sz]
      exact h
    · show 0 ≤ _
      omega
  · show 0 ≤ _
    omega
theorem DX.set {w u : World} {A B C : Nat} {m p : MV} {a b : MA} {q : ByteArray} (h : DX w u A B C m p a b q) (q' : ByteArray) : DX w (u.setCell ⟨C, 5, none⟩ (.string q')) A B C m p a b q' := by
  have hA := h.nA
  have hB := h.nB
  refine ⟨⟨h.m2.bel.setCell h.gC _, (Below.heap_setCell _ _ _ _ (by simp only; omega)).trans h.m2.bA, (Below.heap_setCell _ _ _ _ (by simp only; omega)).trans h.m2.bB⟩, ?_, h.gC, h.nA, h.nB⟩
  simp [World.setCell, Array.getElem?_modify, h.bC]
set_option maxRecDepth 100000 in
set_option maxHeartbeats 8000000 in
theorem specDO_any {w : World} {m p : MV} {a b : MA} (ha : MRows w m a) (hb : MRows w p b) (la : MLen m) (lb : MLen p) : Calls Try.prog 5 #[.agg (mC m a), .agg (mC p b)] w fun e w' => e = .returned (.string (doV m p)) ∧ Below w.heap.size w w' := by
  have HRA : Hid (MRows w m a) := ha
  have HRB : Hid (MRows w p b) := hb
  have HX : Hid (M2 w ((w.alloc (.cells #[.int .i64 m.pc, .slice a.ar m.rs.length a.cr, .int .i64 m.md, .slice a.ac m.cs.length a.cc, .slice a.av m.vs.length a.cv, .string m.mem, .int .i64 m.st, .int .i64 m.ct, .int .i64 m.ln, .slice a.ai m.is.length a.ci, .slice a.ao m.os.length a.co, .int .i64 m.tr] 30)).alloc (.cells #[.int .i64 p.pc, .slice b.ar p.rs.length b.cr, .int .i64 p.md, .slice b.ac p.cs.length b.cc, .slice b.av p.vs.length b.cv, .string p.mem, .int .i64 p.st, .int .i64 p.ct, .int .i64 p.ln, .slice b.ai p.is.length b.ci, .slice b.ao p.os.length b.co, .int .i64 p.tr] 30)) w.heap.size (w.heap.size + 1) m p a b) := M2.new w m p a b
  have HFA : Hid (∀ A B u, M2 w u A B m p a b → Calls Try.prog 11 #[.agg #[.int .i64 m.pc, .slice a.ar m.rs.length a.cr, .int .i64 m.md, .slice a.ac m.cs.length a.cc, .slice a.av m.vs.length a.cv, .string m.mem, .int .i64 m.st, .int .i64 m.ct, .int .i64 m.ln, .slice a.ai m.is.length a.ci, .slice a.ao m.os.length a.co, .int .i64 m.tr]] u fun e w' => e = .returned (.int .i64 (mfC m)) ∧ Below u.heap.size u w') := fun _ _ u h => specMF_any (HRA.out.below h.bel) la
  have HFB : Hid (∀ A B u, M2 w u A B m p a b → Calls Try.prog 11 #[.agg #[.int .i64 p.pc, .slice b.ar p.rs.length b.cr, .int .i64 p.md, .slice b.ac p.cs.length b.cc, .slice b.av p.vs.length b.cv, .string p.mem, .int .i64 p.st, .int .i64 p.ct, .int .i64 p.ln, .slice b.ai p.is.length b.ci, .slice b.ao p.os.length b.co, .int .i64 p.tr]] u fun e w' => e = .returned (.int .i64 (mfC p)) ∧ Below u.heap.size u w') := fun _ _ u h => specMF_any (HRB.out.below h.bel) lb
  clear ha hb
  by_cases h1 : mfC m = 0
  rotate_left
  · have E : Hid (doV m p = ⟨#[]⟩) := (show doV m p = _ by unfold doV; rw [if_neg (fun h => h1 h.1)])
    rw [mf_one h1] at HFA
    clear h1
    unfold mC
    go_enter Try.func5, Try.ntmps5
    go_upto_region 1 with fail
    generalize ((w.alloc (.cells #[.int .i64 m.pc, .slice a.ar m.rs.length a.cr, .int .i64 m.md, .slice a.ac m.cs.length a.cc, .slice a.av m.vs.length a.cv, .string m.mem, .int .i64 m.st, .int .i64 m.ct, .int .i64 m.ln, .slice a.ai m.is.length a.ci, .slice a.ao m.os.length a.co, .int .i64 m.tr] 30)).alloc (.cells #[.int .i64 p.pc, .slice b.ar p.rs.length b.cr, .int .i64 p.md, .slice b.ac p.cs.length b.cc, .slice b.av p.vs.length b.cv, .string p.mem, .int .i64 p.st, .int .i64 p.ct, .int .i64 p.ln, .slice b.ai p.is.length b.ci, .slice b.ao p.os.length b.co, .int .i64 p.tr] 30)) = u0 at *
    obtain ⟨c0, c1, c2, c3, c4, c5, c6, c7, c8, c9, c10, c11⟩ := HX.out.cA
    have cl := HX.out.lA
    go_wp2_with (go_at_call 11; refine Calls.mono (HFA.out _ _ _ HX.out) ?_; rintro e u1 ⟨rfl, hb⟩; have HX1 : Hid (M2 w u1 w.heap.size (w.heap.size + 1) m p a b) := HX.out.step hb; clear hb)
    go_ret
    exact ⟨ret_str E.out.symm, HX1.out.bel⟩
  rw [h1] at HFA
  by_cases h2 : mfC p = 0
  rotate_left
  · have E : Hid (doV m p = ⟨#[]⟩) := (show doV m p = _ by unfold doV; rw [if_neg (fun h => h2 h.2.1)])
    rw [mf_one h2] at HFB
    clear h1 h2
    unfold mC
    go_enter Try.func5, Try.ntmps5
    go_upto_region 1 with fail
    generalize ((w.alloc (.cells #[.int .i64 m.pc, .slice a.ar m.rs.length a.cr, .int .i64 m.md, .slice a.ac m.cs.length a.cc, .slice a.av m.vs.length a.cv, .string m.mem, .int .i64 m.st, .int .i64 m.ct, .int .i64 m.ln, .slice a.ai m.is.length a.ci, .slice a.ao m.os.length a.co, .int .i64 m.tr] 30)).alloc (.cells #[.int .i64 p.pc, .slice b.ar p.rs.length b.cr, .int .i64 p.md, .slice b.ac p.cs.length b.cc, .slice b.av p.vs.length b.cv, .string p.mem, .int .i64 p.st, .int .i64 p.ct, .int .i64 p.ln, .slice b.ai p.is.length b.ci, .slice b.ao p.os.length b.co, .int .i64 p.tr] 30)) = u0 at *
    obtain ⟨c0, c1, c2, c3, c4, c5, c6, c7, c8, c9, c10, c11⟩ := HX.out.cA
    have cl := HX.out.lA
    go_wp2_with fail
    refine Calls.mono (HFA.out _ _ _ HX.out) ?_
    rintro e u1 ⟨rfl, hb⟩
    have HX1 : Hid (M2 w u1 w.heap.size (w.heap.size + 1) m p a b) := HX.out.step hb
    clear hb c0 c1 c2 c3 c4 c5 c6 c7 c8 c9 c10 c11 cl
    obtain ⟨c0, c1, c2, c3, c4, c5, c6, c7, c8, c9, c10, c11⟩ := HX1.out.cB
    have cl := HX1.out.lB
    go_wp2_with fail
    refine Calls.mono (HFB.out _ _ _ HX1.out) ?_
    rintro e u2 ⟨rfl, hb⟩
    have HX2 : Hid (M2 w u2 w.heap.size (w.heap.size + 1) m p a b) := HX1.out.step hb
    clear hb
    go_wp2
    go_ret
    exact ⟨ret_str E.out.symm, HX2.out.bel⟩
  rw [h2] at HFB
  unfold mC
  go_enter Try.func5, Try.ntmps5
  go_upto_region 1 with fail
  generalize ((w.alloc (.cells #[.int .i64 m.pc, .slice a.ar m.rs.length a.cr, .int .i64 m.md, .slice a.ac m.cs.length a.cc, .slice a.av m.vs.length a.cv, .string m.mem, .int .i64 m.st, .int .i64 m.ct, .int .i64 m.ln, .slice a.ai m.is.length a.ci, .slice a.ao m.os.length a.co, .int .i64 m.tr] 30)).alloc (.cells #[.int .i64 p.pc, .slice b.ar p.rs.length b.cr, .int .i64 p.md, .slice b.ac p.cs.length b.cc, .slice b.av p.vs.length b.cv, .string p.mem, .int .i64 p.st, .int .i64 p.ct, .int .i64 p.ln, .slice b.ai p.is.length b.ci, .slice b.ao p.os.length b.co, .int .i64 p.tr] 30)) = u0 at *
  obtain ⟨B, hB⟩ : ∃ B, w.heap.size + 1 = B := ⟨_, rfl⟩
  obtain ⟨A, hA⟩ : ∃ A, w.heap.size = A := ⟨_, rfl⟩
  have HX0 : Hid (M2 w u0 A B m p a b) := (by rw [← hA, ← hB]; exact HX.out)
  rw [hB, hA]
  have HA0 : Hid (w.heap.size = A) := hA
  have HAB : Hid (A < B) := (show A < B by omega)
  clear hA hB HX
  obtain ⟨c0, c1, c2, c3, c4, c5, c6, c7, c8, c9, c10, c11⟩ := HX0.out.cA
  have cl := HX0.out.lA
  go_wp2_with fail
  refine Calls.mono (HFA.out _ _ _ HX0.out) ?_
  rintro e u1 ⟨rfl, hb⟩
  have HX1 : Hid (M2 w u1 A B m p a b) := HX0.out.step hb
  clear hb c0 c1 c2 c3 c4 c5 c6 c7 c8 c9 c10 c11 cl
  obtain ⟨d0, d1, d2, d3, d4, d5, d6, d7, d8, d9, d10, d11⟩ := HX1.out.cB
  have dl := HX1.out.lB
  go_wp2_with fail
  refine Calls.mono (HFB.out _ _ _ HX1.out) ?_
  rintro e u2 ⟨rfl, hb⟩
  have HX2 : Hid (M2 w u2 A B m p a b) := HX1.out.step hb
  clear hb d0 d1 d2 d3 d4 d5 d6 d7 d8 d9 d10 d11 dl HX0 HX1 HFA HFB
  obtain ⟨c0, c1, c2, c3, c4, c5, c6, c7, c8, c9, c10, c11⟩ := HX2.out.cA
  have cl := HX2.out.lA
  obtain ⟨d0, d1, d2, d3, d4, d5, d6, d7, d8, d9, d10, d11⟩ := HX2.out.cB
  have dl := HX2.out.lB
  by_cases h3 : m.mem.size = p.mem.size
  rotate_left
  · have E : Hid (doV m p = ⟨#[]⟩) := (show doV m p = _ by unfold doV; rw [if_neg (fun h => h3 h.2.2)])
    have hne : ((m.mem.size : Int) == (p.mem.size : Int)) = false := by simp; omega
    clear h1 h2 h3
    go_wp2
    go_ret
    exact ⟨ret_str E.out.symm, by first | exact HX2.out.bel | (rw [← HA0.out]; exact HX2.out.bel)⟩
  have E : Hid (doV m p = doO m p (m.mem.size / 256)) := (show doV m p = _ by unfold doV; rw [if_pos ⟨h1, h2, h3⟩])
  have hok := MOk.of h1
  have hok2 := MOk.of h2
  rw [← h3] at hok2
  generalize m.mem.size / 256 = n at *
  have HOM : Hid (MOk m n) := hok
  have HOP : Hid (MOk p n) := hok2
  have heq : ((m.mem.size : Int) == (p.mem.size : Int)) = true := by simp; omega
  have HFR : Hid (∀ u, Calls Try.prog 12 #[.string m.mem] u fun e w' => e = .returned (.int .i64 (n : Int)) ∧ w' = u) := fun u => l20Frames_any m.mem n u HOM.out.sz HOM.out.n2
  clear h1 h2 h3 hok hok2
  go_upto_region 5 with (go_at_call 12; refine Calls.mono (HFR.out _) ?_; rintro e u99 ⟨rfl, hw1⟩; rw [hw1]; clear hw1 u99)
  have HD0 : Hid (DX w (u2.alloc (.cells #[.int .i64 p.pc, .slice b.ar p.rs.length b.cr, .int .i64 p.md, .slice b.ac p.cs.length b.cc, .slice b.av p.vs.length b.cv, .string p.mem, .int .i64 p.st, .int .i64 p.ct, .int .i64 p.ln, .slice b.ai p.is.length b.ci, .slice b.ao p.os.length b.co, .int .i64 p.tr] 30)) A B u2.heap.size m p a b (zdN m.mem p.mem 0)) := (show DX _ _ _ _ _ _ _ _ _ _ from ⟨HX2.out.step (bx1 _ _), heap_new _ _, HX2.out.bel.size, HX2.out.lA, HX2.out.lB⟩)
  clear c0 c1 c2 c3 c4 c5 c6 c7 c8 c9 c10 c11 cl d0 d1 d2 d3 d4 d5 d6 d7 d8 d9 d10 d11 dl HX2 HFR heq
  generalize (u2.alloc (.cells #[.int .i64 p.pc, .slice b.ar p.rs.length b.cr, .int .i64 p.md, .slice b.ac p.cs.length b.cc, .slice b.av p.vs.length b.cv, .string p.mem, .int .i64 p.st, .int .i64 p.ct, .int .i64 p.ln, .slice b.ai p.is.length b.ci, .slice b.ao p.os.length b.co, .int .i64 p.tr] 30)) = u3 at *
  generalize u2.heap.size = C at *
  have hn9 : (n : Int) ≤ 256 := by have := HOM.out.n2; omega
  go_wp2
  go_loopw [7] (fun i wr => ∃ k : Nat, k ≤ n ∧ i = .int .i64 k ∧ DX w wr A B C m p a b (zdN m.mem p.mem k)) (fun i _ => n - (intOf i).toNat)
  case atStart => exact ⟨0, Nat.zero_le _, rfl, HD0.out⟩
  case round =>
    obtain ⟨k, hk, rfl, hd⟩ := hrel
    have HD : Hid (DX w wr A B C m p a b (zdN m.mem p.mem k)) := hd
    clear hd HD0
    by_cases hlt : k < n
    · have hk0 : (0 : Int) ≤ (k : Int) := by omega
      have hk1 : (k : Int) < (n : Int) := by omega
      have HL1 : Hid (∀ u, Calls Try.prog 13 #[.string m.mem, .int .i64 k] u fun e w' => e = .returned (.string (fr m.mem k)) ∧ w' = u) := fun u => l06Frame_any m.mem k u (by have := HOM.out.sz; omega) (by have := HOM.out.sz; have := HOM.out.n2; omega)
      have HL2 : Hid (∀ u, Calls Try.prog 13 #[.string p.mem, .int .i64 k] u fun e w' => e = .returned (.string (fr p.mem k)) ∧ w' = u) := fun u => l06Frame_any p.mem k u (by have := HOP.out.sz; omega) (by have := HOP.out.sz; have := HOP.out.n2; omega)
      have HON : Hid (fr m.mem k = fr p.mem k → zdN m.mem p.mem (k + 1) = sfr (zdN m.mem p.mem k) k (zB 256)) := zdN_on
      have HOFF : Hid (¬ fr m.mem k = fr p.mem k → zdN m.mem p.mem (k + 1) = zdN m.mem p.mem k) := zdN_off
      have HZS : Hid ((zdN m.mem p.mem k).size = n * 256) := zdN_size HOP.out.sz k hk
      have HZE : Hid (∀ u, Calls Try.prog 15 #[] u fun e w' => e = .returned (.string (zB 256)) ∧ Below u.heap.size u w') := fun u => l20Zero_any u
      have HSF : Hid (∀ u, Calls Try.prog 14 #[.string (zdN m.mem p.mem k), .int .i64 k, .string (zB 256)] u fun e w' => e = .returned (.string (sfr (zdN m.mem p.mem k) k (zB 256))) ∧ ∃ q, w' = u.drewN q) := fun u => l06Set_any _ _ k u (by have := HZS.out; omega) (by have := HZS.out; have := HOM.out.n2; omega) (zB_size _)
      generalize fr m.mem k = x at *
      generalize fr p.mem k = y at *
      generalize zB 256 = z at *
      generalize hq0 : zdN m.mem p.mem k = q at *
      have HSB : Hid (DX w wr.drew A B C m p a b q) := HD.out.step (bdn (Below.refl _ _) 1)
      clear hq0 HZS
      by_cases hxy : x = y
      · subst hxy
        have HE : Hid (zdN m.mem p.mem (k + 1) = sfr q k z) := HON.out rfl
        generalize sfr q k z = q2 at *
        clear HON HOFF
        go_upto_region 8 with fail
        refine wp_region_held (S := fun w9 => DX w w9 A B C m p a b q) (by kernel_rfl) ?_
        change wpAnyH _ _ _ _ _ _ _ _ (World.drew _)
        refine wpAnyH_take (i := 0) (v := .pointer (some ⟨A, 5, none⟩)) rfl (by kernel_rfl) (by kernel_rfl) (by kernel_rfl) (fun _ _ _ h => h) (Or.inl ⟨by kernel_rfl, fun w9 h9 => ?_⟩) HSB.out ?_
        · go_simp
        refine wpAnyH_take (i := 1) (v := .string m.mem) rfl (by kernel_rfl) (by kernel_rfl) (by kernel_rfl) (fun _ _ _ h => h) (Or.inl ⟨by kernel_rfl, fun w9 h9 => ?_⟩) HSB.out ?_
        · obtain ⟨c0, c1, c2, c3, c4, c5, c6, c7, c8, c9, c10, c11⟩ := h9.m2.cA; have cl := h9.m2.lA; obtain ⟨d0, d1, d2, d3, d4, d5, d6, d7, d8, d9, d10, d11⟩ := h9.m2.cB; have dl := h9.m2.lB; clear h9; go_simp
        refine wpAnyH_take (i := 2) (v := .int .i64 (k : Int)) rfl (by kernel_rfl) (by kernel_rfl) (by kernel_rfl) (fun _ _ _ h => h) (Or.inl ⟨by kernel_rfl, fun w9 h9 => ?_⟩) HSB.out ?_
        · go_simp
        refine wpAnyH_take (i := 4) (v := .pointer (some ⟨B, 5, none⟩)) rfl (by kernel_rfl) (by kernel_rfl) (by kernel_rfl) (fun _ _ _ h => h) (Or.inl ⟨by kernel_rfl, fun w9 h9 => ?_⟩) HSB.out ?_
        · go_simp
        refine wpAnyH_take (i := 5) (v := .string p.mem) rfl (by kernel_rfl) (by kernel_rfl) (by kernel_rfl) (fun _ _ _ h => h) (Or.inl ⟨by kernel_rfl, fun w9 h9 => ?_⟩) HSB.out ?_
        · obtain ⟨c0, c1, c2, c3, c4, c5, c6, c7, c8, c9, c10, c11⟩ := h9.m2.cA; have cl := h9.m2.lA; obtain ⟨d0, d1, d2, d3, d4, d5, d6, d7, d8, d9, d10, d11⟩ := h9.m2.cB; have dl := h9.m2.lB; clear h9; go_simp
        refine wpAnyH_take (i := 6) (v := .int .i64 (k : Int)) rfl (by kernel_rfl) (by kernel_rfl) (by kernel_rfl) (fun _ _ _ h => h) (Or.inl ⟨by kernel_rfl, fun w9 h9 => ?_⟩) HSB.out ?_
        · go_simp
        refine held_one 3 (by kernel_rfl) rfl (by kernel_rfl) fun K hK => ?_
        go_simp
        go_wp2_with (go_at_call 13; refine Calls.mono (HL1.out _) ?_; rintro e u99 ⟨rfl, hw1⟩; rw [hw1]; clear hw1 u99)
        refine hK _ _ HSB.out ?_
        clear hK K
        refine held_one 7 (by kernel_rfl) rfl (by kernel_rfl) fun K hK => ?_
        go_simp
        go_wp2_with (go_at_call 13; refine Calls.mono (HL2.out _) ?_; rintro e u99 ⟨rfl, hw1⟩; rw [hw1]; clear hw1 u99)
        refine hK _ _ HSB.out ?_
        clear hK K
        refine wpAnyH_take (i := 8) (v := .bool true) rfl (by kernel_rfl) (by kernel_rfl) (by kernel_rfl) (fun _ _ _ h => h) (Or.inl ⟨by kernel_rfl, fun w9 h9 => ?_⟩) HSB.out ?_
        · go_simp
        refine wpAnyH_done (by kernel_rfl) ?_ _
        go_simp
        go_upto_region 9 with fail
        have HSB2 : Hid (DX w wr.drew.drew A B C m p a b q) := HSB.out.step (bdn (Below.refl _ _) 1)
        refine AnyE.start (fun w9 => DX w w9 A B C m p a b q) [6] (by kernel_rfl) ?_
        refine AnyE.take (i := 0) (v := .pointer (some ⟨C, 5, none⟩)) rfl (by kernel_rfl) (by kernel_rfl) (by kernel_rfl) (by kernel_rfl) (by kernel_rfl) (fun _ _ _ h => h) (Or.inl ⟨by kernel_rfl, fun w9 h9 => ?_⟩) HSB2.out ?_
        · go_simp
        refine AnyE.take (i := 1) (v := .string q) rfl (by kernel_rfl) (by kernel_rfl) (by kernel_rfl) (by kernel_rfl) (by kernel_rfl) (fun _ _ _ h => h) (Or.inl ⟨by kernel_rfl, fun w9 h9 => ?_⟩) HSB2.out ?_
        · obtain ⟨c0, c1, c2, c3, c4, c5, c6, c7, c8, c9, c10, c11⟩ := h9.cC; have cl := h9.lC; clear h9; go_simp
        refine AnyE.take (i := 2) (v := .int .i64 (k : Int)) rfl (by kernel_rfl) (by kernel_rfl) (by kernel_rfl) (by kernel_rfl) (by kernel_rfl) (fun _ _ _ h => h) (Or.inl ⟨by kernel_rfl, fun w9 h9 => ?_⟩) HSB2.out ?_
        · go_simp
        refine AnyE.one 3 (by kernel_rfl) rfl (by kernel_rfl) fun K hK => ?_
        go_simp
        go_wp2_with (go_at_call 15; refine Calls.mono (HZE.out _) ?_; rintro e u5 ⟨rfl, hb⟩; have HD5 : Hid (DX w u5 A B C m p a b q) := HSB2.out.step hb; clear hb)
        refine hK _ _ (fun _ => HD5.out) ?_
        clear hK K
        refine AnyE.one 4 (by kernel_rfl) rfl (by kernel_rfl) fun K hK => ?_
        go_simp
        go_wp2_with (go_at_call 14; refine Calls.mono (HSF.out _) ?_; rintro e u6 ⟨rfl, qn, rfl⟩; have HDS : Hid (DX w (u5.drewN qn) A B C m p a b q) := HD5.out.step (bdn (Below.refl _ _) qn))
        refine hK _ _ (fun _ => HDS.out) ?_
        clear hK K
        refine AnyE.take (i := 5) (v := .pointer (some ⟨C, 5, none⟩)) rfl (by kernel_rfl) (by kernel_rfl) (by kernel_rfl) (by kernel_rfl) (by kernel_rfl) (fun _ _ _ h => h) (Or.inl ⟨by kernel_rfl, fun w9 h9 => ?_⟩) HDS.out ?_
        · go_simp
        obtain ⟨c0, c1, c2, c3, c4, c5, c6, c7, c8, c9, c10, c11⟩ := HDS.out.cC
        have cl := HDS.out.lC
        have cf := HDS.out.fz 5
        refine AnyE.one 6 (by kernel_rfl) rfl (by kernel_rfl) fun K hK => ?_
        go_simp
        skip
        refine hK _ _ (fun h => absurd (by decide) h) ?_
        clear hK K
        refine AnyE.done (by kernel_rfl) ?_ _
        go_simp
        go_wp2
        go_roundw
        case rel => exact ⟨k + 1, hlt, by go_num, by rw [HE.out]; exact HDS.out.set q2⟩
        case measure => simp [intOf]; omega
      · have HE : Hid (zdN m.mem p.mem (k + 1) = q) := HOFF.out hxy
        have hne := str_neM hxy
        clear HON HOFF hxy
        go_upto_region 8 with fail
        refine wp_region_held (S := fun w9 => DX w w9 A B C m p a b q) (by kernel_rfl) ?_
        change wpAnyH _ _ _ _ _ _ _ _ (World.drew _)
        refine wpAnyH_take (i := 0) (v := .pointer (some ⟨A, 5, none⟩)) rfl (by kernel_rfl) (by kernel_rfl) (by kernel_rfl) (fun _ _ _ h => h) (Or.inl ⟨by kernel_rfl, fun w9 h9 => ?_⟩) HSB.out ?_
        · go_simp
        refine wpAnyH_take (i := 1) (v := .string m.mem) rfl (by kernel_rfl) (by kernel_rfl) (by kernel_rfl) (fun _ _ _ h => h) (Or.inl ⟨by kernel_rfl, fun w9 h9 => ?_⟩) HSB.out ?_
        · obtain ⟨c0, c1, c2, c3, c4, c5, c6, c7, c8, c9, c10, c11⟩ := h9.m2.cA; have cl := h9.m2.lA; obtain ⟨d0, d1, d2, d3, d4, d5, d6, d7, d8, d9, d10, d11⟩ := h9.m2.cB; have dl := h9.m2.lB; clear h9; go_simp
        refine wpAnyH_take (i := 2) (v := .int .i64 (k : Int)) rfl (by kernel_rfl) (by kernel_rfl) (by kernel_rfl) (fun _ _ _ h => h) (Or.inl ⟨by kernel_rfl, fun w9 h9 => ?_⟩) HSB.out ?_
        · go_simp
        refine wpAnyH_take (i := 4) (v := .pointer (some ⟨B, 5, none⟩)) rfl (by kernel_rfl) (by kernel_rfl) (by kernel_rfl) (fun _ _ _ h => h) (Or.inl ⟨by kernel_rfl, fun w9 h9 => ?_⟩) HSB.out ?_
        · go_simp
        refine wpAnyH_take (i := 5) (v := .string p.mem) rfl (by kernel_rfl) (by kernel_rfl) (by kernel_rfl) (fun _ _ _ h => h) (Or.inl ⟨by kernel_rfl, fun w9 h9 => ?_⟩) HSB.out ?_
        · obtain ⟨c0, c1, c2, c3, c4, c5, c6, c7, c8, c9, c10, c11⟩ := h9.m2.cA; have cl := h9.m2.lA; obtain ⟨d0, d1, d2, d3, d4, d5, d6, d7, d8, d9, d10, d11⟩ := h9.m2.cB; have dl := h9.m2.lB; clear h9; go_simp
        refine wpAnyH_take (i := 6) (v := .int .i64 (k : Int)) rfl (by kernel_rfl) (by kernel_rfl) (by kernel_rfl) (fun _ _ _ h => h) (Or.inl ⟨by kernel_rfl, fun w9 h9 => ?_⟩) HSB.out ?_
        · go_simp
        refine held_one 3 (by kernel_rfl) rfl (by kernel_rfl) fun K hK => ?_
        go_simp
        go_wp2_with (go_at_call 13; refine Calls.mono (HL1.out _) ?_; rintro e u99 ⟨rfl, hw1⟩; rw [hw1]; clear hw1 u99)
        refine hK _ _ HSB.out ?_
        clear hK K
        refine held_one 7 (by kernel_rfl) rfl (by kernel_rfl) fun K hK => ?_
        go_simp
        go_wp2_with (go_at_call 13; refine Calls.mono (HL2.out _) ?_; rintro e u99 ⟨rfl, hw1⟩; rw [hw1]; clear hw1 u99)
        refine hK _ _ HSB.out ?_
        clear hK K
        refine wpAnyH_take (i := 8) (v := .bool false) rfl (by kernel_rfl) (by kernel_rfl) (by kernel_rfl) (fun _ _ _ h => h) (Or.inl ⟨by kernel_rfl, fun w9 h9 => ?_⟩) HSB.out ?_
        · go_simp
        refine wpAnyH_done (by kernel_rfl) ?_ _
        go_simp
        go_wp2
        go_roundw
        case rel => exact ⟨k + 1, hlt, by go_num, by rw [HE.out]; exact HSB.out⟩
        case measure => simp [intOf]; omega
    · obtain rfl : k = n := by omega
      have hk1 : ¬ (k : Int) < (k : Int) := by omega
      have HLC : Hid (MLen (dcM m p k)) := (show MLen _ from ⟨lb.r, lb.c, lb.v, lb.i, lb.o, by show (zdN m.mem p.mem k).size ≤ _; rw [zdN_size HOP.out.sz k (Nat.le_refl _)]; have := HOM.out.n2; omega⟩)
      have HPM : Hid (∀ u, DX w u A B C m p a b (zdN m.mem p.mem k) → Calls Try.prog 16 #[.agg #[.int .i64 p.pc, .slice b.ar p.rs.length b.cr, .int .i64 p.md, .slice b.ac p.cs.length b.cc, .slice b.av p.vs.length b.cv, .string (zdN m.mem p.mem k), .int .i64 p.st, .int .i64 p.ct, .int .i64 p.ln, .slice b.ai p.is.length b.ci, .slice b.ao p.os.length b.co, .int .i64 p.tr]] u fun e w' => e = .returned (.string (pmV (dcM m p k))) ∧ Below u.heap.size u w') := fun u h => specPM_any (m := dcM m p k) (a := b) (h.rC HRB.out) HLC.out
      have HDO : Hid (doO m p k = if pmV (dcM m p k) = ⟨#[]⟩ then ⟨#[]⟩ else if 65536 < (doT m p k).size then ⟨#[]⟩ else doT m p k) := (show _ = _ from rfl)
      have HDT : Hid (doT m p k = vd1 ++ pw (mixv m.mem 62) ++ sB (dfB m.mem p.mem) ((k + 7) / 8) k ++ pmV (dcM m p k)) := (show _ = _ from rfl)
      have HMI : Hid (∀ u, Calls Try.prog 18 #[.string m.mem, .int .i64 62] u fun e w' => e = .returned (.int .i64 (mixv m.mem 62)) ∧ w' = u) := fun u => specMix_any m.mem 62 u (by have := HOM.out.sz; have := HOM.out.n2; omega)
      have HPW : Hid (∀ u, Calls Try.prog 17 #[.int .i64 (mixv m.mem 62)] u fun e w' => e = .returned (.string (pw (mixv m.mem 62))) ∧ Below u.heap.size u w') := fun u => specPutWord_any _ u
      have HLS : Hid (∀ u, Calls Try.prog 19 #[.string m.mem, .string p.mem] u fun e w' => e = .returned (.string (sB (dfB m.mem p.mem) ((k + 7) / 8) k)) ∧ Below u.heap.size u w') := fun u => l20Set_any m.mem p.mem k u HOM.out.sz HOP.out.sz HOM.out.n2
      have s1 := pw_sz (mixv m.mem 62)
      have s2 : (sB (dfB m.mem p.mem) ((k + 7) / 8) k).size ≤ 32 := by rw [sB_size _ _ _ (by omega)]; have := HOM.out.n2; omega
      have s3 := pmV_size (dcM m p k)
      unfold vd1 at HDT
      generalize mixv m.mem 62 = M at *
      generalize pw M = q1 at *
      generalize sB (dfB m.mem p.mem) ((k + 7) / 8) k = q2 at *
      generalize pmV (dcM m p k) = PP at *
      generalize hq0 : zdN m.mem p.mem k = q at *
      clear hq0 HLC
      obtain ⟨c0, c1, c2, c3, c4, c5, c6, c7, c8, c9, c10, c11⟩ := HD.out.cC
      have cl := HD.out.lC
      by_cases hp : PP = ⟨#[]⟩
      · have HR : Hid (doV m p = ⟨#[]⟩) := (show _ = _ by rw [E.out, HDO.out, if_pos hp])
        subst hp
        go_wp2_with (go_at_call 16; refine Calls.mono (HPM.out _ HD.out) ?_; rintro e u4 ⟨rfl, hb⟩; have HD4 : Hid (DX w u4 A B C m p a b q) := HD.out.step hb; clear hb)
        go_ret
        exact ⟨ret_str HR.out.symm, by first | exact HD4.out.m2.bel | (rw [← HA0.out]; exact HD4.out.m2.bel)⟩
      · have hpe : (PP.toList == []) = false := by have h9 := str_neM hp; rw [ByteArray.toList_eq (⟨#[]⟩)] at h9; exact h9
        rw [if_neg hp] at HDO
        have hadd1 := fun w => run_string_add_sum (P := Try.prog) w ({ data := #[86, 68, 49, 10] } : ByteArray) q1 (by show 4 + q1.size ≤ _; omega)
        obtain ⟨A1, hA1⟩ : ∃ A1, ({ data := #[86, 68, 49, 10] } : ByteArray) ++ q1 = A1 := ⟨_, rfl⟩
        have z1 : A1.size ≤ 8 := by rw [← hA1, ByteArray.size_append]; show 4 + q1.size ≤ _; omega
        rw [hA1] at hadd1 HDT
        have hadd2 := fun w => run_string_add_sum (P := Try.prog) w A1 q2 (by omega)
        obtain ⟨A2, hA2⟩ : ∃ A2, A1 ++ q2 = A2 := ⟨_, rfl⟩
        have z2 : A2.size ≤ 40 := by rw [← hA2, ByteArray.size_append]; omega
        rw [hA2] at hadd2 HDT
        have hadd3 := fun w => run_string_add_sum (P := Try.prog) w A2 PP (by omega)
        obtain ⟨A3, hA3⟩ : ∃ A3, A2 ++ PP = A3 := ⟨_, rfl⟩
        have z3 : (A3.size : Int) ≤ 70000 := by rw [← hA3, ByteArray.size_append]; omega
        rw [hA3] at hadd3 HDT
        rw [HDT.out] at HDO
        clear hA1 hA2 hA3 z1 z2 s1 s2 s3 HDT hp
        go_upto_region 13 with (go_at_call 16; refine Calls.mono (HPM.out _ HD.out) ?_; rintro e u4 ⟨rfl, hb⟩; have HD4 : Hid (DX w u4 A B C m p a b q) := HD.out.step hb; clear hb)
        clear c0 c1 c2 c3 c4 c5 c6 c7 c8 c9 c10 c11 cl HPM HD
        have HSB : Hid (DX w u4.drew A B C m p a b q) := HD4.out.step (bdn (Below.refl _ _) 1)
        refine wp_region_held (S := fun w9 => DX w w9 A B C m p a b q) (by kernel_rfl) ?_
        change wpAnyH _ _ _ _ _ _ _ _ (World.drew _)
        refine wpAnyH_take (i := 0) (v := .pointer (some ⟨A, 5, none⟩)) rfl (by kernel_rfl) (by kernel_rfl) (by kernel_rfl) (fun _ _ _ h => h) (Or.inl ⟨by kernel_rfl, fun w9 h9 => ?_⟩) HSB.out ?_
        · go_simp
        refine wpAnyH_take (i := 1) (v := .string m.mem) rfl (by kernel_rfl) (by kernel_rfl) (by kernel_rfl) (fun _ _ _ h => h) (Or.inl ⟨by kernel_rfl, fun w9 h9 => ?_⟩) HSB.out ?_
        · obtain ⟨c0, c1, c2, c3, c4, c5, c6, c7, c8, c9, c10, c11⟩ := h9.m2.cA; have cl := h9.m2.lA; obtain ⟨d0, d1, d2, d3, d4, d5, d6, d7, d8, d9, d10, d11⟩ := h9.m2.cB; have dl := h9.m2.lB; clear h9; go_simp
        refine wpAnyH_take (i := 5) (v := .pointer (some ⟨A, 5, none⟩)) rfl (by kernel_rfl) (by kernel_rfl) (by kernel_rfl) (fun _ _ _ h => h) (Or.inl ⟨by kernel_rfl, fun w9 h9 => ?_⟩) HSB.out ?_
        · go_simp
        refine wpAnyH_take (i := 6) (v := .string m.mem) rfl (by kernel_rfl) (by kernel_rfl) (by kernel_rfl) (fun _ _ _ h => h) (Or.inl ⟨by kernel_rfl, fun w9 h9 => ?_⟩) HSB.out ?_
        · obtain ⟨c0, c1, c2, c3, c4, c5, c6, c7, c8, c9, c10, c11⟩ := h9.m2.cA; have cl := h9.m2.lA; obtain ⟨d0, d1, d2, d3, d4, d5, d6, d7, d8, d9, d10, d11⟩ := h9.m2.cB; have dl := h9.m2.lB; clear h9; go_simp
        refine wpAnyH_take (i := 7) (v := .pointer (some ⟨B, 5, none⟩)) rfl (by kernel_rfl) (by kernel_rfl) (by kernel_rfl) (fun _ _ _ h => h) (Or.inl ⟨by kernel_rfl, fun w9 h9 => ?_⟩) HSB.out ?_
        · go_simp
        refine wpAnyH_take (i := 8) (v := .string p.mem) rfl (by kernel_rfl) (by kernel_rfl) (by kernel_rfl) (fun _ _ _ h => h) (Or.inl ⟨by kernel_rfl, fun w9 h9 => ?_⟩) HSB.out ?_
        · obtain ⟨c0, c1, c2, c3, c4, c5, c6, c7, c8, c9, c10, c11⟩ := h9.m2.cA; have cl := h9.m2.lA; obtain ⟨d0, d1, d2, d3, d4, d5, d6, d7, d8, d9, d10, d11⟩ := h9.m2.cB; have dl := h9.m2.lB; clear h9; go_simp
        refine wpAnyH_take (i := 11) (v := .string PP) rfl (by kernel_rfl) (by kernel_rfl) (by kernel_rfl) (fun _ _ _ h => h) (Or.inl ⟨by kernel_rfl, fun w9 h9 => ?_⟩) HSB.out ?_
        · go_simp
        refine held_one 2 (by kernel_rfl) rfl (by kernel_rfl) fun K hK => ?_
        go_simp
        go_wp2_with (go_at_call 18; refine Calls.mono (HMI.out _) ?_; rintro e u99 ⟨rfl, hw1⟩; rw [hw1]; clear hw1 u99)
        refine hK _ _ HSB.out ?_
        clear hK K
        refine held_one 3 (by kernel_rfl) rfl (by kernel_rfl) fun K hK => ?_
        go_simp
        go_wp2_with (go_at_call 17; refine Calls.mono (HPW.out _) ?_; rintro e u5 ⟨rfl, hb⟩; have HD5 : Hid (DX w u5 A B C m p a b q) := HSB.out.step hb; clear hb)
        refine hK _ _ HD5.out ?_
        clear hK K
        refine wpAnyH_take (i := 4) (v := .string A1) rfl (by kernel_rfl) (by kernel_rfl) (by kernel_rfl) (fun _ _ _ h => h) (Or.inl ⟨by kernel_rfl, fun w9 h9 => ?_⟩) HD5.out ?_
        · go_simp
        refine held_one 9 (by kernel_rfl) rfl (by kernel_rfl) fun K hK => ?_
        go_simp
        go_wp2_with (go_at_call 19; refine Calls.mono (HLS.out _) ?_; rintro e u6 ⟨rfl, hb⟩; have HD6 : Hid (DX w u6 A B C m p a b q) := HD5.out.step hb; clear hb)
        refine hK _ _ HD6.out ?_
        clear hK K
        refine wpAnyH_take (i := 10) (v := .string A2) rfl (by kernel_rfl) (by kernel_rfl) (by kernel_rfl) (fun _ _ _ h => h) (Or.inl ⟨by kernel_rfl, fun w9 h9 => ?_⟩) HD6.out ?_
        · go_simp
        refine wpAnyH_take (i := 12) (v := .string A3) rfl (by kernel_rfl) (by kernel_rfl) (by kernel_rfl) (fun _ _ _ h => h) (Or.inl ⟨by kernel_rfl, fun w9 h9 => ?_⟩) HD6.out ?_
        · go_simp
        refine wpAnyH_take (i := 13) (v := .string A3) rfl (by kernel_rfl) (by kernel_rfl) (by kernel_rfl) (fun _ _ _ h => h) (Or.inl ⟨by kernel_rfl, fun w9 h9 => ?_⟩) HD6.out ?_
        · go_simp
        refine wpAnyH_done (by kernel_rfl) ?_ _
        go_simp
        by_cases hle : 65536 < A3.size
        · have hdl : decide (65536 < (A3.size : Int)) = true := decide_eq_true (by omega)
          have HR : Hid (doV m p = ⟨#[]⟩) := (show _ = _ by rw [E.out, HDO.out, if_pos hle])
          go_wp2
          go_ret
          exact ⟨ret_str HR.out.symm, by first | exact HD6.out.m2.bel | (rw [← HA0.out]; exact HD6.out.m2.bel)⟩
        · have hdl : decide (65536 < (A3.size : Int)) = false := decide_eq_false (by omega)
          have HR : Hid (doV m p = A3) := (show _ = _ by rw [E.out, HDO.out, if_neg hle])
          go_wp2
          go_ret
          exact ⟨ret_str HR.out.symm, by first | exact HD6.out.m2.bel | (rw [← HA0.out]; exact HD6.out.m2.bel)⟩

theorem held_two {P : Program} {md : Region.Mode} {ops : Array Oper} {Q : Exit → Act → World → Prop} {S : World → Prop} {fuel : Nat} {listed : Array Bool} {a : Act} {w : World} (i j : Nat) {o o2 : Oper} (hr : Region.ready md ops listed = [i, j]) (ho : ops[i]? = some o) (ho2 : ops[j]? = some o2)
    (hw : Region.wanted o (yielded ops a.tmps) = true) (hw2 : Region.wanted o2 (yielded ops a.tmps) = true) (h : ∀ K : Act → World → Prop, (∀ a' w', S w' → wpAnyH P md ops Q S fuel (listed.setIfInBounds i true) a' w' → K a' w') → o.wp P a w K Q) (h2 : ∀ K : Act → World → Prop, (∀ a' w', S w' → wpAnyH P md ops Q S fuel (listed.setIfInBounds j true) a' w' → K a' w') → o2.wp P a w K Q) : wpAnyH P md ops Q S (fuel + 1) listed a w :=
  wpAnyH_all hr (by simp) (all_two (held_step ho hw h) (held_step ho2 hw2 h2))
theorem all_thr {p : Nat → Prop} {i j l : Nat} (h1 : p i) (h2 : p j) (h3 : p l) : ∀ k ∈ [i, j, l], p k := by
  intro k hk
  rcases List.mem_cons.1 hk with rfl | hk
  · exact h1
  · exact all_two h2 h3 k hk
theorem held_thr {P : Program} {md : Region.Mode} {ops : Array Oper} {Q : Exit → Act → World → Prop} {S : World → Prop} {fuel : Nat} {listed : Array Bool} {a : Act} {w : World} (i j l : Nat) {o o2 o3 : Oper} (hr : Region.ready md ops listed = [i, j, l]) (ho : ops[i]? = some o) (ho2 : ops[j]? = some o2) (ho3 : ops[l]? = some o3)
    (hw : Region.wanted o (yielded ops a.tmps) = true) (hw2 : Region.wanted o2 (yielded ops a.tmps) = true) (hw3 : Region.wanted o3 (yielded ops a.tmps) = true) (h : ∀ K : Act → World → Prop, (∀ a' w', S w' → wpAnyH P md ops Q S fuel (listed.setIfInBounds i true) a' w' → K a' w') → o.wp P a w K Q) (h2 : ∀ K : Act → World → Prop, (∀ a' w', S w' → wpAnyH P md ops Q S fuel (listed.setIfInBounds j true) a' w' → K a' w') → o2.wp P a w K Q) (h3 : ∀ K : Act → World → Prop, (∀ a' w', S w' → wpAnyH P md ops Q S fuel (listed.setIfInBounds l true) a' w' → K a' w') → o3.wp P a w K Q) : wpAnyH P md ops Q S (fuel + 1) listed a w :=
  wpAnyH_all hr (by simp) (all_thr (held_step ho hw h) (held_step ho2 hw2 h2) (held_step ho3 hw3 h3))
theorem M2.set {w u : World} {A B C : Nat} {m p : MV} {a b : MA} (h : M2 w u A B m p a b) (v : Value) (g : w.heap.size ≤ C) (hA : A < C) (hB : B < C) : M2 w (u.setCell ⟨C, 0, none⟩ v) A B m p a b :=
  ⟨h.bel.setCell g _, (Below.heap_setCell _ _ _ _ (by simp only; omega)).trans h.bA, (Below.heap_setCell _ _ _ _ (by simp only; omega)).trans h.bB⟩
/-- Two memories read, and where their slices lie. -/
structure DQ (w u : World) (A B C5 C6 bs bt n : Nat) (m p : MV) (a b : MA) (s t : ByteArray) : Prop where
  m2 : M2 w u A B m p a b
  k5 : u.heap[C5]? = some (.cells #[.slice (some ⟨bs, 0, none⟩) n n] 48 (0, 0))
  k6 : u.heap[C6]? = some (.cells #[.slice (some ⟨bt, 0, none⟩) n n] 48 (0, 0))
  ms : MemAt u bs s
  mt : MemAt u bt t
  gt : w.heap.size ≤ bt
  bst : bs ≠ bt
theorem DQ.make {w X : World} {A B C5 C6 bs bt n : Nat} {m p : MV} {a b : MA} {s t : ByteArray} (h : M2 w X A B m p a b) (h5 : X.heap[C5]? = some (.cells #[.slice none 0 0] 48 (0, 0))) (h6 : X.heap[C6]? = some (.cells #[.slice none 0 0] 48 (0, 0))) (hs : MemAt X bs s) (ht : MemAt X bt t) (g5 : w.heap.size ≤ C5) (g6 : w.heap.size ≤ C6) (gt : w.heap.size ≤ bt) (n56 : C5 ≠ C6) (nst : bs ≠ bt) (a5 : A < C5 ∧ B < C5) (a6 : A < C6 ∧ B < C6) :
    DQ w ((X.setCell ⟨C5, 0, none⟩ (.slice (some ⟨bs, 0, none⟩) n n)).setCell ⟨C6, 0, none⟩ (.slice (some ⟨bt, 0, none⟩) n n)) A B C5 C6 bs bt n m p a b s t := by
  have tn : (48 : Nat) ≠ 52 := by decide
  have f : ∀ (C x : Nat) (q : ByteArray), X.heap[C]? = some (.cells #[.slice none 0 0] 48 (0, 0)) → MemAt X x q → x ≠ C := fun C x q h1 h2 e => by
    subst e
    unfold MemAt at h2
    rw [h1] at h2
    injection h2 with e1
    injection e1 with _ e2
    exact tn e2
  have e5 := f C5 bs s h5 hs
  have e6 := f C6 bs s h6 hs
  have e7 := f C5 bt t h5 ht
  have e8 := f C6 bt t h6 ht
  refine ⟨(h.set _ g5 a5.1 a5.2).set _ g6 a6.1 a6.2, ?_, ?_, ?_, ?_, gt, nst⟩
  · refine (Below.heap_setCell _ _ _ _ (by simpa using n56)).trans ?_
    simp [World.setCell, Array.getElem?_modify, h5]
  · have h7 : (X.setCell ⟨C5, 0, none⟩ (.slice (some ⟨bs, 0, none⟩) n n)).heap[C6]? = some (.cells #[.slice none 0 0] 48 (0, 0)) := (Below.heap_setCell _ _ _ _ (by simpa using n56.symm)).trans h6
    simp [World.setCell, Array.getElem?_modify] at h7 ⊢
    simp [h7]
  · exact (Below.heap_setCell _ _ _ _ (by simpa using e6)).trans ((Below.heap_setCell _ _ _ _ (by simpa using e5)).trans hs)
  · exact (Below.heap_setCell _ _ _ _ (by simpa using e8)).trans ((Below.heap_setCell _ _ _ _ (by simpa using e7)).trans ht)
theorem DQ.setT {w u : World} {A B C5 C6 bs bt n : Nat} {m p : MV} {a b : MA} {s t : ByteArray} (h : DQ w u A B C5 C6 bs bt n m p a b s t) (t' : ByteArray) : DQ w (u.setRow bt (mcel t')) A B C5 C6 bs bt n m p a b s t' := by
  have f : ∀ (C T : Nat) (cs : Array Value), u.heap[C]? = some (.cells cs T (0, 0)) → T ≠ 52 → C ≠ bt := fun C T cs h1 hT e => by
    subst e
    have h2 := h.mt
    unfold MemAt at h2
    rw [h1] at h2
    injection h2 with e1
    injection e1 with _ e2
    exact hT e2
  have hA := f A _ _ h.m2.bA (by decide)
  have hB := f B _ _ h.m2.bB (by decide)
  have h5 := f C5 _ _ h.k5 (by decide)
  have h6 := f C6 _ _ h.k6 (by decide)
  exact ⟨⟨below_setRow h.m2.bel h.gt _, (setRow_other _ _ _ _ hA).trans h.m2.bA, (setRow_other _ _ _ _ hB).trans h.m2.bB⟩, (setRow_other _ _ _ _ h5).trans h.k5, (setRow_other _ _ _ _ h6).trans h.k6, (setRow_other _ _ _ _ h.bst).trans h.ms, setRow_heap _ _ _ _ _ _ h.mt, h.gt, h.bst⟩
theorem DQ.step {w u u' : World} {A B C5 C6 bs bt n : Nat} {m p : MV} {a b : MA} {s t : ByteArray} (h : DQ w u A B C5 C6 bs bt n m p a b s t) (hb : Below u.heap.size u u') : DQ w u' A B C5 C6 bs bt n m p a b s t :=
  ⟨h.m2.step hb, (hb.block _ (Array.getElem?_eq_some_iff.1 h.k5).1).trans h.k5, (hb.block _ (Array.getElem?_eq_some_iff.1 h.k6).1).trans h.k6, h.ms.below hb h.ms.lt, h.mt.below hb h.mt.lt, h.gt, h.bst⟩
theorem DQ.c5 {w u : World} {A B C5 C6 bs bt n : Nat} {m p : MV} {a b : MA} {s t : ByteArray} (h : DQ w u A B C5 C6 bs bt n m p a b s t) : u.cell? ⟨C5, 0, none⟩ = some (.slice (some ⟨bs, 0, none⟩) n n) := by simp [World.cell?, h.k5]
theorem DQ.c6 {w u : World} {A B C5 C6 bs bt n : Nat} {m p : MV} {a b : MA} {s t : ByteArray} (h : DQ w u A B C5 C6 bs bt n m p a b s t) : u.cell? ⟨C6, 0, none⟩ = some (.slice (some ⟨bt, 0, none⟩) n n) := by simp [World.cell?, h.k6]
theorem M2.setB {w u : World} {A B : Nat} {m p : MV} {a b : MA} (h : M2 w u A B m p a b) (q : ByteArray) (g : w.heap.size ≤ B) (hAB : A ≠ B) : M2 w (u.setCell ⟨B, 5, none⟩ (.string q)) A B m { p with mem := q } a b := by
  refine ⟨h.bel.setCell g _, (Below.heap_setCell _ _ _ _ (by simpa using hAB)).trans h.bA, ?_⟩
  have h2 := h.bB
  unfold mC at h2 ⊢
  simp [World.setCell, Array.getElem?_modify, h2]
theorem M2.fB {w u : World} {A B : Nat} {m p : MV} {a b : MA} (h : M2 w u A B m p a b) (k : Nat) : u.frozen? ⟨B, k, none⟩ = false := by simp [World.frozen?, h.bB]
theorem joined4 (u : World) (a b c d : ByteArray) (hz : a.size + b.size + c.size + d.size ≤ 1099511627776) : Calls Try.prog 29 #[.slice (some ⟨u.heap.size, 0, none⟩) 4 4] (u.alloc (.cells #[.string a, .string b, .string c, .string d] 9)) fun e w' => e = .returned (.string (a ++ b ++ c ++ d)) ∧ Below u.heap.size u w' := by
  have e : (⟨(catB [a, b, c, d]).toArray⟩ : ByteArray) = a ++ b ++ c ++ d := ba_of _ _ (by simp [catB])
  rw [← e]
  refine (joined_any u.heap.size 4 4 [a, b, c, d] _ rfl (by simp) ?_ (by omega) ?_).mono ?_
  · intro i hi
    match i, hi with
    | 0, _ => simp
    | 1, _ => simp
    | 2, _ => simp
    | 3, _ => simp
  · simp [catB]
    omega
  · rintro e w' ⟨rfl, hb⟩
    exact ⟨rfl, (bx1 u _).trans (hb.mono (by simp))⟩
set_option maxRecDepth 100000 in
set_option maxHeartbeats 8000000 in
theorem implDO_any {w : World} {m p : MV} {a b : MA} (ha : MRows w m a) (hb : MRows w p b) (la : MLen m) (lb : MLen p) : Calls Try.prog 7 #[.agg (mC m a), .agg (mC p b)] w fun e w' => e = .returned (.string (doV m p)) ∧ Below w.heap.size w w' := by
  have HRA : Hid (MRows w m a) := ha
  have HRB : Hid (MRows w p b) := hb
  have HX : Hid (M2 w ((w.alloc (.cells #[.int .i64 m.pc, .slice a.ar m.rs.length a.cr, .int .i64 m.md, .slice a.ac m.cs.length a.cc, .slice a.av m.vs.length a.cv, .string m.mem, .int .i64 m.st, .int .i64 m.ct, .int .i64 m.ln, .slice a.ai m.is.length a.ci, .slice a.ao m.os.length a.co, .int .i64 m.tr] 30)).alloc (.cells #[.int .i64 p.pc, .slice b.ar p.rs.length b.cr, .int .i64 p.md, .slice b.ac p.cs.length b.cc, .slice b.av p.vs.length b.cv, .string p.mem, .int .i64 p.st, .int .i64 p.ct, .int .i64 p.ln, .slice b.ai p.is.length b.ci, .slice b.ao p.os.length b.co, .int .i64 p.tr] 30)) w.heap.size (w.heap.size + 1) m p a b) := M2.new w m p a b
  have HFA : Hid (∀ A B u, M2 w u A B m p a b → Calls Try.prog 22 #[.agg #[.int .i64 m.pc, .slice a.ar m.rs.length a.cr, .int .i64 m.md, .slice a.ac m.cs.length a.cc, .slice a.av m.vs.length a.cv, .string m.mem, .int .i64 m.st, .int .i64 m.ct, .int .i64 m.ln, .slice a.ai m.is.length a.ci, .slice a.ao m.os.length a.co, .int .i64 m.tr]] u fun e w' => e = .returned (.int .i64 (mfC m)) ∧ Below u.heap.size u w') := fun _ _ u h => implMF_any (HRA.out.below h.bel) la
  have HFB : Hid (∀ A B u, M2 w u A B m p a b → Calls Try.prog 22 #[.agg #[.int .i64 p.pc, .slice b.ar p.rs.length b.cr, .int .i64 p.md, .slice b.ac p.cs.length b.cc, .slice b.av p.vs.length b.cv, .string p.mem, .int .i64 p.st, .int .i64 p.ct, .int .i64 p.ln, .slice b.ai p.is.length b.ci, .slice b.ao p.os.length b.co, .int .i64 p.tr]] u fun e w' => e = .returned (.int .i64 (mfC p)) ∧ Below u.heap.size u w') := fun _ _ u h => implMF_any (HRB.out.below h.bel) lb
  clear ha hb
  by_cases h1 : mfC m = 0
  rotate_left
  · have E : Hid (doV m p = ⟨#[]⟩) := (show doV m p = _ by unfold doV; rw [if_neg (fun h => h1 h.1)])
    rw [mf_one h1] at HFA
    clear h1
    unfold mC
    go_enter Try.func7, Try.ntmps7
    go_upto_region 1 with fail
    generalize ((w.alloc (.cells #[.int .i64 m.pc, .slice a.ar m.rs.length a.cr, .int .i64 m.md, .slice a.ac m.cs.length a.cc, .slice a.av m.vs.length a.cv, .string m.mem, .int .i64 m.st, .int .i64 m.ct, .int .i64 m.ln, .slice a.ai m.is.length a.ci, .slice a.ao m.os.length a.co, .int .i64 m.tr] 30)).alloc (.cells #[.int .i64 p.pc, .slice b.ar p.rs.length b.cr, .int .i64 p.md, .slice b.ac p.cs.length b.cc, .slice b.av p.vs.length b.cv, .string p.mem, .int .i64 p.st, .int .i64 p.ct, .int .i64 p.ln, .slice b.ai p.is.length b.ci, .slice b.ao p.os.length b.co, .int .i64 p.tr] 30)) = u0 at *
    obtain ⟨c0, c1, c2, c3, c4, c5, c6, c7, c8, c9, c10, c11⟩ := HX.out.cA
    have cl := HX.out.lA
    go_wp2_with (go_at_call 22; refine Calls.mono (HFA.out _ _ _ HX.out) ?_; rintro e u1 ⟨rfl, hb⟩; have HX1 : Hid (M2 w u1 w.heap.size (w.heap.size + 1) m p a b) := HX.out.step hb; clear hb)
    go_ret
    exact ⟨ret_str E.out.symm, HX1.out.bel⟩
  rw [h1] at HFA
  by_cases h2 : mfC p = 0
  rotate_left
  · have E : Hid (doV m p = ⟨#[]⟩) := (show doV m p = _ by unfold doV; rw [if_neg (fun h => h2 h.2.1)])
    rw [mf_one h2] at HFB
    clear h1 h2
    unfold mC
    go_enter Try.func7, Try.ntmps7
    go_upto_region 1 with fail
    generalize ((w.alloc (.cells #[.int .i64 m.pc, .slice a.ar m.rs.length a.cr, .int .i64 m.md, .slice a.ac m.cs.length a.cc, .slice a.av m.vs.length a.cv, .string m.mem, .int .i64 m.st, .int .i64 m.ct, .int .i64 m.ln, .slice a.ai m.is.length a.ci, .slice a.ao m.os.length a.co, .int .i64 m.tr] 30)).alloc (.cells #[.int .i64 p.pc, .slice b.ar p.rs.length b.cr, .int .i64 p.md, .slice b.ac p.cs.length b.cc, .slice b.av p.vs.length b.cv, .string p.mem, .int .i64 p.st, .int .i64 p.ct, .int .i64 p.ln, .slice b.ai p.is.length b.ci, .slice b.ao p.os.length b.co, .int .i64 p.tr] 30)) = u0 at *
    obtain ⟨c0, c1, c2, c3, c4, c5, c6, c7, c8, c9, c10, c11⟩ := HX.out.cA
    have cl := HX.out.lA
    go_wp2_with fail
    refine Calls.mono (HFA.out _ _ _ HX.out) ?_
    rintro e u1 ⟨rfl, hb⟩
    have HX1 : Hid (M2 w u1 w.heap.size (w.heap.size + 1) m p a b) := HX.out.step hb
    clear hb c0 c1 c2 c3 c4 c5 c6 c7 c8 c9 c10 c11 cl
    obtain ⟨c0, c1, c2, c3, c4, c5, c6, c7, c8, c9, c10, c11⟩ := HX1.out.cB
    have cl := HX1.out.lB
    go_wp2_with fail
    refine Calls.mono (HFB.out _ _ _ HX1.out) ?_
    rintro e u2 ⟨rfl, hb⟩
    have HX2 : Hid (M2 w u2 w.heap.size (w.heap.size + 1) m p a b) := HX1.out.step hb
    clear hb
    go_wp2
    go_ret
    exact ⟨ret_str E.out.symm, HX2.out.bel⟩
  rw [h2] at HFB
  unfold mC
  go_enter Try.func7, Try.ntmps7
  go_upto_region 1 with fail
  generalize ((w.alloc (.cells #[.int .i64 m.pc, .slice a.ar m.rs.length a.cr, .int .i64 m.md, .slice a.ac m.cs.length a.cc, .slice a.av m.vs.length a.cv, .string m.mem, .int .i64 m.st, .int .i64 m.ct, .int .i64 m.ln, .slice a.ai m.is.length a.ci, .slice a.ao m.os.length a.co, .int .i64 m.tr] 30)).alloc (.cells #[.int .i64 p.pc, .slice b.ar p.rs.length b.cr, .int .i64 p.md, .slice b.ac p.cs.length b.cc, .slice b.av p.vs.length b.cv, .string p.mem, .int .i64 p.st, .int .i64 p.ct, .int .i64 p.ln, .slice b.ai p.is.length b.ci, .slice b.ao p.os.length b.co, .int .i64 p.tr] 30)) = u0 at *
  obtain ⟨B, hB⟩ : ∃ B, w.heap.size + 1 = B := ⟨_, rfl⟩
  obtain ⟨A, hA⟩ : ∃ A, w.heap.size = A := ⟨_, rfl⟩
  have HX0 : Hid (M2 w u0 A B m p a b) := (by rw [← hA, ← hB]; exact HX.out)
  rw [hB, hA]
  have HA0 : Hid (w.heap.size = A) := hA
  have HAB : Hid (A < B) := (show A < B by omega)
  clear hA hB HX
  obtain ⟨c0, c1, c2, c3, c4, c5, c6, c7, c8, c9, c10, c11⟩ := HX0.out.cA
  have cl := HX0.out.lA
  go_wp2_with fail
  refine Calls.mono (HFA.out _ _ _ HX0.out) ?_
  rintro e u1 ⟨rfl, hb⟩
  have HX1 : Hid (M2 w u1 A B m p a b) := HX0.out.step hb
  clear hb c0 c1 c2 c3 c4 c5 c6 c7 c8 c9 c10 c11 cl
  obtain ⟨d0, d1, d2, d3, d4, d5, d6, d7, d8, d9, d10, d11⟩ := HX1.out.cB
  have dl := HX1.out.lB
  go_wp2_with fail
  refine Calls.mono (HFB.out _ _ _ HX1.out) ?_
  rintro e u2 ⟨rfl, hb⟩
  have HX2 : Hid (M2 w u2 A B m p a b) := HX1.out.step hb
  clear hb d0 d1 d2 d3 d4 d5 d6 d7 d8 d9 d10 d11 dl HX0 HX1 HFA HFB
  obtain ⟨c0, c1, c2, c3, c4, c5, c6, c7, c8, c9, c10, c11⟩ := HX2.out.cA
  have cl := HX2.out.lA
  obtain ⟨d0, d1, d2, d3, d4, d5, d6, d7, d8, d9, d10, d11⟩ := HX2.out.cB
  have dl := HX2.out.lB
  by_cases h3 : m.mem.size = p.mem.size
  rotate_left
  · have E : Hid (doV m p = ⟨#[]⟩) := (show doV m p = _ by unfold doV; rw [if_neg (fun h => h3 h.2.2)])
    have hne : ((m.mem.size : Int) == (p.mem.size : Int)) = false := by simp; omega
    clear h1 h2 h3
    go_wp2
    go_ret
    exact ⟨ret_str E.out.symm, by first | exact HX2.out.bel | (rw [← HA0.out]; exact HX2.out.bel)⟩
  have E : Hid (doV m p = doO m p (m.mem.size / 256)) := (show doV m p = _ by unfold doV; rw [if_pos ⟨h1, h2, h3⟩])
  have hok := MOk.of h1
  have hok2 := MOk.of h2
  rw [← h3] at hok2
  generalize m.mem.size / 256 = n at *
  have HOM : Hid (MOk m n) := hok
  have HOP : Hid (MOk p n) := hok2
  have heq : ((m.mem.size : Int) == (p.mem.size : Int)) = true := by simp; omega
  have HR2 : Hid (∀ u, Calls Try.prog 23 #[.string m.mem] u fun e w' => e = .returned (.slice (some ⟨u.heap.size, 0, none⟩) n n) ∧ MemAt w' u.heap.size m.mem ∧ Below u.heap.size u w' ∧ w'.heap.size = u.heap.size + 1) := fun u => readMemory_any m.mem n u HOM.out.sz HOM.out.n2
  have HR5 : Hid (∀ u, Calls Try.prog 23 #[.string p.mem] u fun e w' => e = .returned (.slice (some ⟨u.heap.size, 0, none⟩) n n) ∧ MemAt w' u.heap.size p.mem ∧ Below u.heap.size u w' ∧ w'.heap.size = u.heap.size + 1) := fun u => readMemory_any p.mem n u HOP.out.sz HOP.out.n2
  clear h1 h2 h3 hok hok2
  go_upto_region 3 with fail
  clear c0 c1 c2 c3 c4 c5 c6 c7 c8 c9 c10 c11 cl d0 d1 d2 d3 d4 d5 d6 d7 d8 d9 d10 d11 dl heq
  go_cut [5, 6] (fun s5 s6 wc => ∃ C5 C6 bs bt : Nat, s5 = .pointer (some ⟨C5, 0, none⟩) ∧ s6 = .pointer (some ⟨C6, 0, none⟩) ∧ DQ w wc A B C5 C6 bs bt n m p a b m.mem p.mem)
  case first =>
    refine wp_region_held (S := fun w9 => M2 w w9 A B m p a b) (by kernel_rfl) ?_
    change wpAnyH _ _ _ _ _ _ _ _ (World.drew _)
    have HM_x0 : Hid (M2 w u2.drew A B m p a b) := HX2.out.step (bdn (Below.refl _ _) 1)
    generalize u2.drew = x0 at *
    refine wpAnyH_take (i := 0) (v := .pointer (some ⟨A, 5, none⟩)) rfl (by kernel_rfl) (by kernel_rfl) (by kernel_rfl) (fun _ _ _ h => h) (Or.inl ⟨by kernel_rfl, fun w9 h9 => ?_⟩) HM_x0.out ?_
    · clear h9; go_simp
    refine wpAnyH_take (i := 1) (v := .string m.mem) rfl (by kernel_rfl) (by kernel_rfl) (by kernel_rfl) (fun _ _ _ h => h) (Or.inl ⟨by kernel_rfl, fun w9 h9 => ?_⟩) HM_x0.out ?_
    · obtain ⟨c0, c1, c2, c3, c4, c5, c6, c7, c8, c9, c10, c11⟩ := h9.cA; have cl := h9.lA; clear h9; go_simp
    refine wpAnyH_take (i := 3) (v := .pointer (some ⟨B, 5, none⟩)) rfl (by kernel_rfl) (by kernel_rfl) (by kernel_rfl) (fun _ _ _ h => h) (Or.inl ⟨by kernel_rfl, fun w9 h9 => ?_⟩) HM_x0.out ?_
    · clear h9; go_simp
    refine wpAnyH_take (i := 4) (v := .string p.mem) rfl (by kernel_rfl) (by kernel_rfl) (by kernel_rfl) (fun _ _ _ h => h) (Or.inl ⟨by kernel_rfl, fun w9 h9 => ?_⟩) HM_x0.out ?_
    · obtain ⟨c0, c1, c2, c3, c4, c5, c6, c7, c8, c9, c10, c11⟩ := h9.cB; have cl := h9.lB; clear h9; go_simp
    refine held_thr 2 6 7 (by kernel_rfl) rfl rfl rfl (by kernel_rfl) (by kernel_rfl) (by kernel_rfl) (fun K hK => ?_) (fun K hK => ?_) (fun K hK => ?_)
    · skip
      go_simp
      go_wp2_with (go_at_call 23; refine Calls.mono (HR2.out x0) ?_; rintro e x1 ⟨rfl, hat, hbl, hsz⟩; have HM_x1 : Hid (M2 w x1 A B m p a b) := HM_x0.out.step hbl; have HNW : Hid (MemAt x1 x0.heap.size m.mem) := hat; have HGB : Hid (w.heap.size ≤ x0.heap.size) := HM_x0.out.bel.size; clear hat hbl hsz)
      refine hK _ _ HM_x1.out ?_
      clear hK K
      generalize x0.heap.size = bs at *
      have HF2_x1 : Hid (MemAt x1 bs m.mem) := HNW.out
      have HGE2 : Hid (w.heap.size ≤ bs) := HGB.out
      clear HNW HGB
      refine held_thr 5 6 7 (by kernel_rfl) rfl rfl rfl (by kernel_rfl) (by kernel_rfl) (by kernel_rfl) (fun K hK => ?_) (fun K hK => ?_) (fun K hK => ?_)
      · skip
        go_simp
        go_wp2_with (go_at_call 23; refine Calls.mono (HR5.out x1) ?_; rintro e x2 ⟨rfl, hat, hbl, hsz⟩; have HM_x2 : Hid (M2 w x2 A B m p a b) := HM_x1.out.step hbl; have HF2_x2 : Hid (MemAt x2 bs m.mem) := HF2_x1.out.below hbl HF2_x1.out.lt; have HNW : Hid (MemAt x2 x1.heap.size p.mem) := hat; have HGB : Hid (w.heap.size ≤ x1.heap.size) := HM_x1.out.bel.size; have HST : Hid (bs ≠ x1.heap.size) := (show _ ≠ _ by have := HF2_x1.out.lt; omega); clear hat hbl hsz)
        refine hK _ _ HM_x2.out ?_
        clear hK K
        generalize x1.heap.size = bt at *
        have HF5_x2 : Hid (MemAt x2 bt p.mem) := HNW.out
        have HGE5 : Hid (w.heap.size ≤ bt) := HGB.out
        clear HNW HGB
        refine held_two 6 7 (by kernel_rfl) rfl rfl (by kernel_rfl) (by kernel_rfl) (fun K hK => ?_) (fun K hK => ?_)
        · skip
          have HB : Hid (Below x2.heap.size x2 (x2.alloc (.cells #[.slice none 0 0] 48))) := bx1 _ _
          have HNW : Hid ((x2.alloc (.cells #[.slice none 0 0] 48)).heap[x2.heap.size]? = some (.cells #[.slice none 0 0] 48 (0, 0))) := heap_new _ _
          go_simp
          obtain ⟨x3, hx3⟩ : ∃ y, (x2.alloc (.cells #[.slice none 0 0] 48)) = y := ⟨_, rfl⟩
          rw [hx3] at HB HNW
          have HM_x3 : Hid (M2 w x3 A B m p a b) := HM_x2.out.step HB.out
          have HF2_x3 : Hid (MemAt x3 bs m.mem) := HF2_x2.out.below HB.out HF2_x2.out.lt
          have HF5_x3 : Hid (MemAt x3 bt p.mem) := HF5_x2.out.below HB.out HF5_x2.out.lt
          have HG6 : Hid (w.heap.size ≤ x2.heap.size ∧ A < x2.heap.size ∧ B < x2.heap.size) := ⟨HM_x2.out.bel.size, HM_x2.out.lA, HM_x2.out.lB⟩
          rw [hx3]
          refine hK _ _ HM_x3.out ?_
          clear hK K hx3
          generalize x2.heap.size = C5 at *
          have HF6_x3 : Hid (x3.heap[C5]? = some (.cells #[.slice none 0 0] 48 (0, 0))) := HNW.out
          clear HNW HB
          refine held_one 7 (by kernel_rfl) rfl (by kernel_rfl) fun K hK => ?_
          have HB : Hid (Below x3.heap.size x3 (x3.alloc (.cells #[.slice none 0 0] 48))) := bx1 _ _
          have HNW : Hid ((x3.alloc (.cells #[.slice none 0 0] 48)).heap[x3.heap.size]? = some (.cells #[.slice none 0 0] 48 (0, 0))) := heap_new _ _
          go_simp
          obtain ⟨x4, hx4⟩ : ∃ y, (x3.alloc (.cells #[.slice none 0 0] 48)) = y := ⟨_, rfl⟩
          rw [hx4] at HB HNW
          have HM_x4 : Hid (M2 w x4 A B m p a b) := HM_x3.out.step HB.out
          have HF2_x4 : Hid (MemAt x4 bs m.mem) := HF2_x3.out.below HB.out HF2_x3.out.lt
          have HF5_x4 : Hid (MemAt x4 bt p.mem) := HF5_x3.out.below HB.out HF5_x3.out.lt
          have HF6_x4 : Hid (x4.heap[C5]? = some (.cells #[.slice none 0 0] 48 (0, 0))) := (HB.out.block _ (Array.getElem?_eq_some_iff.1 HF6_x3.out).1).trans HF6_x3.out
          have HG7 : Hid (w.heap.size ≤ x3.heap.size ∧ A < x3.heap.size ∧ B < x3.heap.size) := ⟨HM_x3.out.bel.size, HM_x3.out.lA, HM_x3.out.lB⟩
          have HN56 : Hid (C5 ≠ x3.heap.size) := (show _ ≠ _ by have := (Array.getElem?_eq_some_iff.1 HF6_x3.out).1; omega)
          rw [hx4]
          refine hK _ _ HM_x4.out ?_
          clear hK K hx4
          generalize x3.heap.size = C6 at *
          have HF7_x4 : Hid (x4.heap[C6]? = some (.cells #[.slice none 0 0] 48 (0, 0))) := HNW.out
          clear HNW HB
          have HDQ : Hid (DQ w ((x4.setCell ⟨C5, 0, none⟩ (.slice (some ⟨bs, 0, none⟩) n n)).setCell ⟨C6, 0, none⟩ (.slice (some ⟨bt, 0, none⟩) n n)) A B C5 C6 bs bt n m p a b m.mem p.mem) := DQ.make HM_x4.out HF6_x4.out HF7_x4.out HF2_x4.out HF5_x4.out HG6.out.1 HG7.out.1 HGE5.out HN56.out HST.out HG6.out.2 HG7.out.2
          have HMS : Hid (M2 w (x4.setCell ⟨C5, 0, none⟩ (.slice (some ⟨bs, 0, none⟩) n n)) A B m p a b) := HM_x4.out.set _ HG6.out.1 HG6.out.2.1 HG6.out.2.2
          have e50 : x4.cell? ⟨C5, 0, none⟩ = some (.slice none 0 0) := by simp [World.cell?, HF6_x4.out]
          have e5f : x4.frozen? ⟨C5, 0, none⟩ = false := by simp [World.frozen?, HF6_x4.out]
          have e60 : (x4.setCell ⟨C5, 0, none⟩ (.slice (some ⟨bs, 0, none⟩) n n)).cell? ⟨C6, 0, none⟩ = some (.slice none 0 0) := (World.cell?_of_block (Below.heap_setCell _ _ _ _ (by have := HN56.out; simp; omega))).trans (by simp [World.cell?, HF7_x4.out])
          have e6f : (x4.setCell ⟨C5, 0, none⟩ (.slice (some ⟨bs, 0, none⟩) n n)).frozen? ⟨C6, 0, none⟩ = false := by have e9 : (x4.setCell ⟨C5, 0, none⟩ (.slice (some ⟨bs, 0, none⟩) n n)).heap[C6]? = some (.cells #[.slice none 0 0] 48 (0, 0)) := (Below.heap_setCell _ _ _ _ (by have := HN56.out; simp; omega)).trans HF7_x4.out; simp [World.frozen?, e9]
          refine held_one 8 (by kernel_rfl) rfl (by kernel_rfl) fun K hK => ?_
          go_simp
          refine hK _ _ HMS.out ?_
          clear hK K e50 e5f
          generalize hY : (x4.setCell ⟨C5, 0, none⟩ (.slice (some ⟨bs, 0, none⟩) n n)) = Y at *
          refine held_one 9 (by kernel_rfl) rfl (by kernel_rfl) fun K hK => ?_
          go_simp
          refine hK _ _ HDQ.out.m2 ?_
          clear hK K e60 e6f
          refine wpAnyH_done (by kernel_rfl) ?_ _
          go_simp
          go_wp2
          go_meet
          case rel => exact ⟨C5, C6, bs, bt, rfl, rfl, HDQ.out⟩
        · skip
          have HB : Hid (Below x2.heap.size x2 (x2.alloc (.cells #[.slice none 0 0] 48))) := bx1 _ _
          have HNW : Hid ((x2.alloc (.cells #[.slice none 0 0] 48)).heap[x2.heap.size]? = some (.cells #[.slice none 0 0] 48 (0, 0))) := heap_new _ _
          go_simp
          obtain ⟨x3, hx3⟩ : ∃ y, (x2.alloc (.cells #[.slice none 0 0] 48)) = y := ⟨_, rfl⟩
          rw [hx3] at HB HNW
          have HM_x3 : Hid (M2 w x3 A B m p a b) := HM_x2.out.step HB.out
          have HF2_x3 : Hid (MemAt x3 bs m.mem) := HF2_x2.out.below HB.out HF2_x2.out.lt
          have HF5_x3 : Hid (MemAt x3 bt p.mem) := HF5_x2.out.below HB.out HF5_x2.out.lt
          have HG7 : Hid (w.heap.size ≤ x2.heap.size ∧ A < x2.heap.size ∧ B < x2.heap.size) := ⟨HM_x2.out.bel.size, HM_x2.out.lA, HM_x2.out.lB⟩
          rw [hx3]
          refine hK _ _ HM_x3.out ?_
          clear hK K hx3
          generalize x2.heap.size = C6 at *
          have HF7_x3 : Hid (x3.heap[C6]? = some (.cells #[.slice none 0 0] 48 (0, 0))) := HNW.out
          clear HNW HB
          refine held_one 6 (by kernel_rfl) rfl (by kernel_rfl) fun K hK => ?_
          have HB : Hid (Below x3.heap.size x3 (x3.alloc (.cells #[.slice none 0 0] 48))) := bx1 _ _
          have HNW : Hid ((x3.alloc (.cells #[.slice none 0 0] 48)).heap[x3.heap.size]? = some (.cells #[.slice none 0 0] 48 (0, 0))) := heap_new _ _
          go_simp
          obtain ⟨x4, hx4⟩ : ∃ y, (x3.alloc (.cells #[.slice none 0 0] 48)) = y := ⟨_, rfl⟩
          rw [hx4] at HB HNW
          have HM_x4 : Hid (M2 w x4 A B m p a b) := HM_x3.out.step HB.out
          have HF2_x4 : Hid (MemAt x4 bs m.mem) := HF2_x3.out.below HB.out HF2_x3.out.lt
          have HF5_x4 : Hid (MemAt x4 bt p.mem) := HF5_x3.out.below HB.out HF5_x3.out.lt
          have HF7_x4 : Hid (x4.heap[C6]? = some (.cells #[.slice none 0 0] 48 (0, 0))) := (HB.out.block _ (Array.getElem?_eq_some_iff.1 HF7_x3.out).1).trans HF7_x3.out
          have HG6 : Hid (w.heap.size ≤ x3.heap.size ∧ A < x3.heap.size ∧ B < x3.heap.size) := ⟨HM_x3.out.bel.size, HM_x3.out.lA, HM_x3.out.lB⟩
          have HN56 : Hid (C6 ≠ x3.heap.size) := (show _ ≠ _ by have := (Array.getElem?_eq_some_iff.1 HF7_x3.out).1; omega)
          rw [hx4]
          refine hK _ _ HM_x4.out ?_
          clear hK K hx4
          generalize x3.heap.size = C5 at *
          have HF6_x4 : Hid (x4.heap[C5]? = some (.cells #[.slice none 0 0] 48 (0, 0))) := HNW.out
          clear HNW HB
          have HDQ : Hid (DQ w ((x4.setCell ⟨C5, 0, none⟩ (.slice (some ⟨bs, 0, none⟩) n n)).setCell ⟨C6, 0, none⟩ (.slice (some ⟨bt, 0, none⟩) n n)) A B C5 C6 bs bt n m p a b m.mem p.mem) := DQ.make HM_x4.out HF6_x4.out HF7_x4.out HF2_x4.out HF5_x4.out HG6.out.1 HG7.out.1 HGE5.out HN56.out.symm HST.out HG6.out.2 HG7.out.2
          have HMS : Hid (M2 w (x4.setCell ⟨C5, 0, none⟩ (.slice (some ⟨bs, 0, none⟩) n n)) A B m p a b) := HM_x4.out.set _ HG6.out.1 HG6.out.2.1 HG6.out.2.2
          have e50 : x4.cell? ⟨C5, 0, none⟩ = some (.slice none 0 0) := by simp [World.cell?, HF6_x4.out]
          have e5f : x4.frozen? ⟨C5, 0, none⟩ = false := by simp [World.frozen?, HF6_x4.out]
          have e60 : (x4.setCell ⟨C5, 0, none⟩ (.slice (some ⟨bs, 0, none⟩) n n)).cell? ⟨C6, 0, none⟩ = some (.slice none 0 0) := (World.cell?_of_block (Below.heap_setCell _ _ _ _ (by have := HN56.out.symm; simp; omega))).trans (by simp [World.cell?, HF7_x4.out])
          have e6f : (x4.setCell ⟨C5, 0, none⟩ (.slice (some ⟨bs, 0, none⟩) n n)).frozen? ⟨C6, 0, none⟩ = false := by have e9 : (x4.setCell ⟨C5, 0, none⟩ (.slice (some ⟨bs, 0, none⟩) n n)).heap[C6]? = some (.cells #[.slice none 0 0] 48 (0, 0)) := (Below.heap_setCell _ _ _ _ (by have := HN56.out.symm; simp; omega)).trans HF7_x4.out; simp [World.frozen?, e9]
          refine held_one 8 (by kernel_rfl) rfl (by kernel_rfl) fun K hK => ?_
          go_simp
          refine hK _ _ HMS.out ?_
          clear hK K e50 e5f
          generalize hY : (x4.setCell ⟨C5, 0, none⟩ (.slice (some ⟨bs, 0, none⟩) n n)) = Y at *
          refine held_one 9 (by kernel_rfl) rfl (by kernel_rfl) fun K hK => ?_
          go_simp
          refine hK _ _ HDQ.out.m2 ?_
          clear hK K e60 e6f
          refine wpAnyH_done (by kernel_rfl) ?_ _
          go_simp
          go_wp2
          go_meet
          case rel => exact ⟨C5, C6, bs, bt, rfl, rfl, HDQ.out⟩
      · skip
        have HB : Hid (Below x1.heap.size x1 (x1.alloc (.cells #[.slice none 0 0] 48))) := bx1 _ _
        have HNW : Hid ((x1.alloc (.cells #[.slice none 0 0] 48)).heap[x1.heap.size]? = some (.cells #[.slice none 0 0] 48 (0, 0))) := heap_new _ _
        go_simp
        obtain ⟨x2, hx2⟩ : ∃ y, (x1.alloc (.cells #[.slice none 0 0] 48)) = y := ⟨_, rfl⟩
        rw [hx2] at HB HNW
        have HM_x2 : Hid (M2 w x2 A B m p a b) := HM_x1.out.step HB.out
        have HF2_x2 : Hid (MemAt x2 bs m.mem) := HF2_x1.out.below HB.out HF2_x1.out.lt
        have HG6 : Hid (w.heap.size ≤ x1.heap.size ∧ A < x1.heap.size ∧ B < x1.heap.size) := ⟨HM_x1.out.bel.size, HM_x1.out.lA, HM_x1.out.lB⟩
        rw [hx2]
        refine hK _ _ HM_x2.out ?_
        clear hK K hx2
        generalize x1.heap.size = C5 at *
        have HF6_x2 : Hid (x2.heap[C5]? = some (.cells #[.slice none 0 0] 48 (0, 0))) := HNW.out
        clear HNW HB
        refine held_two 5 7 (by kernel_rfl) rfl rfl (by kernel_rfl) (by kernel_rfl) (fun K hK => ?_) (fun K hK => ?_)
        · skip
          go_simp
          go_wp2_with (go_at_call 23; refine Calls.mono (HR5.out x2) ?_; rintro e x3 ⟨rfl, hat, hbl, hsz⟩; have HM_x3 : Hid (M2 w x3 A B m p a b) := HM_x2.out.step hbl; have HF2_x3 : Hid (MemAt x3 bs m.mem) := HF2_x2.out.below hbl HF2_x2.out.lt; have HF6_x3 : Hid (x3.heap[C5]? = some (.cells #[.slice none 0 0] 48 (0, 0))) := (hbl.block _ (Array.getElem?_eq_some_iff.1 HF6_x2.out).1).trans HF6_x2.out; have HNW : Hid (MemAt x3 x2.heap.size p.mem) := hat; have HGB : Hid (w.heap.size ≤ x2.heap.size) := HM_x2.out.bel.size; have HST : Hid (bs ≠ x2.heap.size) := (show _ ≠ _ by have := HF2_x2.out.lt; omega); clear hat hbl hsz)
          refine hK _ _ HM_x3.out ?_
          clear hK K
          generalize x2.heap.size = bt at *
          have HF5_x3 : Hid (MemAt x3 bt p.mem) := HNW.out
          have HGE5 : Hid (w.heap.size ≤ bt) := HGB.out
          clear HNW HGB
          refine held_one 7 (by kernel_rfl) rfl (by kernel_rfl) fun K hK => ?_
          have HB : Hid (Below x3.heap.size x3 (x3.alloc (.cells #[.slice none 0 0] 48))) := bx1 _ _
          have HNW : Hid ((x3.alloc (.cells #[.slice none 0 0] 48)).heap[x3.heap.size]? = some (.cells #[.slice none 0 0] 48 (0, 0))) := heap_new _ _
          go_simp
          obtain ⟨x4, hx4⟩ : ∃ y, (x3.alloc (.cells #[.slice none 0 0] 48)) = y := ⟨_, rfl⟩
          rw [hx4] at HB HNW
          have HM_x4 : Hid (M2 w x4 A B m p a b) := HM_x3.out.step HB.out
          have HF2_x4 : Hid (MemAt x4 bs m.mem) := HF2_x3.out.below HB.out HF2_x3.out.lt
          have HF6_x4 : Hid (x4.heap[C5]? = some (.cells #[.slice none 0 0] 48 (0, 0))) := (HB.out.block _ (Array.getElem?_eq_some_iff.1 HF6_x3.out).1).trans HF6_x3.out
          have HF5_x4 : Hid (MemAt x4 bt p.mem) := HF5_x3.out.below HB.out HF5_x3.out.lt
          have HG7 : Hid (w.heap.size ≤ x3.heap.size ∧ A < x3.heap.size ∧ B < x3.heap.size) := ⟨HM_x3.out.bel.size, HM_x3.out.lA, HM_x3.out.lB⟩
          have HN56 : Hid (C5 ≠ x3.heap.size) := (show _ ≠ _ by have := (Array.getElem?_eq_some_iff.1 HF6_x3.out).1; omega)
          rw [hx4]
          refine hK _ _ HM_x4.out ?_
          clear hK K hx4
          generalize x3.heap.size = C6 at *
          have HF7_x4 : Hid (x4.heap[C6]? = some (.cells #[.slice none 0 0] 48 (0, 0))) := HNW.out
          clear HNW HB
          have HDQ : Hid (DQ w ((x4.setCell ⟨C5, 0, none⟩ (.slice (some ⟨bs, 0, none⟩) n n)).setCell ⟨C6, 0, none⟩ (.slice (some ⟨bt, 0, none⟩) n n)) A B C5 C6 bs bt n m p a b m.mem p.mem) := DQ.make HM_x4.out HF6_x4.out HF7_x4.out HF2_x4.out HF5_x4.out HG6.out.1 HG7.out.1 HGE5.out HN56.out HST.out HG6.out.2 HG7.out.2
          have HMS : Hid (M2 w (x4.setCell ⟨C5, 0, none⟩ (.slice (some ⟨bs, 0, none⟩) n n)) A B m p a b) := HM_x4.out.set _ HG6.out.1 HG6.out.2.1 HG6.out.2.2
          have e50 : x4.cell? ⟨C5, 0, none⟩ = some (.slice none 0 0) := by simp [World.cell?, HF6_x4.out]
          have e5f : x4.frozen? ⟨C5, 0, none⟩ = false := by simp [World.frozen?, HF6_x4.out]
          have e60 : (x4.setCell ⟨C5, 0, none⟩ (.slice (some ⟨bs, 0, none⟩) n n)).cell? ⟨C6, 0, none⟩ = some (.slice none 0 0) := (World.cell?_of_block (Below.heap_setCell _ _ _ _ (by have := HN56.out; simp; omega))).trans (by simp [World.cell?, HF7_x4.out])
          have e6f : (x4.setCell ⟨C5, 0, none⟩ (.slice (some ⟨bs, 0, none⟩) n n)).frozen? ⟨C6, 0, none⟩ = false := by have e9 : (x4.setCell ⟨C5, 0, none⟩ (.slice (some ⟨bs, 0, none⟩) n n)).heap[C6]? = some (.cells #[.slice none 0 0] 48 (0, 0)) := (Below.heap_setCell _ _ _ _ (by have := HN56.out; simp; omega)).trans HF7_x4.out; simp [World.frozen?, e9]
          refine held_one 8 (by kernel_rfl) rfl (by kernel_rfl) fun K hK => ?_
          go_simp
          refine hK _ _ HMS.out ?_
          clear hK K e50 e5f
          generalize hY : (x4.setCell ⟨C5, 0, none⟩ (.slice (some ⟨bs, 0, none⟩) n n)) = Y at *
          refine held_one 9 (by kernel_rfl) rfl (by kernel_rfl) fun K hK => ?_
          go_simp
          refine hK _ _ HDQ.out.m2 ?_
          clear hK K e60 e6f
          refine wpAnyH_done (by kernel_rfl) ?_ _
          go_simp
          go_wp2
          go_meet
          case rel => exact ⟨C5, C6, bs, bt, rfl, rfl, HDQ.out⟩
        · skip
          have HB : Hid (Below x2.heap.size x2 (x2.alloc (.cells #[.slice none 0 0] 48))) := bx1 _ _
          have HNW : Hid ((x2.alloc (.cells #[.slice none 0 0] 48)).heap[x2.heap.size]? = some (.cells #[.slice none 0 0] 48 (0, 0))) := heap_new _ _
          go_simp
          obtain ⟨x3, hx3⟩ : ∃ y, (x2.alloc (.cells #[.slice none 0 0] 48)) = y := ⟨_, rfl⟩
          rw [hx3] at HB HNW
          have HM_x3 : Hid (M2 w x3 A B m p a b) := HM_x2.out.step HB.out
          have HF2_x3 : Hid (MemAt x3 bs m.mem) := HF2_x2.out.below HB.out HF2_x2.out.lt
          have HF6_x3 : Hid (x3.heap[C5]? = some (.cells #[.slice none 0 0] 48 (0, 0))) := (HB.out.block _ (Array.getElem?_eq_some_iff.1 HF6_x2.out).1).trans HF6_x2.out
          have HG7 : Hid (w.heap.size ≤ x2.heap.size ∧ A < x2.heap.size ∧ B < x2.heap.size) := ⟨HM_x2.out.bel.size, HM_x2.out.lA, HM_x2.out.lB⟩
          have HN56 : Hid (C5 ≠ x2.heap.size) := (show _ ≠ _ by have := (Array.getElem?_eq_some_iff.1 HF6_x2.out).1; omega)
          rw [hx3]
          refine hK _ _ HM_x3.out ?_
          clear hK K hx3
          generalize x2.heap.size = C6 at *
          have HF7_x3 : Hid (x3.heap[C6]? = some (.cells #[.slice none 0 0] 48 (0, 0))) := HNW.out
          clear HNW HB
          refine held_one 5 (by kernel_rfl) rfl (by kernel_rfl) fun K hK => ?_
          go_simp
          go_wp2_with (go_at_call 23; refine Calls.mono (HR5.out x3) ?_; rintro e x4 ⟨rfl, hat, hbl, hsz⟩; have HM_x4 : Hid (M2 w x4 A B m p a b) := HM_x3.out.step hbl; have HF2_x4 : Hid (MemAt x4 bs m.mem) := HF2_x3.out.below hbl HF2_x3.out.lt; have HF6_x4 : Hid (x4.heap[C5]? = some (.cells #[.slice none 0 0] 48 (0, 0))) := (hbl.block _ (Array.getElem?_eq_some_iff.1 HF6_x3.out).1).trans HF6_x3.out; have HF7_x4 : Hid (x4.heap[C6]? = some (.cells #[.slice none 0 0] 48 (0, 0))) := (hbl.block _ (Array.getElem?_eq_some_iff.1 HF7_x3.out).1).trans HF7_x3.out; have HNW : Hid (MemAt x4 x3.heap.size p.mem) := hat; have HGB : Hid (w.heap.size ≤ x3.heap.size) := HM_x3.out.bel.size; have HST : Hid (bs ≠ x3.heap.size) := (show _ ≠ _ by have := HF2_x3.out.lt; omega); clear hat hbl hsz)
          refine hK _ _ HM_x4.out ?_
          clear hK K
          generalize x3.heap.size = bt at *
          have HF5_x4 : Hid (MemAt x4 bt p.mem) := HNW.out
          have HGE5 : Hid (w.heap.size ≤ bt) := HGB.out
          clear HNW HGB
          have HDQ : Hid (DQ w ((x4.setCell ⟨C5, 0, none⟩ (.slice (some ⟨bs, 0, none⟩) n n)).setCell ⟨C6, 0, none⟩ (.slice (some ⟨bt, 0, none⟩) n n)) A B C5 C6 bs bt n m p a b m.mem p.mem) := DQ.make HM_x4.out HF6_x4.out HF7_x4.out HF2_x4.out HF5_x4.out HG6.out.1 HG7.out.1 HGE5.out HN56.out HST.out HG6.out.2 HG7.out.2
          have HMS : Hid (M2 w (x4.setCell ⟨C5, 0, none⟩ (.slice (some ⟨bs, 0, none⟩) n n)) A B m p a b) := HM_x4.out.set _ HG6.out.1 HG6.out.2.1 HG6.out.2.2
          have e50 : x4.cell? ⟨C5, 0, none⟩ = some (.slice none 0 0) := by simp [World.cell?, HF6_x4.out]
          have e5f : x4.frozen? ⟨C5, 0, none⟩ = false := by simp [World.frozen?, HF6_x4.out]
          have e60 : (x4.setCell ⟨C5, 0, none⟩ (.slice (some ⟨bs, 0, none⟩) n n)).cell? ⟨C6, 0, none⟩ = some (.slice none 0 0) := (World.cell?_of_block (Below.heap_setCell _ _ _ _ (by have := HN56.out; simp; omega))).trans (by simp [World.cell?, HF7_x4.out])
          have e6f : (x4.setCell ⟨C5, 0, none⟩ (.slice (some ⟨bs, 0, none⟩) n n)).frozen? ⟨C6, 0, none⟩ = false := by have e9 : (x4.setCell ⟨C5, 0, none⟩ (.slice (some ⟨bs, 0, none⟩) n n)).heap[C6]? = some (.cells #[.slice none 0 0] 48 (0, 0)) := (Below.heap_setCell _ _ _ _ (by have := HN56.out; simp; omega)).trans HF7_x4.out; simp [World.frozen?, e9]
          refine held_one 8 (by kernel_rfl) rfl (by kernel_rfl) fun K hK => ?_
          go_simp
          refine hK _ _ HMS.out ?_
          clear hK K e50 e5f
          generalize hY : (x4.setCell ⟨C5, 0, none⟩ (.slice (some ⟨bs, 0, none⟩) n n)) = Y at *
          refine held_one 9 (by kernel_rfl) rfl (by kernel_rfl) fun K hK => ?_
          go_simp
          refine hK _ _ HDQ.out.m2 ?_
          clear hK K e60 e6f
          refine wpAnyH_done (by kernel_rfl) ?_ _
          go_simp
          go_wp2
          go_meet
          case rel => exact ⟨C5, C6, bs, bt, rfl, rfl, HDQ.out⟩
      · skip
        have HB : Hid (Below x1.heap.size x1 (x1.alloc (.cells #[.slice none 0 0] 48))) := bx1 _ _
        have HNW : Hid ((x1.alloc (.cells #[.slice none 0 0] 48)).heap[x1.heap.size]? = some (.cells #[.slice none 0 0] 48 (0, 0))) := heap_new _ _
        go_simp
        obtain ⟨x2, hx2⟩ : ∃ y, (x1.alloc (.cells #[.slice none 0 0] 48)) = y := ⟨_, rfl⟩
        rw [hx2] at HB HNW
        have HM_x2 : Hid (M2 w x2 A B m p a b) := HM_x1.out.step HB.out
        have HF2_x2 : Hid (MemAt x2 bs m.mem) := HF2_x1.out.below HB.out HF2_x1.out.lt
        have HG7 : Hid (w.heap.size ≤ x1.heap.size ∧ A < x1.heap.size ∧ B < x1.heap.size) := ⟨HM_x1.out.bel.size, HM_x1.out.lA, HM_x1.out.lB⟩
        rw [hx2]
        refine hK _ _ HM_x2.out ?_
        clear hK K hx2
        generalize x1.heap.size = C6 at *
        have HF7_x2 : Hid (x2.heap[C6]? = some (.cells #[.slice none 0 0] 48 (0, 0))) := HNW.out
        clear HNW HB
        refine held_two 5 6 (by kernel_rfl) rfl rfl (by kernel_rfl) (by kernel_rfl) (fun K hK => ?_) (fun K hK => ?_)
        · skip
          go_simp
          go_wp2_with (go_at_call 23; refine Calls.mono (HR5.out x2) ?_; rintro e x3 ⟨rfl, hat, hbl, hsz⟩; have HM_x3 : Hid (M2 w x3 A B m p a b) := HM_x2.out.step hbl; have HF2_x3 : Hid (MemAt x3 bs m.mem) := HF2_x2.out.below hbl HF2_x2.out.lt; have HF7_x3 : Hid (x3.heap[C6]? = some (.cells #[.slice none 0 0] 48 (0, 0))) := (hbl.block _ (Array.getElem?_eq_some_iff.1 HF7_x2.out).1).trans HF7_x2.out; have HNW : Hid (MemAt x3 x2.heap.size p.mem) := hat; have HGB : Hid (w.heap.size ≤ x2.heap.size) := HM_x2.out.bel.size; have HST : Hid (bs ≠ x2.heap.size) := (show _ ≠ _ by have := HF2_x2.out.lt; omega); clear hat hbl hsz)
          refine hK _ _ HM_x3.out ?_
          clear hK K
          generalize x2.heap.size = bt at *
          have HF5_x3 : Hid (MemAt x3 bt p.mem) := HNW.out
          have HGE5 : Hid (w.heap.size ≤ bt) := HGB.out
          clear HNW HGB
          refine held_one 6 (by kernel_rfl) rfl (by kernel_rfl) fun K hK => ?_
          have HB : Hid (Below x3.heap.size x3 (x3.alloc (.cells #[.slice none 0 0] 48))) := bx1 _ _
          have HNW : Hid ((x3.alloc (.cells #[.slice none 0 0] 48)).heap[x3.heap.size]? = some (.cells #[.slice none 0 0] 48 (0, 0))) := heap_new _ _
          go_simp
          obtain ⟨x4, hx4⟩ : ∃ y, (x3.alloc (.cells #[.slice none 0 0] 48)) = y := ⟨_, rfl⟩
          rw [hx4] at HB HNW
          have HM_x4 : Hid (M2 w x4 A B m p a b) := HM_x3.out.step HB.out
          have HF2_x4 : Hid (MemAt x4 bs m.mem) := HF2_x3.out.below HB.out HF2_x3.out.lt
          have HF7_x4 : Hid (x4.heap[C6]? = some (.cells #[.slice none 0 0] 48 (0, 0))) := (HB.out.block _ (Array.getElem?_eq_some_iff.1 HF7_x3.out).1).trans HF7_x3.out
          have HF5_x4 : Hid (MemAt x4 bt p.mem) := HF5_x3.out.below HB.out HF5_x3.out.lt
          have HG6 : Hid (w.heap.size ≤ x3.heap.size ∧ A < x3.heap.size ∧ B < x3.heap.size) := ⟨HM_x3.out.bel.size, HM_x3.out.lA, HM_x3.out.lB⟩
          have HN56 : Hid (C6 ≠ x3.heap.size) := (show _ ≠ _ by have := (Array.getElem?_eq_some_iff.1 HF7_x3.out).1; omega)
          rw [hx4]
          refine hK _ _ HM_x4.out ?_
          clear hK K hx4
          generalize x3.heap.size = C5 at *
          have HF6_x4 : Hid (x4.heap[C5]? = some (.cells #[.slice none 0 0] 48 (0, 0))) := HNW.out
          clear HNW HB
          have HDQ : Hid (DQ w ((x4.setCell ⟨C5, 0, none⟩ (.slice (some ⟨bs, 0, none⟩) n n)).setCell ⟨C6, 0, none⟩ (.slice (some ⟨bt, 0, none⟩) n n)) A B C5 C6 bs bt n m p a b m.mem p.mem) := DQ.make HM_x4.out HF6_x4.out HF7_x4.out HF2_x4.out HF5_x4.out HG6.out.1 HG7.out.1 HGE5.out HN56.out.symm HST.out HG6.out.2 HG7.out.2
          have HMS : Hid (M2 w (x4.setCell ⟨C5, 0, none⟩ (.slice (some ⟨bs, 0, none⟩) n n)) A B m p a b) := HM_x4.out.set _ HG6.out.1 HG6.out.2.1 HG6.out.2.2
          have e50 : x4.cell? ⟨C5, 0, none⟩ = some (.slice none 0 0) := by simp [World.cell?, HF6_x4.out]
          have e5f : x4.frozen? ⟨C5, 0, none⟩ = false := by simp [World.frozen?, HF6_x4.out]
          have e60 : (x4.setCell ⟨C5, 0, none⟩ (.slice (some ⟨bs, 0, none⟩) n n)).cell? ⟨C6, 0, none⟩ = some (.slice none 0 0) := (World.cell?_of_block (Below.heap_setCell _ _ _ _ (by have := HN56.out.symm; simp; omega))).trans (by simp [World.cell?, HF7_x4.out])
          have e6f : (x4.setCell ⟨C5, 0, none⟩ (.slice (some ⟨bs, 0, none⟩) n n)).frozen? ⟨C6, 0, none⟩ = false := by have e9 : (x4.setCell ⟨C5, 0, none⟩ (.slice (some ⟨bs, 0, none⟩) n n)).heap[C6]? = some (.cells #[.slice none 0 0] 48 (0, 0)) := (Below.heap_setCell _ _ _ _ (by have := HN56.out.symm; simp; omega)).trans HF7_x4.out; simp [World.frozen?, e9]
          refine held_one 8 (by kernel_rfl) rfl (by kernel_rfl) fun K hK => ?_
          go_simp
          refine hK _ _ HMS.out ?_
          clear hK K e50 e5f
          generalize hY : (x4.setCell ⟨C5, 0, none⟩ (.slice (some ⟨bs, 0, none⟩) n n)) = Y at *
          refine held_one 9 (by kernel_rfl) rfl (by kernel_rfl) fun K hK => ?_
          go_simp
          refine hK _ _ HDQ.out.m2 ?_
          clear hK K e60 e6f
          refine wpAnyH_done (by kernel_rfl) ?_ _
          go_simp
          go_wp2
          go_meet
          case rel => exact ⟨C5, C6, bs, bt, rfl, rfl, HDQ.out⟩
        · skip
          have HB : Hid (Below x2.heap.size x2 (x2.alloc (.cells #[.slice none 0 0] 48))) := bx1 _ _
          have HNW : Hid ((x2.alloc (.cells #[.slice none 0 0] 48)).heap[x2.heap.size]? = some (.cells #[.slice none 0 0] 48 (0, 0))) := heap_new _ _
          go_simp
          obtain ⟨x3, hx3⟩ : ∃ y, (x2.alloc (.cells #[.slice none 0 0] 48)) = y := ⟨_, rfl⟩
          rw [hx3] at HB HNW
          have HM_x3 : Hid (M2 w x3 A B m p a b) := HM_x2.out.step HB.out
          have HF2_x3 : Hid (MemAt x3 bs m.mem) := HF2_x2.out.below HB.out HF2_x2.out.lt
          have HF7_x3 : Hid (x3.heap[C6]? = some (.cells #[.slice none 0 0] 48 (0, 0))) := (HB.out.block _ (Array.getElem?_eq_some_iff.1 HF7_x2.out).1).trans HF7_x2.out
          have HG6 : Hid (w.heap.size ≤ x2.heap.size ∧ A < x2.heap.size ∧ B < x2.heap.size) := ⟨HM_x2.out.bel.size, HM_x2.out.lA, HM_x2.out.lB⟩
          have HN56 : Hid (C6 ≠ x2.heap.size) := (show _ ≠ _ by have := (Array.getElem?_eq_some_iff.1 HF7_x2.out).1; omega)
          rw [hx3]
          refine hK _ _ HM_x3.out ?_
          clear hK K hx3
          generalize x2.heap.size = C5 at *
          have HF6_x3 : Hid (x3.heap[C5]? = some (.cells #[.slice none 0 0] 48 (0, 0))) := HNW.out
          clear HNW HB
          refine held_one 5 (by kernel_rfl) rfl (by kernel_rfl) fun K hK => ?_
          go_simp
          go_wp2_with (go_at_call 23; refine Calls.mono (HR5.out x3) ?_; rintro e x4 ⟨rfl, hat, hbl, hsz⟩; have HM_x4 : Hid (M2 w x4 A B m p a b) := HM_x3.out.step hbl; have HF2_x4 : Hid (MemAt x4 bs m.mem) := HF2_x3.out.below hbl HF2_x3.out.lt; have HF7_x4 : Hid (x4.heap[C6]? = some (.cells #[.slice none 0 0] 48 (0, 0))) := (hbl.block _ (Array.getElem?_eq_some_iff.1 HF7_x3.out).1).trans HF7_x3.out; have HF6_x4 : Hid (x4.heap[C5]? = some (.cells #[.slice none 0 0] 48 (0, 0))) := (hbl.block _ (Array.getElem?_eq_some_iff.1 HF6_x3.out).1).trans HF6_x3.out; have HNW : Hid (MemAt x4 x3.heap.size p.mem) := hat; have HGB : Hid (w.heap.size ≤ x3.heap.size) := HM_x3.out.bel.size; have HST : Hid (bs ≠ x3.heap.size) := (show _ ≠ _ by have := HF2_x3.out.lt; omega); clear hat hbl hsz)
          refine hK _ _ HM_x4.out ?_
          clear hK K
          generalize x3.heap.size = bt at *
          have HF5_x4 : Hid (MemAt x4 bt p.mem) := HNW.out
          have HGE5 : Hid (w.heap.size ≤ bt) := HGB.out
          clear HNW HGB
          have HDQ : Hid (DQ w ((x4.setCell ⟨C5, 0, none⟩ (.slice (some ⟨bs, 0, none⟩) n n)).setCell ⟨C6, 0, none⟩ (.slice (some ⟨bt, 0, none⟩) n n)) A B C5 C6 bs bt n m p a b m.mem p.mem) := DQ.make HM_x4.out HF6_x4.out HF7_x4.out HF2_x4.out HF5_x4.out HG6.out.1 HG7.out.1 HGE5.out HN56.out.symm HST.out HG6.out.2 HG7.out.2
          have HMS : Hid (M2 w (x4.setCell ⟨C5, 0, none⟩ (.slice (some ⟨bs, 0, none⟩) n n)) A B m p a b) := HM_x4.out.set _ HG6.out.1 HG6.out.2.1 HG6.out.2.2
          have e50 : x4.cell? ⟨C5, 0, none⟩ = some (.slice none 0 0) := by simp [World.cell?, HF6_x4.out]
          have e5f : x4.frozen? ⟨C5, 0, none⟩ = false := by simp [World.frozen?, HF6_x4.out]
          have e60 : (x4.setCell ⟨C5, 0, none⟩ (.slice (some ⟨bs, 0, none⟩) n n)).cell? ⟨C6, 0, none⟩ = some (.slice none 0 0) := (World.cell?_of_block (Below.heap_setCell _ _ _ _ (by have := HN56.out.symm; simp; omega))).trans (by simp [World.cell?, HF7_x4.out])
          have e6f : (x4.setCell ⟨C5, 0, none⟩ (.slice (some ⟨bs, 0, none⟩) n n)).frozen? ⟨C6, 0, none⟩ = false := by have e9 : (x4.setCell ⟨C5, 0, none⟩ (.slice (some ⟨bs, 0, none⟩) n n)).heap[C6]? = some (.cells #[.slice none 0 0] 48 (0, 0)) := (Below.heap_setCell _ _ _ _ (by have := HN56.out.symm; simp; omega)).trans HF7_x4.out; simp [World.frozen?, e9]
          refine held_one 8 (by kernel_rfl) rfl (by kernel_rfl) fun K hK => ?_
          go_simp
          refine hK _ _ HMS.out ?_
          clear hK K e50 e5f
          generalize hY : (x4.setCell ⟨C5, 0, none⟩ (.slice (some ⟨bs, 0, none⟩) n n)) = Y at *
          refine held_one 9 (by kernel_rfl) rfl (by kernel_rfl) fun K hK => ?_
          go_simp
          refine hK _ _ HDQ.out.m2 ?_
          clear hK K e60 e6f
          refine wpAnyH_done (by kernel_rfl) ?_ _
          go_simp
          go_wp2
          go_meet
          case rel => exact ⟨C5, C6, bs, bt, rfl, rfl, HDQ.out⟩
    · skip
      have HB : Hid (Below x0.heap.size x0 (x0.alloc (.cells #[.slice none 0 0] 48))) := bx1 _ _
      have HNW : Hid ((x0.alloc (.cells #[.slice none 0 0] 48)).heap[x0.heap.size]? = some (.cells #[.slice none 0 0] 48 (0, 0))) := heap_new _ _
      go_simp
      obtain ⟨x1, hx1⟩ : ∃ y, (x0.alloc (.cells #[.slice none 0 0] 48)) = y := ⟨_, rfl⟩
      rw [hx1] at HB HNW
      have HM_x1 : Hid (M2 w x1 A B m p a b) := HM_x0.out.step HB.out
      have HG6 : Hid (w.heap.size ≤ x0.heap.size ∧ A < x0.heap.size ∧ B < x0.heap.size) := ⟨HM_x0.out.bel.size, HM_x0.out.lA, HM_x0.out.lB⟩
      rw [hx1]
      refine hK _ _ HM_x1.out ?_
      clear hK K hx1
      generalize x0.heap.size = C5 at *
      have HF6_x1 : Hid (x1.heap[C5]? = some (.cells #[.slice none 0 0] 48 (0, 0))) := HNW.out
      clear HNW HB
      refine held_two 2 7 (by kernel_rfl) rfl rfl (by kernel_rfl) (by kernel_rfl) (fun K hK => ?_) (fun K hK => ?_)
      · skip
        go_simp
        go_wp2_with (go_at_call 23; refine Calls.mono (HR2.out x1) ?_; rintro e x2 ⟨rfl, hat, hbl, hsz⟩; have HM_x2 : Hid (M2 w x2 A B m p a b) := HM_x1.out.step hbl; have HF6_x2 : Hid (x2.heap[C5]? = some (.cells #[.slice none 0 0] 48 (0, 0))) := (hbl.block _ (Array.getElem?_eq_some_iff.1 HF6_x1.out).1).trans HF6_x1.out; have HNW : Hid (MemAt x2 x1.heap.size m.mem) := hat; have HGB : Hid (w.heap.size ≤ x1.heap.size) := HM_x1.out.bel.size; clear hat hbl hsz)
        refine hK _ _ HM_x2.out ?_
        clear hK K
        generalize x1.heap.size = bs at *
        have HF2_x2 : Hid (MemAt x2 bs m.mem) := HNW.out
        have HGE2 : Hid (w.heap.size ≤ bs) := HGB.out
        clear HNW HGB
        refine held_two 5 7 (by kernel_rfl) rfl rfl (by kernel_rfl) (by kernel_rfl) (fun K hK => ?_) (fun K hK => ?_)
        · skip
          go_simp
          go_wp2_with (go_at_call 23; refine Calls.mono (HR5.out x2) ?_; rintro e x3 ⟨rfl, hat, hbl, hsz⟩; have HM_x3 : Hid (M2 w x3 A B m p a b) := HM_x2.out.step hbl; have HF6_x3 : Hid (x3.heap[C5]? = some (.cells #[.slice none 0 0] 48 (0, 0))) := (hbl.block _ (Array.getElem?_eq_some_iff.1 HF6_x2.out).1).trans HF6_x2.out; have HF2_x3 : Hid (MemAt x3 bs m.mem) := HF2_x2.out.below hbl HF2_x2.out.lt; have HNW : Hid (MemAt x3 x2.heap.size p.mem) := hat; have HGB : Hid (w.heap.size ≤ x2.heap.size) := HM_x2.out.bel.size; have HST : Hid (bs ≠ x2.heap.size) := (show _ ≠ _ by have := HF2_x2.out.lt; omega); clear hat hbl hsz)
          refine hK _ _ HM_x3.out ?_
          clear hK K
          generalize x2.heap.size = bt at *
          have HF5_x3 : Hid (MemAt x3 bt p.mem) := HNW.out
          have HGE5 : Hid (w.heap.size ≤ bt) := HGB.out
          clear HNW HGB
          refine held_one 7 (by kernel_rfl) rfl (by kernel_rfl) fun K hK => ?_
          have HB : Hid (Below x3.heap.size x3 (x3.alloc (.cells #[.slice none 0 0] 48))) := bx1 _ _
          have HNW : Hid ((x3.alloc (.cells #[.slice none 0 0] 48)).heap[x3.heap.size]? = some (.cells #[.slice none 0 0] 48 (0, 0))) := heap_new _ _
          go_simp
          obtain ⟨x4, hx4⟩ : ∃ y, (x3.alloc (.cells #[.slice none 0 0] 48)) = y := ⟨_, rfl⟩
          rw [hx4] at HB HNW
          have HM_x4 : Hid (M2 w x4 A B m p a b) := HM_x3.out.step HB.out
          have HF6_x4 : Hid (x4.heap[C5]? = some (.cells #[.slice none 0 0] 48 (0, 0))) := (HB.out.block _ (Array.getElem?_eq_some_iff.1 HF6_x3.out).1).trans HF6_x3.out
          have HF2_x4 : Hid (MemAt x4 bs m.mem) := HF2_x3.out.below HB.out HF2_x3.out.lt
          have HF5_x4 : Hid (MemAt x4 bt p.mem) := HF5_x3.out.below HB.out HF5_x3.out.lt
          have HG7 : Hid (w.heap.size ≤ x3.heap.size ∧ A < x3.heap.size ∧ B < x3.heap.size) := ⟨HM_x3.out.bel.size, HM_x3.out.lA, HM_x3.out.lB⟩
          have HN56 : Hid (C5 ≠ x3.heap.size) := (show _ ≠ _ by have := (Array.getElem?_eq_some_iff.1 HF6_x3.out).1; omega)
          rw [hx4]
          refine hK _ _ HM_x4.out ?_
          clear hK K hx4
          generalize x3.heap.size = C6 at *
          have HF7_x4 : Hid (x4.heap[C6]? = some (.cells #[.slice none 0 0] 48 (0, 0))) := HNW.out
          clear HNW HB
          have HDQ : Hid (DQ w ((x4.setCell ⟨C5, 0, none⟩ (.slice (some ⟨bs, 0, none⟩) n n)).setCell ⟨C6, 0, none⟩ (.slice (some ⟨bt, 0, none⟩) n n)) A B C5 C6 bs bt n m p a b m.mem p.mem) := DQ.make HM_x4.out HF6_x4.out HF7_x4.out HF2_x4.out HF5_x4.out HG6.out.1 HG7.out.1 HGE5.out HN56.out HST.out HG6.out.2 HG7.out.2
          have HMS : Hid (M2 w (x4.setCell ⟨C5, 0, none⟩ (.slice (some ⟨bs, 0, none⟩) n n)) A B m p a b) := HM_x4.out.set _ HG6.out.1 HG6.out.2.1 HG6.out.2.2
          have e50 : x4.cell? ⟨C5, 0, none⟩ = some (.slice none 0 0) := by simp [World.cell?, HF6_x4.out]
          have e5f : x4.frozen? ⟨C5, 0, none⟩ = false := by simp [World.frozen?, HF6_x4.out]
          have e60 : (x4.setCell ⟨C5, 0, none⟩ (.slice (some ⟨bs, 0, none⟩) n n)).cell? ⟨C6, 0, none⟩ = some (.slice none 0 0) := (World.cell?_of_block (Below.heap_setCell _ _ _ _ (by have := HN56.out; simp; omega))).trans (by simp [World.cell?, HF7_x4.out])
          have e6f : (x4.setCell ⟨C5, 0, none⟩ (.slice (some ⟨bs, 0, none⟩) n n)).frozen? ⟨C6, 0, none⟩ = false := by have e9 : (x4.setCell ⟨C5, 0, none⟩ (.slice (some ⟨bs, 0, none⟩) n n)).heap[C6]? = some (.cells #[.slice none 0 0] 48 (0, 0)) := (Below.heap_setCell _ _ _ _ (by have := HN56.out; simp; omega)).trans HF7_x4.out; simp [World.frozen?, e9]
          refine held_one 8 (by kernel_rfl) rfl (by kernel_rfl) fun K hK => ?_
          go_simp
          refine hK _ _ HMS.out ?_
          clear hK K e50 e5f
          generalize hY : (x4.setCell ⟨C5, 0, none⟩ (.slice (some ⟨bs, 0, none⟩) n n)) = Y at *
          refine held_one 9 (by kernel_rfl) rfl (by kernel_rfl) fun K hK => ?_
          go_simp
          refine hK _ _ HDQ.out.m2 ?_
          clear hK K e60 e6f
          refine wpAnyH_done (by kernel_rfl) ?_ _
          go_simp
          go_wp2
          go_meet
          case rel => exact ⟨C5, C6, bs, bt, rfl, rfl, HDQ.out⟩
        · skip
          have HB : Hid (Below x2.heap.size x2 (x2.alloc (.cells #[.slice none 0 0] 48))) := bx1 _ _
          have HNW : Hid ((x2.alloc (.cells #[.slice none 0 0] 48)).heap[x2.heap.size]? = some (.cells #[.slice none 0 0] 48 (0, 0))) := heap_new _ _
          go_simp
          obtain ⟨x3, hx3⟩ : ∃ y, (x2.alloc (.cells #[.slice none 0 0] 48)) = y := ⟨_, rfl⟩
          rw [hx3] at HB HNW
          have HM_x3 : Hid (M2 w x3 A B m p a b) := HM_x2.out.step HB.out
          have HF6_x3 : Hid (x3.heap[C5]? = some (.cells #[.slice none 0 0] 48 (0, 0))) := (HB.out.block _ (Array.getElem?_eq_some_iff.1 HF6_x2.out).1).trans HF6_x2.out
          have HF2_x3 : Hid (MemAt x3 bs m.mem) := HF2_x2.out.below HB.out HF2_x2.out.lt
          have HG7 : Hid (w.heap.size ≤ x2.heap.size ∧ A < x2.heap.size ∧ B < x2.heap.size) := ⟨HM_x2.out.bel.size, HM_x2.out.lA, HM_x2.out.lB⟩
          have HN56 : Hid (C5 ≠ x2.heap.size) := (show _ ≠ _ by have := (Array.getElem?_eq_some_iff.1 HF6_x2.out).1; omega)
          rw [hx3]
          refine hK _ _ HM_x3.out ?_
          clear hK K hx3
          generalize x2.heap.size = C6 at *
          have HF7_x3 : Hid (x3.heap[C6]? = some (.cells #[.slice none 0 0] 48 (0, 0))) := HNW.out
          clear HNW HB
          refine held_one 5 (by kernel_rfl) rfl (by kernel_rfl) fun K hK => ?_
          go_simp
          go_wp2_with (go_at_call 23; refine Calls.mono (HR5.out x3) ?_; rintro e x4 ⟨rfl, hat, hbl, hsz⟩; have HM_x4 : Hid (M2 w x4 A B m p a b) := HM_x3.out.step hbl; have HF6_x4 : Hid (x4.heap[C5]? = some (.cells #[.slice none 0 0] 48 (0, 0))) := (hbl.block _ (Array.getElem?_eq_some_iff.1 HF6_x3.out).1).trans HF6_x3.out; have HF2_x4 : Hid (MemAt x4 bs m.mem) := HF2_x3.out.below hbl HF2_x3.out.lt; have HF7_x4 : Hid (x4.heap[C6]? = some (.cells #[.slice none 0 0] 48 (0, 0))) := (hbl.block _ (Array.getElem?_eq_some_iff.1 HF7_x3.out).1).trans HF7_x3.out; have HNW : Hid (MemAt x4 x3.heap.size p.mem) := hat; have HGB : Hid (w.heap.size ≤ x3.heap.size) := HM_x3.out.bel.size; have HST : Hid (bs ≠ x3.heap.size) := (show _ ≠ _ by have := HF2_x3.out.lt; omega); clear hat hbl hsz)
          refine hK _ _ HM_x4.out ?_
          clear hK K
          generalize x3.heap.size = bt at *
          have HF5_x4 : Hid (MemAt x4 bt p.mem) := HNW.out
          have HGE5 : Hid (w.heap.size ≤ bt) := HGB.out
          clear HNW HGB
          have HDQ : Hid (DQ w ((x4.setCell ⟨C5, 0, none⟩ (.slice (some ⟨bs, 0, none⟩) n n)).setCell ⟨C6, 0, none⟩ (.slice (some ⟨bt, 0, none⟩) n n)) A B C5 C6 bs bt n m p a b m.mem p.mem) := DQ.make HM_x4.out HF6_x4.out HF7_x4.out HF2_x4.out HF5_x4.out HG6.out.1 HG7.out.1 HGE5.out HN56.out HST.out HG6.out.2 HG7.out.2
          have HMS : Hid (M2 w (x4.setCell ⟨C5, 0, none⟩ (.slice (some ⟨bs, 0, none⟩) n n)) A B m p a b) := HM_x4.out.set _ HG6.out.1 HG6.out.2.1 HG6.out.2.2
          have e50 : x4.cell? ⟨C5, 0, none⟩ = some (.slice none 0 0) := by simp [World.cell?, HF6_x4.out]
          have e5f : x4.frozen? ⟨C5, 0, none⟩ = false := by simp [World.frozen?, HF6_x4.out]
          have e60 : (x4.setCell ⟨C5, 0, none⟩ (.slice (some ⟨bs, 0, none⟩) n n)).cell? ⟨C6, 0, none⟩ = some (.slice none 0 0) := (World.cell?_of_block (Below.heap_setCell _ _ _ _ (by have := HN56.out; simp; omega))).trans (by simp [World.cell?, HF7_x4.out])
          have e6f : (x4.setCell ⟨C5, 0, none⟩ (.slice (some ⟨bs, 0, none⟩) n n)).frozen? ⟨C6, 0, none⟩ = false := by have e9 : (x4.setCell ⟨C5, 0, none⟩ (.slice (some ⟨bs, 0, none⟩) n n)).heap[C6]? = some (.cells #[.slice none 0 0] 48 (0, 0)) := (Below.heap_setCell _ _ _ _ (by have := HN56.out; simp; omega)).trans HF7_x4.out; simp [World.frozen?, e9]
          refine held_one 8 (by kernel_rfl) rfl (by kernel_rfl) fun K hK => ?_
          go_simp
          refine hK _ _ HMS.out ?_
          clear hK K e50 e5f
          generalize hY : (x4.setCell ⟨C5, 0, none⟩ (.slice (some ⟨bs, 0, none⟩) n n)) = Y at *
          refine held_one 9 (by kernel_rfl) rfl (by kernel_rfl) fun K hK => ?_
          go_simp
          refine hK _ _ HDQ.out.m2 ?_
          clear hK K e60 e6f
          refine wpAnyH_done (by kernel_rfl) ?_ _
          go_simp
          go_wp2
          go_meet
          case rel => exact ⟨C5, C6, bs, bt, rfl, rfl, HDQ.out⟩
      · skip
        have HB : Hid (Below x1.heap.size x1 (x1.alloc (.cells #[.slice none 0 0] 48))) := bx1 _ _
        have HNW : Hid ((x1.alloc (.cells #[.slice none 0 0] 48)).heap[x1.heap.size]? = some (.cells #[.slice none 0 0] 48 (0, 0))) := heap_new _ _
        go_simp
        obtain ⟨x2, hx2⟩ : ∃ y, (x1.alloc (.cells #[.slice none 0 0] 48)) = y := ⟨_, rfl⟩
        rw [hx2] at HB HNW
        have HM_x2 : Hid (M2 w x2 A B m p a b) := HM_x1.out.step HB.out
        have HF6_x2 : Hid (x2.heap[C5]? = some (.cells #[.slice none 0 0] 48 (0, 0))) := (HB.out.block _ (Array.getElem?_eq_some_iff.1 HF6_x1.out).1).trans HF6_x1.out
        have HG7 : Hid (w.heap.size ≤ x1.heap.size ∧ A < x1.heap.size ∧ B < x1.heap.size) := ⟨HM_x1.out.bel.size, HM_x1.out.lA, HM_x1.out.lB⟩
        have HN56 : Hid (C5 ≠ x1.heap.size) := (show _ ≠ _ by have := (Array.getElem?_eq_some_iff.1 HF6_x1.out).1; omega)
        rw [hx2]
        refine hK _ _ HM_x2.out ?_
        clear hK K hx2
        generalize x1.heap.size = C6 at *
        have HF7_x2 : Hid (x2.heap[C6]? = some (.cells #[.slice none 0 0] 48 (0, 0))) := HNW.out
        clear HNW HB
        refine held_one 2 (by kernel_rfl) rfl (by kernel_rfl) fun K hK => ?_
        go_simp
        go_wp2_with (go_at_call 23; refine Calls.mono (HR2.out x2) ?_; rintro e x3 ⟨rfl, hat, hbl, hsz⟩; have HM_x3 : Hid (M2 w x3 A B m p a b) := HM_x2.out.step hbl; have HF6_x3 : Hid (x3.heap[C5]? = some (.cells #[.slice none 0 0] 48 (0, 0))) := (hbl.block _ (Array.getElem?_eq_some_iff.1 HF6_x2.out).1).trans HF6_x2.out; have HF7_x3 : Hid (x3.heap[C6]? = some (.cells #[.slice none 0 0] 48 (0, 0))) := (hbl.block _ (Array.getElem?_eq_some_iff.1 HF7_x2.out).1).trans HF7_x2.out; have HNW : Hid (MemAt x3 x2.heap.size m.mem) := hat; have HGB : Hid (w.heap.size ≤ x2.heap.size) := HM_x2.out.bel.size; clear hat hbl hsz)
        refine hK _ _ HM_x3.out ?_
        clear hK K
        generalize x2.heap.size = bs at *
        have HF2_x3 : Hid (MemAt x3 bs m.mem) := HNW.out
        have HGE2 : Hid (w.heap.size ≤ bs) := HGB.out
        clear HNW HGB
        refine held_one 5 (by kernel_rfl) rfl (by kernel_rfl) fun K hK => ?_
        go_simp
        go_wp2_with (go_at_call 23; refine Calls.mono (HR5.out x3) ?_; rintro e x4 ⟨rfl, hat, hbl, hsz⟩; have HM_x4 : Hid (M2 w x4 A B m p a b) := HM_x3.out.step hbl; have HF6_x4 : Hid (x4.heap[C5]? = some (.cells #[.slice none 0 0] 48 (0, 0))) := (hbl.block _ (Array.getElem?_eq_some_iff.1 HF6_x3.out).1).trans HF6_x3.out; have HF7_x4 : Hid (x4.heap[C6]? = some (.cells #[.slice none 0 0] 48 (0, 0))) := (hbl.block _ (Array.getElem?_eq_some_iff.1 HF7_x3.out).1).trans HF7_x3.out; have HF2_x4 : Hid (MemAt x4 bs m.mem) := HF2_x3.out.below hbl HF2_x3.out.lt; have HNW : Hid (MemAt x4 x3.heap.size p.mem) := hat; have HGB : Hid (w.heap.size ≤ x3.heap.size) := HM_x3.out.bel.size; have HST : Hid (bs ≠ x3.heap.size) := (show _ ≠ _ by have := HF2_x3.out.lt; omega); clear hat hbl hsz)
        refine hK _ _ HM_x4.out ?_
        clear hK K
        generalize x3.heap.size = bt at *
        have HF5_x4 : Hid (MemAt x4 bt p.mem) := HNW.out
        have HGE5 : Hid (w.heap.size ≤ bt) := HGB.out
        clear HNW HGB
        have HDQ : Hid (DQ w ((x4.setCell ⟨C5, 0, none⟩ (.slice (some ⟨bs, 0, none⟩) n n)).setCell ⟨C6, 0, none⟩ (.slice (some ⟨bt, 0, none⟩) n n)) A B C5 C6 bs bt n m p a b m.mem p.mem) := DQ.make HM_x4.out HF6_x4.out HF7_x4.out HF2_x4.out HF5_x4.out HG6.out.1 HG7.out.1 HGE5.out HN56.out HST.out HG6.out.2 HG7.out.2
        have HMS : Hid (M2 w (x4.setCell ⟨C5, 0, none⟩ (.slice (some ⟨bs, 0, none⟩) n n)) A B m p a b) := HM_x4.out.set _ HG6.out.1 HG6.out.2.1 HG6.out.2.2
        have e50 : x4.cell? ⟨C5, 0, none⟩ = some (.slice none 0 0) := by simp [World.cell?, HF6_x4.out]
        have e5f : x4.frozen? ⟨C5, 0, none⟩ = false := by simp [World.frozen?, HF6_x4.out]
        have e60 : (x4.setCell ⟨C5, 0, none⟩ (.slice (some ⟨bs, 0, none⟩) n n)).cell? ⟨C6, 0, none⟩ = some (.slice none 0 0) := (World.cell?_of_block (Below.heap_setCell _ _ _ _ (by have := HN56.out; simp; omega))).trans (by simp [World.cell?, HF7_x4.out])
        have e6f : (x4.setCell ⟨C5, 0, none⟩ (.slice (some ⟨bs, 0, none⟩) n n)).frozen? ⟨C6, 0, none⟩ = false := by have e9 : (x4.setCell ⟨C5, 0, none⟩ (.slice (some ⟨bs, 0, none⟩) n n)).heap[C6]? = some (.cells #[.slice none 0 0] 48 (0, 0)) := (Below.heap_setCell _ _ _ _ (by have := HN56.out; simp; omega)).trans HF7_x4.out; simp [World.frozen?, e9]
        refine held_one 8 (by kernel_rfl) rfl (by kernel_rfl) fun K hK => ?_
        go_simp
        refine hK _ _ HMS.out ?_
        clear hK K e50 e5f
        generalize hY : (x4.setCell ⟨C5, 0, none⟩ (.slice (some ⟨bs, 0, none⟩) n n)) = Y at *
        refine held_one 9 (by kernel_rfl) rfl (by kernel_rfl) fun K hK => ?_
        go_simp
        refine hK _ _ HDQ.out.m2 ?_
        clear hK K e60 e6f
        refine wpAnyH_done (by kernel_rfl) ?_ _
        go_simp
        go_wp2
        go_meet
        case rel => exact ⟨C5, C6, bs, bt, rfl, rfl, HDQ.out⟩
    · skip
      have HB : Hid (Below x0.heap.size x0 (x0.alloc (.cells #[.slice none 0 0] 48))) := bx1 _ _
      have HNW : Hid ((x0.alloc (.cells #[.slice none 0 0] 48)).heap[x0.heap.size]? = some (.cells #[.slice none 0 0] 48 (0, 0))) := heap_new _ _
      go_simp
      obtain ⟨x1, hx1⟩ : ∃ y, (x0.alloc (.cells #[.slice none 0 0] 48)) = y := ⟨_, rfl⟩
      rw [hx1] at HB HNW
      have HM_x1 : Hid (M2 w x1 A B m p a b) := HM_x0.out.step HB.out
      have HG7 : Hid (w.heap.size ≤ x0.heap.size ∧ A < x0.heap.size ∧ B < x0.heap.size) := ⟨HM_x0.out.bel.size, HM_x0.out.lA, HM_x0.out.lB⟩
      rw [hx1]
      refine hK _ _ HM_x1.out ?_
      clear hK K hx1
      generalize x0.heap.size = C6 at *
      have HF7_x1 : Hid (x1.heap[C6]? = some (.cells #[.slice none 0 0] 48 (0, 0))) := HNW.out
      clear HNW HB
      refine held_two 2 6 (by kernel_rfl) rfl rfl (by kernel_rfl) (by kernel_rfl) (fun K hK => ?_) (fun K hK => ?_)
      · skip
        go_simp
        go_wp2_with (go_at_call 23; refine Calls.mono (HR2.out x1) ?_; rintro e x2 ⟨rfl, hat, hbl, hsz⟩; have HM_x2 : Hid (M2 w x2 A B m p a b) := HM_x1.out.step hbl; have HF7_x2 : Hid (x2.heap[C6]? = some (.cells #[.slice none 0 0] 48 (0, 0))) := (hbl.block _ (Array.getElem?_eq_some_iff.1 HF7_x1.out).1).trans HF7_x1.out; have HNW : Hid (MemAt x2 x1.heap.size m.mem) := hat; have HGB : Hid (w.heap.size ≤ x1.heap.size) := HM_x1.out.bel.size; clear hat hbl hsz)
        refine hK _ _ HM_x2.out ?_
        clear hK K
        generalize x1.heap.size = bs at *
        have HF2_x2 : Hid (MemAt x2 bs m.mem) := HNW.out
        have HGE2 : Hid (w.heap.size ≤ bs) := HGB.out
        clear HNW HGB
        refine held_two 5 6 (by kernel_rfl) rfl rfl (by kernel_rfl) (by kernel_rfl) (fun K hK => ?_) (fun K hK => ?_)
        · skip
          go_simp
          go_wp2_with (go_at_call 23; refine Calls.mono (HR5.out x2) ?_; rintro e x3 ⟨rfl, hat, hbl, hsz⟩; have HM_x3 : Hid (M2 w x3 A B m p a b) := HM_x2.out.step hbl; have HF7_x3 : Hid (x3.heap[C6]? = some (.cells #[.slice none 0 0] 48 (0, 0))) := (hbl.block _ (Array.getElem?_eq_some_iff.1 HF7_x2.out).1).trans HF7_x2.out; have HF2_x3 : Hid (MemAt x3 bs m.mem) := HF2_x2.out.below hbl HF2_x2.out.lt; have HNW : Hid (MemAt x3 x2.heap.size p.mem) := hat; have HGB : Hid (w.heap.size ≤ x2.heap.size) := HM_x2.out.bel.size; have HST : Hid (bs ≠ x2.heap.size) := (show _ ≠ _ by have := HF2_x2.out.lt; omega); clear hat hbl hsz)
          refine hK _ _ HM_x3.out ?_
          clear hK K
          generalize x2.heap.size = bt at *
          have HF5_x3 : Hid (MemAt x3 bt p.mem) := HNW.out
          have HGE5 : Hid (w.heap.size ≤ bt) := HGB.out
          clear HNW HGB
          refine held_one 6 (by kernel_rfl) rfl (by kernel_rfl) fun K hK => ?_
          have HB : Hid (Below x3.heap.size x3 (x3.alloc (.cells #[.slice none 0 0] 48))) := bx1 _ _
          have HNW : Hid ((x3.alloc (.cells #[.slice none 0 0] 48)).heap[x3.heap.size]? = some (.cells #[.slice none 0 0] 48 (0, 0))) := heap_new _ _
          go_simp
          obtain ⟨x4, hx4⟩ : ∃ y, (x3.alloc (.cells #[.slice none 0 0] 48)) = y := ⟨_, rfl⟩
          rw [hx4] at HB HNW
          have HM_x4 : Hid (M2 w x4 A B m p a b) := HM_x3.out.step HB.out
          have HF7_x4 : Hid (x4.heap[C6]? = some (.cells #[.slice none 0 0] 48 (0, 0))) := (HB.out.block _ (Array.getElem?_eq_some_iff.1 HF7_x3.out).1).trans HF7_x3.out
          have HF2_x4 : Hid (MemAt x4 bs m.mem) := HF2_x3.out.below HB.out HF2_x3.out.lt
          have HF5_x4 : Hid (MemAt x4 bt p.mem) := HF5_x3.out.below HB.out HF5_x3.out.lt
          have HG6 : Hid (w.heap.size ≤ x3.heap.size ∧ A < x3.heap.size ∧ B < x3.heap.size) := ⟨HM_x3.out.bel.size, HM_x3.out.lA, HM_x3.out.lB⟩
          have HN56 : Hid (C6 ≠ x3.heap.size) := (show _ ≠ _ by have := (Array.getElem?_eq_some_iff.1 HF7_x3.out).1; omega)
          rw [hx4]
          refine hK _ _ HM_x4.out ?_
          clear hK K hx4
          generalize x3.heap.size = C5 at *
          have HF6_x4 : Hid (x4.heap[C5]? = some (.cells #[.slice none 0 0] 48 (0, 0))) := HNW.out
          clear HNW HB
          have HDQ : Hid (DQ w ((x4.setCell ⟨C5, 0, none⟩ (.slice (some ⟨bs, 0, none⟩) n n)).setCell ⟨C6, 0, none⟩ (.slice (some ⟨bt, 0, none⟩) n n)) A B C5 C6 bs bt n m p a b m.mem p.mem) := DQ.make HM_x4.out HF6_x4.out HF7_x4.out HF2_x4.out HF5_x4.out HG6.out.1 HG7.out.1 HGE5.out HN56.out.symm HST.out HG6.out.2 HG7.out.2
          have HMS : Hid (M2 w (x4.setCell ⟨C5, 0, none⟩ (.slice (some ⟨bs, 0, none⟩) n n)) A B m p a b) := HM_x4.out.set _ HG6.out.1 HG6.out.2.1 HG6.out.2.2
          have e50 : x4.cell? ⟨C5, 0, none⟩ = some (.slice none 0 0) := by simp [World.cell?, HF6_x4.out]
          have e5f : x4.frozen? ⟨C5, 0, none⟩ = false := by simp [World.frozen?, HF6_x4.out]
          have e60 : (x4.setCell ⟨C5, 0, none⟩ (.slice (some ⟨bs, 0, none⟩) n n)).cell? ⟨C6, 0, none⟩ = some (.slice none 0 0) := (World.cell?_of_block (Below.heap_setCell _ _ _ _ (by have := HN56.out.symm; simp; omega))).trans (by simp [World.cell?, HF7_x4.out])
          have e6f : (x4.setCell ⟨C5, 0, none⟩ (.slice (some ⟨bs, 0, none⟩) n n)).frozen? ⟨C6, 0, none⟩ = false := by have e9 : (x4.setCell ⟨C5, 0, none⟩ (.slice (some ⟨bs, 0, none⟩) n n)).heap[C6]? = some (.cells #[.slice none 0 0] 48 (0, 0)) := (Below.heap_setCell _ _ _ _ (by have := HN56.out.symm; simp; omega)).trans HF7_x4.out; simp [World.frozen?, e9]
          refine held_one 8 (by kernel_rfl) rfl (by kernel_rfl) fun K hK => ?_
          go_simp
          refine hK _ _ HMS.out ?_
          clear hK K e50 e5f
          generalize hY : (x4.setCell ⟨C5, 0, none⟩ (.slice (some ⟨bs, 0, none⟩) n n)) = Y at *
          refine held_one 9 (by kernel_rfl) rfl (by kernel_rfl) fun K hK => ?_
          go_simp
          refine hK _ _ HDQ.out.m2 ?_
          clear hK K e60 e6f
          refine wpAnyH_done (by kernel_rfl) ?_ _
          go_simp
          go_wp2
          go_meet
          case rel => exact ⟨C5, C6, bs, bt, rfl, rfl, HDQ.out⟩
        · skip
          have HB : Hid (Below x2.heap.size x2 (x2.alloc (.cells #[.slice none 0 0] 48))) := bx1 _ _
          have HNW : Hid ((x2.alloc (.cells #[.slice none 0 0] 48)).heap[x2.heap.size]? = some (.cells #[.slice none 0 0] 48 (0, 0))) := heap_new _ _
          go_simp
          obtain ⟨x3, hx3⟩ : ∃ y, (x2.alloc (.cells #[.slice none 0 0] 48)) = y := ⟨_, rfl⟩
          rw [hx3] at HB HNW
          have HM_x3 : Hid (M2 w x3 A B m p a b) := HM_x2.out.step HB.out
          have HF7_x3 : Hid (x3.heap[C6]? = some (.cells #[.slice none 0 0] 48 (0, 0))) := (HB.out.block _ (Array.getElem?_eq_some_iff.1 HF7_x2.out).1).trans HF7_x2.out
          have HF2_x3 : Hid (MemAt x3 bs m.mem) := HF2_x2.out.below HB.out HF2_x2.out.lt
          have HG6 : Hid (w.heap.size ≤ x2.heap.size ∧ A < x2.heap.size ∧ B < x2.heap.size) := ⟨HM_x2.out.bel.size, HM_x2.out.lA, HM_x2.out.lB⟩
          have HN56 : Hid (C6 ≠ x2.heap.size) := (show _ ≠ _ by have := (Array.getElem?_eq_some_iff.1 HF7_x2.out).1; omega)
          rw [hx3]
          refine hK _ _ HM_x3.out ?_
          clear hK K hx3
          generalize x2.heap.size = C5 at *
          have HF6_x3 : Hid (x3.heap[C5]? = some (.cells #[.slice none 0 0] 48 (0, 0))) := HNW.out
          clear HNW HB
          refine held_one 5 (by kernel_rfl) rfl (by kernel_rfl) fun K hK => ?_
          go_simp
          go_wp2_with (go_at_call 23; refine Calls.mono (HR5.out x3) ?_; rintro e x4 ⟨rfl, hat, hbl, hsz⟩; have HM_x4 : Hid (M2 w x4 A B m p a b) := HM_x3.out.step hbl; have HF7_x4 : Hid (x4.heap[C6]? = some (.cells #[.slice none 0 0] 48 (0, 0))) := (hbl.block _ (Array.getElem?_eq_some_iff.1 HF7_x3.out).1).trans HF7_x3.out; have HF2_x4 : Hid (MemAt x4 bs m.mem) := HF2_x3.out.below hbl HF2_x3.out.lt; have HF6_x4 : Hid (x4.heap[C5]? = some (.cells #[.slice none 0 0] 48 (0, 0))) := (hbl.block _ (Array.getElem?_eq_some_iff.1 HF6_x3.out).1).trans HF6_x3.out; have HNW : Hid (MemAt x4 x3.heap.size p.mem) := hat; have HGB : Hid (w.heap.size ≤ x3.heap.size) := HM_x3.out.bel.size; have HST : Hid (bs ≠ x3.heap.size) := (show _ ≠ _ by have := HF2_x3.out.lt; omega); clear hat hbl hsz)
          refine hK _ _ HM_x4.out ?_
          clear hK K
          generalize x3.heap.size = bt at *
          have HF5_x4 : Hid (MemAt x4 bt p.mem) := HNW.out
          have HGE5 : Hid (w.heap.size ≤ bt) := HGB.out
          clear HNW HGB
          have HDQ : Hid (DQ w ((x4.setCell ⟨C5, 0, none⟩ (.slice (some ⟨bs, 0, none⟩) n n)).setCell ⟨C6, 0, none⟩ (.slice (some ⟨bt, 0, none⟩) n n)) A B C5 C6 bs bt n m p a b m.mem p.mem) := DQ.make HM_x4.out HF6_x4.out HF7_x4.out HF2_x4.out HF5_x4.out HG6.out.1 HG7.out.1 HGE5.out HN56.out.symm HST.out HG6.out.2 HG7.out.2
          have HMS : Hid (M2 w (x4.setCell ⟨C5, 0, none⟩ (.slice (some ⟨bs, 0, none⟩) n n)) A B m p a b) := HM_x4.out.set _ HG6.out.1 HG6.out.2.1 HG6.out.2.2
          have e50 : x4.cell? ⟨C5, 0, none⟩ = some (.slice none 0 0) := by simp [World.cell?, HF6_x4.out]
          have e5f : x4.frozen? ⟨C5, 0, none⟩ = false := by simp [World.frozen?, HF6_x4.out]
          have e60 : (x4.setCell ⟨C5, 0, none⟩ (.slice (some ⟨bs, 0, none⟩) n n)).cell? ⟨C6, 0, none⟩ = some (.slice none 0 0) := (World.cell?_of_block (Below.heap_setCell _ _ _ _ (by have := HN56.out.symm; simp; omega))).trans (by simp [World.cell?, HF7_x4.out])
          have e6f : (x4.setCell ⟨C5, 0, none⟩ (.slice (some ⟨bs, 0, none⟩) n n)).frozen? ⟨C6, 0, none⟩ = false := by have e9 : (x4.setCell ⟨C5, 0, none⟩ (.slice (some ⟨bs, 0, none⟩) n n)).heap[C6]? = some (.cells #[.slice none 0 0] 48 (0, 0)) := (Below.heap_setCell _ _ _ _ (by have := HN56.out.symm; simp; omega)).trans HF7_x4.out; simp [World.frozen?, e9]
          refine held_one 8 (by kernel_rfl) rfl (by kernel_rfl) fun K hK => ?_
          go_simp
          refine hK _ _ HMS.out ?_
          clear hK K e50 e5f
          generalize hY : (x4.setCell ⟨C5, 0, none⟩ (.slice (some ⟨bs, 0, none⟩) n n)) = Y at *
          refine held_one 9 (by kernel_rfl) rfl (by kernel_rfl) fun K hK => ?_
          go_simp
          refine hK _ _ HDQ.out.m2 ?_
          clear hK K e60 e6f
          refine wpAnyH_done (by kernel_rfl) ?_ _
          go_simp
          go_wp2
          go_meet
          case rel => exact ⟨C5, C6, bs, bt, rfl, rfl, HDQ.out⟩
      · skip
        have HB : Hid (Below x1.heap.size x1 (x1.alloc (.cells #[.slice none 0 0] 48))) := bx1 _ _
        have HNW : Hid ((x1.alloc (.cells #[.slice none 0 0] 48)).heap[x1.heap.size]? = some (.cells #[.slice none 0 0] 48 (0, 0))) := heap_new _ _
        go_simp
        obtain ⟨x2, hx2⟩ : ∃ y, (x1.alloc (.cells #[.slice none 0 0] 48)) = y := ⟨_, rfl⟩
        rw [hx2] at HB HNW
        have HM_x2 : Hid (M2 w x2 A B m p a b) := HM_x1.out.step HB.out
        have HF7_x2 : Hid (x2.heap[C6]? = some (.cells #[.slice none 0 0] 48 (0, 0))) := (HB.out.block _ (Array.getElem?_eq_some_iff.1 HF7_x1.out).1).trans HF7_x1.out
        have HG6 : Hid (w.heap.size ≤ x1.heap.size ∧ A < x1.heap.size ∧ B < x1.heap.size) := ⟨HM_x1.out.bel.size, HM_x1.out.lA, HM_x1.out.lB⟩
        have HN56 : Hid (C6 ≠ x1.heap.size) := (show _ ≠ _ by have := (Array.getElem?_eq_some_iff.1 HF7_x1.out).1; omega)
        rw [hx2]
        refine hK _ _ HM_x2.out ?_
        clear hK K hx2
        generalize x1.heap.size = C5 at *
        have HF6_x2 : Hid (x2.heap[C5]? = some (.cells #[.slice none 0 0] 48 (0, 0))) := HNW.out
        clear HNW HB
        refine held_one 2 (by kernel_rfl) rfl (by kernel_rfl) fun K hK => ?_
        go_simp
        go_wp2_with (go_at_call 23; refine Calls.mono (HR2.out x2) ?_; rintro e x3 ⟨rfl, hat, hbl, hsz⟩; have HM_x3 : Hid (M2 w x3 A B m p a b) := HM_x2.out.step hbl; have HF7_x3 : Hid (x3.heap[C6]? = some (.cells #[.slice none 0 0] 48 (0, 0))) := (hbl.block _ (Array.getElem?_eq_some_iff.1 HF7_x2.out).1).trans HF7_x2.out; have HF6_x3 : Hid (x3.heap[C5]? = some (.cells #[.slice none 0 0] 48 (0, 0))) := (hbl.block _ (Array.getElem?_eq_some_iff.1 HF6_x2.out).1).trans HF6_x2.out; have HNW : Hid (MemAt x3 x2.heap.size m.mem) := hat; have HGB : Hid (w.heap.size ≤ x2.heap.size) := HM_x2.out.bel.size; clear hat hbl hsz)
        refine hK _ _ HM_x3.out ?_
        clear hK K
        generalize x2.heap.size = bs at *
        have HF2_x3 : Hid (MemAt x3 bs m.mem) := HNW.out
        have HGE2 : Hid (w.heap.size ≤ bs) := HGB.out
        clear HNW HGB
        refine held_one 5 (by kernel_rfl) rfl (by kernel_rfl) fun K hK => ?_
        go_simp
        go_wp2_with (go_at_call 23; refine Calls.mono (HR5.out x3) ?_; rintro e x4 ⟨rfl, hat, hbl, hsz⟩; have HM_x4 : Hid (M2 w x4 A B m p a b) := HM_x3.out.step hbl; have HF7_x4 : Hid (x4.heap[C6]? = some (.cells #[.slice none 0 0] 48 (0, 0))) := (hbl.block _ (Array.getElem?_eq_some_iff.1 HF7_x3.out).1).trans HF7_x3.out; have HF6_x4 : Hid (x4.heap[C5]? = some (.cells #[.slice none 0 0] 48 (0, 0))) := (hbl.block _ (Array.getElem?_eq_some_iff.1 HF6_x3.out).1).trans HF6_x3.out; have HF2_x4 : Hid (MemAt x4 bs m.mem) := HF2_x3.out.below hbl HF2_x3.out.lt; have HNW : Hid (MemAt x4 x3.heap.size p.mem) := hat; have HGB : Hid (w.heap.size ≤ x3.heap.size) := HM_x3.out.bel.size; have HST : Hid (bs ≠ x3.heap.size) := (show _ ≠ _ by have := HF2_x3.out.lt; omega); clear hat hbl hsz)
        refine hK _ _ HM_x4.out ?_
        clear hK K
        generalize x3.heap.size = bt at *
        have HF5_x4 : Hid (MemAt x4 bt p.mem) := HNW.out
        have HGE5 : Hid (w.heap.size ≤ bt) := HGB.out
        clear HNW HGB
        have HDQ : Hid (DQ w ((x4.setCell ⟨C5, 0, none⟩ (.slice (some ⟨bs, 0, none⟩) n n)).setCell ⟨C6, 0, none⟩ (.slice (some ⟨bt, 0, none⟩) n n)) A B C5 C6 bs bt n m p a b m.mem p.mem) := DQ.make HM_x4.out HF6_x4.out HF7_x4.out HF2_x4.out HF5_x4.out HG6.out.1 HG7.out.1 HGE5.out HN56.out.symm HST.out HG6.out.2 HG7.out.2
        have HMS : Hid (M2 w (x4.setCell ⟨C5, 0, none⟩ (.slice (some ⟨bs, 0, none⟩) n n)) A B m p a b) := HM_x4.out.set _ HG6.out.1 HG6.out.2.1 HG6.out.2.2
        have e50 : x4.cell? ⟨C5, 0, none⟩ = some (.slice none 0 0) := by simp [World.cell?, HF6_x4.out]
        have e5f : x4.frozen? ⟨C5, 0, none⟩ = false := by simp [World.frozen?, HF6_x4.out]
        have e60 : (x4.setCell ⟨C5, 0, none⟩ (.slice (some ⟨bs, 0, none⟩) n n)).cell? ⟨C6, 0, none⟩ = some (.slice none 0 0) := (World.cell?_of_block (Below.heap_setCell _ _ _ _ (by have := HN56.out.symm; simp; omega))).trans (by simp [World.cell?, HF7_x4.out])
        have e6f : (x4.setCell ⟨C5, 0, none⟩ (.slice (some ⟨bs, 0, none⟩) n n)).frozen? ⟨C6, 0, none⟩ = false := by have e9 : (x4.setCell ⟨C5, 0, none⟩ (.slice (some ⟨bs, 0, none⟩) n n)).heap[C6]? = some (.cells #[.slice none 0 0] 48 (0, 0)) := (Below.heap_setCell _ _ _ _ (by have := HN56.out.symm; simp; omega)).trans HF7_x4.out; simp [World.frozen?, e9]
        refine held_one 8 (by kernel_rfl) rfl (by kernel_rfl) fun K hK => ?_
        go_simp
        refine hK _ _ HMS.out ?_
        clear hK K e50 e5f
        generalize hY : (x4.setCell ⟨C5, 0, none⟩ (.slice (some ⟨bs, 0, none⟩) n n)) = Y at *
        refine held_one 9 (by kernel_rfl) rfl (by kernel_rfl) fun K hK => ?_
        go_simp
        refine hK _ _ HDQ.out.m2 ?_
        clear hK K e60 e6f
        refine wpAnyH_done (by kernel_rfl) ?_ _
        go_simp
        go_wp2
        go_meet
        case rel => exact ⟨C5, C6, bs, bt, rfl, rfl, HDQ.out⟩
  case rest =>
    obtain ⟨C5, C6, bs, bt, rfl, rfl, hdq⟩ := hcut
    have HQ : Hid (DQ w wc A B C5 C6 bs bt n m p a b m.mem p.mem) := hdq
    clear hdq HR2 HR5 HX2
    have HST : Hid (∀ u, DQ w u A B C5 C6 bs bt n m p a b m.mem p.mem → Calls Try.prog 24 #[.int .i64 n, .func (.func 25) #[] #[.pointer (some ⟨C6, 0, none⟩), .pointer (some ⟨C5, 0, none⟩)]] u fun e w' => e = .returned (.string (sB (dfB m.mem p.mem) ((n + 7) / 8) n)) ∧ Below u.heap.size u w') := fun u h => setOf_any n HOM.out.n2 _ _ (dfB m.mem p.mem) cfDl (fun k w' hk hb => deltaFn_any ((h.step hb).c6) ((h.step hb).c5) (h.step hb).mt (h.step hb).ms HOP.out.sz HOM.out.sz k hk)
    have k6 := HQ.out.c6
    have kl6 := (Array.getElem?_eq_some_iff.1 HQ.out.k6).1
    have hn9 : (n : Int) ≤ 256 := by have := HOM.out.n2; omega
    have s2 : (sB (dfB m.mem p.mem) ((n + 7) / 8) n).size ≤ 32 := by rw [sB_size _ _ _ (by omega)]; have := HOM.out.n2; omega
    have HSS : Hid ((sB (dfB m.mem p.mem) ((n + 7) / 8) n).size ≤ 32) := s2
    have HDT : Hid (doT m p n = vd1 ++ pw (mixv m.mem 62) ++ sB (dfB m.mem p.mem) ((n + 7) / 8) n ++ pmV (dcM m p n)) := (show _ = _ from rfl)
    clear s2
    generalize sB (dfB m.mem p.mem) ((n + 7) / 8) n = q2 at *
    go_upto_region 5 with (go_at_call 24; refine Calls.mono (HST.out _ HQ.out) ?_; rintro e u3 ⟨rfl, hb⟩; have HQ3 : Hid (DQ w u3 A B C5 C6 bs bt n m p a b m.mem (zdN m.mem p.mem 0)) := HQ.out.step hb; clear hb)
    clear k6 kl6 HST HQ
    have k6 := HQ3.out.c6
    have kl6 := (Array.getElem?_eq_some_iff.1 HQ3.out.k6).1
    go_wp2
    clear k6 kl6
    go_loopw [39] (fun i wr => ∃ k : Nat, k ≤ n ∧ i = .int .i64 k ∧ DQ w wr A B C5 C6 bs bt n m p a b m.mem (zdN m.mem p.mem k)) (fun i _ => n - (intOf i).toNat)
    case atStart => exact ⟨0, Nat.zero_le _, rfl, HQ3.out⟩
    case round =>
      obtain ⟨k, hk, rfl, hd⟩ := hrel
      have HD : Hid (DQ w wr A B C5 C6 bs bt n m p a b m.mem (zdN m.mem p.mem k)) := hd
      clear hd HQ3
      by_cases hlt : k < n
      · have hk0 : (0 : Int) ≤ (k : Int) := by omega
        have hk1 : (k : Int) < (n : Int) := by omega
        have HZS : Hid ((zdN m.mem p.mem k).size = n * 256) := zdN_size HOP.out.sz k hk
        have HZA : Hid (fr (zdN m.mem p.mem k) k = fr p.mem k) := zdN_at HOP.out.sz k k (Nat.le_refl _) hlt
        have HON : Hid (fr m.mem k = fr p.mem k → zdN m.mem p.mem (k + 1) = sfr (zdN m.mem p.mem k) k (zB 256)) := zdN_on
        have HOFF : Hid (¬ fr m.mem k = fr p.mem k → zdN m.mem p.mem (k + 1) = zdN m.mem p.mem k) := zdN_off
        have kt : k * 256 + 256 ≤ (zdN m.mem p.mem k).size := by have := HZS.out; omega
        have ks : k * 256 + 256 ≤ m.mem.size := by have := HOM.out.sz; omega
        have HKT : Hid (k * 256 + 256 ≤ (zdN m.mem p.mem k).size) := kt
        have hgt : Try.prog.eqGuardType Try.prog.depth 52 = false := by kernel_rfl
        have hzc : frA (zB 256) = .agg Try.zeroCells52 := by kernel_rfl
        have HZC : Hid (frA (zB 256) = .agg Try.zeroCells52) := hzc
        have heq := fun w => eq_fr (fr (zdN m.mem p.mem k) k) (fr m.mem k) w (fr_size _ k kt) (fr_size _ k ks)
        have HL1 : Hid (∀ u, MemAt u bt (zdN m.mem p.mem k) → (Instr.loadAt 52 (.pointer (some ⟨bt, k * 256, none⟩))).run Try.prog u = .ok (frA (fr (zdN m.mem p.mem k) k)) u) := fun u h => load_fr h k kt
        have HL2 : Hid (∀ u, MemAt u bs m.mem → (Instr.loadAt 52 (.pointer (some ⟨bs, k * 256, none⟩))).run Try.prog u = .ok (frA (fr m.mem k)) u) := fun u h => load_fr h k ks
        have HDE : Hid (decide (fr (zdN m.mem p.mem k) k = fr m.mem k) = decide (fr m.mem k = fr p.mem k)) := (show _ = _ by rw [HZA.out, Bool.eq_iff_iff]; simp only [decide_eq_true_eq]; exact eq_comm)
        clear hzc kt ks
        unfold frA at HL1 HL2 heq
        generalize (cells8 (fr (zdN m.mem p.mem k) k).data.toList).toArray = X1 at *
        generalize (cells8 (fr m.mem k).data.toList).toArray = X2 at *
        rw [HDE.out] at heq
        generalize hq0 : zdN m.mem p.mem k = q at *
        have HSB : Hid (DQ w wr.drew A B C5 C6 bs bt n m p a b m.mem q) := HD.out.step (bdn (Below.refl _ _) 1)
        clear hq0 HZA HDE
        by_cases hxy : fr m.mem k = fr p.mem k
        · have HE : Hid (zdN m.mem p.mem (k + 1) = sfr q k (zB 256)) := HON.out hxy
          rw [decide_eq_true hxy] at heq
          clear HON HOFF hxy
          go_upto_region 8 with fail
          refine wp_region_held (S := fun w9 => DQ w w9 A B C5 C6 bs bt n m p a b m.mem q) (by kernel_rfl) ?_
          change wpAnyH _ _ _ _ _ _ _ _ (World.drew _)
          refine wpAnyH_take (i := 0) (v := .slice (some ⟨bt, 0, none⟩) n n) rfl (by kernel_rfl) (by kernel_rfl) (by kernel_rfl) (fun _ _ _ h => h) (Or.inl ⟨by kernel_rfl, fun w9 h9 => ?_⟩) HSB.out ?_
          · have k6 := h9.c6; have k5 := h9.c5; have kl6 := (Array.getElem?_eq_some_iff.1 h9.k6).1; have kl5 := (Array.getElem?_eq_some_iff.1 h9.k5).1; clear h9; go_simp
          refine wpAnyH_take (i := 1) (v := .int .i64 (k : Int)) rfl (by kernel_rfl) (by kernel_rfl) (by kernel_rfl) (fun _ _ _ h => h) (Or.inl ⟨by kernel_rfl, fun w9 h9 => ?_⟩) HSB.out ?_
          · go_simp
          refine wpAnyH_take (i := 2) (v := .pointer (some ⟨bt, k * 256, none⟩)) rfl (by kernel_rfl) (by kernel_rfl) (by kernel_rfl) (fun _ _ _ h => h) (Or.inl ⟨by kernel_rfl, fun w9 h9 => ?_⟩) HSB.out ?_
          · go_simp
          refine wpAnyH_take (i := 3) (v := .agg X1) rfl (by kernel_rfl) (by kernel_rfl) (by kernel_rfl) (fun _ _ _ h => h) (Or.inl ⟨by kernel_rfl, fun w9 h9 => ?_⟩) HSB.out ?_
          · have hl9 := HL1.out _ h9.mt; clear h9 HL1 HL2 heq; refine exec_loadF rfl ?_ hl9; clear hl9; go_simp
          refine wpAnyH_take (i := 4) (v := .slice (some ⟨bs, 0, none⟩) n n) rfl (by kernel_rfl) (by kernel_rfl) (by kernel_rfl) (fun _ _ _ h => h) (Or.inl ⟨by kernel_rfl, fun w9 h9 => ?_⟩) HSB.out ?_
          · have k6 := h9.c6; have k5 := h9.c5; have kl6 := (Array.getElem?_eq_some_iff.1 h9.k6).1; have kl5 := (Array.getElem?_eq_some_iff.1 h9.k5).1; clear h9; go_simp
          refine wpAnyH_take (i := 5) (v := .int .i64 (k : Int)) rfl (by kernel_rfl) (by kernel_rfl) (by kernel_rfl) (fun _ _ _ h => h) (Or.inl ⟨by kernel_rfl, fun w9 h9 => ?_⟩) HSB.out ?_
          · go_simp
          refine wpAnyH_take (i := 6) (v := .pointer (some ⟨bs, k * 256, none⟩)) rfl (by kernel_rfl) (by kernel_rfl) (by kernel_rfl) (fun _ _ _ h => h) (Or.inl ⟨by kernel_rfl, fun w9 h9 => ?_⟩) HSB.out ?_
          · go_simp
          refine wpAnyH_take (i := 7) (v := .agg X2) rfl (by kernel_rfl) (by kernel_rfl) (by kernel_rfl) (fun _ _ _ h => h) (Or.inl ⟨by kernel_rfl, fun w9 h9 => ?_⟩) HSB.out ?_
          · have hl9 := HL2.out _ h9.ms; clear h9 HL1 HL2 heq; refine exec_loadF rfl ?_ hl9; clear hl9; go_simp
          refine wpAnyH_take (i := 8) (v := .bool true) rfl (by kernel_rfl) (by kernel_rfl) (by kernel_rfl) (fun _ _ _ h => h) (Or.inl ⟨by kernel_rfl, fun w9 h9 => ?_⟩) HSB.out ?_
          · go_simp
          refine wpAnyH_done (by kernel_rfl) ?_ _
          go_simp
          clear heq HL1 HL2
          have k6 := HSB.out.c6
          have kl6 := (Array.getElem?_eq_some_iff.1 HSB.out.k6).1
          have hzf := zeroFrame
          go_wp2_with (refine wl_store rfl _ _ rfl bt (k * 256) _ (zB 256) rfl HZC.out.symm HSB.out.mt (zB_size _) (by rw [mcel_size]; exact HKT.out) ?_; rw [mcel_sfr])
          go_roundw
          case rel => exact ⟨k + 1, hlt, by go_num, by rw [HE.out]; exact HSB.out.setT _⟩
          case measure => simp [intOf]; omega
        · have HE : Hid (zdN m.mem p.mem (k + 1) = q) := HOFF.out hxy
          rw [decide_eq_false hxy] at heq
          clear HON HOFF hxy
          go_upto_region 8 with fail
          refine wp_region_held (S := fun w9 => DQ w w9 A B C5 C6 bs bt n m p a b m.mem q) (by kernel_rfl) ?_
          change wpAnyH _ _ _ _ _ _ _ _ (World.drew _)
          refine wpAnyH_take (i := 0) (v := .slice (some ⟨bt, 0, none⟩) n n) rfl (by kernel_rfl) (by kernel_rfl) (by kernel_rfl) (fun _ _ _ h => h) (Or.inl ⟨by kernel_rfl, fun w9 h9 => ?_⟩) HSB.out ?_
          · have k6 := h9.c6; have k5 := h9.c5; have kl6 := (Array.getElem?_eq_some_iff.1 h9.k6).1; have kl5 := (Array.getElem?_eq_some_iff.1 h9.k5).1; clear h9; go_simp
          refine wpAnyH_take (i := 1) (v := .int .i64 (k : Int)) rfl (by kernel_rfl) (by kernel_rfl) (by kernel_rfl) (fun _ _ _ h => h) (Or.inl ⟨by kernel_rfl, fun w9 h9 => ?_⟩) HSB.out ?_
          · go_simp
          refine wpAnyH_take (i := 2) (v := .pointer (some ⟨bt, k * 256, none⟩)) rfl (by kernel_rfl) (by kernel_rfl) (by kernel_rfl) (fun _ _ _ h => h) (Or.inl ⟨by kernel_rfl, fun w9 h9 => ?_⟩) HSB.out ?_
          · go_simp
          refine wpAnyH_take (i := 3) (v := .agg X1) rfl (by kernel_rfl) (by kernel_rfl) (by kernel_rfl) (fun _ _ _ h => h) (Or.inl ⟨by kernel_rfl, fun w9 h9 => ?_⟩) HSB.out ?_
          · have hl9 := HL1.out _ h9.mt; clear h9 HL1 HL2 heq; refine exec_loadF rfl ?_ hl9; clear hl9; go_simp
          refine wpAnyH_take (i := 4) (v := .slice (some ⟨bs, 0, none⟩) n n) rfl (by kernel_rfl) (by kernel_rfl) (by kernel_rfl) (fun _ _ _ h => h) (Or.inl ⟨by kernel_rfl, fun w9 h9 => ?_⟩) HSB.out ?_
          · have k6 := h9.c6; have k5 := h9.c5; have kl6 := (Array.getElem?_eq_some_iff.1 h9.k6).1; have kl5 := (Array.getElem?_eq_some_iff.1 h9.k5).1; clear h9; go_simp
          refine wpAnyH_take (i := 5) (v := .int .i64 (k : Int)) rfl (by kernel_rfl) (by kernel_rfl) (by kernel_rfl) (fun _ _ _ h => h) (Or.inl ⟨by kernel_rfl, fun w9 h9 => ?_⟩) HSB.out ?_
          · go_simp
          refine wpAnyH_take (i := 6) (v := .pointer (some ⟨bs, k * 256, none⟩)) rfl (by kernel_rfl) (by kernel_rfl) (by kernel_rfl) (fun _ _ _ h => h) (Or.inl ⟨by kernel_rfl, fun w9 h9 => ?_⟩) HSB.out ?_
          · go_simp
          refine wpAnyH_take (i := 7) (v := .agg X2) rfl (by kernel_rfl) (by kernel_rfl) (by kernel_rfl) (fun _ _ _ h => h) (Or.inl ⟨by kernel_rfl, fun w9 h9 => ?_⟩) HSB.out ?_
          · have hl9 := HL2.out _ h9.ms; clear h9 HL1 HL2 heq; refine exec_loadF rfl ?_ hl9; clear hl9; go_simp
          refine wpAnyH_take (i := 8) (v := .bool false) rfl (by kernel_rfl) (by kernel_rfl) (by kernel_rfl) (fun _ _ _ h => h) (Or.inl ⟨by kernel_rfl, fun w9 h9 => ?_⟩) HSB.out ?_
          · go_simp
          refine wpAnyH_done (by kernel_rfl) ?_ _
          go_simp
          clear heq HL1 HL2
          go_wp2
          go_roundw
          case rel => exact ⟨k + 1, hlt, by go_num, by rw [HE.out]; exact HSB.out⟩
          case measure => simp [intOf]; omega
      · obtain rfl : k = n := by omega
        have hk1 : ¬ (k : Int) < (k : Int) := by omega
        have HTX : Hid (∀ u, DQ w u A B C5 C6 bs bt k m p a b m.mem (zdN m.mem p.mem k) → Calls Try.prog 26 #[.slice (some ⟨bt, 0, none⟩) k k] u fun e w' => e = .returned (.string (zdN m.mem p.mem k)) ∧ Below u.heap.size u w') := fun u h => memText_any bt (zdN m.mem p.mem k) k u h.mt (zdN_size HOP.out.sz k (Nat.le_refl _)) HOM.out.n2
        have HLC : Hid (MLen (dcM m p k)) := (show MLen _ from ⟨lb.r, lb.c, lb.v, lb.i, lb.o, by show (zdN m.mem p.mem k).size ≤ _; rw [zdN_size HOP.out.sz k (Nat.le_refl _)]; have := HOM.out.n2; omega⟩)
        have HRC : Hid (MRows w (dcM m p k) b) := (show MRows _ _ _ from ⟨HRB.out.r, HRB.out.c, HRB.out.v, HRB.out.i, HRB.out.o⟩)
        have HPM : Hid (∀ u, M2 w u A B m (dcM m p k) a b → Calls Try.prog 27 #[.agg #[.int .i64 p.pc, .slice b.ar p.rs.length b.cr, .int .i64 p.md, .slice b.ac p.cs.length b.cc, .slice b.av p.vs.length b.cv, .string (zdN m.mem p.mem k), .int .i64 p.st, .int .i64 p.ct, .int .i64 p.ln, .slice b.ai p.is.length b.ci, .slice b.ao p.os.length b.co, .int .i64 p.tr]] u fun e w' => e = .returned (.string (pmV (dcM m p k))) ∧ Below u.heap.size u w') := fun u h => implPM_any (m := dcM m p k) (a := b) (HRC.out.below h.bel) HLC.out
        have HDO : Hid (doO m p k = if pmV (dcM m p k) = ⟨#[]⟩ then ⟨#[]⟩ else if 65536 < (doT m p k).size then ⟨#[]⟩ else doT m p k) := (show _ = _ from rfl)
        have HMI : Hid (∀ u, Calls Try.prog 31 #[.string m.mem, .int .i64 62] u fun e w' => e = .returned (.int .i64 (mixv m.mem 62)) ∧ w' = u) := fun u => implMix_any m.mem 62 u (by have := HOM.out.sz; have := HOM.out.n2; omega)
        have HPW : Hid (∀ u, Calls Try.prog 30 #[.int .i64 (mixv m.mem 62)] u fun e w' => e = .returned (.string (pw (mixv m.mem 62))) ∧ Below u.heap.size u w') := fun u => implPutWord_any _ u
        have s1 := pw_sz (mixv m.mem 62)
        have s3 := pmV_size (dcM m p k)
        have HEC : Hid (∀ u, DQ w u A B C5 C6 bs bt k m p a b m.mem (zdN m.mem p.mem k) → M2 w (u.setCell ⟨B, 5, none⟩ (.string (zdN m.mem p.mem k))) A B m (dcM m p k) a b) := fun u h => h.m2.setB _ (by have := HA0.out; have := HAB.out; omega) (by have := HAB.out; omega)
        unfold vd1 at HDT
        generalize mixv m.mem 62 = M at *
        generalize pw M = q1 at *
        generalize pmV (dcM m p k) = PP at *
        have HJ4 : Hid (∀ u : World, Calls Try.prog 29 #[.slice (some ⟨u.heap.size, 0, none⟩) 4 4] (u.alloc (.cells #[.string { data := #[86, 68, 49, 10] }, .string q1, .string q2, .string PP] 9)) fun e w' => e = .returned (.string (doT m p k)) ∧ Below u.heap.size u w') := fun u => by
          rw [HDT.out]
          exact joined4 u _ q1 q2 PP (by have := HSS.out; show 4 + q1.size + q2.size + PP.size ≤ _; omega)
        have HIB : Hid (∀ u, Calls Try.prog 28 #[.string (doT m p k)] u fun e w' => e = .returned (.string (if 65536 < (doT m p k).size then ⟨#[]⟩ else doT m p k)) ∧ w' = u) := fun u => ifBounded_any _ u
        have k6 := HD.out.c6
        have kl6 := (Array.getElem?_eq_some_iff.1 HD.out.k6).1
        clear s1 s3 HDT
        go_upto_region 11 with fail
        go_wp2_with fail
        refine Calls.mono (HTX.out _ HD.out) ?_
        rintro e u4 ⟨rfl, hb⟩
        have HD4 : Hid (DQ w u4 A B C5 C6 bs bt k m p a b m.mem (zdN m.mem p.mem k)) := HD.out.step hb
        clear hb k6 kl6 HTX HD
        obtain ⟨d0, d1, d2, d3, d4, d5, d6, d7, d8, d9, d10, d11⟩ := HD4.out.m2.cB
        have dl := HD4.out.m2.lB
        have df := HD4.out.m2.fB 5
        have HX5 : Hid (M2 w (u4.setCell ⟨B, 5, none⟩ (.string (zdN m.mem p.mem k))) A B m (dcM m p k) a b) := HEC.out _ HD4.out
        go_upto_region 12 with fail
        clear d0 d1 d2 d3 d4 d5 d6 d7 d8 d9 d10 d11 dl df HEC HD4
        generalize (u4.setCell ⟨B, 5, none⟩ (.string (zdN m.mem p.mem k))) = u5 at *
        obtain ⟨d0, d1, d2, d3, d4, d5, d6, d7, d8, d9, d10, d11⟩ := HX5.out.cB
        have dl := HX5.out.lB
        simp only [dcM] at d0 d1 d2 d3 d4 d5 d6 d7 d8 d9 d10 d11
        generalize zdN m.mem p.mem k = q at *
        by_cases hp : PP = ⟨#[]⟩
        · have HR : Hid (doV m p = ⟨#[]⟩) := (show _ = _ by rw [E.out, HDO.out, if_pos hp])
          subst hp
          go_wp2_with (go_at_call 27; refine Calls.mono (HPM.out _ HX5.out) ?_; rintro e u6 ⟨rfl, hb⟩; have HX6 : Hid (M2 w u6 A B m (dcM m p k) a b) := HX5.out.step hb; clear hb)
          go_ret
          exact ⟨ret_str HR.out.symm, by first | exact HX6.out.bel | (rw [← HA0.out]; exact HX6.out.bel)⟩
        · have hpe : (PP.toList == []) = false := by have h9 := str_neM hp; rw [ByteArray.toList_eq (⟨#[]⟩)] at h9; exact h9
          rw [if_neg hp] at HDO
          clear hp
          have HR : Hid (doV m p = if 65536 < (doT m p k).size then ⟨#[]⟩ else doT m p k) := (show _ = _ by rw [E.out, HDO.out])
          rw [← HR.out] at HIB
          generalize doT m p k = TT at *
          go_upto_region 15 with (go_at_call 27; refine Calls.mono (HPM.out _ HX5.out) ?_; rintro e u6 ⟨rfl, hb⟩; have HX6 : Hid (M2 w u6 A B m (dcM m p k) a b) := HX5.out.step hb; clear hb)
          clear d0 d1 d2 d3 d4 d5 d6 d7 d8 d9 d10 d11 dl
          obtain ⟨c0, c1, c2, c3, c4, c5, c6, c7, c8, c9, c10, c11⟩ := HX6.out.cA
          have cl := HX6.out.lA
          go_wp2_with (first | (go_at_call 31; refine Calls.mono (HMI.out _) ?_; rintro e u99 ⟨rfl, hw1⟩; rw [hw1]; clear hw1 u99) | (go_at_call 30; refine Calls.mono (HPW.out _) ?_; rintro e u7 ⟨rfl, hb⟩; have HX7 : Hid (M2 w u7 A B m (dcM m p k) a b) := HX6.out.step hb; clear hb) | (go_at_call 29; refine Calls.mono (HJ4.out u7) ?_; rintro e u8 ⟨rfl, hb⟩; have HX8 : Hid (M2 w u8 A B m (dcM m p k) a b) := HX7.out.step hb; clear hb) | (go_at_call 28; refine Calls.mono (HIB.out _) ?_; rintro e u99 ⟨rfl, hw1⟩; rw [hw1]; clear hw1 u99))
          go_ret
          exact ⟨rfl, by first | exact HX8.out.bel | (rw [← HA0.out]; exact HX8.out.bel)⟩
end Go.Proofs.Ytmbdclbddbbdpaa
