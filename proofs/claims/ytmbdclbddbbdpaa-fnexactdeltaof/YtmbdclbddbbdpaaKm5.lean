import Derived.Test.YtmbdclbddbbdpaaKm4
namespace Go.Proofs.Ytmbdclbddbbdpaa
open Go.ChangeShapes Go.WideShapes Go.ChangeAt Go.RowKit

/-- A machine in its box at B, and its memory read at mb. -/
structure MZ (w u : World) (B : Nat) (m : MV) (a : MA) (mb : Nat) : Prop where
  my : MY w u B m a
  at_ : MemAt u mb m.mem
theorem MZ.step {w u u' : World} {B mb : Nat} {m : MV} {a : MA} (h : MZ w u B m a mb) (hb : Below u.heap.size u u') : MZ w u' B m a mb := ⟨h.my.step hb, h.at_.below hb h.at_.lt⟩
theorem words3 (u : World) (x y z : Int) : Irow (u.alloc (.cells #[.int .i64 x, .int .i64 y, .int .i64 z] 2)) (.slice (some ⟨u.heap.size, 0, none⟩) 3 3) [x, y, z] := by
  refine .inr ⟨u.heap.size, 0, 3, rfl, Nat.le_refl _, by simp, fun k hk => ?_⟩
  match k, hk with
  | 0, _ => exact (LG.new u #[.int .i64 x, .int .i64 y, .int .i64 z] 2).cel 0 _ rfl
  | 1, _ => exact (LG.new u #[.int .i64 x, .int .i64 y, .int .i64 z] 2).cel 1 _ rfl
  | 2, _ => exact (LG.new u #[.int .i64 x, .int .i64 y, .int .i64 z] 2).cel 2 _ rfl
theorem words7 (u : World) (x0 x1 x2 x3 x4 x5 x6 : Int) : Irow (u.alloc (.cells #[.int .i64 x0, .int .i64 x1, .int .i64 x2, .int .i64 x3, .int .i64 x4, .int .i64 x5, .int .i64 x6] 2)) (.slice (some ⟨u.heap.size, 0, none⟩) 7 7) [x0, x1, x2, x3, x4, x5, x6] := by
  refine .inr ⟨u.heap.size, 0, 7, rfl, Nat.le_refl _, by simp, fun k hk => ?_⟩
  match k, hk with
  | 0, _ => exact (LG.new u #[.int .i64 x0, .int .i64 x1, .int .i64 x2, .int .i64 x3, .int .i64 x4, .int .i64 x5, .int .i64 x6] 2).cel 0 _ rfl
  | 1, _ => exact (LG.new u #[.int .i64 x0, .int .i64 x1, .int .i64 x2, .int .i64 x3, .int .i64 x4, .int .i64 x5, .int .i64 x6] 2).cel 1 _ rfl
  | 2, _ => exact (LG.new u #[.int .i64 x0, .int .i64 x1, .int .i64 x2, .int .i64 x3, .int .i64 x4, .int .i64 x5, .int .i64 x6] 2).cel 2 _ rfl
  | 3, _ => exact (LG.new u #[.int .i64 x0, .int .i64 x1, .int .i64 x2, .int .i64 x3, .int .i64 x4, .int .i64 x5, .int .i64 x6] 2).cel 3 _ rfl
  | 4, _ => exact (LG.new u #[.int .i64 x0, .int .i64 x1, .int .i64 x2, .int .i64 x3, .int .i64 x4, .int .i64 x5, .int .i64 x6] 2).cel 4 _ rfl
  | 5, _ => exact (LG.new u #[.int .i64 x0, .int .i64 x1, .int .i64 x2, .int .i64 x3, .int .i64 x4, .int .i64 x5, .int .i64 x6] 2).cel 5 _ rfl
  | 6, _ => exact (LG.new u #[.int .i64 x0, .int .i64 x1, .int .i64 x2, .int .i64 x3, .int .i64 x4, .int .i64 x5, .int .i64 x6] 2).cel 6 _ rfl
theorem pw_wordM (n : Int) : pw (n % 4294967296) = pw n := by
  unfold pw
  rw [show n % 4294967296 % 256 = n % 256 by omega, show n % 4294967296 / 256 % 256 = n / 256 % 256 by omega, show n % 4294967296 / 65536 % 256 = n / 65536 % 256 by omega, show n % 4294967296 / 16777216 % 256 = n / 16777216 % 256 by omega]
/-- The pieces that the program joins. -/
theorem pieces_eq (m : MV) (n : Nat) : (⟨(catB [({ data := #[86, 77, 49, 10] } : ByteArray), pwT [(n : Int), (m.is.length : Int), (m.os.length : Int)], pwT [m.pc, m.md, m.st, m.ct % 4294967296, m.ct / 4294967296, m.ln, m.tr], pwT m.rs, pwT m.cs, pwT m.vs, pwT (ptL m.is), pwT (ptL m.os), mpB m.mem n]).toArray⟩ : ByteArray) = pmT m n := by
  have e1 : pwT (pmH m n) = pwT [(n : Int), (m.is.length : Int), (m.os.length : Int)] ++ pwT [m.pc, m.md, m.st, m.ct % 4294967296, m.ct / 4294967296, m.ln, m.tr] := by
    rw [← pwT_app]
    unfold pwT pwL pmH
    simp only [List.cons_append, List.nil_append, List.map_cons, pw_wordM]
  unfold pmT hdT
  rw [e1]
  exact ba_of _ _ (by simp [catB, vm1])
theorem joined9 (u : World) (ps : List ByteArray) (hl : ps.length = 9) (hz : (catB ps).length ≤ 1099511627776) : Calls Try.prog 29 #[.slice (some ⟨u.heap.size, 0, none⟩) 9 9] (u.alloc (.cells (ps.map Value.string).toArray 9)) fun e w' => e = .returned (.string ⟨(catB ps).toArray⟩) ∧ Below u.heap.size u w' := by
  refine (joined_any u.heap.size 9 9 ps _ hl (by simp) ?_ (by omega) hz).mono ?_
  · intro i hi
    have hh := heap_new u (.cells (ps.map Value.string).toArray 9)
    have hi2 : i < ps.length := by omega
    have e : ((ps.map Value.string).toArray)[i]? = some (.string (ps.getD i ByteArray.empty)) := by
      rw [List.getElem?_toArray, List.getElem?_map, List.getElem?_eq_getElem hi2, List.getD_eq_getElem?_getD, List.getElem?_eq_getElem hi2]
      rfl
    unfold World.cell?
    simp only [hh]
    exact e
  · rintro e w' ⟨rfl, hb⟩
    exact ⟨rfl, (bx1 u _).trans (hb.mono (by simp))⟩
theorem ifBounded_any (s : ByteArray) (w : World) : Calls Try.prog 28 #[.string s] w fun e w' => e = .returned (.string (if 65536 < s.size then ⟨#[]⟩ else s)) ∧ w' = w := by
  by_cases h : 65536 < s.size
  · have hd : decide (65536 < (s.size : Int)) = true := decide_eq_true (by omega)
    rw [if_pos h]
    go_enter Try.func28, Try.ntmps28
    go_wp2_with (go_at_call 57; refine (tooLong_any _ _).mono ?_; rintro e u0 ⟨rfl, hw0⟩; rw [hw0]; clear hw0 u0)
    go_ret
    exact ⟨rfl, rfl⟩
  · have hd : decide (65536 < (s.size : Int)) = false := decide_eq_false (by omega)
    rw [if_neg h]
    go_enter Try.func28, Try.ntmps28
    go_wp2_with (go_at_call 57; refine (tooLong_any _ _).mono ?_; rintro e u0 ⟨rfl, hw0⟩; rw [hw0]; clear hw0 u0)
    go_ret
    exact ⟨rfl, rfl⟩
set_option maxRecDepth 100000 in
set_option maxHeartbeats 8000000 in
theorem implPM_any {w : World} {m : MV} {a : MA} (h : MRows w m a) (hl : MLen m) : Calls Try.prog 27 #[.agg (mC m a)] w fun e w' => e = .returned (.string (pmV m)) ∧ Below w.heap.size w w' := by
  have HY : Hid (MY w (w.alloc (.cells #[.int .i64 m.pc, .slice a.ar m.rs.length a.cr, .int .i64 m.md, .slice a.ac m.cs.length a.cc, .slice a.av m.vs.length a.cv, .string m.mem, .int .i64 m.st, .int .i64 m.ct, .int .i64 m.ln, .slice a.ai m.is.length a.ci, .slice a.ao m.os.length a.co, .int .i64 m.tr] 30)) w.heap.size m a) := MY.new h
  have HMF : Hid (∀ u, MRows u m a → Calls Try.prog 22 #[.agg #[.int .i64 m.pc, .slice a.ar m.rs.length a.cr, .int .i64 m.md, .slice a.ac m.cs.length a.cc, .slice a.av m.vs.length a.cv, .string m.mem, .int .i64 m.st, .int .i64 m.ct, .int .i64 m.ln, .slice a.ai m.is.length a.ci, .slice a.ao m.os.length a.co, .int .i64 m.tr]] u fun e w' => e = .returned (.int .i64 (mfC m)) ∧ Below u.heap.size u w') := fun u hr => implMF_any hr hl
  clear h
  by_cases hf : mfC m = 0
  rotate_left
  · have E : Hid (pmV m = ⟨#[]⟩) := (show pmV m = _ by unfold pmV; rw [if_neg hf])
    have e1 : mfC m = 1 := by unfold mfC at hf ⊢; split at hf; exact absurd rfl hf; rename_i h; rw [if_neg h]
    rw [e1] at HMF
    clear hf e1
    unfold mC
    go_enter Try.func27, Try.ntmps27
    go_upto_region 1 with fail
    generalize (w.alloc (.cells #[.int .i64 m.pc, .slice a.ar m.rs.length a.cr, .int .i64 m.md, .slice a.ac m.cs.length a.cc, .slice a.av m.vs.length a.cv, .string m.mem, .int .i64 m.st, .int .i64 m.ct, .int .i64 m.ln, .slice a.ai m.is.length a.ci, .slice a.ao m.os.length a.co, .int .i64 m.tr] 30)) = u0 at *
    obtain ⟨c0, c1, c2, c3, c4, c5, c6, c7, c8, c9, c10, c11⟩ := HY.out.cel
    have cl := HY.out.lt
    go_wp2_with (go_at_call 22; refine Calls.mono (HMF.out _ HY.out.row) ?_; rintro e u1 ⟨rfl, hb⟩; have HY1 : Hid (MY w u1 w.heap.size m a) := HY.out.step hb; clear hb)
    go_ret
    exact ⟨ret_str E.out.symm, HY1.out.bel⟩
  have HOK0 := MOk.of hf
  have E : Hid (pmV m = pmO m (m.mem.size / 256)) := (show pmV m = _ by unfold pmV; rw [if_pos hf])
  generalize m.mem.size / 256 = n at *
  have HOK : Hid (MOk m n) := HOK0
  clear HOK0
  rw [hf] at HMF
  clear hf
  have HRM : Hid (∀ u, Calls Try.prog 23 #[.string m.mem] u fun e w' => e = .returned (.slice (some ⟨u.heap.size, 0, none⟩) n n) ∧ MemAt w' u.heap.size m.mem ∧ Below u.heap.size u w' ∧ w'.heap.size = u.heap.size + 1) := fun u => readMemory_any m.mem n u HOK.out.sz HOK.out.n2
  unfold mC
  go_enter Try.func27, Try.ntmps27
  go_upto_region 1 with fail
  generalize (w.alloc (.cells #[.int .i64 m.pc, .slice a.ar m.rs.length a.cr, .int .i64 m.md, .slice a.ac m.cs.length a.cc, .slice a.av m.vs.length a.cv, .string m.mem, .int .i64 m.st, .int .i64 m.ct, .int .i64 m.ln, .slice a.ai m.is.length a.ci, .slice a.ao m.os.length a.co, .int .i64 m.tr] 30)) = u9 at *
  obtain ⟨B, hB⟩ : ∃ B, w.heap.size = B := ⟨_, rfl⟩
  have HY2 : Hid (MY w u9 B m a) := (by rw [← hB]; exact HY.out)
  rw [hB]
  have HB0 : Hid (w.heap.size = B) := hB
  clear hB
  obtain ⟨c0, c1, c2, c3, c4, c5, c6, c7, c8, c9, c10, c11⟩ := HY2.out.cel
  have cl := HY2.out.lt
  go_upto_region 4 with (first | (go_at_call 22; refine Calls.mono (HMF.out _ HY2.out.row) ?_; rintro e u99 ⟨rfl, hb⟩; have HY3 : Hid (MY w u99 B m a) := HY2.out.step hb; clear hb c0 c1 c2 c3 c4 c5 c6 c7 c8 c9 c10 c11 cl; obtain ⟨c0, c1, c2, c3, c4, c5, c6, c7, c8, c9, c10, c11⟩ := HY3.out.cel; have cl := HY3.out.lt) | (go_at_call 23; refine Calls.mono (HRM.out _) ?_; rintro e u0 ⟨rfl, hat, hbl, hsz⟩; have HZ0' : Hid (MZ w u0 B m a u99.heap.size) := ⟨HY3.out.step hbl, hat⟩; clear hat hbl hsz))
  generalize u99.heap.size = mb at *
  have HZ0 : Hid (MZ w u0.drew B m a mb) := HZ0'.out.step (bdn (Below.refl _ _) 1)
  have HW0 : Hid (∀ u : World, Calls Try.prog 53 #[.slice (some ⟨u.heap.size, 0, none⟩) 3 3] (u.alloc (.cells #[.int .i64 (n : Int), .int .i64 (m.is.length : Int), .int .i64 (m.os.length : Int)] 2)) fun e w' => e = .returned (.string (pwT [(n : Int), (m.is.length : Int), (m.os.length : Int)])) ∧ Below u.heap.size u w') := fun u => Calls.mono (packWords_any (words3 u _ _ _) (by simp)) (by rintro e w' ⟨rfl, hb⟩; exact ⟨rfl, (bx1 u _).trans (hb.mono (by simp))⟩)
  have HW1 : Hid (∀ u : World, Calls Try.prog 53 #[.slice (some ⟨u.heap.size, 0, none⟩) 7 7] (u.alloc (.cells #[.int .i64 m.pc, .int .i64 m.md, .int .i64 m.st, .int .i64 (m.ct % 4294967296), .int .i64 (m.ct / 4294967296), .int .i64 m.ln, .int .i64 m.tr] 2)) fun e w' => e = .returned (.string (pwT [m.pc, m.md, m.st, m.ct % 4294967296, m.ct / 4294967296, m.ln, m.tr])) ∧ Below u.heap.size u w') := fun u => Calls.mono (packWords_any (words7 u _ _ _ _ _ _ _) (by simp)) (by rintro e w' ⟨rfl, hb⟩; exact ⟨rfl, (bx1 u _).trans (hb.mono (by simp))⟩)
  have HW2 : Hid (∀ u, MZ w u B m a mb → Calls Try.prog 53 #[.slice a.ar m.rs.length a.cr] u fun e w' => e = .returned (.string (pwT m.rs)) ∧ Below u.heap.size u w') := fun u hy => packWords_any hy.my.row.r (by have := HOK.out.r; omega)
  have HW3 : Hid (∀ u, MZ w u B m a mb → Calls Try.prog 53 #[.slice a.ac m.cs.length a.cc] u fun e w' => e = .returned (.string (pwT m.cs)) ∧ Below u.heap.size u w') := fun u hy => packWords_any hy.my.row.c (by have := HOK.out.c; omega)
  have HW4 : Hid (∀ u, MZ w u B m a mb → Calls Try.prog 53 #[.slice a.av m.vs.length a.cv] u fun e w' => e = .returned (.string (pwT m.vs)) ∧ Below u.heap.size u w') := fun u hy => packWords_any hy.my.row.v (by have := HOK.out.v; omega)
  have HW5 : Hid (∀ u, MZ w u B m a mb → Calls Try.prog 55 #[.slice a.ai m.is.length a.ci] u fun e w' => e = .returned (.string (pwT (ptL m.is))) ∧ Below u.heap.size u w') := fun u hy => packPorts_any hy.my.row.i HOK.out.i
  have HW6 : Hid (∀ u, MZ w u B m a mb → Calls Try.prog 55 #[.slice a.ao m.os.length a.co] u fun e w' => e = .returned (.string (pwT (ptL m.os))) ∧ Below u.heap.size u w') := fun u hy => packPorts_any hy.my.row.o HOK.out.o
  have HW7 : Hid (∀ u, MZ w u B m a mb → Calls Try.prog 56 #[.slice (some ⟨mb, 0, none⟩) n n] u fun e w' => e = .returned (.string (mpB m.mem n)) ∧ Below u.heap.size u w') := fun u hy => packed_any hy.at_ HOK.out.sz HOK.out.n2
  have HPC := pieces_eq m n
  have hcat : (catB [({ data := #[86, 77, 49, 10] } : ByteArray), pwT [(n : Int), (m.is.length : Int), (m.os.length : Int)], pwT [m.pc, m.md, m.st, m.ct % 4294967296, m.ct / 4294967296, m.ln, m.tr], pwT m.rs, pwT m.cs, pwT m.vs, pwT (ptL m.is), pwT (ptL m.os), mpB m.mem n]).length ≤ 1099511627776 := by
    have e := congrArg ByteArray.size HPC
    have e2 : (pmT m n).size ≤ 100000 := by have := pmK_size HOK.out n (Nat.le_refl _); have e3 : pmT m n = pmK m n n := rfl; rw [e3]; have := HOK.out.n2; omega
    have e4 : ∀ l : List UInt8, (⟨l.toArray⟩ : ByteArray).size = l.length := fun l => by show l.toArray.size = _; rw [List.size_toArray]
    rw [e4] at e
    omega
  have HW8 : Hid (∀ u : World, Calls Try.prog 29 #[.slice (some ⟨u.heap.size, 0, none⟩) 9 9] (u.alloc (.cells #[.string { data := #[86, 77, 49, 10] }, .string (pwT [(n : Int), (m.is.length : Int), (m.os.length : Int)]), .string (pwT [m.pc, m.md, m.st, m.ct % 4294967296, m.ct / 4294967296, m.ln, m.tr]), .string (pwT m.rs), .string (pwT m.cs), .string (pwT m.vs), .string (pwT (ptL m.is)), .string (pwT (ptL m.os)), .string (mpB m.mem n)] 9)) fun e w' => e = .returned (.string (pmT m n)) ∧ Below u.heap.size u w') := fun u => by
    have h9 := joined9 u _ rfl hcat
    rw [HPC] at h9
    exact h9
  clear HPC hcat
  have HTS : Hid ((pmT m n).size ≤ 100000) := (show _ ≤ _ by have := pmK_size HOK.out n (Nat.le_refl _); have e3 : pmT m n = pmK m n n := rfl; rw [e3]; have := HOK.out.n2; omega)
  have HPO : Hid (pmO m n = if (pmT m n).size + 4 ≤ 65536 then pmT m n ++ pw (mixv (pmT m n) 61) else ⟨#[]⟩) := (show _ = _ from rfl)
  generalize pwT [(n : Int), (m.is.length : Int), (m.os.length : Int)] = q0 at *
  have hct0 : (0 : Int) ≤ m.ct := HOK.out.t0
  have hct1 : m.ct ≤ 1099511627776 := HOK.out.t1
  generalize pwT [m.pc, m.md, m.st, m.ct % 4294967296, m.ct / 4294967296, m.ln, m.tr] = q1 at *
  obtain ⟨CH, hCH⟩ : ∃ CH, m.ct / 4294967296 = CH := ⟨_, rfl⟩
  rw [hCH] at HW1
  have hqt : m.ct.tdiv 4294967296 = CH := by rw [Int.tdiv_eq_ediv_of_nonneg hct0]; exact hCH
  have hcw : IntKind.i64.wrap CH = CH := by rw [IntKind.wrap_i64]; omega
  clear hCH
  generalize pwT m.rs = q2 at *
  generalize pwT m.cs = q3 at *
  generalize pwT m.vs = q4 at *
  generalize pwT (ptL m.is) = q5 at *
  generalize pwT (ptL m.os) = q6 at *
  generalize mpB m.mem n = q7 at *
  generalize pmT m n = XX at *
  clear HZ0' HMF HRM c0 c1 c2 c3 c4 c5 c6 c7 c8 c9 c10 c11 cl HY HY2 HY3
  refine wp_region_held (S := fun w9 => MZ w w9 B m a mb) (by kernel_rfl) ?_
  change wpAnyH _ _ _ _ _ _ _ _ (World.drew _)
  refine wpAnyH_take (i := 0) (v := .slice (some ⟨mb, 0, none⟩) n n) rfl (by kernel_rfl) (by kernel_rfl) (by kernel_rfl) (fun _ _ _ h => h) (Or.inl ⟨by kernel_rfl, fun w9 h9 => ?_⟩) HZ0.out ?_
  · go_simp
  refine wpAnyH_take (i := 1) (v := .int .i64 (n : Int)) rfl (by kernel_rfl) (by kernel_rfl) (by kernel_rfl) (fun _ _ _ h => h) (Or.inl ⟨by kernel_rfl, fun w9 h9 => ?_⟩) HZ0.out ?_
  · go_simp
  refine wpAnyH_take (i := 2) (v := .pointer (some ⟨B, 9, none⟩)) rfl (by kernel_rfl) (by kernel_rfl) (by kernel_rfl) (fun _ _ _ h => h) (Or.inl ⟨by kernel_rfl, fun w9 h9 => ?_⟩) HZ0.out ?_
  · go_simp
  refine wpAnyH_take (i := 3) (v := .slice a.ai m.is.length a.ci) rfl (by kernel_rfl) (by kernel_rfl) (by kernel_rfl) (fun _ _ _ h => h) (Or.inl ⟨by kernel_rfl, fun w9 h9 => ?_⟩) HZ0.out ?_
  · obtain ⟨c0, c1, c2, c3, c4, c5, c6, c7, c8, c9, c10, c11⟩ := h9.my.cel; have cl := h9.my.lt; clear h9; go_simp
  refine wpAnyH_take (i := 4) (v := .int .i64 (m.is.length : Nat)) rfl (by kernel_rfl) (by kernel_rfl) (by kernel_rfl) (fun _ _ _ h => h) (Or.inl ⟨by kernel_rfl, fun w9 h9 => ?_⟩) HZ0.out ?_
  · go_simp
  refine wpAnyH_take (i := 5) (v := .pointer (some ⟨B, 10, none⟩)) rfl (by kernel_rfl) (by kernel_rfl) (by kernel_rfl) (fun _ _ _ h => h) (Or.inl ⟨by kernel_rfl, fun w9 h9 => ?_⟩) HZ0.out ?_
  · go_simp
  refine wpAnyH_take (i := 6) (v := .slice a.ao m.os.length a.co) rfl (by kernel_rfl) (by kernel_rfl) (by kernel_rfl) (fun _ _ _ h => h) (Or.inl ⟨by kernel_rfl, fun w9 h9 => ?_⟩) HZ0.out ?_
  · obtain ⟨c0, c1, c2, c3, c4, c5, c6, c7, c8, c9, c10, c11⟩ := h9.my.cel; have cl := h9.my.lt; clear h9; go_simp
  refine wpAnyH_take (i := 7) (v := .int .i64 (m.os.length : Nat)) rfl (by kernel_rfl) (by kernel_rfl) (by kernel_rfl) (fun _ _ _ h => h) (Or.inl ⟨by kernel_rfl, fun w9 h9 => ?_⟩) HZ0.out ?_
  · go_simp
  refine wpAnyH_take (i := 10) (v := .pointer (some ⟨B, 0, none⟩)) rfl (by kernel_rfl) (by kernel_rfl) (by kernel_rfl) (fun _ _ _ h => h) (Or.inl ⟨by kernel_rfl, fun w9 h9 => ?_⟩) HZ0.out ?_
  · go_simp
  refine wpAnyH_take (i := 11) (v := .int .i64 m.pc) rfl (by kernel_rfl) (by kernel_rfl) (by kernel_rfl) (fun _ _ _ h => h) (Or.inl ⟨by kernel_rfl, fun w9 h9 => ?_⟩) HZ0.out ?_
  · obtain ⟨c0, c1, c2, c3, c4, c5, c6, c7, c8, c9, c10, c11⟩ := h9.my.cel; have cl := h9.my.lt; clear h9; go_simp
  refine wpAnyH_take (i := 12) (v := .pointer (some ⟨B, 2, none⟩)) rfl (by kernel_rfl) (by kernel_rfl) (by kernel_rfl) (fun _ _ _ h => h) (Or.inl ⟨by kernel_rfl, fun w9 h9 => ?_⟩) HZ0.out ?_
  · go_simp
  refine wpAnyH_take (i := 13) (v := .int .i64 m.md) rfl (by kernel_rfl) (by kernel_rfl) (by kernel_rfl) (fun _ _ _ h => h) (Or.inl ⟨by kernel_rfl, fun w9 h9 => ?_⟩) HZ0.out ?_
  · obtain ⟨c0, c1, c2, c3, c4, c5, c6, c7, c8, c9, c10, c11⟩ := h9.my.cel; have cl := h9.my.lt; clear h9; go_simp
  refine wpAnyH_take (i := 14) (v := .pointer (some ⟨B, 6, none⟩)) rfl (by kernel_rfl) (by kernel_rfl) (by kernel_rfl) (fun _ _ _ h => h) (Or.inl ⟨by kernel_rfl, fun w9 h9 => ?_⟩) HZ0.out ?_
  · go_simp
  refine wpAnyH_take (i := 15) (v := .int .i64 m.st) rfl (by kernel_rfl) (by kernel_rfl) (by kernel_rfl) (fun _ _ _ h => h) (Or.inl ⟨by kernel_rfl, fun w9 h9 => ?_⟩) HZ0.out ?_
  · obtain ⟨c0, c1, c2, c3, c4, c5, c6, c7, c8, c9, c10, c11⟩ := h9.my.cel; have cl := h9.my.lt; clear h9; go_simp
  refine wpAnyH_take (i := 16) (v := .pointer (some ⟨B, 7, none⟩)) rfl (by kernel_rfl) (by kernel_rfl) (by kernel_rfl) (fun _ _ _ h => h) (Or.inl ⟨by kernel_rfl, fun w9 h9 => ?_⟩) HZ0.out ?_
  · go_simp
  refine wpAnyH_take (i := 17) (v := .int .i64 m.ct) rfl (by kernel_rfl) (by kernel_rfl) (by kernel_rfl) (fun _ _ _ h => h) (Or.inl ⟨by kernel_rfl, fun w9 h9 => ?_⟩) HZ0.out ?_
  · obtain ⟨c0, c1, c2, c3, c4, c5, c6, c7, c8, c9, c10, c11⟩ := h9.my.cel; have cl := h9.my.lt; clear h9; go_simp
  refine wpAnyH_take (i := 19) (v := .pointer (some ⟨B, 7, none⟩)) rfl (by kernel_rfl) (by kernel_rfl) (by kernel_rfl) (fun _ _ _ h => h) (Or.inl ⟨by kernel_rfl, fun w9 h9 => ?_⟩) HZ0.out ?_
  · go_simp
  refine wpAnyH_take (i := 20) (v := .int .i64 m.ct) rfl (by kernel_rfl) (by kernel_rfl) (by kernel_rfl) (fun _ _ _ h => h) (Or.inl ⟨by kernel_rfl, fun w9 h9 => ?_⟩) HZ0.out ?_
  · obtain ⟨c0, c1, c2, c3, c4, c5, c6, c7, c8, c9, c10, c11⟩ := h9.my.cel; have cl := h9.my.lt; clear h9; go_simp
  refine wpAnyH_take (i := 21) (v := .int .i64 CH) rfl (by kernel_rfl) (by kernel_rfl) (by kernel_rfl) (fun _ _ _ h => h) (Or.inl ⟨by kernel_rfl, fun w9 h9 => ?_⟩) HZ0.out ?_
  · go_simp
  refine wpAnyH_take (i := 22) (v := .pointer (some ⟨B, 8, none⟩)) rfl (by kernel_rfl) (by kernel_rfl) (by kernel_rfl) (fun _ _ _ h => h) (Or.inl ⟨by kernel_rfl, fun w9 h9 => ?_⟩) HZ0.out ?_
  · go_simp
  refine wpAnyH_take (i := 23) (v := .int .i64 m.ln) rfl (by kernel_rfl) (by kernel_rfl) (by kernel_rfl) (fun _ _ _ h => h) (Or.inl ⟨by kernel_rfl, fun w9 h9 => ?_⟩) HZ0.out ?_
  · obtain ⟨c0, c1, c2, c3, c4, c5, c6, c7, c8, c9, c10, c11⟩ := h9.my.cel; have cl := h9.my.lt; clear h9; go_simp
  refine wpAnyH_take (i := 24) (v := .pointer (some ⟨B, 11, none⟩)) rfl (by kernel_rfl) (by kernel_rfl) (by kernel_rfl) (fun _ _ _ h => h) (Or.inl ⟨by kernel_rfl, fun w9 h9 => ?_⟩) HZ0.out ?_
  · go_simp
  refine wpAnyH_take (i := 25) (v := .int .i64 m.tr) rfl (by kernel_rfl) (by kernel_rfl) (by kernel_rfl) (fun _ _ _ h => h) (Or.inl ⟨by kernel_rfl, fun w9 h9 => ?_⟩) HZ0.out ?_
  · obtain ⟨c0, c1, c2, c3, c4, c5, c6, c7, c8, c9, c10, c11⟩ := h9.my.cel; have cl := h9.my.lt; clear h9; go_simp
  refine wpAnyH_take (i := 28) (v := .pointer (some ⟨B, 1, none⟩)) rfl (by kernel_rfl) (by kernel_rfl) (by kernel_rfl) (fun _ _ _ h => h) (Or.inl ⟨by kernel_rfl, fun w9 h9 => ?_⟩) HZ0.out ?_
  · go_simp
  refine wpAnyH_take (i := 29) (v := .slice a.ar m.rs.length a.cr) rfl (by kernel_rfl) (by kernel_rfl) (by kernel_rfl) (fun _ _ _ h => h) (Or.inl ⟨by kernel_rfl, fun w9 h9 => ?_⟩) HZ0.out ?_
  · obtain ⟨c0, c1, c2, c3, c4, c5, c6, c7, c8, c9, c10, c11⟩ := h9.my.cel; have cl := h9.my.lt; clear h9; go_simp
  refine wpAnyH_take (i := 31) (v := .pointer (some ⟨B, 3, none⟩)) rfl (by kernel_rfl) (by kernel_rfl) (by kernel_rfl) (fun _ _ _ h => h) (Or.inl ⟨by kernel_rfl, fun w9 h9 => ?_⟩) HZ0.out ?_
  · go_simp
  refine wpAnyH_take (i := 32) (v := .slice a.ac m.cs.length a.cc) rfl (by kernel_rfl) (by kernel_rfl) (by kernel_rfl) (fun _ _ _ h => h) (Or.inl ⟨by kernel_rfl, fun w9 h9 => ?_⟩) HZ0.out ?_
  · obtain ⟨c0, c1, c2, c3, c4, c5, c6, c7, c8, c9, c10, c11⟩ := h9.my.cel; have cl := h9.my.lt; clear h9; go_simp
  refine wpAnyH_take (i := 34) (v := .pointer (some ⟨B, 4, none⟩)) rfl (by kernel_rfl) (by kernel_rfl) (by kernel_rfl) (fun _ _ _ h => h) (Or.inl ⟨by kernel_rfl, fun w9 h9 => ?_⟩) HZ0.out ?_
  · go_simp
  refine wpAnyH_take (i := 35) (v := .slice a.av m.vs.length a.cv) rfl (by kernel_rfl) (by kernel_rfl) (by kernel_rfl) (fun _ _ _ h => h) (Or.inl ⟨by kernel_rfl, fun w9 h9 => ?_⟩) HZ0.out ?_
  · obtain ⟨c0, c1, c2, c3, c4, c5, c6, c7, c8, c9, c10, c11⟩ := h9.my.cel; have cl := h9.my.lt; clear h9; go_simp
  refine wpAnyH_take (i := 37) (v := .pointer (some ⟨B, 9, none⟩)) rfl (by kernel_rfl) (by kernel_rfl) (by kernel_rfl) (fun _ _ _ h => h) (Or.inl ⟨by kernel_rfl, fun w9 h9 => ?_⟩) HZ0.out ?_
  · go_simp
  refine wpAnyH_take (i := 38) (v := .slice a.ai m.is.length a.ci) rfl (by kernel_rfl) (by kernel_rfl) (by kernel_rfl) (fun _ _ _ h => h) (Or.inl ⟨by kernel_rfl, fun w9 h9 => ?_⟩) HZ0.out ?_
  · obtain ⟨c0, c1, c2, c3, c4, c5, c6, c7, c8, c9, c10, c11⟩ := h9.my.cel; have cl := h9.my.lt; clear h9; go_simp
  refine wpAnyH_take (i := 40) (v := .pointer (some ⟨B, 10, none⟩)) rfl (by kernel_rfl) (by kernel_rfl) (by kernel_rfl) (fun _ _ _ h => h) (Or.inl ⟨by kernel_rfl, fun w9 h9 => ?_⟩) HZ0.out ?_
  · go_simp
  refine wpAnyH_take (i := 41) (v := .slice a.ao m.os.length a.co) rfl (by kernel_rfl) (by kernel_rfl) (by kernel_rfl) (fun _ _ _ h => h) (Or.inl ⟨by kernel_rfl, fun w9 h9 => ?_⟩) HZ0.out ?_
  · obtain ⟨c0, c1, c2, c3, c4, c5, c6, c7, c8, c9, c10, c11⟩ := h9.my.cel; have cl := h9.my.lt; clear h9; go_simp
  refine wpAnyH_take (i := 43) (v := .slice (some ⟨mb, 0, none⟩) n n) rfl (by kernel_rfl) (by kernel_rfl) (by kernel_rfl) (fun _ _ _ h => h) (Or.inl ⟨by kernel_rfl, fun w9 h9 => ?_⟩) HZ0.out ?_
  · go_simp
  refine held_one 8 (by kernel_rfl) rfl (by kernel_rfl) fun K hK => ?_
  go_simp
  refine hK _ _ (HZ0.out.step (bx1 _ _)) ?_
  clear hK K
  refine held_one 9 (by kernel_rfl) rfl (by kernel_rfl) fun K hK => ?_
  go_simp
  go_wp2_with (go_at_call 53; refine Calls.mono (HW0.out u0.drew) ?_; rintro e u1 ⟨rfl, hb⟩; have HZ1 : Hid (MZ w u1 B m a mb) := HZ0.out.step hb; clear hb)
  refine hK _ _ HZ1.out ?_
  clear hK K
  refine held_one 18 (by kernel_rfl) rfl (by kernel_rfl) fun K hK => ?_
  go_simp
  go_wp2_with (go_at_call 54; refine Calls.mono (implWord_any m.ct _) ?_; rintro e u99 ⟨rfl, hw1⟩; rw [hw1]; clear hw1 u99)
  refine hK _ _ HZ1.out ?_
  clear hK K
  refine held_one 26 (by kernel_rfl) rfl (by kernel_rfl) fun K hK => ?_
  go_simp
  refine hK _ _ (HZ1.out.step (bx1 _ _)) ?_
  clear hK K
  refine held_one 27 (by kernel_rfl) rfl (by kernel_rfl) fun K hK => ?_
  go_simp
  go_wp2_with (go_at_call 53; refine Calls.mono (HW1.out u1) ?_; rintro e u2 ⟨rfl, hb⟩; have HZ2 : Hid (MZ w u2 B m a mb) := HZ1.out.step hb; clear hb)
  refine hK _ _ HZ2.out ?_
  clear hK K
  refine held_one 30 (by kernel_rfl) rfl (by kernel_rfl) fun K hK => ?_
  go_simp
  go_wp2_with (go_at_call 53; refine Calls.mono (HW2.out _ HZ2.out) ?_; rintro e u3 ⟨rfl, hb⟩; have HZ3 : Hid (MZ w u3 B m a mb) := HZ2.out.step hb; clear hb)
  refine hK _ _ HZ3.out ?_
  clear hK K
  refine held_one 33 (by kernel_rfl) rfl (by kernel_rfl) fun K hK => ?_
  go_simp
  go_wp2_with (go_at_call 53; refine Calls.mono (HW3.out _ HZ3.out) ?_; rintro e u4 ⟨rfl, hb⟩; have HZ4 : Hid (MZ w u4 B m a mb) := HZ3.out.step hb; clear hb)
  refine hK _ _ HZ4.out ?_
  clear hK K
  refine held_one 36 (by kernel_rfl) rfl (by kernel_rfl) fun K hK => ?_
  go_simp
  go_wp2_with (go_at_call 53; refine Calls.mono (HW4.out _ HZ4.out) ?_; rintro e u5 ⟨rfl, hb⟩; have HZ5 : Hid (MZ w u5 B m a mb) := HZ4.out.step hb; clear hb)
  refine hK _ _ HZ5.out ?_
  clear hK K
  refine held_one 39 (by kernel_rfl) rfl (by kernel_rfl) fun K hK => ?_
  go_simp
  go_wp2_with (go_at_call 55; refine Calls.mono (HW5.out _ HZ5.out) ?_; rintro e u6 ⟨rfl, hb⟩; have HZ6 : Hid (MZ w u6 B m a mb) := HZ5.out.step hb; clear hb)
  refine hK _ _ HZ6.out ?_
  clear hK K
  refine held_one 42 (by kernel_rfl) rfl (by kernel_rfl) fun K hK => ?_
  go_simp
  go_wp2_with (go_at_call 55; refine Calls.mono (HW6.out _ HZ6.out) ?_; rintro e u7 ⟨rfl, hb⟩; have HZ7 : Hid (MZ w u7 B m a mb) := HZ6.out.step hb; clear hb)
  refine hK _ _ HZ7.out ?_
  clear hK K
  refine held_one 44 (by kernel_rfl) rfl (by kernel_rfl) fun K hK => ?_
  go_simp
  go_wp2_with (go_at_call 56; refine Calls.mono (HW7.out _ HZ7.out) ?_; rintro e u8 ⟨rfl, hb⟩; have HZ8 : Hid (MZ w u8 B m a mb) := HZ7.out.step hb; clear hb)
  refine hK _ _ HZ8.out ?_
  clear hK K
  refine held_one 45 (by kernel_rfl) rfl (by kernel_rfl) fun K hK => ?_
  go_simp
  refine hK _ _ (HZ8.out.step (bx1 _ _)) ?_
  clear hK K
  refine held_one 46 (by kernel_rfl) rfl (by kernel_rfl) fun K hK => ?_
  go_simp
  go_wp2_with (go_at_call 29; refine Calls.mono (HW8.out u8) ?_; rintro e u9 ⟨rfl, hb⟩; have HZ9 : Hid (MZ w u9 B m a mb) := HZ8.out.step hb; clear hb)
  refine hK _ _ HZ9.out ?_
  clear hK K
  refine wpAnyH_take (i := 47) (v := .string XX) rfl (by kernel_rfl) (by kernel_rfl) (by kernel_rfl) (fun _ _ _ h => h) (Or.inl ⟨by kernel_rfl, fun w9 h9 => ?_⟩) HZ9.out ?_
  · go_simp
  refine wpAnyH_done (by kernel_rfl) ?_ _
  go_simp
  clear HW0 HW1 HW2 HW3 HW4 HW5 HW6 HW7 HW8 hqt hcw hct0 hct1
  have HMI : Hid (∀ u, Calls Try.prog 31 #[.string XX, .int .i64 61] u fun e w' => e = .returned (.int .i64 (mixv XX 61)) ∧ w' = u) := fun u => implMix_any XX 61 u (by have := HTS.out; omega)
  generalize mixv XX 61 = M at *
  have HPW : Hid (∀ u, Calls Try.prog 30 #[.int .i64 M] u fun e w' => e = .returned (.string (pw M)) ∧ Below u.heap.size u w') := fun u => implPutWord_any M u
  have hpz := pw_sz M
  have HJ2 : Hid (∀ u : World, Calls Try.prog 29 #[.slice (some ⟨u.heap.size, 0, none⟩) 2 2] (u.alloc (.cells #[.string XX, .string (pw M)] 9)) fun e w' => e = .returned (.string (XX ++ pw M)) ∧ Below u.heap.size u w') := fun u => joined2 u XX (pw M) (by have := HTS.out; omega)
  have HIB : Hid (∀ u, Calls Try.prog 28 #[.string (XX ++ pw M)] u fun e w' => e = .returned (.string (pmV m)) ∧ w' = u) := fun u => by
    have h9 := ifBounded_any (XX ++ pw M) u
    have e : (if 65536 < (XX ++ pw M).size then (⟨#[]⟩ : ByteArray) else XX ++ pw M) = pmV m := by
      rw [E.out, HPO.out, ByteArray.size_append, hpz]
      by_cases hle : XX.size + 4 ≤ 65536
      · rw [if_pos hle, if_neg (by omega)]
      · rw [if_neg hle, if_pos (by omega)]
    rw [e] at h9
    exact h9
  clear HPO hpz E
  generalize XX ++ pw M = R at *
  generalize pw M = q at *
  go_wp2_with (first | (go_at_call 31; refine Calls.mono (HMI.out _) ?_; rintro e u99 ⟨rfl, hw1⟩; rw [hw1]; clear hw1 u99) | (go_at_call 30; refine Calls.mono (HPW.out _) ?_; rintro e u10 ⟨rfl, hb⟩; have HZ10 : Hid (MZ w u10 B m a mb) := HZ9.out.step hb; clear hb) | (go_at_call 29; refine Calls.mono (HJ2.out u10) ?_; rintro e u11 ⟨rfl, hb⟩; have HZ11 : Hid (MZ w u11 B m a mb) := HZ10.out.step hb; clear hb) | (go_at_call 28; refine Calls.mono (HIB.out _) ?_; rintro e u99 ⟨rfl, hw1⟩; rw [hw1]; clear hw1 u99))
  go_ret
  exact ⟨rfl, by first | exact HZ11.out.my.bel | (rw [← HB0.out]; exact HZ11.out.my.bel)⟩
end Go.Proofs.Ytmbdclbddbbdpaa
