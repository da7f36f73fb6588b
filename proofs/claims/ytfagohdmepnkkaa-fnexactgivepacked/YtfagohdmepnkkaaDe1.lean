import Derived.Test.YtfagohdmepnkkaaPMem4
import Derived.Test.YtfagohdmepnkkaaPk0
import Derived.Deep.RegionHeld3
import Derived.BigQuiet
import Derived.Laws.StructEq
namespace Go.Proofs.Ytfagohdmepnkkaa
open Go.ChangeShapes Go.WideShapes Go.ChangeAt Go.RowKit

/-- A descriptor. -/
structure DV where
  pos : Int
  len : Int
  write : Bool
  next : Bool
  indirect : Bool
  avail : Bool
  used : Bool
  number : Int
def dA (d : DV) : Value := .agg #[.int .i64 d.pos, .int .i64 d.len, .bool d.write, .bool d.next, .bool d.indirect, .bool d.avail, .bool d.used, .int .i64 d.number]
def fi (b : Bool) (x : Int) : Int := if b = true then x else 0
/-- Its flags as a word. -/
def dF (d : DV) : Int := fi d.next 1 + fi d.write 2 + fi d.indirect 4 + fi d.avail 128 + fi d.used 32768
theorem flagIf_any (b : Bool) (x : Int) (w : World) : Calls Try.prog 124 #[.bool b, .int .i64 x] w fun e w' => e = .returned (.int .i64 (fi b x)) ∧ w' = w := by
  cases b
  · go_enter Try.func124, Try.ntmps124
    go_wp2
    go_ret
    exact ⟨rfl, rfl⟩
  · go_enter Try.func124, Try.ntmps124
    go_wp2
    go_ret
    exact ⟨rfl, rfl⟩
theorem dF_or (a b c d e : Bool) : bits .or .i64 (bits .or .i64 (bits .or .i64 (bits .or .i64 (fi a 1) (fi b 2)) (fi c 4)) (fi d 128)) (fi e 32768) = fi a 1 + fi b 2 + fi c 4 + fi d 128 + fi e 32768 := by
  cases a <;> cases b <;> cases c <;> cases d <;> cases e <;> decide +kernel
set_option maxRecDepth 100000 in
set_option maxHeartbeats 4000000 in
theorem flags_any (d : DV) (w : World) : Calls Try.prog 107 #[dA d] w fun e w' => e = .returned (.int .i64 (dF d)) ∧ Below w.heap.size w w' := by
  obtain ⟨p, l, wr, nx, id, av, us, nm⟩ := d
  unfold dA
  have HO : Hid _ := dF_or nx wr id av us
  have HL : Hid _ := fun n => (LBx.new w #[.int .i64 p, .int .i64 l, .bool wr, .bool nx, .bool id, .bool av, .bool us, .int .i64 nm] 116).dn n
  go_enter Try.func107, Try.ntmps107
  go_wp2_with fail
  go_quiet ((go_at_call 124; exact Calls.quiet_of_same (flagIf_any _ _ _)))
  have HL1 : Hid _ := HL.out nq
  clear HL
  generalize ((w.alloc (.cells #[.int .i64 p, .int .i64 l, .bool wr, .bool nx, .bool id, .bool av, .bool us, .int .i64 nm] 116)).drewN nq) = V at *
  have c5 := HL1.out.cel 5 _ rfl
  have c6 := HL1.out.cel 6 _ rfl
  go_wp2_with fail
  go_quiet ((go_at_call 124; exact Calls.quiet_of_same (flagIf_any _ _ _)))
  go_wp2_with fail
  go_ret
  exact ⟨ret_int HO.out, bdn HL1.out.bel _⟩
/-- A descriptor's four words. -/
def wA (a b c d : Int) : Value := .agg #[.int .i64 a, .int .i64 b, .int .i64 c, .int .i64 d]
set_option maxRecDepth 100000 in
set_option maxHeartbeats 4000000 in
theorem words_any (d : DV) (w : World) : Calls Try.prog 68 #[dA d] w fun e w' => e = .returned (wA d.pos d.len (dF d) d.number) ∧ Below w.heap.size w w' := by
  have HF : Hid _ := fun u => flags_any d u
  generalize dF d = F at *
  obtain ⟨p, l, wr, nx, id, av, us, nm⟩ := d
  unfold dA at HF ⊢
  unfold wA
  have HX : Hid (∀ u, Below ((w.alloc (.cells #[.int .i64 p, .int .i64 l, .bool wr, .bool nx, .bool id, .bool av, .bool us, .int .i64 nm] 116)).alloc (.cells #[.int .i64 0, .int .i64 0, .int .i64 0, .int .i64 0] 119)).heap.size ((w.alloc (.cells #[.int .i64 p, .int .i64 l, .bool wr, .bool nx, .bool id, .bool av, .bool us, .int .i64 nm] 116)).alloc (.cells #[.int .i64 0, .int .i64 0, .int .i64 0, .int .i64 0] 119)) u → TwoBx w u #[.int .i64 p, .int .i64 l, .bool wr, .bool nx, .bool id, .bool av, .bool us, .int .i64 nm] 116 #[.int .i64 0, .int .i64 0, .int .i64 0, .int .i64 0] 119) := fun u h => TwoBx.of _ _ _ _ _ h
  go_enter Try.func68, Try.ntmps68
  go_wp2_with fail
  have HX0 : Hid _ := HX.out _ (Below.refl _ _)
  generalize ((w.alloc (.cells #[.int .i64 p, .int .i64 l, .bool wr, .bool nx, .bool id, .bool av, .bool us, .int .i64 nm] 116)).alloc (.cells #[.int .i64 0, .int .i64 0, .int .i64 0, .int .i64 0] 119)) = W0 at *
  have k0 := HX0.out.c1 0 _ rfl
  have k1 := HX0.out.c1 1 _ rfl
  have k2 := HX0.out.c1 2 _ rfl
  have k3 := HX0.out.c1 3 _ rfl
  have k4 := HX0.out.c1 4 _ rfl
  have k5 := HX0.out.c1 5 _ rfl
  have k6 := HX0.out.c1 6 _ rfl
  have k7 := HX0.out.c1 7 _ rfl
  go_region_held3 (fun w' => w'.cell? ⟨w.heap.size, 0, none⟩ = some (.int .i64 p) ∧ w'.cell? ⟨w.heap.size, 1, none⟩ = some (.int .i64 l) ∧ w'.cell? ⟨w.heap.size, 2, none⟩ = some (.bool wr) ∧ w'.cell? ⟨w.heap.size, 3, none⟩ = some (.bool nx) ∧ w'.cell? ⟨w.heap.size, 4, none⟩ = some (.bool id) ∧ w'.cell? ⟨w.heap.size, 5, none⟩ = some (.bool av) ∧ w'.cell? ⟨w.heap.size, 6, none⟩ = some (.bool us) ∧ w'.cell? ⟨w.heap.size, 7, none⟩ = some (.int .i64 nm)) (go_keep) ((go_at_call 107; refine Calls.mono (HF.out _) ?_; rintro e u1 ⟨rfl, hu⟩; have hb : Below W0.heap.size W0 u1 := ⟨hu.os, hu.tape, hu.output, hu.size, hu.block⟩; have HX1 : Hid _ := HX.out u1 hb; have f0 := HX1.out.c1 0 _ rfl; have f1 := HX1.out.c1 1 _ rfl; have f2 := HX1.out.c1 2 _ rfl; have f3 := HX1.out.c1 3 _ rfl; have f4 := HX1.out.c1 4 _ rfl; have f5 := HX1.out.c1 5 _ rfl; have f6 := HX1.out.c1 6 _ rfl; have f7 := HX1.out.c1 7 _ rfl; have g0 := HX1.out.c2 0 _ rfl; have g1 := HX1.out.c2 1 _ rfl; have g2 := HX1.out.c2 2 _ rfl; have g3 := HX1.out.c2 3 _ rfl; have gf := fun k => HX1.out.f2 k; clear hu hb))
  go_wp2_with fail
  refine bodyPost_ret (v := .agg #[.int .i64 p, .int .i64 l, .int .i64 F, .int .i64 nm]) ?_ rfl ⟨rfl, (((HX1.out.bel.setCell (by simp) _).setCell (by simp) _).setCell (by simp) _).setCell (by simp) _⟩
  simp [results, Try.results68, go_sem, g0, g1, g2, g3]
/-- A number is a word. -/
def wdB (a : Int) : Bool := decide (0 ≤ a ∧ a ≤ 4294967295)
theorem uDW : Try.prog.underlying 119 = some (.array 4 2) := by kernel_rfl
theorem szI (w : World) : (Go.sizeOf 2).run Try.prog w = .ok 1 w := by kernel_rfl
theorem pt0 (a b c d : Int) (w : World) : (part 2 #[.int .i64 a, .int .i64 b, .int .i64 c, .int .i64 d] 0).run Try.prog w = .ok (.int .i64 a) w := by kernel_rfl
theorem pt1 (a b c d : Int) (w : World) : (part 2 #[.int .i64 a, .int .i64 b, .int .i64 c, .int .i64 d] 1).run Try.prog w = .ok (.int .i64 b) w := by kernel_rfl
theorem pt2 (a b c d : Int) (w : World) : (part 2 #[.int .i64 a, .int .i64 b, .int .i64 c, .int .i64 d] 2).run Try.prog w = .ok (.int .i64 c) w := by kernel_rfl
theorem pt3 (a b c d : Int) (w : World) : (part 2 #[.int .i64 a, .int .i64 b, .int .i64 c, .int .i64 d] 3).run Try.prog w = .ok (.int .i64 d) w := by kernel_rfl
theorem eqi (n : Nat) (a b : Int) (w : World) : (Op.equalIn (n + 1) 2 (.int .i64 a) (.int .i64 b)).run Try.prog w = .ok (a == b) w := run_equalIn_int w n 2 .i64 .i64 a b Try.underlying2
theorem eqn4 (n : Nat) (a b c d a' b' c' d' : Int) (w : World) : (Op.equalIn (n + 2) 119 (.agg #[.int .i64 a, .int .i64 b, .int .i64 c, .int .i64 d]) (.agg #[.int .i64 a', .int .i64 b', .int .i64 c', .int .i64 d'])).run Try.prog w = .ok (a == a' && (b == b' && (c == c' && d == d'))) w := by
  rw [Op.equalIn]
  simp only [Sem.run_bind, run_underlying uDW, Result.andThen_ok, szI]
  rw [Std.Legacy.Range.forIn_eq_forIn_range']
  simp only [Std.Legacy.Range.size, show (4 - 0 + 1 - 1) / 1 = 4 by rfl, show List.range' 0 4 1 = [0, 1, 2, 3] by rfl, List.forIn_cons, List.forIn_nil, Nat.mul_one, Sem.run_bind, pt0, eqi, Result.andThen_ok, Sem.run_ite, Sem.run_pure]
  cases h0 : a == a' <;> cases h1 : b == b' <;> cases h2 : c == c' <;> cases h3 : d == d' <;> simp [Result.andThen, pt1, pt2, pt3, eqi, h1, h2, h3]
theorem eq4 (a b c d a' b' c' d' : Int) (w : World) : (binOp .eql 119 (.agg #[.int .i64 a, .int .i64 b, .int .i64 c, .int .i64 d]) (.agg #[.int .i64 a', .int .i64 b', .int .i64 c', .int .i64 d'])).run Try.prog w = .ok (.bool (a == a' && (b == b' && (c == c' && d == d')))) w := by
  rw [run_eql_struct, eqn4 9998]
  rfl
theorem wd_eq (a : Int) : (a == a % 4294967296) = wdB a := by
  unfold wdB
  by_cases h : 0 ≤ a ∧ a ≤ 4294967295
  · rw [decide_eq_true h]
    simp
    omega
  · rw [decide_eq_false h]
    simp
    omega
set_option maxRecDepth 100000 in
set_option maxHeartbeats 4000000 in
theorem fit_any (a b c d : Int) (w : World) : Calls Try.prog 69 #[wA a b c d] w fun e w' => e = .returned (.bool (wdB a && wdB b && wdB c && wdB d)) ∧ Below w.heap.size w w' := by
  have hE := fun u => eq4 a b c d (a % 4294967296) (b % 4294967296) (c % 4294967296) (d % 4294967296) u
  rw [wd_eq, wd_eq, wd_eq, wd_eq] at hE
  generalize wdB a = qa at *
  generalize wdB b = qb at *
  generalize wdB c = qc at *
  generalize wdB d = qd at *
  unfold wA
  have HL : Hid _ := (LBx.new w #[.int .i64 a, .int .i64 b, .int .i64 c, .int .i64 d] 119)
  go_enter Try.func69, Try.ntmps69
  go_wp2_with fail
  generalize ((w.alloc (.cells #[.int .i64 a, .int .i64 b, .int .i64 c, .int .i64 d] 119))) = V at *
  have c0 := HL.out.cel 0 _ rfl
  have c1 := HL.out.cel 1 _ rfl
  have c2 := HL.out.cel 2 _ rfl
  have c3 := HL.out.cel 3 _ rfl
  go_quiet ((go_at_call 108; exact Calls.quiet_of_same (implWord_any _ _)))
  go_wp2_with fail
  go_ret
  exact ⟨ret_bool (by cases qa <;> cases qb <;> cases qc <;> cases qd <;> rfl), bdn HL.out.bel _⟩
end Go.Proofs.Ytfagohdmepnkkaa
