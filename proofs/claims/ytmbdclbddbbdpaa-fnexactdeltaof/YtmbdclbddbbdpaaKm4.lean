import Derived.Test.YtmbdclbddbbdpaaKm1
import Derived.Test.YtmbdclbddbbdpaaKm3
import Derived.Test.YtmbdclbddbbdpaaMFd
import Derived.Test.YtmbdclbddbbdpaaMFe
import Derived.Test.YtmbdclbddbbdpaaMix
import Derived.Test.YtmbdclbddbbdpaaHl
import Derived.Deep.CutRange
import Derived.Deep.RegionWith
namespace Go.Proofs.Ytmbdclbddbbdpaa
open Go.ChangeShapes Go.WideShapes Go.ChangeAt Go.RowKit

/-- A machine in its box at B, and its rows. -/
structure MY (w u : World) (B : Nat) (m : MV) (a : MA) : Prop where
  bel : Below w.heap.size w u
  box : u.heap[B]? = some (.cells (mC m a) 30 (0, 0))
  row : MRows u m a
theorem MY.lt {w u : World} {B : Nat} {m : MV} {a : MA} (h : MY w u B m a) : B < u.heap.size := (Array.getElem?_eq_some_iff.1 h.box).1
theorem MY.step {w u u' : World} {B : Nat} {m : MV} {a : MA} (h : MY w u B m a) (hb : Below u.heap.size u u') : MY w u' B m a :=
  ⟨h.bel.trans (hb.mono h.bel.size), (hb.block _ h.lt).trans h.box, h.row.below hb⟩
theorem MY.drew {w u : World} {B : Nat} {m : MV} {a : MA} (h : MY w u B m a) : MY w u.drew B m a := ⟨bdn h.bel 1, h.box, h.row.below (bdn (Below.refl _ _) 1)⟩
theorem MY.new {w : World} {m : MV} {a : MA} (h : MRows w m a) : MY w (w.alloc (.cells (mC m a) 30)) w.heap.size m a := ⟨bx1 _ _, heap_new _ _, h.below (bx1 _ _)⟩
theorem MY.cel {w u : World} {B : Nat} {m : MV} {a : MA} (h : MY w u B m a) : u.cell? ⟨B, 0, none⟩ = some (.int .i64 m.pc) ∧ u.cell? ⟨B, 1, none⟩ = some (.slice a.ar m.rs.length a.cr) ∧ u.cell? ⟨B, 2, none⟩ = some (.int .i64 m.md) ∧ u.cell? ⟨B, 3, none⟩ = some (.slice a.ac m.cs.length a.cc) ∧ u.cell? ⟨B, 4, none⟩ = some (.slice a.av m.vs.length a.cv) ∧ u.cell? ⟨B, 5, none⟩ = some (.string m.mem) ∧ u.cell? ⟨B, 6, none⟩ = some (.int .i64 m.st) ∧ u.cell? ⟨B, 7, none⟩ = some (.int .i64 m.ct) ∧ u.cell? ⟨B, 8, none⟩ = some (.int .i64 m.ln) ∧ u.cell? ⟨B, 9, none⟩ = some (.slice a.ai m.is.length a.ci) ∧ u.cell? ⟨B, 10, none⟩ = some (.slice a.ao m.os.length a.co) ∧ u.cell? ⟨B, 11, none⟩ = some (.int .i64 m.tr) := by
  have h2 := h.box
  unfold mC at h2
  obtain ⟨c0, c1, c2, c3, c4, c5, c6, c7, c8, c9, c10, c11, _⟩ := cel12 h2
  exact ⟨c0, c1, c2, c3, c4, c5, c6, c7, c8, c9, c10, c11⟩
def vm1 : ByteArray := ⟨#[86, 77, 49, 10]⟩
/-- The words ahead of a machine's lists. -/
def pmH (m : MV) (n : Nat) : List Int := [(n : Int), (m.is.length : Int), (m.os.length : Int), m.pc, m.md, m.st, m.ct, m.ct / 4294967296, m.ln, m.tr]
/-- The text of a machine up to its memory. -/
def hdT (m : MV) (n : Nat) : ByteArray := vm1 ++ pwT (pmH m n) ++ pwT m.rs ++ pwT m.cs ++ pwT m.vs ++ pwT (ptL m.is) ++ pwT (ptL m.os)
def pmT (m : MV) (n : Nat) : ByteArray := hdT m n ++ mpB m.mem n
def pmO (m : MV) (n : Nat) : ByteArray := if (pmT m n).size + 4 ≤ 65536 then pmT m n ++ pw (mixv (pmT m n) 61) else ⟨#[]⟩
/-- What PackMachine answers. -/
def pmV (m : MV) : ByteArray := if mfC m = 0 then pmO m (m.mem.size / 256) else ⟨#[]⟩
/-- What a right machine has. -/
structure MOk (m : MV) (n : Nat) : Prop where
  sz : m.mem.size = n * 256
  n1 : 1 ≤ n
  n2 : n ≤ 256
  i : m.is.length ≤ 100
  o : m.os.length ≤ 100
  r : m.rs.length = 16
  c : m.cs.length = 12
  v : m.vs.length = 16
  t0 : 0 ≤ m.ct
  t1 : m.ct ≤ 1099511627776
theorem MOk.of {m : MV} (h : mfC m = 0) : MOk m (m.mem.size / 256) := by
  unfold mfC at h
  split at h
  · rename_i h2
    unfold mfT mfW mfK mfN ctlB wordsB portsB memOk at h2
    simp only [Bool.and_eq_true, decide_eq_true_eq] at h2
    exact ⟨by omega, by omega, by omega, by omega, by omega, by omega, by omega, by omega, by omega, by omega⟩
  · cases h
theorem hdT_size {m : MV} {n : Nat} (h : MOk m n) : (hdT m n).size ≤ 2000 := by
  have h1 := h.i
  have h2 := h.o
  have h3 := h.r
  have h4 := h.c
  have h5 := h.v
  unfold hdT
  simp only [ByteArray.size_append, pwT_sz, ptL_len]
  have : vm1.size = 4 := rfl
  have : (pmH m n).length = 10 := rfl
  omega
theorem mpB_size {m : MV} {n : Nat} (h : MOk m n) : (mpB m.mem n).size ≤ 32 + 256 * n := by
  have := mpL_size h.sz h.n2 n (Nat.le_refl _)
  unfold mpB
  show (catB (mpL m.mem n n)).toArray.size ≤ _
  rw [List.size_toArray]
  exact this
/-- The text with so many frames. -/
def pmK (m : MV) (n k : Nat) : ByteArray := hdT m n ++ ⟨(catB (mpL m.mem n k)).toArray⟩
theorem pmK_size {m : MV} {n : Nat} (h : MOk m n) (k : Nat) (hk : k ≤ n) : (pmK m n k).size ≤ 2032 + 256 * k := by
  have h1 := hdT_size h
  have h2 := mpL_size h.sz h.n2 k hk
  have h3 : (⟨(catB (mpL m.mem n k)).toArray⟩ : ByteArray).size = (catB (mpL m.mem n k)).length := by
    show (catB (mpL m.mem n k)).toArray.size = _
    rw [List.size_toArray]
  unfold pmK
  rw [ByteArray.size_append, h3]
  omega
theorem pmK_on {m : MV} {n k : Nat} (h : nzB m.mem k = true) : pmK m n (k + 1) = pmK m n k ++ fr m.mem k := by
  unfold pmK
  rw [mpL_on h, catB_snoc, ← tx_add, ByteArray.append_assoc]
theorem pmK_off {m : MV} {n k : Nat} (h : nzB m.mem k = false) : pmK m n (k + 1) = pmK m n k := by
  unfold pmK
  rw [mpL_off h]
theorem pmK_0 (m : MV) (n : Nat) : pmK m n 0 = hdT m n ++ sB (nzB m.mem) ((n + 7) / 8) n := by
  unfold pmK
  congr 1
  exact ba_of _ _ (by simp [mpL, fzL, catB])
theorem fr_zB (n k : Nat) (hk : k < n) : fr (zB (n * 256)) k = zB 256 := by
  apply ByteArray.ext
  apply Array.toList_inj.1
  show (fr (zB (n * 256)) k).data.toList = (zB 256).data.toList
  rw [fr_list]
  unfold zB zer
  simp only [List.drop_replicate, List.take_replicate]
  congr 1
  omega
theorem set_nz (s : ByteArray) (n : Nat) : sB (dfB s (zB (n * 256))) ((n + 7) / 8) n = sB (nzB s) ((n + 7) / 8) n := by
  apply sB_congr
  intro j hj
  unfold dfB nzB
  rw [fr_zB n j hj]
  simp
theorem words10 (u : World) (m : MV) (n : Nat) : Irow (u.alloc (.cells #[.int .i64 (n : Int), .int .i64 (m.is.length : Int), .int .i64 (m.os.length : Int), .int .i64 m.pc, .int .i64 m.md, .int .i64 m.st, .int .i64 m.ct, .int .i64 (m.ct / 4294967296), .int .i64 m.ln, .int .i64 m.tr] 2)) (.slice (some ⟨u.heap.size, 0, none⟩) 10 10) (pmH m n) := by
  refine .inr ⟨u.heap.size, 0, 10, rfl, Nat.le_refl _, by simp, fun k hk => ?_⟩
  match k, hk with
  | 0, _ => exact (LG.new u #[.int .i64 (n : Int), .int .i64 (m.is.length : Int), .int .i64 (m.os.length : Int), .int .i64 m.pc, .int .i64 m.md, .int .i64 m.st, .int .i64 m.ct, .int .i64 (m.ct / 4294967296), .int .i64 m.ln, .int .i64 m.tr] 2).cel 0 _ rfl
  | 1, _ => exact (LG.new u #[.int .i64 (n : Int), .int .i64 (m.is.length : Int), .int .i64 (m.os.length : Int), .int .i64 m.pc, .int .i64 m.md, .int .i64 m.st, .int .i64 m.ct, .int .i64 (m.ct / 4294967296), .int .i64 m.ln, .int .i64 m.tr] 2).cel 1 _ rfl
  | 2, _ => exact (LG.new u #[.int .i64 (n : Int), .int .i64 (m.is.length : Int), .int .i64 (m.os.length : Int), .int .i64 m.pc, .int .i64 m.md, .int .i64 m.st, .int .i64 m.ct, .int .i64 (m.ct / 4294967296), .int .i64 m.ln, .int .i64 m.tr] 2).cel 2 _ rfl
  | 3, _ => exact (LG.new u #[.int .i64 (n : Int), .int .i64 (m.is.length : Int), .int .i64 (m.os.length : Int), .int .i64 m.pc, .int .i64 m.md, .int .i64 m.st, .int .i64 m.ct, .int .i64 (m.ct / 4294967296), .int .i64 m.ln, .int .i64 m.tr] 2).cel 3 _ rfl
  | 4, _ => exact (LG.new u #[.int .i64 (n : Int), .int .i64 (m.is.length : Int), .int .i64 (m.os.length : Int), .int .i64 m.pc, .int .i64 m.md, .int .i64 m.st, .int .i64 m.ct, .int .i64 (m.ct / 4294967296), .int .i64 m.ln, .int .i64 m.tr] 2).cel 4 _ rfl
  | 5, _ => exact (LG.new u #[.int .i64 (n : Int), .int .i64 (m.is.length : Int), .int .i64 (m.os.length : Int), .int .i64 m.pc, .int .i64 m.md, .int .i64 m.st, .int .i64 m.ct, .int .i64 (m.ct / 4294967296), .int .i64 m.ln, .int .i64 m.tr] 2).cel 5 _ rfl
  | 6, _ => exact (LG.new u #[.int .i64 (n : Int), .int .i64 (m.is.length : Int), .int .i64 (m.os.length : Int), .int .i64 m.pc, .int .i64 m.md, .int .i64 m.st, .int .i64 m.ct, .int .i64 (m.ct / 4294967296), .int .i64 m.ln, .int .i64 m.tr] 2).cel 6 _ rfl
  | 7, _ => exact (LG.new u #[.int .i64 (n : Int), .int .i64 (m.is.length : Int), .int .i64 (m.os.length : Int), .int .i64 m.pc, .int .i64 m.md, .int .i64 m.st, .int .i64 m.ct, .int .i64 (m.ct / 4294967296), .int .i64 m.ln, .int .i64 m.tr] 2).cel 7 _ rfl
  | 8, _ => exact (LG.new u #[.int .i64 (n : Int), .int .i64 (m.is.length : Int), .int .i64 (m.os.length : Int), .int .i64 m.pc, .int .i64 m.md, .int .i64 m.st, .int .i64 m.ct, .int .i64 (m.ct / 4294967296), .int .i64 m.ln, .int .i64 m.tr] 2).cel 8 _ rfl
  | 9, _ => exact (LG.new u #[.int .i64 (n : Int), .int .i64 (m.is.length : Int), .int .i64 (m.os.length : Int), .int .i64 m.pc, .int .i64 m.md, .int .i64 m.st, .int .i64 m.ct, .int .i64 (m.ct / 4294967296), .int .i64 m.ln, .int .i64 m.tr] 2).cel 9 _ rfl
set_option maxRecDepth 100000 in
set_option maxHeartbeats 8000000 in
theorem specPM_any {w : World} {m : MV} {a : MA} (h : MRows w m a) (hl : MLen m) : Calls Try.prog 16 #[.agg (mC m a)] w fun e w' => e = .returned (.string (pmV m)) ∧ Below w.heap.size w w' := by
  have HY : Hid (MY w (w.alloc (.cells #[.int .i64 m.pc, .slice a.ar m.rs.length a.cr, .int .i64 m.md, .slice a.ac m.cs.length a.cc, .slice a.av m.vs.length a.cv, .string m.mem, .int .i64 m.st, .int .i64 m.ct, .int .i64 m.ln, .slice a.ai m.is.length a.ci, .slice a.ao m.os.length a.co, .int .i64 m.tr] 30)) w.heap.size m a) := MY.new h
  have HMF : Hid (∀ u, MRows u m a → Calls Try.prog 11 #[.agg #[.int .i64 m.pc, .slice a.ar m.rs.length a.cr, .int .i64 m.md, .slice a.ac m.cs.length a.cc, .slice a.av m.vs.length a.cv, .string m.mem, .int .i64 m.st, .int .i64 m.ct, .int .i64 m.ln, .slice a.ai m.is.length a.ci, .slice a.ao m.os.length a.co, .int .i64 m.tr]] u fun e w' => e = .returned (.int .i64 (mfC m)) ∧ Below u.heap.size u w') := fun u hr => specMF_any hr hl
  clear h
  by_cases hf : mfC m = 0
  rotate_left
  · have E : Hid (pmV m = ⟨#[]⟩) := (show pmV m = _ by unfold pmV; rw [if_neg hf])
    have e1 : mfC m = 1 := by unfold mfC at hf ⊢; split at hf; exact absurd rfl hf; rename_i h; rw [if_neg h]
    rw [e1] at HMF
    clear hf e1
    unfold mC
    go_enter Try.func16, Try.ntmps16
    go_upto_region 1 with fail
    generalize (w.alloc (.cells #[.int .i64 m.pc, .slice a.ar m.rs.length a.cr, .int .i64 m.md, .slice a.ac m.cs.length a.cc, .slice a.av m.vs.length a.cv, .string m.mem, .int .i64 m.st, .int .i64 m.ct, .int .i64 m.ln, .slice a.ai m.is.length a.ci, .slice a.ao m.os.length a.co, .int .i64 m.tr] 30)) = u0 at *
    obtain ⟨c0, c1, c2, c3, c4, c5, c6, c7, c8, c9, c10, c11⟩ := HY.out.cel
    have cl := HY.out.lt
    go_wp2_with (go_at_call 11; refine Calls.mono (HMF.out _ HY.out.row) ?_; rintro e u1 ⟨rfl, hb⟩; have HY1 : Hid (MY w u1 w.heap.size m a) := HY.out.step hb; clear hb)
    go_ret
    exact ⟨ret_str E.out.symm, HY1.out.bel⟩
  have HOK0 := MOk.of hf
  have E : Hid (pmV m = pmO m (m.mem.size / 256)) := (show pmV m = _ by unfold pmV; rw [if_pos hf])
  generalize m.mem.size / 256 = n at *
  have HOK : Hid (MOk m n) := HOK0
  clear HOK0
  rw [hf] at HMF
  clear hf
  have HFR : Hid (∀ u, Calls Try.prog 12 #[.string m.mem] u fun e w' => e = .returned (.int .i64 (n : Int)) ∧ w' = u) := fun u => l20Frames_any m.mem n u HOK.out.sz HOK.out.n2
  unfold mC
  go_enter Try.func16, Try.ntmps16
  go_upto_region 1 with fail
  generalize (w.alloc (.cells #[.int .i64 m.pc, .slice a.ar m.rs.length a.cr, .int .i64 m.md, .slice a.ac m.cs.length a.cc, .slice a.av m.vs.length a.cv, .string m.mem, .int .i64 m.st, .int .i64 m.ct, .int .i64 m.ln, .slice a.ai m.is.length a.ci, .slice a.ao m.os.length a.co, .int .i64 m.tr] 30)) = u9 at *
  have HNB : Hid (w.heap.size ≤ w.heap.size) := Nat.le_refl _
  obtain ⟨B, hB⟩ : ∃ B, w.heap.size = B := ⟨_, rfl⟩
  have HY2 : Hid (MY w u9 B m a) := (by rw [← hB]; exact HY.out)
  rw [hB]
  have HB0 : Hid (w.heap.size = B) := hB
  clear hB
  obtain ⟨c0, c1, c2, c3, c4, c5, c6, c7, c8, c9, c10, c11⟩ := HY2.out.cel
  have cl := HY2.out.lt
  go_upto_region 4 with (first | (go_at_call 11; refine Calls.mono (HMF.out _ HY2.out.row) ?_; rintro e u0 ⟨rfl, hb⟩; have HY0' : Hid (MY w u0 B m a) := HY2.out.step hb; clear hb c0 c1 c2 c3 c4 c5 c6 c7 c8 c9 c10 c11 cl; obtain ⟨c0, c1, c2, c3, c4, c5, c6, c7, c8, c9, c10, c11⟩ := HY0'.out.cel; have cl := HY0'.out.lt) | (go_at_call 12; refine Calls.mono (HFR.out _) ?_; rintro e u1 ⟨rfl, hw1⟩; rw [hw1]; clear hw1 u1))
  have HY0 : Hid (MY w u0.drew B m a) := HY0'.out.drew
  have HW1 : Hid (∀ u : World, Calls Try.prog 38 #[.slice (some ⟨u.heap.size, 0, none⟩) 10 10] (u.alloc (.cells #[.int .i64 (n : Int), .int .i64 (m.is.length : Int), .int .i64 (m.os.length : Int), .int .i64 m.pc, .int .i64 m.md, .int .i64 m.st, .int .i64 m.ct, .int .i64 (m.ct / 4294967296), .int .i64 m.ln, .int .i64 m.tr] 2)) fun e w' => e = .returned (.string (pwT (pmH m n))) ∧ Below u.heap.size u w') := fun u => Calls.mono (l20Words_any (words10 u m n) (by simp [pmH])) (by rintro e w' ⟨rfl, hb⟩; exact ⟨rfl, (bx1 u _).trans (hb.mono (by simp))⟩)
  have HW2 : Hid (∀ u, MY w u B m a → Calls Try.prog 38 #[.slice a.ar m.rs.length a.cr] u fun e w' => e = .returned (.string (pwT m.rs)) ∧ Below u.heap.size u w') := fun u hy => l20Words_any hy.row.r (by have := HOK.out.r; omega)
  have HW3 : Hid (∀ u, MY w u B m a → Calls Try.prog 38 #[.slice a.ac m.cs.length a.cc] u fun e w' => e = .returned (.string (pwT m.cs)) ∧ Below u.heap.size u w') := fun u hy => l20Words_any hy.row.c (by have := HOK.out.c; omega)
  have HW4 : Hid (∀ u, MY w u B m a → Calls Try.prog 38 #[.slice a.av m.vs.length a.cv] u fun e w' => e = .returned (.string (pwT m.vs)) ∧ Below u.heap.size u w') := fun u hy => l20Words_any hy.row.v (by have := HOK.out.v; omega)
  have HW5 : Hid (∀ u, MY w u B m a → Calls Try.prog 39 #[.slice a.ai m.is.length a.ci] u fun e w' => e = .returned (.string (pwT (ptL m.is))) ∧ Below u.heap.size u w') := fun u hy => l20Ports_any hy.row.i HOK.out.i
  have HW6 : Hid (∀ u, MY w u B m a → Calls Try.prog 39 #[.slice a.ao m.os.length a.co] u fun e w' => e = .returned (.string (pwT (ptL m.os))) ∧ Below u.heap.size u w') := fun u hy => l20Ports_any hy.row.o HOK.out.o
  have HHD : Hid (hdT m n = vm1 ++ pwT (pmH m n) ++ pwT m.rs ++ pwT m.cs ++ pwT m.vs ++ pwT (ptL m.is) ++ pwT (ptL m.os)) := (show _ = _ from rfl)
  have s1 : (pwT (pmH m n)).size = 40 := by rw [pwT_sz]; rfl
  have s2 : (pwT m.rs).size = 64 := by rw [pwT_sz, HOK.out.r]
  have s3 : (pwT m.cs).size = 48 := by rw [pwT_sz, HOK.out.c]
  have s4 : (pwT m.vs).size = 64 := by rw [pwT_sz, HOK.out.v]
  have s5 : (pwT (ptL m.is)).size ≤ 800 := by rw [pwT_sz, ptL_len]; have := HOK.out.i; omega
  have s6 : (pwT (ptL m.os)).size ≤ 800 := by rw [pwT_sz, ptL_len]; have := HOK.out.o; omega
  unfold vm1 at HHD
  generalize pwT (pmH m n) = q1 at *
  generalize pwT m.rs = q2 at *
  generalize pwT m.cs = q3 at *
  generalize pwT m.vs = q4 at *
  generalize pwT (ptL m.is) = q5 at *
  generalize pwT (ptL m.os) = q6 at *
  have hadd1 := fun w => run_string_add_sum (P := Try.prog) w ({ data := #[86, 77, 49, 10] } : ByteArray) q1 (by show 4 + q1.size ≤ _; omega)
  obtain ⟨A1, hA1⟩ : ∃ A1, ({ data := #[86, 77, 49, 10] } : ByteArray) ++ q1 = A1 := ⟨_, rfl⟩
  have z1 : A1.size ≤ 44 := by rw [← hA1, ByteArray.size_append]; show 4 + q1.size ≤ _; omega
  rw [hA1] at hadd1 HHD
  have hadd2 := fun w => run_string_add_sum (P := Try.prog) w A1 q2 (by omega)
  obtain ⟨A2, hA2⟩ : ∃ A2, A1 ++ q2 = A2 := ⟨_, rfl⟩
  have z2 : A2.size ≤ 108 := by rw [← hA2, ByteArray.size_append]; omega
  rw [hA2] at hadd2 HHD
  have hadd3 := fun w => run_string_add_sum (P := Try.prog) w A2 q3 (by omega)
  obtain ⟨A3, hA3⟩ : ∃ A3, A2 ++ q3 = A3 := ⟨_, rfl⟩
  have z3 : A3.size ≤ 156 := by rw [← hA3, ByteArray.size_append]; omega
  rw [hA3] at hadd3 HHD
  have hadd4 := fun w => run_string_add_sum (P := Try.prog) w A3 q4 (by omega)
  obtain ⟨A4, hA4⟩ : ∃ A4, A3 ++ q4 = A4 := ⟨_, rfl⟩
  have z4 : A4.size ≤ 220 := by rw [← hA4, ByteArray.size_append]; omega
  rw [hA4] at hadd4 HHD
  have hadd5 := fun w => run_string_add_sum (P := Try.prog) w A4 q5 (by omega)
  obtain ⟨A5, hA5⟩ : ∃ A5, A4 ++ q5 = A5 := ⟨_, rfl⟩
  have z5 : A5.size ≤ 1020 := by rw [← hA5, ByteArray.size_append]; omega
  rw [hA5] at hadd5 HHD
  have hadd6 := fun w => run_string_add_sum (P := Try.prog) w A5 q6 (by omega)
  obtain ⟨A6, hA6⟩ : ∃ A6, A5 ++ q6 = A6 := ⟨_, rfl⟩
  have z6 : A6.size ≤ 1820 := by rw [← hA6, ByteArray.size_append]; omega
  rw [hA6] at hadd6 HHD
  clear hA1 hA2 hA3 hA4 hA5 hA6 z1 z2 z3 z4 z5 z6
  clear HY0' HMF HFR c0 c1 c2 c3 c4 c5 c6 c7 c8 c9 c10 c11 cl HY HY2 s1 s2 s3 s4 s5 s6
  have hct0 : (0 : Int) ≤ m.ct := HOK.out.t0
  have hct1 : m.ct ≤ 1099511627776 := HOK.out.t1
  refine wp_region_held (S := fun w9 => MY w w9 B m a) (by kernel_rfl) ?_
  change wpAnyH _ _ _ _ _ _ _ _ (World.drew _)
  refine wpAnyH_take (i := 0) (v := .int .i64 (n : Int)) rfl (by kernel_rfl) (by kernel_rfl) (by kernel_rfl) (fun _ _ _ h => h) (Or.inl ⟨by kernel_rfl, fun w9 h9 => ?_⟩) HY0.out ?_
  · go_simp
  refine wpAnyH_take (i := 1) (v := .pointer (some ⟨B, 9, none⟩)) rfl (by kernel_rfl) (by kernel_rfl) (by kernel_rfl) (fun _ _ _ h => h) (Or.inl ⟨by kernel_rfl, fun w9 h9 => ?_⟩) HY0.out ?_
  · go_simp
  refine wpAnyH_take (i := 2) (v := .slice a.ai m.is.length a.ci) rfl (by kernel_rfl) (by kernel_rfl) (by kernel_rfl) (fun _ _ _ h => h) (Or.inl ⟨by kernel_rfl, fun w9 h9 => ?_⟩) HY0.out ?_
  · obtain ⟨c0, c1, c2, c3, c4, c5, c6, c7, c8, c9, c10, c11⟩ := h9.cel; have cl := h9.lt; clear h9; go_simp
  refine wpAnyH_take (i := 3) (v := .int .i64 (m.is.length : Nat)) rfl (by kernel_rfl) (by kernel_rfl) (by kernel_rfl) (fun _ _ _ h => h) (Or.inl ⟨by kernel_rfl, fun w9 h9 => ?_⟩) HY0.out ?_
  · go_simp
  refine wpAnyH_take (i := 4) (v := .pointer (some ⟨B, 10, none⟩)) rfl (by kernel_rfl) (by kernel_rfl) (by kernel_rfl) (fun _ _ _ h => h) (Or.inl ⟨by kernel_rfl, fun w9 h9 => ?_⟩) HY0.out ?_
  · go_simp
  refine wpAnyH_take (i := 5) (v := .slice a.ao m.os.length a.co) rfl (by kernel_rfl) (by kernel_rfl) (by kernel_rfl) (fun _ _ _ h => h) (Or.inl ⟨by kernel_rfl, fun w9 h9 => ?_⟩) HY0.out ?_
  · obtain ⟨c0, c1, c2, c3, c4, c5, c6, c7, c8, c9, c10, c11⟩ := h9.cel; have cl := h9.lt; clear h9; go_simp
  refine wpAnyH_take (i := 6) (v := .int .i64 (m.os.length : Nat)) rfl (by kernel_rfl) (by kernel_rfl) (by kernel_rfl) (fun _ _ _ h => h) (Or.inl ⟨by kernel_rfl, fun w9 h9 => ?_⟩) HY0.out ?_
  · go_simp
  refine wpAnyH_take (i := 7) (v := .pointer (some ⟨B, 0, none⟩)) rfl (by kernel_rfl) (by kernel_rfl) (by kernel_rfl) (fun _ _ _ h => h) (Or.inl ⟨by kernel_rfl, fun w9 h9 => ?_⟩) HY0.out ?_
  · go_simp
  refine wpAnyH_take (i := 8) (v := .int .i64 m.pc) rfl (by kernel_rfl) (by kernel_rfl) (by kernel_rfl) (fun _ _ _ h => h) (Or.inl ⟨by kernel_rfl, fun w9 h9 => ?_⟩) HY0.out ?_
  · obtain ⟨c0, c1, c2, c3, c4, c5, c6, c7, c8, c9, c10, c11⟩ := h9.cel; have cl := h9.lt; clear h9; go_simp
  refine wpAnyH_take (i := 9) (v := .pointer (some ⟨B, 2, none⟩)) rfl (by kernel_rfl) (by kernel_rfl) (by kernel_rfl) (fun _ _ _ h => h) (Or.inl ⟨by kernel_rfl, fun w9 h9 => ?_⟩) HY0.out ?_
  · go_simp
  refine wpAnyH_take (i := 10) (v := .int .i64 m.md) rfl (by kernel_rfl) (by kernel_rfl) (by kernel_rfl) (fun _ _ _ h => h) (Or.inl ⟨by kernel_rfl, fun w9 h9 => ?_⟩) HY0.out ?_
  · obtain ⟨c0, c1, c2, c3, c4, c5, c6, c7, c8, c9, c10, c11⟩ := h9.cel; have cl := h9.lt; clear h9; go_simp
  refine wpAnyH_take (i := 11) (v := .pointer (some ⟨B, 6, none⟩)) rfl (by kernel_rfl) (by kernel_rfl) (by kernel_rfl) (fun _ _ _ h => h) (Or.inl ⟨by kernel_rfl, fun w9 h9 => ?_⟩) HY0.out ?_
  · go_simp
  refine wpAnyH_take (i := 12) (v := .int .i64 m.st) rfl (by kernel_rfl) (by kernel_rfl) (by kernel_rfl) (fun _ _ _ h => h) (Or.inl ⟨by kernel_rfl, fun w9 h9 => ?_⟩) HY0.out ?_
  · obtain ⟨c0, c1, c2, c3, c4, c5, c6, c7, c8, c9, c10, c11⟩ := h9.cel; have cl := h9.lt; clear h9; go_simp
  refine wpAnyH_take (i := 13) (v := .pointer (some ⟨B, 7, none⟩)) rfl (by kernel_rfl) (by kernel_rfl) (by kernel_rfl) (fun _ _ _ h => h) (Or.inl ⟨by kernel_rfl, fun w9 h9 => ?_⟩) HY0.out ?_
  · go_simp
  refine wpAnyH_take (i := 14) (v := .int .i64 m.ct) rfl (by kernel_rfl) (by kernel_rfl) (by kernel_rfl) (fun _ _ _ h => h) (Or.inl ⟨by kernel_rfl, fun w9 h9 => ?_⟩) HY0.out ?_
  · obtain ⟨c0, c1, c2, c3, c4, c5, c6, c7, c8, c9, c10, c11⟩ := h9.cel; have cl := h9.lt; clear h9; go_simp
  refine wpAnyH_take (i := 15) (v := .pointer (some ⟨B, 7, none⟩)) rfl (by kernel_rfl) (by kernel_rfl) (by kernel_rfl) (fun _ _ _ h => h) (Or.inl ⟨by kernel_rfl, fun w9 h9 => ?_⟩) HY0.out ?_
  · go_simp
  refine wpAnyH_take (i := 16) (v := .int .i64 m.ct) rfl (by kernel_rfl) (by kernel_rfl) (by kernel_rfl) (fun _ _ _ h => h) (Or.inl ⟨by kernel_rfl, fun w9 h9 => ?_⟩) HY0.out ?_
  · obtain ⟨c0, c1, c2, c3, c4, c5, c6, c7, c8, c9, c10, c11⟩ := h9.cel; have cl := h9.lt; clear h9; go_simp
  refine wpAnyH_take (i := 17) (v := .int .i64 (m.ct / 4294967296)) rfl (by kernel_rfl) (by kernel_rfl) (by kernel_rfl) (fun _ _ _ h => h) (Or.inl ⟨by kernel_rfl, fun w9 h9 => ?_⟩) HY0.out ?_
  · go_simp
  refine wpAnyH_take (i := 18) (v := .pointer (some ⟨B, 8, none⟩)) rfl (by kernel_rfl) (by kernel_rfl) (by kernel_rfl) (fun _ _ _ h => h) (Or.inl ⟨by kernel_rfl, fun w9 h9 => ?_⟩) HY0.out ?_
  · go_simp
  refine wpAnyH_take (i := 19) (v := .int .i64 m.ln) rfl (by kernel_rfl) (by kernel_rfl) (by kernel_rfl) (fun _ _ _ h => h) (Or.inl ⟨by kernel_rfl, fun w9 h9 => ?_⟩) HY0.out ?_
  · obtain ⟨c0, c1, c2, c3, c4, c5, c6, c7, c8, c9, c10, c11⟩ := h9.cel; have cl := h9.lt; clear h9; go_simp
  refine wpAnyH_take (i := 20) (v := .pointer (some ⟨B, 11, none⟩)) rfl (by kernel_rfl) (by kernel_rfl) (by kernel_rfl) (fun _ _ _ h => h) (Or.inl ⟨by kernel_rfl, fun w9 h9 => ?_⟩) HY0.out ?_
  · go_simp
  refine wpAnyH_take (i := 21) (v := .int .i64 m.tr) rfl (by kernel_rfl) (by kernel_rfl) (by kernel_rfl) (fun _ _ _ h => h) (Or.inl ⟨by kernel_rfl, fun w9 h9 => ?_⟩) HY0.out ?_
  · obtain ⟨c0, c1, c2, c3, c4, c5, c6, c7, c8, c9, c10, c11⟩ := h9.cel; have cl := h9.lt; clear h9; go_simp
  refine wpAnyH_take (i := 25) (v := .pointer (some ⟨B, 1, none⟩)) rfl (by kernel_rfl) (by kernel_rfl) (by kernel_rfl) (fun _ _ _ h => h) (Or.inl ⟨by kernel_rfl, fun w9 h9 => ?_⟩) HY0.out ?_
  · go_simp
  refine wpAnyH_take (i := 26) (v := .slice a.ar m.rs.length a.cr) rfl (by kernel_rfl) (by kernel_rfl) (by kernel_rfl) (fun _ _ _ h => h) (Or.inl ⟨by kernel_rfl, fun w9 h9 => ?_⟩) HY0.out ?_
  · obtain ⟨c0, c1, c2, c3, c4, c5, c6, c7, c8, c9, c10, c11⟩ := h9.cel; have cl := h9.lt; clear h9; go_simp
  refine wpAnyH_take (i := 29) (v := .pointer (some ⟨B, 3, none⟩)) rfl (by kernel_rfl) (by kernel_rfl) (by kernel_rfl) (fun _ _ _ h => h) (Or.inl ⟨by kernel_rfl, fun w9 h9 => ?_⟩) HY0.out ?_
  · go_simp
  refine wpAnyH_take (i := 30) (v := .slice a.ac m.cs.length a.cc) rfl (by kernel_rfl) (by kernel_rfl) (by kernel_rfl) (fun _ _ _ h => h) (Or.inl ⟨by kernel_rfl, fun w9 h9 => ?_⟩) HY0.out ?_
  · obtain ⟨c0, c1, c2, c3, c4, c5, c6, c7, c8, c9, c10, c11⟩ := h9.cel; have cl := h9.lt; clear h9; go_simp
  refine wpAnyH_take (i := 33) (v := .pointer (some ⟨B, 4, none⟩)) rfl (by kernel_rfl) (by kernel_rfl) (by kernel_rfl) (fun _ _ _ h => h) (Or.inl ⟨by kernel_rfl, fun w9 h9 => ?_⟩) HY0.out ?_
  · go_simp
  refine wpAnyH_take (i := 34) (v := .slice a.av m.vs.length a.cv) rfl (by kernel_rfl) (by kernel_rfl) (by kernel_rfl) (fun _ _ _ h => h) (Or.inl ⟨by kernel_rfl, fun w9 h9 => ?_⟩) HY0.out ?_
  · obtain ⟨c0, c1, c2, c3, c4, c5, c6, c7, c8, c9, c10, c11⟩ := h9.cel; have cl := h9.lt; clear h9; go_simp
  refine wpAnyH_take (i := 37) (v := .pointer (some ⟨B, 9, none⟩)) rfl (by kernel_rfl) (by kernel_rfl) (by kernel_rfl) (fun _ _ _ h => h) (Or.inl ⟨by kernel_rfl, fun w9 h9 => ?_⟩) HY0.out ?_
  · go_simp
  refine wpAnyH_take (i := 38) (v := .slice a.ai m.is.length a.ci) rfl (by kernel_rfl) (by kernel_rfl) (by kernel_rfl) (fun _ _ _ h => h) (Or.inl ⟨by kernel_rfl, fun w9 h9 => ?_⟩) HY0.out ?_
  · obtain ⟨c0, c1, c2, c3, c4, c5, c6, c7, c8, c9, c10, c11⟩ := h9.cel; have cl := h9.lt; clear h9; go_simp
  refine wpAnyH_take (i := 41) (v := .pointer (some ⟨B, 10, none⟩)) rfl (by kernel_rfl) (by kernel_rfl) (by kernel_rfl) (fun _ _ _ h => h) (Or.inl ⟨by kernel_rfl, fun w9 h9 => ?_⟩) HY0.out ?_
  · go_simp
  refine wpAnyH_take (i := 42) (v := .slice a.ao m.os.length a.co) rfl (by kernel_rfl) (by kernel_rfl) (by kernel_rfl) (fun _ _ _ h => h) (Or.inl ⟨by kernel_rfl, fun w9 h9 => ?_⟩) HY0.out ?_
  · obtain ⟨c0, c1, c2, c3, c4, c5, c6, c7, c8, c9, c10, c11⟩ := h9.cel; have cl := h9.lt; clear h9; go_simp
  refine held_one 22 (by kernel_rfl) rfl (by kernel_rfl) fun K hK => ?_
  go_simp
  refine hK _ _ (HY0.out.step (bx1 _ _)) ?_
  clear hK K
  refine held_one 23 (by kernel_rfl) rfl (by kernel_rfl) fun K hK => ?_
  go_simp
  go_wp2_with (go_at_call 38; refine Calls.mono (HW1.out u0.drew) ?_; rintro e u1 ⟨rfl, hb⟩; have HY1 : Hid (MY w u1 B m a) := HY0.out.step hb; clear hb)
  refine hK _ _ HY1.out ?_
  clear hK K
  refine wpAnyH_take (i := 24) (v := .string A1) rfl (by kernel_rfl) (by kernel_rfl) (by kernel_rfl) (fun _ _ _ h => h) (Or.inl ⟨by kernel_rfl, fun w9 h9 => ?_⟩) HY1.out ?_
  · go_simp
  refine held_one 27 (by kernel_rfl) rfl (by kernel_rfl) fun K hK => ?_
  go_simp
  go_wp2_with (go_at_call 38; refine Calls.mono (HW2.out _ HY1.out) ?_; rintro e u2 ⟨rfl, hb⟩; have HY2 : Hid (MY w u2 B m a) := HY1.out.step hb; clear hb)
  refine hK _ _ HY2.out ?_
  clear hK K
  refine wpAnyH_take (i := 28) (v := .string A2) rfl (by kernel_rfl) (by kernel_rfl) (by kernel_rfl) (fun _ _ _ h => h) (Or.inl ⟨by kernel_rfl, fun w9 h9 => ?_⟩) HY2.out ?_
  · go_simp
  refine held_one 31 (by kernel_rfl) rfl (by kernel_rfl) fun K hK => ?_
  go_simp
  go_wp2_with (go_at_call 38; refine Calls.mono (HW3.out _ HY2.out) ?_; rintro e u3 ⟨rfl, hb⟩; have HY3 : Hid (MY w u3 B m a) := HY2.out.step hb; clear hb)
  refine hK _ _ HY3.out ?_
  clear hK K
  refine wpAnyH_take (i := 32) (v := .string A3) rfl (by kernel_rfl) (by kernel_rfl) (by kernel_rfl) (fun _ _ _ h => h) (Or.inl ⟨by kernel_rfl, fun w9 h9 => ?_⟩) HY3.out ?_
  · go_simp
  refine held_one 35 (by kernel_rfl) rfl (by kernel_rfl) fun K hK => ?_
  go_simp
  go_wp2_with (go_at_call 38; refine Calls.mono (HW4.out _ HY3.out) ?_; rintro e u4 ⟨rfl, hb⟩; have HY4 : Hid (MY w u4 B m a) := HY3.out.step hb; clear hb)
  refine hK _ _ HY4.out ?_
  clear hK K
  refine wpAnyH_take (i := 36) (v := .string A4) rfl (by kernel_rfl) (by kernel_rfl) (by kernel_rfl) (fun _ _ _ h => h) (Or.inl ⟨by kernel_rfl, fun w9 h9 => ?_⟩) HY4.out ?_
  · go_simp
  refine held_one 39 (by kernel_rfl) rfl (by kernel_rfl) fun K hK => ?_
  go_simp
  go_wp2_with (go_at_call 39; refine Calls.mono (HW5.out _ HY4.out) ?_; rintro e u5 ⟨rfl, hb⟩; have HY5 : Hid (MY w u5 B m a) := HY4.out.step hb; clear hb)
  refine hK _ _ HY5.out ?_
  clear hK K
  refine wpAnyH_take (i := 40) (v := .string A5) rfl (by kernel_rfl) (by kernel_rfl) (by kernel_rfl) (fun _ _ _ h => h) (Or.inl ⟨by kernel_rfl, fun w9 h9 => ?_⟩) HY5.out ?_
  · go_simp
  refine held_one 43 (by kernel_rfl) rfl (by kernel_rfl) fun K hK => ?_
  go_simp
  go_wp2_with (go_at_call 39; refine Calls.mono (HW6.out _ HY5.out) ?_; rintro e u6 ⟨rfl, hb⟩; have HY6 : Hid (MY w u6 B m a) := HY5.out.step hb; clear hb)
  refine hK _ _ HY6.out ?_
  clear hK K
  refine wpAnyH_take (i := 44) (v := .string A6) rfl (by kernel_rfl) (by kernel_rfl) (by kernel_rfl) (fun _ _ _ h => h) (Or.inl ⟨by kernel_rfl, fun w9 h9 => ?_⟩) HY6.out ?_
  · go_simp
  refine wpAnyH_take (i := 45) (v := .string A6) rfl (by kernel_rfl) (by kernel_rfl) (by kernel_rfl) (fun _ _ _ h => h) (Or.inl ⟨by kernel_rfl, fun w9 h9 => ?_⟩) HY6.out ?_
  · go_simp
  refine wpAnyH_done (by kernel_rfl) ?_ _
  go_simp
  clear HW1 HW2 HW3 HW4 HW5 HW6 hadd1 hadd2 hadd3 hadd4 hadd5 hadd6
  have HA6 : Hid (A6 = hdT m n) := HHD.out.symm
  have HZ0 : Hid (zB m.mem.size = zB (n * 256)) := (show _ = _ by rw [HOK.out.sz])
  have HMS : Hid (m.mem.size ≤ 65536) := (show _ ≤ _ by have := HOK.out.sz; have := HOK.out.n2; omega)
  have HW7 : Hid (∀ u, Calls Try.prog 19 #[.string m.mem, .string (zB (n * 256))] u fun e w' => e = .returned (.string (sB (nzB m.mem) ((n + 7) / 8) n)) ∧ Below u.heap.size u w') := fun u => by
    have h9 := l20Set_any m.mem (zB (n * 256)) n u HOK.out.sz (zB_size _) HOK.out.n2
    rw [set_nz] at h9
    exact h9
  have HK0 : Hid (pmK m n 0 = hdT m n ++ sB (nzB m.mem) ((n + 7) / 8) n) := pmK_0 m n
  have s7 : (sB (nzB m.mem) ((n + 7) / 8) n).size ≤ 32 := by rw [sB_size _ _ _ (by omega)]; have := HOK.out.n2; omega
  have s8 : A6.size ≤ 2000 := by rw [HA6.out]; exact hdT_size HOK.out
  rw [← HA6.out] at HK0
  generalize sB (nzB m.mem) ((n + 7) / 8) n = q7 at *
  generalize zB (n * 256) = Z0 at *
  have hadd7 := fun w => run_string_add_sum (P := Try.prog) w A6 q7 (by omega)
  obtain ⟨A7, hA7⟩ : ∃ A7, A6 ++ q7 = A7 := ⟨_, rfl⟩
  rw [hA7] at hadd7 HK0
  have HY6d : Hid (MY w u6.drew B m a) := HY6.out.drew
  clear s7 s8 hA7
  go_upto_region 5 with fail
  refine wp_region_held (S := fun w9 => MY w w9 B m a) (by kernel_rfl) ?_
  change wpAnyH _ _ _ _ _ _ _ _ (World.drew _)
  refine wpAnyH_take (i := 0) (v := .string A6) rfl (by kernel_rfl) (by kernel_rfl) (by kernel_rfl) (fun _ _ _ h => h) (Or.inl ⟨by kernel_rfl, fun w9 h9 => ?_⟩) HY6d.out ?_
  · go_simp
  refine wpAnyH_take (i := 1) (v := .pointer (some ⟨B, 5, none⟩)) rfl (by kernel_rfl) (by kernel_rfl) (by kernel_rfl) (fun _ _ _ h => h) (Or.inl ⟨by kernel_rfl, fun w9 h9 => ?_⟩) HY6d.out ?_
  · go_simp
  refine wpAnyH_take (i := 2) (v := .string m.mem) rfl (by kernel_rfl) (by kernel_rfl) (by kernel_rfl) (fun _ _ _ h => h) (Or.inl ⟨by kernel_rfl, fun w9 h9 => ?_⟩) HY6d.out ?_
  · obtain ⟨c0, c1, c2, c3, c4, c5, c6, c7, c8, c9, c10, c11⟩ := h9.cel; have cl := h9.lt; clear h9; go_simp
  refine wpAnyH_take (i := 3) (v := .pointer (some ⟨B, 5, none⟩)) rfl (by kernel_rfl) (by kernel_rfl) (by kernel_rfl) (fun _ _ _ h => h) (Or.inl ⟨by kernel_rfl, fun w9 h9 => ?_⟩) HY6d.out ?_
  · go_simp
  refine wpAnyH_take (i := 4) (v := .string m.mem) rfl (by kernel_rfl) (by kernel_rfl) (by kernel_rfl) (fun _ _ _ h => h) (Or.inl ⟨by kernel_rfl, fun w9 h9 => ?_⟩) HY6d.out ?_
  · obtain ⟨c0, c1, c2, c3, c4, c5, c6, c7, c8, c9, c10, c11⟩ := h9.cel; have cl := h9.lt; clear h9; go_simp
  refine wpAnyH_take (i := 5) (v := .int .i64 (m.mem.size : Int)) rfl (by kernel_rfl) (by kernel_rfl) (by kernel_rfl) (fun _ _ _ h => h) (Or.inl ⟨by kernel_rfl, fun w9 h9 => ?_⟩) HY6d.out ?_
  · go_simp
  refine held_one 6 (by kernel_rfl) rfl (by kernel_rfl) fun K hK => ?_
  have hmk := mkBytes u6.drew m.mem.size HMS.out
  have hcz : Sem.run Try.prog (convert 61 9 (.slice (some ⟨u6.heap.size, 0, none⟩) m.mem.size m.mem.size)) (u6.alloc (.cells (zrs m.mem.size).toArray 5)).drew = .ok (.string (zB m.mem.size)) (u6.alloc (.cells (zrs m.mem.size).toArray 5)).drew := conv_z u6.drew m.mem.size HMS.out
  have HY7 : Hid (MY w (u6.alloc (.cells (zrs m.mem.size).toArray 5)).drew B m a) := (show MY w (u6.drew.alloc (.cells (zrs m.mem.size).toArray 5)) B m a from HY6d.out.step (bx1 _ _))
  rw [HZ0.out] at hcz
  go_simp
  refine hK _ _ HY7.out ?_
  clear hK K hmk
  generalize (u6.alloc (.cells (zrs m.mem.size).toArray 5)).drew = u7 at *
  refine held_one 7 (by kernel_rfl) rfl (by kernel_rfl) fun K hK => ?_
  go_simp
  refine hK _ _ HY7.out ?_
  clear hK K hcz
  refine held_one 8 (by kernel_rfl) rfl (by kernel_rfl) fun K hK => ?_
  go_simp
  go_wp2_with (go_at_call 19; refine Calls.mono (HW7.out _) ?_; rintro e u8 ⟨rfl, hb⟩; have HY8 : Hid (MY w u8 B m a) := HY7.out.step hb; clear hb)
  refine hK _ _ HY8.out ?_
  clear hK K
  refine wpAnyH_take (i := 9) (v := .string A7) rfl (by kernel_rfl) (by kernel_rfl) (by kernel_rfl) (fun _ _ _ h => h) (Or.inl ⟨by kernel_rfl, fun w9 h9 => ?_⟩) HY8.out ?_
  · go_simp
  refine wpAnyH_take (i := 10) (v := .string A7) rfl (by kernel_rfl) (by kernel_rfl) (by kernel_rfl) (fun _ _ _ h => h) (Or.inl ⟨by kernel_rfl, fun w9 h9 => ?_⟩) HY8.out ?_
  · go_simp
  refine wpAnyH_done (by kernel_rfl) ?_ _
  go_simp
  clear hadd7 HW7 HZ0
  have HKA : Hid (A7 = pmK m n 0) := HK0.out.symm
  have HTE : Hid (pmT m n = pmK m n n) := (show _ = _ from rfl)
  have HPO : Hid (pmO m n = if (pmT m n).size + 4 ≤ 65536 then pmT m n ++ pw (mixv (pmT m n) 61) else ⟨#[]⟩) := (show _ = _ from rfl)
  have HKS : Hid (∀ k, k ≤ n → (pmK m n k).size ≤ 2032 + 256 * k) := fun k hk => pmK_size HOK.out k hk
  have hn9 : (n : Int) ≤ 256 := by have := HOK.out.n2; omega
  clear HK0 HA6 HHD
  go_wp2
  go_loopw [4, 5] (fun out i wr => ∃ k : Nat, k ≤ n ∧ i = .int .i64 k ∧ out = .string (pmK m n k) ∧ MY w wr B m a) (fun _ i _ => n - (intOf i).toNat)
  case atStart => exact ⟨0, Nat.zero_le _, rfl, by rw [HKA.out], HY8.out⟩
  case round =>
    obtain ⟨k, hk, rfl, rfl, hy⟩ := hrel
    have HYR : Hid (MY w wr B m a) := hy
    clear hy HKA
    by_cases hlt : k < n
    · have hk0 : (0 : Int) ≤ (k : Int) := by omega
      have hk1 : (k : Int) < (n : Int) := by omega
      have HFA : Hid (∀ u, Calls Try.prog 13 #[.string m.mem, .int .i64 k] u fun e w' => e = .returned (.string (fr m.mem k)) ∧ w' = u) := fun u => l06Frame_any m.mem k u (by have := HOK.out.sz; omega) (by have := HMS.out; omega)
      have HON : Hid (nzB m.mem k = true → pmK m n (k + 1) = pmK m n k ++ fr m.mem k) := pmK_on
      have HOFF : Hid (nzB m.mem k = false → pmK m n (k + 1) = pmK m n k) := pmK_off
      have HNZ : Hid (nzB m.mem k = !decide (fr m.mem k = zB 256)) := (show _ = _ from rfl)
      have HZE : Hid (∀ u, Calls Try.prog 15 #[] u fun e w' => e = .returned (.string (zB 256)) ∧ Below u.heap.size u w') := fun u => l20Zero_any u
      have hks := HKS.out k hk
      have hfs := fr_size m.mem k (by have := HOK.out.sz; omega)
      generalize fr m.mem k = x at *
      generalize zB 256 = z at *
      generalize pmK m n k = X at *
      obtain ⟨c0, c1, c2, c3, c4, c5, c6, c7, c8, c9, c10, c11⟩ := HYR.out.cel
      have cl := HYR.out.lt
      have hadd := fun w => run_string_add_sum (P := Try.prog) w X x (by omega)
      clear hks hfs
      by_cases hxz : x = z
      · subst hxz
        have HE : Hid (pmK m n (k + 1) = X) := HOFF.out (by rw [HNZ.out]; simp)
        clear HON HOFF HNZ hadd
        go_wp2_with (first | (go_at_call 13; refine Calls.mono (HFA.out _) ?_; rintro e u1 ⟨rfl, hw1⟩; rw [hw1]; clear hw1 u1) | (go_at_call 15; refine Calls.mono (HZE.out _) ?_; rintro e u2 ⟨rfl, hb⟩; have HY9 : Hid (MY w u2 B m a) := HYR.out.step hb; clear hb))
        exact ⟨⟨k + 1, hlt, by go_num, by rw [HE.out], HY9.out⟩, by simp [intOf]; omega⟩
      · have HE : Hid (pmK m n (k + 1) = X ++ x) := HON.out (by rw [HNZ.out, decide_eq_false hxz]; rfl)
        have hne := str_neM hxz
        clear HON HOFF HNZ hxz
        go_upto_region 10 with (first | (go_at_call 13; refine Calls.mono (HFA.out _) ?_; rintro e u1 ⟨rfl, hw1⟩; rw [hw1]; clear hw1 u1) | (go_at_call 15; refine Calls.mono (HZE.out _) ?_; rintro e u2 ⟨rfl, hb⟩; have HY9 : Hid (MY w u2 B m a) := HYR.out.step hb; clear hb))
        clear c0 c1 c2 c3 c4 c5 c6 c7 c8 c9 c10 c11 cl
        obtain ⟨c0, c1, c2, c3, c4, c5, c6, c7, c8, c9, c10, c11⟩ := HY9.out.cel
        have cl := HY9.out.lt
        go_wp2_with (go_at_call 13; refine Calls.mono (HFA.out _) ?_; rintro e u1 ⟨rfl, hw1⟩; rw [hw1]; clear hw1 u1)
        exact ⟨⟨k + 1, hlt, by go_num, by rw [HE.out], HY9.out⟩, by simp [intOf]; omega⟩
    · obtain rfl : k = n := by omega
      have hk1 : ¬ (k : Int) < (k : Int) := by omega
      have hks := HKS.out k hk
      have hmx := mixv_b (pmK m k k) 61
      have HMI : Hid (∀ u, Calls Try.prog 18 #[.string (pmK m k k), .int .i64 61] u fun e w' => e = .returned (.int .i64 (mixv (pmK m k k) 61)) ∧ w' = u) := fun u => specMix_any (pmK m k k) 61 u (by have := HOK.out.n2; omega)
      rw [HTE.out] at HPO
      generalize pmK m k k = X at *
      generalize mixv X 61 = M at *
      have HPW : Hid (∀ u, Calls Try.prog 17 #[.int .i64 M] u fun e w' => e = .returned (.string (pw M)) ∧ Below u.heap.size u w') := fun u => specPutWord_any M u
      have hpz := pw_sz M
      generalize pw M = q at *
      have hn2 := HOK.out.n2
      have hadd := fun w => run_string_add_sum (P := Try.prog) w X q (by omega)
      have hxs : (X.size : Int) ≤ 100000 := by omega
      by_cases hle : X.size + 4 ≤ 65536
      · have hd : decide (65536 < (X.size : Int) + 4) = false := decide_eq_false (by omega)
        have HR : Hid (pmV m = X ++ q) := (show _ = _ by rw [E.out, HPO.out, if_pos hle])
        go_wp2_with (first | (go_at_call 18; refine Calls.mono (HMI.out _) ?_; rintro e u2 ⟨rfl, hw1⟩; rw [hw1]; clear hw1 u2) | (go_at_call 17; refine Calls.mono (HPW.out _) ?_; rintro e u3 ⟨rfl, hb⟩; have HY10 : Hid (MY w u3 B m a) := HYR.out.step hb; clear hb))
        go_ret
        exact ⟨ret_str HR.out.symm, by first | exact HY10.out.bel | (rw [← HB0.out]; exact HY10.out.bel)⟩
      · have hd : decide (65536 < (X.size : Int) + 4) = true := decide_eq_true (by omega)
        have HR : Hid (pmV m = ⟨#[]⟩) := (show _ = _ by rw [E.out, HPO.out, if_neg hle])
        go_wp2
        go_ret
        exact ⟨ret_str HR.out.symm, by first | exact HYR.out.bel | (rw [← HB0.out]; exact HYR.out.bel)⟩
end Go.Proofs.Ytmbdclbddbbdpaa
