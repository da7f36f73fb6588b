import Derived.WalkKit
import Derived.ProofKit
import Derived.OpenShut
import Derived.Deep.Draws
import Derived.Below
import Derived.Test.YthhbfghbpapklabRows
import Derived.WalkLawsBesides
import Derived.Deep.QuietTactic
import Derived.BigQuiet
import Derived.Laws.AppendOwn
import Derived.Laws.OwnMore
import Derived.Deep.RegionWith
import Derived.Deep.DeepCutAuto
namespace Go.Proofs.Ythhbfghbpapklab
open Go.ChangeShapes Go.WideShapes Go.ChangeAt Go.RowKit

theorem wf_b {n : Int} (h : (Lit.int .i64 n).wf = true) : -9223372036854775808 ≤ n ∧ n ≤ 9223372036854775807 := by
  have := bounds_i64 h
  omega

theorem ret_int {k : IntKind} {a b : Int} (h : a = b) : Ending.returned (.int k a) = .returned (.int k b) := by rw [h]
theorem ret_bool {a b : Bool} (h : a = b) : Ending.returned (.bool a) = .returned (.bool b) := by rw [h]

theorem tmod_neg (n m : Int) (hm : 0 < m) (h : n.tmod m < 0) : n.tmod m + m = n % m := by
  have h1 := Int.tmod_eq_emod (a := n) (b := m)
  split at h1
  · have h2 := Int.emod_nonneg n (by omega : m ≠ 0); omega
  · omega

theorem tmod_pos (n m : Int) (hm : 0 < m) (h : 0 ≤ n.tmod m) : n.tmod m = n % m := by
  have h1 := Int.tmod_eq_emod (a := n) (b := m)
  have h2 := Int.emod_lt_of_pos n hm
  split at h1
  · omega
  · omega

theorem bdn {B : Nat} {a w : World} (h : Below B a w) (n : Nat) : Below B a (w.drewN n) := ⟨h.os, h.tape, h.output, h.size, h.block⟩

theorem bcell {W w1 : World} (hb : Below W.heap.size W w1) : (∀ b o, b < W.heap.size → w1.cell? ⟨b, o, none⟩ = W.cell? ⟨b, o, none⟩) ∧ (∀ b o, b < W.heap.size → w1.frozen? ⟨b, o, none⟩ = W.frozen? ⟨b, o, none⟩) :=
  ⟨fun b o h => hb.cell (p := ⟨b, o, none⟩) h, fun b o h => hb.frozen (p := ⟨b, o, none⟩) h⟩

theorem bstep {w u1 u2 : World} (h1 : Below w.heap.size w u1) (o : Obj) (h2 : Below (u1.alloc o).heap.size (u1.alloc o) u2) : Below w.heap.size w u2 :=
  (h1.alloc h1.size o).trans (h2.mono (by have := h1.size; simp; omega))

def sgn (n : Int) : Int := if 2147483648 ≤ n % 4294967296 then n % 4294967296 - 4294967296 else n % 4294967296


def bt (s : ByteArray) (k : Nat) : Int := if h : k < s.size then (s[k].toNat : Int) else 0
theorem bt_b (s : ByteArray) (k : Nat) : 0 ≤ bt s k ∧ bt s k ≤ 255 := by
  unfold bt; split
  · rename_i h; have := s[k].toNat_lt; omega
  · omega
theorem bt_eq (s : ByteArray) (k : Nat) (h : k < s.size) : (s[k].toNat : Int) = bt s k := by unfold bt; rw [dif_pos h]

theorem idx_str (s : ByteArray) (k : Nat) (h : k < s.size) : ∀ (w : World) (i : Int), i = k → Sem.run Try.prog (Instr.index 9 (.string s) (.int .i64 i)) w = .ok (.int .u8 (bt s k)) w := by
  intro w i hi
  subst hi
  rw [run_index_string _ _ _ _ _ Try.underlying9, dif_pos (by omega)]
  rw [← bt_eq s k h]
  rfl


/-- Right memory: whole frames, one at least, 256 at most. -/
def memOk (s : ByteArray) : Bool := decide (s.size ≠ 0 ∧ s.size ≤ 65536 ∧ s.size % 256 = 0)
/-- What MemFault tells. -/
def memC (s : ByteArray) : Int := if memOk s then 0 else 1
theorem implMemFault_any (s : ByteArray) (w : World) (hs : s.size ≤ 1099511627776) :
    Calls Try.prog 91 #[.string s] w fun e w' => e = .returned (.int .i64 (memC s)) ∧ w' = w := by
  by_cases h1 : s.size = 0
  · have E : Hid (memC s = 1) := by
      show memC s = _
      unfold memC memOk
      have hh := s.size
      split <;> simp_all <;> omega
    go_enter Try.func91, Try.ntmps91
    go_wp2
    all_goals first | (go_ret; exact ⟨ret_int E.out.symm, rfl⟩) | (exfalso; simp_all; done) | (exfalso; simp_all; omega)
  by_cases h2 : 65536 < s.size
  · have E : Hid (memC s = 1) := by
      show memC s = _
      unfold memC memOk
      have hh := s.size
      split <;> simp_all <;> omega
    go_enter Try.func91, Try.ntmps91
    go_wp2
    all_goals first | (go_ret; exact ⟨ret_int E.out.symm, rfl⟩) | (exfalso; simp_all; done) | (exfalso; simp_all; omega)
  by_cases h3 : s.size % 256 = 0
  · have E : Hid (memC s = 0) := by
      show memC s = _
      unfold memC memOk
      have hh := s.size
      split <;> simp_all <;> omega
    go_enter Try.func91, Try.ntmps91
    go_wp2
    all_goals first | (go_ret; exact ⟨ret_int E.out.symm, rfl⟩) | (exfalso; simp_all; done) | (exfalso; simp_all; omega)
  · have E : Hid (memC s = 1) := by
      show memC s = _
      unfold memC memOk
      have hh := s.size
      split <;> simp_all <;> omega
    go_enter Try.func91, Try.ntmps91
    go_wp2
    all_goals first | (go_ret; exact ⟨ret_int E.out.symm, rfl⟩) | (exfalso; simp_all; done) | (exfalso; simp_all; omega)
theorem specMemFault_any (s : ByteArray) (w : World) (hs : s.size ≤ 1099511627776) :
    Calls Try.prog 81 #[.string s] w fun e w' => e = .returned (.int .i64 (memC s)) ∧ w' = w := by
  by_cases h1 : s.size = 0
  · have E : Hid (memC s = 1) := by
      show memC s = _
      unfold memC memOk
      have hh := s.size
      split <;> simp_all <;> omega
    go_enter Try.func81, Try.ntmps81
    go_wp2
    all_goals first | (go_ret; exact ⟨ret_int E.out.symm, rfl⟩) | (exfalso; simp_all; done) | (exfalso; simp_all; omega)
  by_cases h3 : s.size % 256 = 0
  · by_cases h2 : 65536 < s.size
    · have E : Hid (memC s = 1) := by
        show memC s = _
        unfold memC memOk
        have hh := s.size
        split <;> simp_all <;> omega
      go_enter Try.func81, Try.ntmps81
      go_wp2
      all_goals first | (go_ret; exact ⟨ret_int E.out.symm, rfl⟩) | (exfalso; simp_all; done) | (exfalso; simp_all; omega)
    · have E : Hid (memC s = 0) := by
        show memC s = _
        unfold memC memOk
        have hh := s.size
        split <;> simp_all <;> omega
      go_enter Try.func81, Try.ntmps81
      go_wp2
      all_goals first | (go_ret; exact ⟨ret_int E.out.symm, rfl⟩) | (exfalso; simp_all; done) | (exfalso; simp_all; omega)
  · have E : Hid (memC s = 1) := by
      show memC s = _
      unfold memC memOk
      have hh := s.size
      split <;> simp_all <;> omega
    go_enter Try.func81, Try.ntmps81
    go_wp2
    all_goals first | (go_ret; exact ⟨ret_int E.out.symm, rfl⟩) | (exfalso; simp_all; done) | (exfalso; simp_all; omega)

theorem memC_ok {s : ByteArray} (h : memOk s = true) : memC s = 0 := by simp [memC, h]
theorem memC_no {s : ByteArray} (h : memOk s = false) : memC s = 1 := by simp [memC, h]
theorem memOk_b {s : ByteArray} (h : memOk s = true) : s.size ≠ 0 ∧ s.size ≤ 65536 ∧ s.size % 256 = 0 := by simpa [memOk] using h
theorem Try.info2 : (Try.prog.info? 2).map (fun i => (i.zero, i.size, i.bytes)) = some (some (.int .i64 0), 1, 8) := by kernel_rfl
theorem drewN_alloc (w : World) (o : Obj) (n : Nat) : (w.alloc o).drewN n = (w.drewN n).alloc o := rfl
theorem own_below {w w' : World} {B e size n : Nat} {v : Value} {xs : List Value} (h : w.ownsRow B e size v n xs) (hb : Below w.heap.size w w') : w'.ownsRow B e size v n xs :=
  h.kept (row := none) ⟨hb.os, hb.tape, hb.output, hb.size, fun k hk _ => hb.block k hk⟩ (by cases v.ownBlock <;> simp)
theorem own_set {w : World} {B e size n : Nat} {v x : Value} {xs : List Value} {p : Addr} (h : w.ownsRow B e size v n xs) (hp : v.ownBlock ≠ some p.block) : (w.setCell p x).ownsRow B e size v n xs :=
  h.kept (row := some p.block) ⟨rfl, rfl, rfl, by simp [World.setCell], fun k _ hn => Below.heap_setCell _ _ _ _ (fun e => hn (congrArg some e))⟩ (.inr hp)
theorem heap_new (w : World) (o : Obj) : (w.alloc o).heap[w.heap.size]? = some o := (MapKept.heap_alloc w o).1
theorem own_weak1 {w : World} {B B' : Nat} {e : TypeId} {v : Value} {n : Nat} {xs : List Value} (h : w.ownsRow B e 1 v n xs) (hb : B' ≤ B) : w.ownsRow B' e 1 v n xs := by
  obtain ⟨hl, h | ⟨g, cap, cur, hv, hg, h1, h2, h3, h4, h5⟩⟩ := h
  · exact ⟨hl, .inl h⟩
  · exact ⟨hl, .inr ⟨g, cap, cur, hv, Nat.le_trans hb hg, h1, h2, h3, h4, h5⟩⟩

/-- So many bytes from a place on are within n. -/
def inW (n : Nat) (a z : Int) : Bool := decide (0 ≤ a ∧ 0 ≤ z ∧ a + z ≤ (n : Int))
theorem inW_iff {n : Nat} {a z : Int} : inW n a z = true ↔ 0 ≤ a ∧ 0 ≤ z ∧ a + z ≤ (n : Int) := by simp [inW]
theorem inW_no {n : Nat} {a z : Int} : inW n a z = false ↔ ¬ (0 ≤ a ∧ 0 ≤ z ∧ a + z ≤ (n : Int)) := by simp [inW]
/-- A number of int64. -/
def i64B (a : Int) : Prop := -9223372036854775808 ≤ a ∧ a ≤ 9223372036854775807
theorem isWithin_any (n : Nat) (a z : Int) (w : World) (hn : n ≤ 1048576) (hz : i64B z) :
    Calls Try.prog 78 #[.int .i64 n, .int .i64 a, .int .i64 z] w fun e w' => e = .returned (.bool (inW n a z)) ∧ w' = w := by
  obtain ⟨z1, z2⟩ := hz
  by_cases h1 : 0 ≤ a
  · by_cases h2 : 0 ≤ z
    · have E : Hid (inW n a z = decide (a ≤ (n : Int) - z)) := by
        show inW _ _ _ = _
        unfold inW
        exact decide_eq_decide.2 (by omega)
      go_enter Try.func78, Try.ntmps78
      go_wp2
      go_ret
      exact ⟨ret_bool E.out.symm, rfl⟩
    · have E : Hid (inW n a z = false) := inW_no.2 (by omega)
      go_enter Try.func78, Try.ntmps78
      go_wp2
      go_ret
      exact ⟨ret_bool E.out.symm, rfl⟩
  · have E : Hid (inW n a z = false) := inW_no.2 (by omega)
    go_enter Try.func78, Try.ntmps78
    go_wp2
    go_ret
    exact ⟨ret_bool E.out.symm, rfl⟩
theorem l10In_any (s : ByteArray) (a z : Int) (w : World) (hn : s.size ≤ 1048576) :
    Calls Try.prog 83 #[.string s, .int .i64 a, .int .i64 z] w fun e w' => e = .returned (.bool (inW s.size a z)) ∧ w' = w := by
  by_cases h1 : 0 ≤ a
  · by_cases h2 : 0 ≤ z
    · by_cases h3 : a ≤ (s.size : Int)
      · have E : Hid (inW s.size a z = decide (z ≤ (s.size : Int) - a)) := by
          show inW _ _ _ = _
          unfold inW
          exact decide_eq_decide.2 (by omega)
        go_enter Try.func83, Try.ntmps83
        go_wp2
        go_ret
        exact ⟨ret_bool E.out.symm, rfl⟩
      · have E : Hid (inW s.size a z = false) := inW_no.2 (by omega)
        go_enter Try.func83, Try.ntmps83
        go_wp2
        go_ret
        exact ⟨ret_bool E.out.symm, rfl⟩
    · have E : Hid (inW s.size a z = false) := inW_no.2 (by omega)
      go_enter Try.func83, Try.ntmps83
      go_wp2
      go_ret
      exact ⟨ret_bool E.out.symm, rfl⟩
  · have E : Hid (inW s.size a z = false) := inW_no.2 (by omega)
    go_enter Try.func83, Try.ntmps83
    go_wp2
    go_ret
    exact ⟨ret_bool E.out.symm, rfl⟩
/-- A table is in memory. -/
def tbB (n : Nat) (a z : Int) : Bool := decide (a % 4 = 0) && inW n a z
theorem tmod4 (a : Int) : (a.tmod 4 == 0) = decide (a % 4 = 0) := by
  rw [Int.tmod_eq_emod (a := a) (b := 4)]
  by_cases h : a % 4 = 0
  · simp [h]
    intro h1
    exact Int.dvd_of_emod_eq_zero h
  · rw [decide_eq_false h]
    split
    · simpa using h
    · simp; omega
theorem holdsTable_any (s : ByteArray) (a z : Int) (w : World) (hn : s.size ≤ 1048576) (hz : i64B z) :
    Calls Try.prog 94 #[.string s, .int .i64 a, .int .i64 z] w fun e w' => e = .returned (.bool (tbB s.size a z)) ∧ w' = w := by
  have HW : Hid _ := fun u => isWithin_any s.size a z u hn hz
  by_cases h : a % 4 = 0
  · have h4 : (a.tmod 4 == 0) = true := by rw [tmod4]; simp [h]
    have E : Hid (tbB s.size a z = inW s.size a z) := by
      show tbB _ _ _ = _
      unfold tbB
      simp [h]
    clear hz h
    go_enter Try.func94, Try.ntmps94
    go_wp2_with (go_at_call 78; refine Calls.mono (HW.out _) ?_; rintro e u1 ⟨rfl, hu1⟩; subst hu1)
    go_ret
    exact ⟨ret_bool E.out.symm, rfl⟩
  · have h4 : (a.tmod 4 == 0) = false := by rw [tmod4]; simp [h]
    have E : Hid (tbB s.size a z = false) := by
      show tbB _ _ _ = _
      unfold tbB
      simp [h]
    clear hz h HW
    go_enter Try.func94, Try.ntmps94
    go_wp2_with fail
    go_ret
    exact ⟨ret_bool E.out.symm, rfl⟩

theorem bx1 (w : World) (o : Obj) : Below w.heap.size w (w.alloc o) := (Below.refl _ _).alloc (Nat.le_refl _) _
/-- A thing in its box. -/
structure LBx (w u : World) (b : Nat) (cs : Array Value) (t : Nat) : Prop where
  bel : Below w.heap.size w u
  box : u.heap[b]? = some (.cells cs t (0, 0))
theorem LBx.lt {w u : World} {b t : Nat} {cs : Array Value} (h : LBx w u b cs t) : b < u.heap.size := (Array.getElem?_eq_some_iff.1 h.box).1
theorem LBx.step {w u u' : World} {b t : Nat} {cs : Array Value} (h : LBx w u b cs t) (hb : Below u.heap.size u u') : LBx w u' b cs t := ⟨h.bel.trans (hb.mono h.bel.size), (hb.block _ h.lt).trans h.box⟩
theorem LBx.new (w : World) (cs : Array Value) (t : Nat) : LBx w (w.alloc (.cells cs t)) w.heap.size cs t := ⟨bx1 _ _, heap_new _ _⟩
theorem LBx.dn {w u : World} {b t : Nat} {cs : Array Value} (h : LBx w u b cs t) (n : Nat) : LBx w (u.drewN n) b cs t := ⟨bdn h.bel n, h.box⟩
theorem LBx.cel {w u : World} {b t : Nat} {cs : Array Value} (h : LBx w u b cs t) (k : Nat) (v : Value) (hv : cs[k]? = some v) : u.cell? ⟨b, k, none⟩ = some v := by
  simp [World.cell?, h.box, hv]
/-- Two boxes, one behind the other. -/
structure TwoBx (w u : World) (cs : Array Value) (t : Nat) (ds : Array Value) (t2 : Nat) : Prop where
  bel : Below w.heap.size w u
  b1 : u.heap[w.heap.size]? = some (.cells cs t (0, 0))
  b2 : u.heap[w.heap.size + 1]? = some (.cells ds t2 (0, 0))
theorem TwoBx.of (w : World) (cs : Array Value) (t : Nat) (ds : Array Value) (t2 : Nat) {u : World} (h : Below ((w.alloc (.cells cs t)).alloc (.cells ds t2)).heap.size ((w.alloc (.cells cs t)).alloc (.cells ds t2)) u) : TwoBx w u cs t ds t2 := by
  have e1 : (w.alloc (.cells cs t)).heap.size = w.heap.size + 1 := by simp
  have e2 : ((w.alloc (.cells cs t)).alloc (.cells ds t2)).heap.size = w.heap.size + 2 := by simp
  have hB : Below w.heap.size w ((w.alloc (.cells cs t)).alloc (.cells ds t2)) := (bx1 _ _).alloc (by simp) _
  refine ⟨hB.trans (h.mono hB.size), ?_, ?_⟩
  · rw [h.block _ (by rw [e2]; omega)]
    exact ((bx1 (w.alloc (.cells cs t)) (.cells ds t2)).block _ (by rw [e1]; omega)).trans (heap_new _ _)
  · rw [h.block _ (by rw [e2]; omega)]
    have := heap_new (w.alloc (.cells cs t)) (.cells ds t2)
    rw [e1] at this
    exact this
theorem TwoBx.c1 {w u : World} {cs ds : Array Value} {t t2 : Nat} (h : TwoBx w u cs t ds t2) (k : Nat) (v : Value) (hv : cs[k]? = some v) : u.cell? ⟨w.heap.size, k, none⟩ = some v := by simp [World.cell?, h.b1, hv]
theorem TwoBx.c2 {w u : World} {cs ds : Array Value} {t t2 : Nat} (h : TwoBx w u cs t ds t2) (k : Nat) (v : Value) (hv : ds[k]? = some v) : u.cell? ⟨w.heap.size + 1, k, none⟩ = some v := by simp [World.cell?, h.b2, hv]
theorem TwoBx.f1 {w u : World} {cs ds : Array Value} {t t2 : Nat} (h : TwoBx w u cs t ds t2) (k : Nat) : u.frozen? ⟨w.heap.size, k, none⟩ = false := by simp [World.frozen?, h.b1]
theorem TwoBx.f2 {w u : World} {cs ds : Array Value} {t t2 : Nat} (h : TwoBx w u cs t ds t2) (k : Nat) : u.frozen? ⟨w.heap.size + 1, k, none⟩ = false := by simp [World.frozen?, h.b2]
theorem TwoBx.lt {w u : World} {cs ds : Array Value} {t t2 : Nat} (h : TwoBx w u cs t ds t2) : w.heap.size + 1 < u.heap.size := (Array.getElem?_eq_some_iff.1 h.b2).1
theorem TwoBx.step {w u u' : World} {cs ds : Array Value} {t t2 : Nat} (h : TwoBx w u cs t ds t2) (hb : Below u.heap.size u u') : TwoBx w u' cs t ds t2 := ⟨h.bel.trans (hb.mono h.bel.size), (hb.block _ (by have := h.lt; omega)).trans h.b1, (hb.block _ h.lt).trans h.b2⟩
theorem tmod4n (a : Int) : (a.tmod 4 != 0) = !decide (a % 4 = 0) := by
  unfold bne
  rw [tmod4]

/-- A queue. -/
structure QV where
  size : Int
  desc : Int
  avail : Int
  used : Int
  taken : Int
  given : Int
def qA (q : QV) : Value := .agg #[.int .i64 q.size, .int .i64 q.desc, .int .i64 q.avail, .int .i64 q.used, .int .i64 q.taken, .int .i64 q.given]
def qC (q : QV) : Array Value := #[.int .i64 q.size, .int .i64 q.desc, .int .i64 q.avail, .int .i64 q.used, .int .i64 q.taken, .int .i64 q.given]
def szB (n : Int) : Bool := decide (n ∈ [1, 2, 4, 8, 16])
def cnB (n : Int) : Bool := decide (0 ≤ n ∧ n ≤ 65535)
theorem isQueueSize_any (n : Int) (w : World) : Calls Try.prog 92 #[.int .i64 n] w fun e w' => e = .returned (.bool (szB n)) ∧ w' = w := by
  by_cases h1 : 1 ≤ n
  · by_cases h2 : n ≤ 16
    · obtain ⟨k, rfl⟩ := Int.eq_ofNat_of_zero_le (show 0 ≤ n by omega)
      have hk : k < 17 := by omega
      have hk1 : 1 ≤ k := by omega
      clear h1 h2
      have E : Hid (((65536 : Int).tmod (k : Int) == 0) = szB k) := by
        show ((65536 : Int).tmod (k : Int) == 0) = szB k
        have : ∀ m : Fin 17, 1 ≤ m.1 → ((65536 : Int).tmod ((m.1 : Nat) : Int) == 0) = szB ((m.1 : Nat) : Int) := by decide
        exact this ⟨k, hk⟩ hk1
      have h1 : (1 : Int) ≤ (k : Int) := by omega
      have h2 : (k : Int) ≤ 16 := by omega
      have h3 : ¬ (k : Int) = 0 := by omega
      go_enter Try.func92, Try.ntmps92
      go_wp2
      go_ret
      exact ⟨ret_bool E.out, rfl⟩
    · have E : Hid (szB n = false) := by
        show szB n = false
        simp [szB]
        omega
      go_enter Try.func92, Try.ntmps92
      go_wp2
      go_ret
      exact ⟨ret_bool E.out.symm, rfl⟩
  · have E : Hid (szB n = false) := by
      show szB n = false
      simp [szB]
      omega
    go_enter Try.func92, Try.ntmps92
    go_wp2
    go_ret
    exact ⟨ret_bool E.out.symm, rfl⟩
theorem isCount_any (n : Int) (w : World) : Calls Try.prog 93 #[.int .i64 n] w fun e w' => e = .returned (.bool (cnB n)) ∧ w' = w := by
  by_cases h1 : 0 ≤ n
  · have E : Hid (decide (n < 65536) = cnB n) := by
      show _ = cnB n
      unfold cnB
      exact decide_eq_decide.2 (by omega)
    go_enter Try.func93, Try.ntmps93
    go_wp2
    go_ret
    exact ⟨ret_bool E.out, rfl⟩
  · have E : Hid (cnB n = false) := by
      show cnB n = false
      simp [cnB]
      omega
    go_enter Try.func93, Try.ntmps93
    go_wp2
    go_ret
    exact ⟨ret_bool E.out.symm, rfl⟩
/-- A queue is right in a memory. -/
def qOk (s : ByteArray) (q : QV) : Bool := memOk s && szB q.size && cnB q.taken && cnB q.given && tbB s.size q.desc (q.size * 16) && tbB s.size q.avail (8 + q.size * 4) && tbB s.size q.used (8 + q.size * 8)
def qF (s : ByteArray) (q : QV) : Int := if qOk s q = true then 0 else 1
theorem szB_b {n : Int} (h : szB n = true) : 1 ≤ n ∧ n ≤ 16 := by
  simp [szB] at h
  omega
set_option maxRecDepth 100000 in
set_option maxHeartbeats 4000000 in
theorem implQueueFault_any (s : ByteArray) (q : QV) (w : World) (hs : s.size ≤ 1048576) :
    Calls Try.prog 46 #[.string s, qA q] w fun e w' => e = .returned (.int .i64 (qF s q)) ∧ Below w.heap.size w w' := by
  have HM : Hid _ := fun u => implMemFault_any s u (by omega)
  have HS : Hid _ := fun u => isQueueSize_any q.size u
  have HT : Hid _ := fun u => isCount_any q.taken u
  have HG : Hid _ := fun u => isCount_any q.given u
  have E : Hid (qF s q = if memC s = 0 then (if szB q.size = true then (if cnB q.taken = true then (if cnB q.given = true then (if tbB s.size q.desc (q.size * 16) = true then (if tbB s.size q.avail (8 + q.size * 4) = true then (if tbB s.size q.used (8 + q.size * 8) = true then 0 else 1) else 1) else 1) else 1) else 1) else 1) else 1) := by
    show qF s q = _
    unfold qF qOk memC
    cases memOk s <;> cases szB q.size <;> cases cnB q.taken <;> cases cnB q.given <;> cases tbB s.size q.desc (q.size * 16) <;> cases tbB s.size q.avail (8 + q.size * 4) <;> cases tbB s.size q.used (8 + q.size * 8) <;> rfl
  obtain ⟨sz, d, a, us, tk, gv⟩ := q
  simp only at *
  rw [E.out]
  clear E
  unfold qA
  simp only
  generalize memC s = mc at *
  by_cases hm : mc = 0
  · subst hm
    cases h1 : szB sz
    · rw [h1] at HS
      clear h1
      go_enter Try.func46, Try.ntmps46
      go_wp2_with (first | (go_at_call 91; have hA := HM.out; refine Calls.mono (hA _) ?_; rintro e u1 ⟨rfl, hu1⟩; rw [hu1]; clear hu1 hA HM) | (go_at_call 92; have hA := HS.out; refine Calls.mono (hA _) ?_; rintro e u1 ⟨rfl, hu1⟩; rw [hu1]; clear hu1 hA HS))
      go_ret
      exact ⟨rfl, bx1 _ _⟩
    · rw [h1] at HS
      have zb := szB_b h1
      have HD : Hid _ := fun u => holdsTable_any s d (sz * 16) u hs (by unfold i64B; omega)
      have HA : Hid _ := fun u => holdsTable_any s a (8 + sz * 4) u hs (by unfold i64B; omega)
      have HU : Hid _ := fun u => holdsTable_any s us (8 + sz * 8) u hs (by unfold i64B; omega)
      clear h1
      cases h2 : cnB tk
      · rw [h2] at HT
        clear h2
        go_enter Try.func46, Try.ntmps46
        go_wp2_with (first | (go_at_call 91; have hA := HM.out; refine Calls.mono (hA _) ?_; rintro e u1 ⟨rfl, hu1⟩; rw [hu1]; clear hu1 hA HM) | (go_at_call 92; have hA := HS.out; refine Calls.mono (hA _) ?_; rintro e u1 ⟨rfl, hu1⟩; rw [hu1]; clear hu1 hA HS) | (go_at_call 93; have hA := HT.out; refine Calls.mono (hA _) ?_; rintro e u1 ⟨rfl, hu1⟩; rw [hu1]; clear hu1 hA HT))
        go_ret
        exact ⟨rfl, bx1 _ _⟩
      · rw [h2] at HT
        clear h2
        cases h3 : cnB gv
        · rw [h3] at HG
          clear h3
          go_enter Try.func46, Try.ntmps46
          go_wp2_with (first | (go_at_call 91; have hA := HM.out; refine Calls.mono (hA _) ?_; rintro e u1 ⟨rfl, hu1⟩; rw [hu1]; clear hu1 hA HM) | (go_at_call 92; have hA := HS.out; refine Calls.mono (hA _) ?_; rintro e u1 ⟨rfl, hu1⟩; rw [hu1]; clear hu1 hA HS) | (go_at_call 93; have hA := HT.out; refine Calls.mono (hA _) ?_; rintro e u1 ⟨rfl, hu1⟩; rw [hu1]; clear hu1 hA HT) | (go_at_call 93; have hA := HG.out; refine Calls.mono (hA _) ?_; rintro e u1 ⟨rfl, hu1⟩; rw [hu1]; clear hu1 hA HG))
          go_ret
          exact ⟨rfl, bx1 _ _⟩
        · rw [h3] at HG
          clear h3
          cases h4 : tbB s.size d (sz * 16)
          · rw [h4] at HD
            clear h4
            have b1 := zb.1
            have b2 := zb.2
            go_enter Try.func46, Try.ntmps46
            go_wp2_with (first | (go_at_call 91; have hA := HM.out; refine Calls.mono (hA _) ?_; rintro e u1 ⟨rfl, hu1⟩; rw [hu1]; clear hu1 hA HM) | (go_at_call 92; have hA := HS.out; refine Calls.mono (hA _) ?_; rintro e u1 ⟨rfl, hu1⟩; rw [hu1]; clear hu1 hA HS) | (go_at_call 93; have hA := HT.out; refine Calls.mono (hA _) ?_; rintro e u1 ⟨rfl, hu1⟩; rw [hu1]; clear hu1 hA HT) | (go_at_call 93; have hA := HG.out; refine Calls.mono (hA _) ?_; rintro e u1 ⟨rfl, hu1⟩; rw [hu1]; clear hu1 hA HG) | (go_at_call 94; have hA := HD.out; refine Calls.mono (hA _) ?_; rintro e u1 ⟨rfl, hu1⟩; rw [hu1]; clear hu1 hA HD))
            go_ret
            exact ⟨rfl, bx1 _ _⟩
          · rw [h4] at HD
            clear h4
            cases h5 : tbB s.size a (8 + sz * 4)
            · rw [h5] at HA
              clear h5
              have b1 := zb.1
              have b2 := zb.2
              go_enter Try.func46, Try.ntmps46
              go_wp2_with (first | (go_at_call 91; have hA := HM.out; refine Calls.mono (hA _) ?_; rintro e u1 ⟨rfl, hu1⟩; rw [hu1]; clear hu1 hA HM) | (go_at_call 92; have hA := HS.out; refine Calls.mono (hA _) ?_; rintro e u1 ⟨rfl, hu1⟩; rw [hu1]; clear hu1 hA HS) | (go_at_call 93; have hA := HT.out; refine Calls.mono (hA _) ?_; rintro e u1 ⟨rfl, hu1⟩; rw [hu1]; clear hu1 hA HT) | (go_at_call 93; have hA := HG.out; refine Calls.mono (hA _) ?_; rintro e u1 ⟨rfl, hu1⟩; rw [hu1]; clear hu1 hA HG) | (go_at_call 94; have hA := HD.out; refine Calls.mono (hA _) ?_; rintro e u1 ⟨rfl, hu1⟩; rw [hu1]; clear hu1 hA HD) | (go_at_call 94; have hA := HA.out; refine Calls.mono (hA _) ?_; rintro e u1 ⟨rfl, hu1⟩; rw [hu1]; clear hu1 hA HA))
              go_ret
              exact ⟨rfl, bx1 _ _⟩
            · rw [h5] at HA
              clear h5
              cases h6 : tbB s.size us (8 + sz * 8)
              · rw [h6] at HU
                clear h6
                have b1 := zb.1
                have b2 := zb.2
                go_enter Try.func46, Try.ntmps46
                go_wp2_with (first | (go_at_call 91; have hA := HM.out; refine Calls.mono (hA _) ?_; rintro e u1 ⟨rfl, hu1⟩; rw [hu1]; clear hu1 hA HM) | (go_at_call 92; have hA := HS.out; refine Calls.mono (hA _) ?_; rintro e u1 ⟨rfl, hu1⟩; rw [hu1]; clear hu1 hA HS) | (go_at_call 93; have hA := HT.out; refine Calls.mono (hA _) ?_; rintro e u1 ⟨rfl, hu1⟩; rw [hu1]; clear hu1 hA HT) | (go_at_call 93; have hA := HG.out; refine Calls.mono (hA _) ?_; rintro e u1 ⟨rfl, hu1⟩; rw [hu1]; clear hu1 hA HG) | (go_at_call 94; have hA := HD.out; refine Calls.mono (hA _) ?_; rintro e u1 ⟨rfl, hu1⟩; rw [hu1]; clear hu1 hA HD) | (go_at_call 94; have hA := HA.out; refine Calls.mono (hA _) ?_; rintro e u1 ⟨rfl, hu1⟩; rw [hu1]; clear hu1 hA HA) | (go_at_call 94; have hA := HU.out; refine Calls.mono (hA _) ?_; rintro e u1 ⟨rfl, hu1⟩; rw [hu1]; clear hu1 hA HU))
                go_ret
                exact ⟨rfl, bx1 _ _⟩
              · rw [h6] at HU
                clear h6
                have b1 := zb.1
                have b2 := zb.2
                go_enter Try.func46, Try.ntmps46
                go_wp2_with (first | (go_at_call 91; have hA := HM.out; refine Calls.mono (hA _) ?_; rintro e u1 ⟨rfl, hu1⟩; rw [hu1]; clear hu1 hA HM) | (go_at_call 92; have hA := HS.out; refine Calls.mono (hA _) ?_; rintro e u1 ⟨rfl, hu1⟩; rw [hu1]; clear hu1 hA HS) | (go_at_call 93; have hA := HT.out; refine Calls.mono (hA _) ?_; rintro e u1 ⟨rfl, hu1⟩; rw [hu1]; clear hu1 hA HT) | (go_at_call 93; have hA := HG.out; refine Calls.mono (hA _) ?_; rintro e u1 ⟨rfl, hu1⟩; rw [hu1]; clear hu1 hA HG) | (go_at_call 94; have hA := HD.out; refine Calls.mono (hA _) ?_; rintro e u1 ⟨rfl, hu1⟩; rw [hu1]; clear hu1 hA HD) | (go_at_call 94; have hA := HA.out; refine Calls.mono (hA _) ?_; rintro e u1 ⟨rfl, hu1⟩; rw [hu1]; clear hu1 hA HA) | (go_at_call 94; have hA := HU.out; refine Calls.mono (hA _) ?_; rintro e u1 ⟨rfl, hu1⟩; rw [hu1]; clear hu1 hA HU))
                go_ret
                exact ⟨rfl, bx1 _ _⟩
  · have hm2 : (mc != 0) = true := by simp [hm]
    rw [if_neg hm]
    clear hm
    go_enter Try.func46, Try.ntmps46
    go_wp2_with (first | (go_at_call 91; have hA := HM.out; refine Calls.mono (hA _) ?_; rintro e u1 ⟨rfl, hu1⟩; rw [hu1]; clear hu1 hA HM))
    go_ret
    exact ⟨rfl, bx1 _ _⟩
end Go.Proofs.Ythhbfghbpapklab
