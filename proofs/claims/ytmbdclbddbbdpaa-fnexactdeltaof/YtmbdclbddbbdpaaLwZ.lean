import Derived.Test.YtmbdclbddbbdpaaPlain
import Derived.RegionTactic
import Derived.Test.YtmbdclbddbbdpaaNewM3
import Derived.Test.YtmbdclbddbbdpaaMFm
import Derived.Test.YtmbdclbddbbdpaaMFd
import Derived.Test.YtmbdclbddbbdpaaMFe
import Derived.Deep.RegionHeld3
import Derived.Test.YtmbdclbddbbdpaaKdZ
import Derived.Test.YtmbdclbddbbdpaaRowPV4
import Derived.OpenShut
import Derived.WalkKit
import Derived.Deep.Slices
namespace Go.Proofs.Ytmbdclbddbbdpaa
open Go.ChangeShapes Go.WideShapes Go.ChangeAt Go.RowKit

/-- How many have not come up yet. -/
def left (L : Array Bool) : Nat := L.toList.countP (fun b => !b)
theorem left_set {L : Array Bool} {i : Nat} (h : L.getD i true = false) : left (L.setIfInBounds i true) + 1 = left L := by
  have hi : i < L.size := by
    rcases Nat.lt_or_ge i L.size with h' | h'
    · exact h'
    · simp [Array.getD, Nat.not_lt.2 h'] at h
  have hv : L[i] = false := by simpa [Array.getD, hi] using h
  unfold left
  rw [Array.toList_setIfInBounds]
  have e : L.toList = L.toList.take i ++ (false :: L.toList.drop (i + 1)) := by
    have h2 : L.toList[i]'(by simpa using hi) = false := by simpa using hv
    rw [← h2, List.getElem_cons_drop, List.take_append_drop]
  have hl : (L.toList.take i).length = i := by rw [List.length_take]; simp; omega
  have e2 : L.toList.set i true = L.toList.take i ++ (true :: L.toList.drop (i + 1)) := by
    conv => lhs; rw [e]
    rw [List.set_append_right _ _ (by omega), hl, Nat.sub_self, List.set_cons_zero]
  rw [e2]
  conv => rhs; rw [e]
  simp [List.countP_append]
  omega
theorem ready_of_left {md : Region.Mode} {ops : Array Oper} {L : Array Bool} (h : left L = 0) : Region.ready md ops L = [] := by
  rw [List.eq_nil_iff_forall_not_mem]
  intro i hi
  have h1 := (mem_ready.1 hi).1
  have := left_set h1
  omega
/-- A region by what holds whichever operations have come up. -/
theorem wpAny_inv {P : Program} {md : Region.Mode} {ops : Array Oper} {Q : Exit → Act → World → Prop} (I : Array Bool → Act → World → Prop)
    (hs : ∀ L a w i, I L a w → i ∈ Region.ready md ops L → wpOp P ops Q i (fun a' w' => I (L.setIfInBounds i true) a' w') a w)
    (hd : ∀ L a w, I L a w → Region.ready md ops L = [] → Q .normal a w) : ∀ (fuel : Nat) (L : Array Bool) (a : Act) (w : World), left L ≤ fuel → I L a w → wpAny P md ops Q fuel L a w
  | 0, L, a, w, hl, hI => by
    have h0 := ready_of_left (md := md) (ops := ops) (Nat.le_zero.1 hl)
    exact ⟨h0, hd L a w hI h0⟩
  | fuel + 1, L, a, w, hl, hI => by
    refine ⟨hd L a w hI, fun i hi => wpOp_mono (fun a' w' h => wpAny_inv I hs hd fuel _ a' w' ?_ h) (hs L a w i hI hi)⟩
    have := left_set (mem_ready.1 hi).1
    omega

def zBox : Obj := .cells #[.int .i64 0, .slice none 0 0, .int .i64 0, .slice none 0 0, .slice none 0 0, .string ⟨#[]⟩, .int .i64 0, .int .i64 0, .int .i64 0, .slice none 0 0, .slice none 0 0, .int .i64 0] 30 (0, 0)
theorem blk_set {u : World} {b : Nat} {cs : Array Value} {t : TypeId} {z : Nat × Nat} (h : u.heap[b]? = some (.cells cs t z)) (o : Nat) (v : Value) : (u.setCell ⟨b, o, none⟩ v).heap[b]? = some (.cells (cs.setIfInBounds o v) t z) := by
  simp [World.setCell, Array.getElem?_modify, h]
theorem st12 {B : Nat} {w u : World} {b : Nat} {t : TypeId} {a0 a1 a2 a3 a4 a5 a6 a7 a8 a9 a10 a11 : Value} (hb : Below B w u) (hB : B ≤ b) (h : u.heap[b]? = some (.cells #[a0, a1, a2, a3, a4, a5, a6, a7, a8, a9, a10, a11] t (0, 0))) (v0 v1 v2 v3 v4 v5 v6 v7 v8 v9 v10 v11 : Value) {U : World}
    (hU : ((((((((((((u.setCell ⟨b, 0, none⟩ v0).setCell ⟨b, 1, none⟩ v1).setCell ⟨b, 2, none⟩ v2).setCell ⟨b, 3, none⟩ v3).setCell ⟨b, 4, none⟩ v4).setCell ⟨b, 5, none⟩ v5).setCell ⟨b, 6, none⟩ v6).setCell ⟨b, 7, none⟩ v7).setCell ⟨b, 8, none⟩ v8).setCell ⟨b, 9, none⟩ v9).setCell ⟨b, 10, none⟩ v10).setCell ⟨b, 11, none⟩ v11) = U) : Below B w U ∧ U.heap[b]? = some (.cells #[v0, v1, v2, v3, v4, v5, v6, v7, v8, v9, v10, v11] t (0, 0)) ∧ (∀ k, k ≠ b → U.heap[k]? = u.heap[k]?) := by
  subst hU
  refine ⟨?_, ?_, fun k hk => ?_⟩
  · exact ((((((((((((hb.setCell (p := ⟨b, 0, none⟩) hB _).setCell (p := ⟨b, 1, none⟩) hB _).setCell (p := ⟨b, 2, none⟩) hB _).setCell (p := ⟨b, 3, none⟩) hB _).setCell (p := ⟨b, 4, none⟩) hB _).setCell (p := ⟨b, 5, none⟩) hB _).setCell (p := ⟨b, 6, none⟩) hB _).setCell (p := ⟨b, 7, none⟩) hB _).setCell (p := ⟨b, 8, none⟩) hB _).setCell (p := ⟨b, 9, none⟩) hB _).setCell (p := ⟨b, 10, none⟩) hB _).setCell (p := ⟨b, 11, none⟩) hB _)
  · have h0 := blk_set h 0 v0
    have h1 := blk_set h0 1 v1
    have h2 := blk_set h1 2 v2
    have h3 := blk_set h2 3 v3
    have h4 := blk_set h3 4 v4
    have h5 := blk_set h4 5 v5
    have h6 := blk_set h5 6 v6
    have h7 := blk_set h6 7 v7
    have h8 := blk_set h7 8 v8
    have h9 := blk_set h8 9 v9
    have h10 := blk_set h9 10 v10
    have h11 := blk_set h10 11 v11
    simpa using h11
  · iterate 12 rw [Below.heap_setCell _ _ _ _ hk]

def szM (m : MV) : Bool := decide ((m.rs.length : Int) + m.cs.length + m.vs.length + m.mem.size + m.is.length + m.os.length ≤ 1048576)
structure MMax (m : MV) : Prop where
  r : m.rs.length ≤ maxLen
  c : m.cs.length ≤ maxLen
  v : m.vs.length ≤ maxLen
  i : m.is.length ≤ maxLen
  o : m.os.length ≤ maxLen
  s : m.mem.size ≤ maxLen
theorem boxC {w u : World} {m : MV} {a : MA} {t : Nat} (hu : Below (w.alloc (.cells (mC m a) t)).heap.size (w.alloc (.cells (mC m a) t)) u) : u.heap[w.heap.size]? = some (.cells (mC m a) t (0, 0)) := (hu.block _ (by simp)).trans (heap_new _ _)
set_option maxRecDepth 100000 in
set_option maxHeartbeats 4000000 in
theorem szMachine_any (w : World) (m : MV) (a : MA) (h : MMax m) : Calls Try.prog 4 #[.agg (mC m a), .int .i64 1048576] w fun e w' => ∃ r, e = .returned (.int .i64 r) ∧ decide (r < 0) = !szM m ∧ Below w.heap.size w w' := by
  obtain ⟨h1, h2, h3, h4, h5, h6⟩ := h
  have hmx : maxLen ≤ 9223372036854775807 := by decide
  have HZ1 := fun (l : Int) (w : World) (h0 : 0 ≤ l) (hh : l ≤ 1048576) => szIS_any a.ar m.rs.length a.cr l w h0 hh h1
  have HZ2 := fun (l : Int) (w : World) (h0 : 0 ≤ l) (hh : l ≤ 1048576) => szIS_any a.ac m.cs.length a.cc l w h0 hh h2
  have HZ3 := fun (l : Int) (w : World) (h0 : 0 ≤ l) (hh : l ≤ 1048576) => szIS_any a.av m.vs.length a.cv l w h0 hh h3
  have HZ4 := fun (l : Int) (w : World) (h0 : 0 ≤ l) (hh : l ≤ 1048576) => szPVS_any a.ai m.is.length a.ci l w h0 hh h4
  have HZ5 := fun (l : Int) (w : World) (h0 : 0 ≤ l) (hh : l ≤ 1048576) => szPVS_any a.ao m.os.length a.co l w h0 hh h5
  obtain ⟨n1, e1⟩ : ∃ n, m.rs.length = n := ⟨_, rfl⟩
  obtain ⟨n2, e2⟩ : ∃ n, m.cs.length = n := ⟨_, rfl⟩
  obtain ⟨n3, e3⟩ : ∃ n, m.vs.length = n := ⟨_, rfl⟩
  obtain ⟨n4, e4⟩ : ∃ n, m.is.length = n := ⟨_, rfl⟩
  obtain ⟨n5, e5⟩ : ∃ n, m.os.length = n := ⟨_, rfl⟩
  obtain ⟨n6, e6⟩ : ∃ n, m.mem.size = n := ⟨_, rfl⟩
  rw [e6] at h6
  have hw6 : ∀ l : Int, 0 ≤ l → l ≤ 1048576 → IntKind.i64.wrap (l - (n6 : Int)) = l - n6 := fun l h0 h1 => by rw [IntKind.wrap_i64]; omega
  have HSZ : Hid (szM m = decide ((n1 : Int) + n2 + n3 + n6 + n4 + n5 ≤ 1048576)) := (show szM m = _ by unfold szM; rw [e1, e2, e3, e4, e5, e6])
  rw [e1] at HZ1
  rw [e2] at HZ2
  rw [e3] at HZ3
  rw [e4] at HZ4
  rw [e5] at HZ5
  unfold mC
  rw [e1, e2, e3, e4, e5]
  have HZ1H : Hid _ := HZ1
  have HZ2H : Hid _ := HZ2
  have HZ3H : Hid _ := HZ3
  have HZ4H : Hid _ := HZ4
  have HZ5H : Hid _ := HZ5
  have HBX : Hid (Below w.heap.size w (w.alloc (.cells #[.int .i64 m.pc, .slice a.ar n1 a.cr, .int .i64 m.md, .slice a.ac n2 a.cc, .slice a.av n3 a.cv, .string m.mem, .int .i64 m.st, .int .i64 m.ct, .int .i64 m.ln, .slice a.ai n4 a.ci, .slice a.ao n5 a.co, .int .i64 m.tr] 25))) := (Below.refl _ _).alloc (Nat.le_refl _) _
  clear HZ1 HZ2 HZ3 HZ4 HZ5 e1 e2 e3 e4 e5 h1 h2 h3 h4 h5
  obtain ⟨l0, hl0⟩ : ∃ l : Int, l = 1048576 := ⟨_, rfl⟩
  have b00 : 0 ≤ l0 := by omega
  have b01 : l0 ≤ 1048576 := by omega
  rw [← hl0]
  by_cases q0 : l0 < (n1 : Int)
  · have hd : decide ((-1 : Int) < 0) = (!szM m) := by
      rw [HSZ.out]
      have hz : decide ((n1 : Int) + n2 + n3 + n6 + n4 + n5 ≤ 1048576) = false := decide_eq_false (by omega)
      rw [hz]
      rfl
    have z0 := fun w' => HZ1H.out l0 w' (by omega) (by omega)
    rw [if_pos q0] at z0
    have Z0 : Hid _ := z0
    clear z0
    have HD : Hid _ := hd
    clear hd q0 hl0 b00 b01
    go_enter Try.func4, Try.ntmps4
    go_wp2_with (first | (go_at_call 9; refine Calls.mono (Z0.out _) ?_; rintro e u0 ⟨rfl, hu0⟩; rw [hu0]; clear hu0 Z0))
    go_ret
    exact ⟨-1, rfl, HD.out, HBX.out⟩
  · obtain ⟨l1, hl1⟩ : ∃ l : Int, l = l0 - n1 := ⟨_, rfl⟩
    have b10 : 0 ≤ l1 := by omega
    have b11 : l1 ≤ 1048576 := by omega
    have t1 : ¬ l1 < 0 := by omega
    have z0 := fun w' => HZ1H.out l0 w' (by omega) (by omega)
    rw [if_neg q0, ← hl1] at z0
    have Z0 : Hid _ := z0
    clear z0
    by_cases q1 : l1 < (n2 : Int)
    · have hd : decide ((-1 : Int) < 0) = (!szM m) := by
        rw [HSZ.out]
        have hz : decide ((n1 : Int) + n2 + n3 + n6 + n4 + n5 ≤ 1048576) = false := decide_eq_false (by omega)
        rw [hz]
        rfl
      have z1 := fun w' => HZ2H.out l1 w' (by omega) (by omega)
      rw [if_pos q1] at z1
      have Z1 : Hid _ := z1
      clear z1
      have HD : Hid _ := hd
      clear hd q0 q1 hl0 b00 b01 hl1 b10 b11
      go_enter Try.func4, Try.ntmps4
      go_wp2_with (first | (go_at_call 9; refine Calls.mono (Z0.out _) ?_; rintro e u0 ⟨rfl, hu0⟩; rw [hu0]; clear hu0 Z0) | (go_at_call 9; refine Calls.mono (Z1.out _) ?_; rintro e u1 ⟨rfl, hu1⟩; rw [hu1]; clear hu1 Z1))
      go_ret
      exact ⟨-1, rfl, HD.out, HBX.out⟩
    · obtain ⟨l2, hl2⟩ : ∃ l : Int, l = l1 - n2 := ⟨_, rfl⟩
      have b20 : 0 ≤ l2 := by omega
      have b21 : l2 ≤ 1048576 := by omega
      have t2 : ¬ l2 < 0 := by omega
      have z1 := fun w' => HZ2H.out l1 w' (by omega) (by omega)
      rw [if_neg q1, ← hl2] at z1
      have Z1 : Hid _ := z1
      clear z1
      by_cases q2 : l2 < (n3 : Int)
      · have hd : decide ((-1 : Int) < 0) = (!szM m) := by
          rw [HSZ.out]
          have hz : decide ((n1 : Int) + n2 + n3 + n6 + n4 + n5 ≤ 1048576) = false := decide_eq_false (by omega)
          rw [hz]
          rfl
        have z2 := fun w' => HZ3H.out l2 w' (by omega) (by omega)
        rw [if_pos q2] at z2
        have Z2 : Hid _ := z2
        clear z2
        have HD : Hid _ := hd
        clear hd q0 q1 q2 hl0 b00 b01 hl1 b10 b11 hl2 b20 b21
        go_enter Try.func4, Try.ntmps4
        go_wp2_with (first | (go_at_call 9; refine Calls.mono (Z0.out _) ?_; rintro e u0 ⟨rfl, hu0⟩; rw [hu0]; clear hu0 Z0) | (go_at_call 9; refine Calls.mono (Z1.out _) ?_; rintro e u1 ⟨rfl, hu1⟩; rw [hu1]; clear hu1 Z1) | (go_at_call 9; refine Calls.mono (Z2.out _) ?_; rintro e u2 ⟨rfl, hu2⟩; rw [hu2]; clear hu2 Z2))
        go_ret
        exact ⟨-1, rfl, HD.out, HBX.out⟩
      · obtain ⟨l3, hl3⟩ : ∃ l : Int, l = l2 - n3 := ⟨_, rfl⟩
        have b30 : 0 ≤ l3 := by omega
        have b31 : l3 ≤ 1048576 := by omega
        have t3 : ¬ l3 < 0 := by omega
        have z2 := fun w' => HZ3H.out l2 w' (by omega) (by omega)
        rw [if_neg q2, ← hl3] at z2
        have Z2 : Hid _ := z2
        clear z2
        by_cases q3 : l3 < (n6 : Int)
        · have hd : decide ((-1 : Int) < 0) = (!szM m) := by
            rw [HSZ.out]
            have hz : decide ((n1 : Int) + n2 + n3 + n6 + n4 + n5 ≤ 1048576) = false := decide_eq_false (by omega)
            rw [hz]
            rfl
          have hw7 := hw6 l3 b30 b31
          have hneg : l3 - (n6 : Int) < 0 := by omega
          have HD : Hid _ := hd
          clear hd q0 q1 q2 q3 hl0 b00 b01 hl1 b10 b11 hl2 b20 b21 hl3 b30 b31
          go_enter Try.func4, Try.ntmps4
          go_wp2_with (first | (go_at_call 9; refine Calls.mono (Z0.out _) ?_; rintro e u0 ⟨rfl, hu0⟩; rw [hu0]; clear hu0 Z0) | (go_at_call 9; refine Calls.mono (Z1.out _) ?_; rintro e u1 ⟨rfl, hu1⟩; rw [hu1]; clear hu1 Z1) | (go_at_call 9; refine Calls.mono (Z2.out _) ?_; rintro e u2 ⟨rfl, hu2⟩; rw [hu2]; clear hu2 Z2))
          go_ret
          exact ⟨-1, rfl, HD.out, HBX.out⟩
        · obtain ⟨l4, hl4⟩ : ∃ l : Int, l = l3 - n6 := ⟨_, rfl⟩
          have b40 : 0 ≤ l4 := by omega
          have b41 : l4 ≤ 1048576 := by omega
          have t4 : ¬ l4 < 0 := by omega
          have hw8 : IntKind.i64.wrap (l3 - (n6 : Int)) = l4 := (hw6 l3 b30 b31).trans hl4.symm
          by_cases q4 : l4 < (n4 : Int)
          · have hd : decide ((-1 : Int) < 0) = (!szM m) := by
              rw [HSZ.out]
              have hz : decide ((n1 : Int) + n2 + n3 + n6 + n4 + n5 ≤ 1048576) = false := decide_eq_false (by omega)
              rw [hz]
              rfl
            have z4 := fun w' => HZ4H.out l4 w' (by omega) (by omega)
            rw [if_pos q4] at z4
            have Z4 : Hid _ := z4
            clear z4
            have HD : Hid _ := hd
            clear hd q0 q1 q2 q3 q4 hl0 b00 b01 hl1 b10 b11 hl2 b20 b21 hl3 b30 b31 hl4 b40 b41
            go_enter Try.func4, Try.ntmps4
            go_wp2_with (first | (go_at_call 9; refine Calls.mono (Z0.out _) ?_; rintro e u0 ⟨rfl, hu0⟩; rw [hu0]; clear hu0 Z0) | (go_at_call 9; refine Calls.mono (Z1.out _) ?_; rintro e u1 ⟨rfl, hu1⟩; rw [hu1]; clear hu1 Z1) | (go_at_call 9; refine Calls.mono (Z2.out _) ?_; rintro e u2 ⟨rfl, hu2⟩; rw [hu2]; clear hu2 Z2) | (go_at_call 10; refine Calls.mono (Z4.out _) ?_; rintro e u4 ⟨rfl, hu4⟩; rw [hu4]; clear hu4 Z4))
            go_ret
            exact ⟨-1, rfl, HD.out, HBX.out⟩
          · obtain ⟨l5, hl5⟩ : ∃ l : Int, l = l4 - n4 := ⟨_, rfl⟩
            have b50 : 0 ≤ l5 := by omega
            have b51 : l5 ≤ 1048576 := by omega
            have t5 : ¬ l5 < 0 := by omega
            have z4 := fun w' => HZ4H.out l4 w' (by omega) (by omega)
            rw [if_neg q4, ← hl5] at z4
            have Z4 : Hid _ := z4
            clear z4
            by_cases q5 : l5 < (n5 : Int)
            · have hd : decide ((-1 : Int) < 0) = (!szM m) := by
                rw [HSZ.out]
                have hz : decide ((n1 : Int) + n2 + n3 + n6 + n4 + n5 ≤ 1048576) = false := decide_eq_false (by omega)
                rw [hz]
                rfl
              have z5 := fun w' => HZ5H.out l5 w' (by omega) (by omega)
              rw [if_pos q5] at z5
              have Z5 : Hid _ := z5
              clear z5
              have HD : Hid _ := hd
              clear hd q0 q1 q2 q3 q4 q5 hl0 b00 b01 hl1 b10 b11 hl2 b20 b21 hl3 b30 b31 hl4 b40 b41 hl5 b50 b51
              go_enter Try.func4, Try.ntmps4
              go_wp2_with (first | (go_at_call 9; refine Calls.mono (Z0.out _) ?_; rintro e u0 ⟨rfl, hu0⟩; rw [hu0]; clear hu0 Z0) | (go_at_call 9; refine Calls.mono (Z1.out _) ?_; rintro e u1 ⟨rfl, hu1⟩; rw [hu1]; clear hu1 Z1) | (go_at_call 9; refine Calls.mono (Z2.out _) ?_; rintro e u2 ⟨rfl, hu2⟩; rw [hu2]; clear hu2 Z2) | (go_at_call 10; refine Calls.mono (Z4.out _) ?_; rintro e u4 ⟨rfl, hu4⟩; rw [hu4]; clear hu4 Z4) | (go_at_call 10; refine Calls.mono (Z5.out _) ?_; rintro e u5 ⟨rfl, hu5⟩; rw [hu5]; clear hu5 Z5))
              go_ret
              exact ⟨-1, rfl, HD.out, HBX.out⟩
            · obtain ⟨l6, hl6⟩ : ∃ l : Int, l = l5 - n5 := ⟨_, rfl⟩
              have b60 : 0 ≤ l6 := by omega
              have b61 : l6 ≤ 1048576 := by omega
              have t6 : ¬ l6 < 0 := by omega
              have z5 := fun w' => HZ5H.out l5 w' (by omega) (by omega)
              rw [if_neg q5, ← hl6] at z5
              have Z5 : Hid _ := z5
              clear z5
              have hd : decide (l6 < 0) = (!szM m) := by
                rw [HSZ.out]
                have hz : decide ((n1 : Int) + n2 + n3 + n6 + n4 + n5 ≤ 1048576) = true := decide_eq_true (by omega)
                rw [hz]
                exact decide_eq_false t6
              have HD : Hid _ := hd
              clear hd q0 q1 q2 q3 q4 q5 hl0 b00 b01 hl1 b10 b11 hl2 b20 b21 hl3 b30 b31 hl4 b40 b41 hl5 b50 b51 hl6 b60 b61
              go_enter Try.func4, Try.ntmps4
              go_wp2_with (first | (go_at_call 9; refine Calls.mono (Z0.out _) ?_; rintro e u0 ⟨rfl, hu0⟩; rw [hu0]; clear hu0 Z0) | (go_at_call 9; refine Calls.mono (Z1.out _) ?_; rintro e u1 ⟨rfl, hu1⟩; rw [hu1]; clear hu1 Z1) | (go_at_call 9; refine Calls.mono (Z2.out _) ?_; rintro e u2 ⟨rfl, hu2⟩; rw [hu2]; clear hu2 Z2) | (go_at_call 10; refine Calls.mono (Z4.out _) ?_; rintro e u4 ⟨rfl, hu4⟩; rw [hu4]; clear hu4 Z4) | (go_at_call 10; refine Calls.mono (Z5.out _) ?_; rintro e u5 ⟨rfl, hu5⟩; rw [hu5]; clear hu5 Z5))
              go_ret
              exact ⟨_, rfl, HD.out, HBX.out⟩

/-- A copy under way: the argument's box, the answer's, and the one at work. -/
structure TO (w u : World) (m : MV) (a : MA) (out : Array Value) : Prop where
  bel : Below w.heap.size w u
  b0 : u.heap[w.heap.size]? = some (.cells (mC m a) 25 (0, 0))
  b1 : u.heap[w.heap.size + 1]? = some zBox
  b2 : u.heap[w.heap.size + 1 + 1]? = some (.cells out 30 (0, 0))
theorem TO.lt {w u : World} {m : MV} {a : MA} {out : Array Value} (h : TO w u m a out) : w.heap.size + 1 + 1 < u.heap.size := (Array.getElem?_eq_some_iff.1 h.b2).1
theorem TO.step {w u u' : World} {m : MV} {a : MA} {out : Array Value} (h : TO w u m a out) (hb : Below u.heap.size u u') : TO w u' m a out := by
  have := h.lt
  exact ⟨h.bel.trans (hb.mono h.bel.size), (hb.block _ (by omega)).trans h.b0, (hb.block _ (by omega)).trans h.b1, (hb.block _ (by omega)).trans h.b2⟩
theorem TO.set {w u : World} {m : MV} {a : MA} {out : Array Value} (h : TO w u m a out) (o : Nat) (v : Value) : TO w (u.setCell ⟨w.heap.size + 1 + 1, o, none⟩ v) m a (out.setIfInBounds o v) :=
  ⟨h.bel.setCell (by simp only; omega) _, (Below.heap_setCell _ _ _ _ (by simp only; omega)).trans h.b0, (Below.heap_setCell _ _ _ _ (by simp only; omega)).trans h.b1, blk_set h.b2 o v⟩
theorem TO.new (w : World) (m : MV) (a : MA) (out : Array Value) : TO w (((w.alloc (.cells (mC m a) 25)).alloc zBox).alloc (.cells out 30)) m a out := by
  have h0 : (((w.alloc (.cells (mC m a) 25)).alloc zBox).alloc (.cells out 30)).heap[w.heap.size]? = some (.cells (mC m a) 25) := by
    rw [Below.heap_alloc _ _ _ (by simp; omega), Below.heap_alloc _ _ _ (by simp)]
    exact heap_new _ _
  have h1 : (((w.alloc (.cells (mC m a) 25)).alloc zBox).alloc (.cells out 30)).heap[w.heap.size + 1]? = some zBox := by
    rw [Below.heap_alloc _ _ _ (by simp)]
    simpa using heap_new (w.alloc (.cells (mC m a) 25)) zBox
  have h2 : (((w.alloc (.cells (mC m a) 25)).alloc zBox).alloc (.cells out 30)).heap[w.heap.size + 1 + 1]? = some (.cells out 30) := by simpa using heap_new ((w.alloc (.cells (mC m a) 25)).alloc zBox) (.cells out 30)
  exact ⟨(((Below.refl _ _).alloc (Nat.le_refl _) _).alloc (by simp) _).alloc (by simp; omega) _, h0, h1, h2⟩
/-- A new row persists while the copy is at work. -/
theorem own_setT {w u : World} {e size n : Nat} {v x : Value} {xs : List Value} {lo o : Nat} (h : u.ownsRow lo e size v n xs) (hlo : w.heap.size + 1 + 1 < lo) : (u.setCell ⟨w.heap.size + 1 + 1, o, none⟩ x).ownsRow lo e size v n xs :=
  own_set h (fun e => by have := (h.lt _ e).1; simp at this; omega)
theorem own_heap {u U : World} {lo lo' e size n : Nat} {v : Value} {xs : List Value} (h : u.ownsRow lo e size v n xs) (he : ∀ k, lo ≤ k → U.heap[k]? = u.heap[k]?) (hl : lo' ≤ lo) : U.ownsRow lo' e size v n xs := by
  obtain ⟨h1, h | ⟨g, cap, cur, hv, hg, h2, h3⟩⟩ := h
  · exact ⟨h1, .inl h⟩
  · exact ⟨h1, .inr ⟨g, cap, cur, hv, Nat.le_trans hl hg, (he g hg).trans h2, h3⟩⟩
/-- The rows of an answer, each in a block of its own. -/
structure MOwn (u : World) (lo : Nat) (m : MV) (a : MA) : Prop where
  r : u.ownsRow lo 2 1 (.slice a.ar m.rs.length a.cr) m.rs.length (iR m.rs)
  c : u.ownsRow lo 2 1 (.slice a.ac m.cs.length a.cc) m.cs.length (iR m.cs)
  v : u.ownsRow lo 2 1 (.slice a.av m.vs.length a.cv) m.vs.length (iR m.vs)
  i : u.ownsRow lo 69 2 (.slice a.ai m.is.length a.ci) m.is.length (pvR m.is)
  o : u.ownsRow lo 69 2 (.slice a.ao m.os.length a.co) m.os.length (pvR m.os)
theorem MOwn.rows {u : World} {lo : Nat} {m : MV} {a : MA} (h : MOwn u lo m a) : MRows u m a := ⟨Irow.of h.r, Irow.of h.c, Irow.of h.v, PVrow.of h.i, PVrow.of h.o⟩
set_option maxRecDepth 100000 in
set_option maxHeartbeats 4000000 in
theorem toMachine_any {w : World} {m : MV} {a : MA} (h : MRows w m a) (hl : MLen m) : Calls Try.prog 6 #[.agg (mC m a)] w fun e w' => ∃ a2 : MA, e = .returned (.agg (mC m a2)) ∧ MOwn w' w.heap.size m a2 ∧ Below w.heap.size w w' := by
  have HT0 : Hid (TO w (((w.alloc (.cells #[.int .i64 m.pc, .slice a.ar m.rs.length a.cr, .int .i64 m.md, .slice a.ac m.cs.length a.cc, .slice a.av m.vs.length a.cv, .string m.mem, .int .i64 m.st, .int .i64 m.ct, .int .i64 m.ln, .slice a.ai m.is.length a.ci, .slice a.ao m.os.length a.co, .int .i64 m.tr] 25)).alloc (.cells #[.int .i64 0, .slice none 0 0, .int .i64 0, .slice none 0 0, .slice none 0 0, .string ⟨#[]⟩, .int .i64 0, .int .i64 0, .int .i64 0, .slice none 0 0, .slice none 0 0, .int .i64 0] 30)).alloc (.cells #[.int .i64 m.pc, .slice none 0 0, .int .i64 0, .slice none 0 0, .slice none 0 0, .string ⟨#[]⟩, .int .i64 0, .int .i64 0, .int .i64 0, .slice none 0 0, .slice none 0 0, .int .i64 0] 30)) m a #[.int .i64 m.pc, .slice none 0 0, .int .i64 0, .slice none 0 0, .slice none 0 0, .string ⟨#[]⟩, .int .i64 0, .int .i64 0, .int .i64 0, .slice none 0 0, .slice none 0 0, .int .i64 0]) := TO.new w m a #[.int .i64 m.pc, .slice none 0 0, .int .i64 0, .slice none 0 0, .slice none 0 0, .string ⟨#[]⟩, .int .i64 0, .int .i64 0, .int .i64 0, .slice none 0 0, .slice none 0 0, .int .i64 0]
  have HM : Hid (MRows w m a) := h
  have HL : Hid (MLen m) := hl
  clear h hl
  unfold mC
  go_enter Try.func6, Try.ntmps6
  go_wp2_with fail
  generalize (((w.alloc (.cells #[.int .i64 m.pc, .slice a.ar m.rs.length a.cr, .int .i64 m.md, .slice a.ac m.cs.length a.cc, .slice a.av m.vs.length a.cv, .string m.mem, .int .i64 m.st, .int .i64 m.ct, .int .i64 m.ln, .slice a.ai m.is.length a.ci, .slice a.ao m.os.length a.co, .int .i64 m.tr] 25)).alloc (.cells #[.int .i64 0, .slice none 0 0, .int .i64 0, .slice none 0 0, .slice none 0 0, .string ⟨#[]⟩, .int .i64 0, .int .i64 0, .int .i64 0, .slice none 0 0, .slice none 0 0, .int .i64 0] 30)).alloc (.cells #[.int .i64 m.pc, .slice none 0 0, .int .i64 0, .slice none 0 0, .slice none 0 0, .string ⟨#[]⟩, .int .i64 0, .int .i64 0, .int .i64 0, .slice none 0 0, .slice none 0 0, .int .i64 0] 30)) = V at *
  refine Calls.mono (toIS_any (HM.out.below HT0.out.bel).r HL.out.r) ?_
  rintro e u1 ⟨v1, rfl, o1, hb1⟩
  obtain ⟨ar2, cr2, rfl⟩ := i_sl o1
  have HT1 : Hid (TO w u1 m a #[.int .i64 m.pc, .slice none 0 0, .int .i64 0, .slice none 0 0, .slice none 0 0, .string ⟨#[]⟩, .int .i64 0, .int .i64 0, .int .i64 0, .slice none 0 0, .slice none 0 0, .int .i64 0]) := HT0.out.step hb1
  have HRr : Hid (u1.ownsRow (w.heap.size + 3) 2 1 (.slice ar2 m.rs.length cr2) m.rs.length (iR m.rs)) := own_weak1 o1 (by have := HT0.out.lt; omega)
  clear o1 hb1
  obtain ⟨c0, c1, c2, c3, c4, c5, c6, c7, c8, c9, c10, c11, _⟩ := cel12 HT1.out.b0
  obtain ⟨d0, d1, d2, d3, d4, d5, d6, d7, d8, d9, d10, d11, df⟩ := cel12 HT1.out.b2
  have lt1 := HT1.out.lt
  have g0 : w.heap.size < u1.heap.size := by omega
  have g2 : w.heap.size + 1 + 1 < u1.heap.size := by omega
  go_wp2_with fail
  clear c0 c1 c2 c3 c4 c5 c6 c7 c8 c9 c10 c11 d0 d1 d2 d3 d4 d5 d6 d7 d8 d9 d10 d11 df g0 g2
  have HS1 : Hid (TO w ((u1.setCell ⟨w.heap.size + 1 + 1, 1, none⟩ (.slice ar2 m.rs.length cr2)).setCell ⟨w.heap.size + 1 + 1, 2, none⟩ (.int .i64 m.md)) m a #[.int .i64 m.pc, .slice ar2 m.rs.length cr2, .int .i64 m.md, .slice none 0 0, .slice none 0 0, .string ⟨#[]⟩, .int .i64 0, .int .i64 0, .int .i64 0, .slice none 0 0, .slice none 0 0, .int .i64 0]) := ((HT1.out.set 1 (.slice ar2 m.rs.length cr2)).set 2 (.int .i64 m.md))
  have HSr : Hid (((u1.setCell ⟨w.heap.size + 1 + 1, 1, none⟩ (.slice ar2 m.rs.length cr2)).setCell ⟨w.heap.size + 1 + 1, 2, none⟩ (.int .i64 m.md)).ownsRow (w.heap.size + 3) 2 1 (.slice ar2 m.rs.length cr2) m.rs.length (iR m.rs)) := (own_setT (own_setT HRr.out (by omega)) (by omega))
  generalize ((u1.setCell ⟨w.heap.size + 1 + 1, 1, none⟩ (.slice ar2 m.rs.length cr2)).setCell ⟨w.heap.size + 1 + 1, 2, none⟩ (.int .i64 m.md)) = V1 at *
  refine Calls.mono (toIS_any (HM.out.below HS1.out.bel).c HL.out.c) ?_
  rintro e u2 ⟨v2, rfl, o2, hb2⟩
  obtain ⟨ac2, cc2, rfl⟩ := i_sl o2
  have HT2 : Hid (TO w u2 m a #[.int .i64 m.pc, .slice ar2 m.rs.length cr2, .int .i64 m.md, .slice none 0 0, .slice none 0 0, .string ⟨#[]⟩, .int .i64 0, .int .i64 0, .int .i64 0, .slice none 0 0, .slice none 0 0, .int .i64 0]) := HS1.out.step hb2
  have HRr : Hid (u2.ownsRow (w.heap.size + 3) 2 1 (.slice ar2 m.rs.length cr2) m.rs.length (iR m.rs)) := own_below HSr.out hb2
  have HRc : Hid (u2.ownsRow (w.heap.size + 3) 2 1 (.slice ac2 m.cs.length cc2) m.cs.length (iR m.cs)) := own_weak1 o2 (by have := HS1.out.lt; omega)
  clear o2 hb2 HS1 lt1
  obtain ⟨c0, c1, c2, c3, c4, c5, c6, c7, c8, c9, c10, c11, _⟩ := cel12 HT2.out.b0
  obtain ⟨d0, d1, d2, d3, d4, d5, d6, d7, d8, d9, d10, d11, df⟩ := cel12 HT2.out.b2
  have lt2 := HT2.out.lt
  have g0 : w.heap.size < u2.heap.size := by omega
  have g2 : w.heap.size + 1 + 1 < u2.heap.size := by omega
  go_wp2_with fail
  clear c0 c1 c2 c3 c4 c5 c6 c7 c8 c9 c10 c11 d0 d1 d2 d3 d4 d5 d6 d7 d8 d9 d10 d11 df g0 g2
  have HS2 : Hid (TO w (u2.setCell ⟨w.heap.size + 1 + 1, 3, none⟩ (.slice ac2 m.cs.length cc2)) m a #[.int .i64 m.pc, .slice ar2 m.rs.length cr2, .int .i64 m.md, .slice ac2 m.cs.length cc2, .slice none 0 0, .string ⟨#[]⟩, .int .i64 0, .int .i64 0, .int .i64 0, .slice none 0 0, .slice none 0 0, .int .i64 0]) := (HT2.out.set 3 (.slice ac2 m.cs.length cc2))
  have HSr : Hid ((u2.setCell ⟨w.heap.size + 1 + 1, 3, none⟩ (.slice ac2 m.cs.length cc2)).ownsRow (w.heap.size + 3) 2 1 (.slice ar2 m.rs.length cr2) m.rs.length (iR m.rs)) := (own_setT HRr.out (by omega))
  have HSc : Hid ((u2.setCell ⟨w.heap.size + 1 + 1, 3, none⟩ (.slice ac2 m.cs.length cc2)).ownsRow (w.heap.size + 3) 2 1 (.slice ac2 m.cs.length cc2) m.cs.length (iR m.cs)) := (own_setT HRc.out (by omega))
  generalize (u2.setCell ⟨w.heap.size + 1 + 1, 3, none⟩ (.slice ac2 m.cs.length cc2)) = V2 at *
  refine Calls.mono (toIS_any (HM.out.below HS2.out.bel).v HL.out.v) ?_
  rintro e u3 ⟨v3, rfl, o3, hb3⟩
  obtain ⟨av2, cv2, rfl⟩ := i_sl o3
  have HT3 : Hid (TO w u3 m a #[.int .i64 m.pc, .slice ar2 m.rs.length cr2, .int .i64 m.md, .slice ac2 m.cs.length cc2, .slice none 0 0, .string ⟨#[]⟩, .int .i64 0, .int .i64 0, .int .i64 0, .slice none 0 0, .slice none 0 0, .int .i64 0]) := HS2.out.step hb3
  have HRr : Hid (u3.ownsRow (w.heap.size + 3) 2 1 (.slice ar2 m.rs.length cr2) m.rs.length (iR m.rs)) := own_below HSr.out hb3
  have HRc : Hid (u3.ownsRow (w.heap.size + 3) 2 1 (.slice ac2 m.cs.length cc2) m.cs.length (iR m.cs)) := own_below HSc.out hb3
  have HRv : Hid (u3.ownsRow (w.heap.size + 3) 2 1 (.slice av2 m.vs.length cv2) m.vs.length (iR m.vs)) := own_weak1 o3 (by have := HS2.out.lt; omega)
  clear o3 hb3 HS2 lt2
  obtain ⟨c0, c1, c2, c3, c4, c5, c6, c7, c8, c9, c10, c11, _⟩ := cel12 HT3.out.b0
  obtain ⟨d0, d1, d2, d3, d4, d5, d6, d7, d8, d9, d10, d11, df⟩ := cel12 HT3.out.b2
  have lt3 := HT3.out.lt
  have g0 : w.heap.size < u3.heap.size := by omega
  have g2 : w.heap.size + 1 + 1 < u3.heap.size := by omega
  go_wp2_with fail
  clear c0 c1 c2 c3 c4 c5 c6 c7 c8 c9 c10 c11 d0 d1 d2 d3 d4 d5 d6 d7 d8 d9 d10 d11 df g0 g2
  have HS3 : Hid (TO w (((((u3.setCell ⟨w.heap.size + 1 + 1, 4, none⟩ (.slice av2 m.vs.length cv2)).setCell ⟨w.heap.size + 1 + 1, 5, none⟩ (.string m.mem)).setCell ⟨w.heap.size + 1 + 1, 6, none⟩ (.int .i64 m.st)).setCell ⟨w.heap.size + 1 + 1, 7, none⟩ (.int .i64 m.ct)).setCell ⟨w.heap.size + 1 + 1, 8, none⟩ (.int .i64 m.ln)) m a #[.int .i64 m.pc, .slice ar2 m.rs.length cr2, .int .i64 m.md, .slice ac2 m.cs.length cc2, .slice av2 m.vs.length cv2, .string m.mem, .int .i64 m.st, .int .i64 m.ct, .int .i64 m.ln, .slice none 0 0, .slice none 0 0, .int .i64 0]) := (((((HT3.out.set 4 (.slice av2 m.vs.length cv2)).set 5 (.string m.mem)).set 6 (.int .i64 m.st)).set 7 (.int .i64 m.ct)).set 8 (.int .i64 m.ln))
  have HSr : Hid ((((((u3.setCell ⟨w.heap.size + 1 + 1, 4, none⟩ (.slice av2 m.vs.length cv2)).setCell ⟨w.heap.size + 1 + 1, 5, none⟩ (.string m.mem)).setCell ⟨w.heap.size + 1 + 1, 6, none⟩ (.int .i64 m.st)).setCell ⟨w.heap.size + 1 + 1, 7, none⟩ (.int .i64 m.ct)).setCell ⟨w.heap.size + 1 + 1, 8, none⟩ (.int .i64 m.ln)).ownsRow (w.heap.size + 3) 2 1 (.slice ar2 m.rs.length cr2) m.rs.length (iR m.rs)) := (own_setT (own_setT (own_setT (own_setT (own_setT HRr.out (by omega)) (by omega)) (by omega)) (by omega)) (by omega))
  have HSc : Hid ((((((u3.setCell ⟨w.heap.size + 1 + 1, 4, none⟩ (.slice av2 m.vs.length cv2)).setCell ⟨w.heap.size + 1 + 1, 5, none⟩ (.string m.mem)).setCell ⟨w.heap.size + 1 + 1, 6, none⟩ (.int .i64 m.st)).setCell ⟨w.heap.size + 1 + 1, 7, none⟩ (.int .i64 m.ct)).setCell ⟨w.heap.size + 1 + 1, 8, none⟩ (.int .i64 m.ln)).ownsRow (w.heap.size + 3) 2 1 (.slice ac2 m.cs.length cc2) m.cs.length (iR m.cs)) := (own_setT (own_setT (own_setT (own_setT (own_setT HRc.out (by omega)) (by omega)) (by omega)) (by omega)) (by omega))
  have HSv : Hid ((((((u3.setCell ⟨w.heap.size + 1 + 1, 4, none⟩ (.slice av2 m.vs.length cv2)).setCell ⟨w.heap.size + 1 + 1, 5, none⟩ (.string m.mem)).setCell ⟨w.heap.size + 1 + 1, 6, none⟩ (.int .i64 m.st)).setCell ⟨w.heap.size + 1 + 1, 7, none⟩ (.int .i64 m.ct)).setCell ⟨w.heap.size + 1 + 1, 8, none⟩ (.int .i64 m.ln)).ownsRow (w.heap.size + 3) 2 1 (.slice av2 m.vs.length cv2) m.vs.length (iR m.vs)) := (own_setT (own_setT (own_setT (own_setT (own_setT HRv.out (by omega)) (by omega)) (by omega)) (by omega)) (by omega))
  generalize (((((u3.setCell ⟨w.heap.size + 1 + 1, 4, none⟩ (.slice av2 m.vs.length cv2)).setCell ⟨w.heap.size + 1 + 1, 5, none⟩ (.string m.mem)).setCell ⟨w.heap.size + 1 + 1, 6, none⟩ (.int .i64 m.st)).setCell ⟨w.heap.size + 1 + 1, 7, none⟩ (.int .i64 m.ct)).setCell ⟨w.heap.size + 1 + 1, 8, none⟩ (.int .i64 m.ln)) = V3 at *
  refine Calls.mono (toPVS_any (HM.out.below HS3.out.bel).i HL.out.i) ?_
  rintro e u4 ⟨v4, rfl, o4, hb4⟩
  obtain ⟨ai2, ci2, rfl⟩ := pv_sl o4
  have HT4 : Hid (TO w u4 m a #[.int .i64 m.pc, .slice ar2 m.rs.length cr2, .int .i64 m.md, .slice ac2 m.cs.length cc2, .slice av2 m.vs.length cv2, .string m.mem, .int .i64 m.st, .int .i64 m.ct, .int .i64 m.ln, .slice none 0 0, .slice none 0 0, .int .i64 0]) := HS3.out.step hb4
  have HRr : Hid (u4.ownsRow (w.heap.size + 3) 2 1 (.slice ar2 m.rs.length cr2) m.rs.length (iR m.rs)) := own_below HSr.out hb4
  have HRc : Hid (u4.ownsRow (w.heap.size + 3) 2 1 (.slice ac2 m.cs.length cc2) m.cs.length (iR m.cs)) := own_below HSc.out hb4
  have HRv : Hid (u4.ownsRow (w.heap.size + 3) 2 1 (.slice av2 m.vs.length cv2) m.vs.length (iR m.vs)) := own_below HSv.out hb4
  have HRi : Hid (u4.ownsRow (w.heap.size + 3) 69 2 (.slice ai2 m.is.length ci2) m.is.length (pvR m.is)) := pv_weak o4 (by have := HS3.out.lt; omega)
  clear o4 hb4 HS3 lt3
  obtain ⟨c0, c1, c2, c3, c4, c5, c6, c7, c8, c9, c10, c11, _⟩ := cel12 HT4.out.b0
  obtain ⟨d0, d1, d2, d3, d4, d5, d6, d7, d8, d9, d10, d11, df⟩ := cel12 HT4.out.b2
  have lt4 := HT4.out.lt
  have g0 : w.heap.size < u4.heap.size := by omega
  have g2 : w.heap.size + 1 + 1 < u4.heap.size := by omega
  go_wp2_with fail
  clear c0 c1 c2 c3 c4 c5 c6 c7 c8 c9 c10 c11 d0 d1 d2 d3 d4 d5 d6 d7 d8 d9 d10 d11 df g0 g2
  have HS4 : Hid (TO w (u4.setCell ⟨w.heap.size + 1 + 1, 9, none⟩ (.slice ai2 m.is.length ci2)) m a #[.int .i64 m.pc, .slice ar2 m.rs.length cr2, .int .i64 m.md, .slice ac2 m.cs.length cc2, .slice av2 m.vs.length cv2, .string m.mem, .int .i64 m.st, .int .i64 m.ct, .int .i64 m.ln, .slice ai2 m.is.length ci2, .slice none 0 0, .int .i64 0]) := (HT4.out.set 9 (.slice ai2 m.is.length ci2))
  have HSr : Hid ((u4.setCell ⟨w.heap.size + 1 + 1, 9, none⟩ (.slice ai2 m.is.length ci2)).ownsRow (w.heap.size + 3) 2 1 (.slice ar2 m.rs.length cr2) m.rs.length (iR m.rs)) := (own_setT HRr.out (by omega))
  have HSc : Hid ((u4.setCell ⟨w.heap.size + 1 + 1, 9, none⟩ (.slice ai2 m.is.length ci2)).ownsRow (w.heap.size + 3) 2 1 (.slice ac2 m.cs.length cc2) m.cs.length (iR m.cs)) := (own_setT HRc.out (by omega))
  have HSv : Hid ((u4.setCell ⟨w.heap.size + 1 + 1, 9, none⟩ (.slice ai2 m.is.length ci2)).ownsRow (w.heap.size + 3) 2 1 (.slice av2 m.vs.length cv2) m.vs.length (iR m.vs)) := (own_setT HRv.out (by omega))
  have HSi : Hid ((u4.setCell ⟨w.heap.size + 1 + 1, 9, none⟩ (.slice ai2 m.is.length ci2)).ownsRow (w.heap.size + 3) 69 2 (.slice ai2 m.is.length ci2) m.is.length (pvR m.is)) := (own_setT HRi.out (by omega))
  generalize (u4.setCell ⟨w.heap.size + 1 + 1, 9, none⟩ (.slice ai2 m.is.length ci2)) = V4 at *
  refine Calls.mono (toPVS_any (HM.out.below HS4.out.bel).o HL.out.o) ?_
  rintro e u5 ⟨v5, rfl, o5, hb5⟩
  obtain ⟨ao2, co2, rfl⟩ := pv_sl o5
  have HT5 : Hid (TO w u5 m a #[.int .i64 m.pc, .slice ar2 m.rs.length cr2, .int .i64 m.md, .slice ac2 m.cs.length cc2, .slice av2 m.vs.length cv2, .string m.mem, .int .i64 m.st, .int .i64 m.ct, .int .i64 m.ln, .slice ai2 m.is.length ci2, .slice none 0 0, .int .i64 0]) := HS4.out.step hb5
  have HRr : Hid (u5.ownsRow (w.heap.size + 3) 2 1 (.slice ar2 m.rs.length cr2) m.rs.length (iR m.rs)) := own_below HSr.out hb5
  have HRc : Hid (u5.ownsRow (w.heap.size + 3) 2 1 (.slice ac2 m.cs.length cc2) m.cs.length (iR m.cs)) := own_below HSc.out hb5
  have HRv : Hid (u5.ownsRow (w.heap.size + 3) 2 1 (.slice av2 m.vs.length cv2) m.vs.length (iR m.vs)) := own_below HSv.out hb5
  have HRi : Hid (u5.ownsRow (w.heap.size + 3) 69 2 (.slice ai2 m.is.length ci2) m.is.length (pvR m.is)) := pv_below HSi.out hb5
  have HRo : Hid (u5.ownsRow (w.heap.size + 3) 69 2 (.slice ao2 m.os.length co2) m.os.length (pvR m.os)) := pv_weak o5 (by have := HS4.out.lt; omega)
  clear o5 hb5 HS4 lt4
  obtain ⟨c0, c1, c2, c3, c4, c5, c6, c7, c8, c9, c10, c11, _⟩ := cel12 HT5.out.b0
  obtain ⟨d0, d1, d2, d3, d4, d5, d6, d7, d8, d9, d10, d11, df⟩ := cel12 HT5.out.b2
  have lt5 := HT5.out.lt
  have g0 : w.heap.size < u5.heap.size := by omega
  have g2 : w.heap.size + 1 + 1 < u5.heap.size := by omega
  have b1c := HT5.out.b1
  unfold zBox at b1c
  obtain ⟨k0, k1, k2, k3, k4, k5, k6, k7, k8, k9, k10, k11, kf⟩ := cel12 b1c
  have g1 : w.heap.size + 1 < u5.heap.size := by omega
  have HB1 : Hid (u5.heap[w.heap.size + 1]? = some (.cells #[.int .i64 0, .slice none 0 0, .int .i64 0, .slice none 0 0, .slice none 0 0, .string ⟨#[]⟩, .int .i64 0, .int .i64 0, .int .i64 0, .slice none 0 0, .slice none 0 0, .int .i64 0] 30 (0, 0))) := b1c
  clear b1c
  go_wp2
  have hb2 : Below w.heap.size w ((u5.setCell ⟨w.heap.size + 1 + 1, 10, none⟩ (.slice ao2 m.os.length co2)).setCell ⟨w.heap.size + 1 + 1, 11, none⟩ (.int .i64 m.tr)) := (HT5.out.bel.setCell (by simp only; omega) _).setCell (by simp only; omega) _
  have hbx : ((u5.setCell ⟨w.heap.size + 1 + 1, 10, none⟩ (.slice ao2 m.os.length co2)).setCell ⟨w.heap.size + 1 + 1, 11, none⟩ (.int .i64 m.tr)).heap[w.heap.size + 1]? = some (.cells #[.int .i64 0, .slice none 0 0, .int .i64 0, .slice none 0 0, .slice none 0 0, .string ⟨#[]⟩, .int .i64 0, .int .i64 0, .int .i64 0, .slice none 0 0, .slice none 0 0, .int .i64 0] 30 (0, 0)) := (Below.heap_setCell _ _ _ _ (by simp only; omega)).trans ((Below.heap_setCell _ _ _ _ (by simp only; omega)).trans HB1.out)
  obtain ⟨e1, e2, e3⟩ := st12 hb2 (by omega) hbx (.int .i64 m.pc) (.slice ar2 m.rs.length cr2) (.int .i64 m.md) (.slice ac2 m.cs.length cc2) (.slice av2 m.vs.length cv2) (.string m.mem) (.int .i64 m.st) (.int .i64 m.ct) (.int .i64 m.ln) (.slice ai2 m.is.length ci2) (.slice ao2 m.os.length co2) (.int .i64 m.tr) rfl
  have e4 : ∀ k, w.heap.size + 3 ≤ k → ((u5.setCell ⟨w.heap.size + 1 + 1, 10, none⟩ (.slice ao2 m.os.length co2)).setCell ⟨w.heap.size + 1 + 1, 11, none⟩ (.int .i64 m.tr)).heap[k]? = u5.heap[k]? := fun k hk => (Below.heap_setCell _ _ _ _ (by simp only; omega)).trans (Below.heap_setCell _ _ _ _ (by simp only; omega))
  have e5 := fun k (hk : w.heap.size + 3 ≤ k) => (e3 k (by omega)).trans (e4 k hk)
  obtain ⟨f0, f1, f2, f3, f4, f5, f6, f7, f8, f9, f10, f11, _⟩ := cel12 e2
  refine bodyPost_ret (v := .agg #[.int .i64 m.pc, .slice ar2 m.rs.length cr2, .int .i64 m.md, .slice ac2 m.cs.length cc2, .slice av2 m.vs.length cv2, .string m.mem, .int .i64 m.st, .int .i64 m.ct, .int .i64 m.ln, .slice ai2 m.is.length ci2, .slice ao2 m.os.length co2, .int .i64 m.tr]) ?_ rfl ⟨⟨ar2, cr2, ac2, cc2, av2, cv2, ai2, ci2, ao2, co2⟩, rfl, ⟨own_heap HRr.out e5 (by omega), own_heap HRc.out e5 (by omega), own_heap HRv.out e5 (by omega), own_heap HRi.out e5 (by omega), own_heap HRo.out e5 (by omega)⟩, e1⟩
  clear e5 e4 e3 e1 hbx hb2 HT5 HRr HRc HRv HRi HRo HB1 e2 c0 c1 c2 c3 c4 c5 c6 c7 c8 c9 c10 c11 d0 d1 d2 d3 d4 d5 d6 d7 d8 d9 d10 d11 df k0 k1 k2 k3 k4 k5 k6 k7 k8 k9 k10 k11 kf
  simp only [results, Try.results6, go_sem]
  simp [go_sem, f0, f1, f2, f3, f4, f5, f6, f7, f8, f9, f10, f11]

/-- Two machines' boxes. -/
structure E2 (w u : World) (m : MV) (a a2 : MA) : Prop where
  bel : Below w.heap.size w u
  b0 : u.heap[w.heap.size]? = some (.cells (mC m a) 30 (0, 0))
  b1 : u.heap[w.heap.size + 1]? = some (.cells (mC m a2) 30 (0, 0))
theorem E2.lt {w u : World} {m : MV} {a a2 : MA} (h : E2 w u m a a2) : w.heap.size + 1 < u.heap.size := (Array.getElem?_eq_some_iff.1 h.b1).1
theorem E2.step {w u u' : World} {m : MV} {a a2 : MA} (h : E2 w u m a a2) (hb : Below u.heap.size u u') : E2 w u' m a a2 := by
  have := h.lt
  exact ⟨h.bel.trans (hb.mono h.bel.size), (hb.block _ (by omega)).trans h.b0, (hb.block _ (by omega)).trans h.b1⟩
theorem E2.new (w : World) (m : MV) (a a2 : MA) : E2 w ((w.alloc (.cells (mC m a) 30)).alloc (.cells (mC m a2) 30)) m a a2 :=
  ⟨((Below.refl _ _).alloc (Nat.le_refl _) _).alloc (by simp) _, (Below.heap_alloc _ _ _ (by simp)).trans (heap_new _ _), by simpa using heap_new (w.alloc (.cells (mC m a) 30)) (.cells (mC m a2) 30)⟩
set_option maxRecDepth 100000 in
set_option maxHeartbeats 4000000 in
theorem eqMachine_ok {w : World} {m : MV} {a a2 : MA} (h : MRows w m a) (h' : MRows w m a2) (hl : MLen m) : Calls Try.prog 8 #[.agg (mC m a), .agg (mC m a2)] w fun e w' => e = .returned (.bool true) ∧ Below w.heap.size w w' := by
  have HE0 : Hid (E2 w ((w.alloc (.cells #[.int .i64 m.pc, .slice a.ar m.rs.length a.cr, .int .i64 m.md, .slice a.ac m.cs.length a.cc, .slice a.av m.vs.length a.cv, .string m.mem, .int .i64 m.st, .int .i64 m.ct, .int .i64 m.ln, .slice a.ai m.is.length a.ci, .slice a.ao m.os.length a.co, .int .i64 m.tr] 30)).alloc (.cells #[.int .i64 m.pc, .slice a2.ar m.rs.length a2.cr, .int .i64 m.md, .slice a2.ac m.cs.length a2.cc, .slice a2.av m.vs.length a2.cv, .string m.mem, .int .i64 m.st, .int .i64 m.ct, .int .i64 m.ln, .slice a2.ai m.is.length a2.ci, .slice a2.ao m.os.length a2.co, .int .i64 m.tr] 30)) m a a2) := E2.new w m a a2
  have HM : Hid (MRows w m a) := h
  have HM2 : Hid (MRows w m a2) := h'
  have HL : Hid (MLen m) := hl
  clear h h' hl
  unfold mC
  go_enter Try.func8, Try.ntmps8
  go_wp2_with fail
  generalize ((w.alloc (.cells #[.int .i64 m.pc, .slice a.ar m.rs.length a.cr, .int .i64 m.md, .slice a.ac m.cs.length a.cc, .slice a.av m.vs.length a.cv, .string m.mem, .int .i64 m.st, .int .i64 m.ct, .int .i64 m.ln, .slice a.ai m.is.length a.ci, .slice a.ao m.os.length a.co, .int .i64 m.tr] 30)).alloc (.cells #[.int .i64 m.pc, .slice a2.ar m.rs.length a2.cr, .int .i64 m.md, .slice a2.ac m.cs.length a2.cc, .slice a2.av m.vs.length a2.cv, .string m.mem, .int .i64 m.st, .int .i64 m.ct, .int .i64 m.ln, .slice a2.ai m.is.length a2.ci, .slice a2.ao m.os.length a2.co, .int .i64 m.tr] 30)) = u0 at *
  refine Calls.mono (eqIS_ok (HM.out.below HE0.out.bel).r (HM2.out.below HE0.out.bel).r HL.out.r) ?_
  rintro e u1 ⟨rfl, hb1⟩
  have HE1 : Hid (E2 w u1 m a a2) := HE0.out.step hb1
  clear hb1 HE0
  obtain ⟨c0, c1, c2, c3, c4, c5, c6, c7, c8, c9, c10, c11, _⟩ := cel12 HE1.out.b0
  obtain ⟨d0, d1, d2, d3, d4, d5, d6, d7, d8, d9, d10, d11, _⟩ := cel12 HE1.out.b1
  go_wp2_with fail
  clear c0 c1 c2 c3 c4 c5 c6 c7 c8 c9 c10 c11 d0 d1 d2 d3 d4 d5 d6 d7 d8 d9 d10 d11
  refine Calls.mono (eqIS_ok (HM.out.below HE1.out.bel).c (HM2.out.below HE1.out.bel).c HL.out.c) ?_
  rintro e u2 ⟨rfl, hb2⟩
  have HE2 : Hid (E2 w u2 m a a2) := HE1.out.step hb2
  clear hb2 HE1
  obtain ⟨c0, c1, c2, c3, c4, c5, c6, c7, c8, c9, c10, c11, _⟩ := cel12 HE2.out.b0
  obtain ⟨d0, d1, d2, d3, d4, d5, d6, d7, d8, d9, d10, d11, _⟩ := cel12 HE2.out.b1
  go_wp2_with fail
  clear c0 c1 c2 c3 c4 c5 c6 c7 c8 c9 c10 c11 d0 d1 d2 d3 d4 d5 d6 d7 d8 d9 d10 d11
  refine Calls.mono (eqIS_ok (HM.out.below HE2.out.bel).v (HM2.out.below HE2.out.bel).v HL.out.v) ?_
  rintro e u3 ⟨rfl, hb3⟩
  have HE3 : Hid (E2 w u3 m a a2) := HE2.out.step hb3
  clear hb3 HE2
  obtain ⟨c0, c1, c2, c3, c4, c5, c6, c7, c8, c9, c10, c11, _⟩ := cel12 HE3.out.b0
  obtain ⟨d0, d1, d2, d3, d4, d5, d6, d7, d8, d9, d10, d11, _⟩ := cel12 HE3.out.b1
  go_wp2_with fail
  clear c0 c1 c2 c3 c4 c5 c6 c7 c8 c9 c10 c11 d0 d1 d2 d3 d4 d5 d6 d7 d8 d9 d10 d11
  refine Calls.mono (eqPVS_ok (HM.out.below HE3.out.bel).i (HM2.out.below HE3.out.bel).i HL.out.i) ?_
  rintro e u4 ⟨rfl, hb4⟩
  have HE4 : Hid (E2 w u4 m a a2) := HE3.out.step hb4
  clear hb4 HE3
  obtain ⟨c0, c1, c2, c3, c4, c5, c6, c7, c8, c9, c10, c11, _⟩ := cel12 HE4.out.b0
  obtain ⟨d0, d1, d2, d3, d4, d5, d6, d7, d8, d9, d10, d11, _⟩ := cel12 HE4.out.b1
  go_wp2_with fail
  clear c0 c1 c2 c3 c4 c5 c6 c7 c8 c9 c10 c11 d0 d1 d2 d3 d4 d5 d6 d7 d8 d9 d10 d11
  refine Calls.mono (eqPVS_ok (HM.out.below HE4.out.bel).o (HM2.out.below HE4.out.bel).o HL.out.o) ?_
  rintro e u5 ⟨rfl, hb5⟩
  have HE5 : Hid (E2 w u5 m a a2) := HE4.out.step hb5
  clear hb5 HE4
  obtain ⟨c0, c1, c2, c3, c4, c5, c6, c7, c8, c9, c10, c11, _⟩ := cel12 HE5.out.b0
  obtain ⟨d0, d1, d2, d3, d4, d5, d6, d7, d8, d9, d10, d11, _⟩ := cel12 HE5.out.b1
  go_wp2
  go_ret
  exact ⟨rfl, HE5.out.bel⟩

theorem szM_len {m : MV} (h : szM m = true) : MLen m := by
  unfold szM at h
  have h2 := of_decide_eq_true h
  exact ⟨by omega, by omega, by omega, by omega, by omega, by omega⟩
def BoxM (u : World) (b : Nat) (m : MV) (a : MA) : Prop := u.heap[b]? = some (.cells (mC m a) 30 (0, 0))
theorem BoxM.lt {u : World} {b : Nat} {m : MV} {a : MA} (h : BoxM u b m a) : b < u.heap.size := (Array.getElem?_eq_some_iff.1 h).1
theorem BoxM.below {u u' : World} {b B : Nat} {m : MV} {a : MA} (h : BoxM u b m a) (hb : Below B u u') (hB : b < B) : BoxM u' b m a := (hb.block b hB).trans h

/-- A machine is not greater than what is left. -/
def szL (l : Int) (m : MV) : Bool := decide ((m.rs.length : Int) + m.cs.length + m.vs.length + m.mem.size + m.is.length + m.os.length ≤ l)
set_option maxRecDepth 100000 in
set_option maxHeartbeats 4000000 in
theorem szMachineL (w : World) (m : MV) (a : MA) (h : MMax m) (l0 : Int) (b00 : 0 ≤ l0) (b01 : l0 ≤ 1048576) : Calls Try.prog 4 #[.agg (mC m a), .int .i64 l0] w fun e w' => ∃ r, e = .returned (.int .i64 r) ∧ decide (r < 0) = !szL l0 m ∧ r ≤ 1048576 ∧ Below w.heap.size w w' := by
  obtain ⟨h1, h2, h3, h4, h5, h6⟩ := h
  have hmx : maxLen ≤ 9223372036854775807 := by decide
  have HZ1 := fun (l : Int) (w : World) (h0 : 0 ≤ l) (hh : l ≤ 1048576) => szIS_any a.ar m.rs.length a.cr l w h0 hh h1
  have HZ2 := fun (l : Int) (w : World) (h0 : 0 ≤ l) (hh : l ≤ 1048576) => szIS_any a.ac m.cs.length a.cc l w h0 hh h2
  have HZ3 := fun (l : Int) (w : World) (h0 : 0 ≤ l) (hh : l ≤ 1048576) => szIS_any a.av m.vs.length a.cv l w h0 hh h3
  have HZ4 := fun (l : Int) (w : World) (h0 : 0 ≤ l) (hh : l ≤ 1048576) => szPVS_any a.ai m.is.length a.ci l w h0 hh h4
  have HZ5 := fun (l : Int) (w : World) (h0 : 0 ≤ l) (hh : l ≤ 1048576) => szPVS_any a.ao m.os.length a.co l w h0 hh h5
  obtain ⟨n1, e1⟩ : ∃ n, m.rs.length = n := ⟨_, rfl⟩
  obtain ⟨n2, e2⟩ : ∃ n, m.cs.length = n := ⟨_, rfl⟩
  obtain ⟨n3, e3⟩ : ∃ n, m.vs.length = n := ⟨_, rfl⟩
  obtain ⟨n4, e4⟩ : ∃ n, m.is.length = n := ⟨_, rfl⟩
  obtain ⟨n5, e5⟩ : ∃ n, m.os.length = n := ⟨_, rfl⟩
  obtain ⟨n6, e6⟩ : ∃ n, m.mem.size = n := ⟨_, rfl⟩
  rw [e6] at h6
  have hw6 : ∀ l : Int, 0 ≤ l → l ≤ 1048576 → IntKind.i64.wrap (l - (n6 : Int)) = l - n6 := fun l h0 h1 => by rw [IntKind.wrap_i64]; omega
  have HSZ : Hid (szL l0 m = decide ((n1 : Int) + n2 + n3 + n6 + n4 + n5 ≤ l0)) := (show szL l0 m = _ by unfold szL; rw [e1, e2, e3, e4, e5, e6])
  rw [e1] at HZ1
  rw [e2] at HZ2
  rw [e3] at HZ3
  rw [e4] at HZ4
  rw [e5] at HZ5
  unfold mC
  rw [e1, e2, e3, e4, e5]
  have HZ1H : Hid _ := HZ1
  have HZ2H : Hid _ := HZ2
  have HZ3H : Hid _ := HZ3
  have HZ4H : Hid _ := HZ4
  have HZ5H : Hid _ := HZ5
  have HBX : Hid (Below w.heap.size w (w.alloc (.cells #[.int .i64 m.pc, .slice a.ar n1 a.cr, .int .i64 m.md, .slice a.ac n2 a.cc, .slice a.av n3 a.cv, .string m.mem, .int .i64 m.st, .int .i64 m.ct, .int .i64 m.ln, .slice a.ai n4 a.ci, .slice a.ao n5 a.co, .int .i64 m.tr] 25))) := (Below.refl _ _).alloc (Nat.le_refl _) _
  clear HZ1 HZ2 HZ3 HZ4 HZ5 e1 e2 e3 e4 e5 h1 h2 h3 h4 h5
  by_cases q0 : l0 < (n1 : Int)
  · have hd : decide ((-1 : Int) < 0) = (!szL l0 m) := by
      rw [HSZ.out]
      have hz : decide ((n1 : Int) + n2 + n3 + n6 + n4 + n5 ≤ l0) = false := decide_eq_false (by omega)
      rw [hz]
      rfl
    have z0 := fun w' => HZ1H.out l0 w' (by omega) (by omega)
    rw [if_pos q0] at z0
    have Z0 : Hid _ := z0
    clear z0
    have HD : Hid _ := hd
    clear hd q0 b00 b01
    go_enter Try.func4, Try.ntmps4
    go_wp2_with (first | (go_at_call 9; refine Calls.mono (Z0.out _) ?_; rintro e u0 ⟨rfl, hu0⟩; rw [hu0]; clear hu0 Z0))
    go_ret
    exact ⟨-1, rfl, HD.out, by omega, HBX.out⟩
  · obtain ⟨l1, hl1⟩ : ∃ l : Int, l = l0 - n1 := ⟨_, rfl⟩
    have b10 : 0 ≤ l1 := by omega
    have b11 : l1 ≤ 1048576 := by omega
    have t1 : ¬ l1 < 0 := by omega
    have z0 := fun w' => HZ1H.out l0 w' (by omega) (by omega)
    rw [if_neg q0, ← hl1] at z0
    have Z0 : Hid _ := z0
    clear z0
    by_cases q1 : l1 < (n2 : Int)
    · have hd : decide ((-1 : Int) < 0) = (!szL l0 m) := by
        rw [HSZ.out]
        have hz : decide ((n1 : Int) + n2 + n3 + n6 + n4 + n5 ≤ l0) = false := decide_eq_false (by omega)
        rw [hz]
        rfl
      have z1 := fun w' => HZ2H.out l1 w' (by omega) (by omega)
      rw [if_pos q1] at z1
      have Z1 : Hid _ := z1
      clear z1
      have HD : Hid _ := hd
      clear hd q0 q1 b00 b01 hl1 b10 b11
      go_enter Try.func4, Try.ntmps4
      go_wp2_with (first | (go_at_call 9; refine Calls.mono (Z0.out _) ?_; rintro e u0 ⟨rfl, hu0⟩; rw [hu0]; clear hu0 Z0) | (go_at_call 9; refine Calls.mono (Z1.out _) ?_; rintro e u1 ⟨rfl, hu1⟩; rw [hu1]; clear hu1 Z1))
      go_ret
      exact ⟨-1, rfl, HD.out, by omega, HBX.out⟩
    · obtain ⟨l2, hl2⟩ : ∃ l : Int, l = l1 - n2 := ⟨_, rfl⟩
      have b20 : 0 ≤ l2 := by omega
      have b21 : l2 ≤ 1048576 := by omega
      have t2 : ¬ l2 < 0 := by omega
      have z1 := fun w' => HZ2H.out l1 w' (by omega) (by omega)
      rw [if_neg q1, ← hl2] at z1
      have Z1 : Hid _ := z1
      clear z1
      by_cases q2 : l2 < (n3 : Int)
      · have hd : decide ((-1 : Int) < 0) = (!szL l0 m) := by
          rw [HSZ.out]
          have hz : decide ((n1 : Int) + n2 + n3 + n6 + n4 + n5 ≤ l0) = false := decide_eq_false (by omega)
          rw [hz]
          rfl
        have z2 := fun w' => HZ3H.out l2 w' (by omega) (by omega)
        rw [if_pos q2] at z2
        have Z2 : Hid _ := z2
        clear z2
        have HD : Hid _ := hd
        clear hd q0 q1 q2 b00 b01 hl1 b10 b11 hl2 b20 b21
        go_enter Try.func4, Try.ntmps4
        go_wp2_with (first | (go_at_call 9; refine Calls.mono (Z0.out _) ?_; rintro e u0 ⟨rfl, hu0⟩; rw [hu0]; clear hu0 Z0) | (go_at_call 9; refine Calls.mono (Z1.out _) ?_; rintro e u1 ⟨rfl, hu1⟩; rw [hu1]; clear hu1 Z1) | (go_at_call 9; refine Calls.mono (Z2.out _) ?_; rintro e u2 ⟨rfl, hu2⟩; rw [hu2]; clear hu2 Z2))
        go_ret
        exact ⟨-1, rfl, HD.out, by omega, HBX.out⟩
      · obtain ⟨l3, hl3⟩ : ∃ l : Int, l = l2 - n3 := ⟨_, rfl⟩
        have b30 : 0 ≤ l3 := by omega
        have b31 : l3 ≤ 1048576 := by omega
        have t3 : ¬ l3 < 0 := by omega
        have z2 := fun w' => HZ3H.out l2 w' (by omega) (by omega)
        rw [if_neg q2, ← hl3] at z2
        have Z2 : Hid _ := z2
        clear z2
        by_cases q3 : l3 < (n6 : Int)
        · have hd : decide ((-1 : Int) < 0) = (!szL l0 m) := by
            rw [HSZ.out]
            have hz : decide ((n1 : Int) + n2 + n3 + n6 + n4 + n5 ≤ l0) = false := decide_eq_false (by omega)
            rw [hz]
            rfl
          have hw7 := hw6 l3 b30 b31
          have hneg : l3 - (n6 : Int) < 0 := by omega
          have HD : Hid _ := hd
          clear hd q0 q1 q2 q3 b00 b01 hl1 b10 b11 hl2 b20 b21 hl3 b30 b31
          go_enter Try.func4, Try.ntmps4
          go_wp2_with (first | (go_at_call 9; refine Calls.mono (Z0.out _) ?_; rintro e u0 ⟨rfl, hu0⟩; rw [hu0]; clear hu0 Z0) | (go_at_call 9; refine Calls.mono (Z1.out _) ?_; rintro e u1 ⟨rfl, hu1⟩; rw [hu1]; clear hu1 Z1) | (go_at_call 9; refine Calls.mono (Z2.out _) ?_; rintro e u2 ⟨rfl, hu2⟩; rw [hu2]; clear hu2 Z2))
          go_ret
          exact ⟨-1, rfl, HD.out, by omega, HBX.out⟩
        · obtain ⟨l4, hl4⟩ : ∃ l : Int, l = l3 - n6 := ⟨_, rfl⟩
          have b40 : 0 ≤ l4 := by omega
          have b41 : l4 ≤ 1048576 := by omega
          have t4 : ¬ l4 < 0 := by omega
          have hw8 : IntKind.i64.wrap (l3 - (n6 : Int)) = l4 := (hw6 l3 b30 b31).trans hl4.symm
          by_cases q4 : l4 < (n4 : Int)
          · have hd : decide ((-1 : Int) < 0) = (!szL l0 m) := by
              rw [HSZ.out]
              have hz : decide ((n1 : Int) + n2 + n3 + n6 + n4 + n5 ≤ l0) = false := decide_eq_false (by omega)
              rw [hz]
              rfl
            have z4 := fun w' => HZ4H.out l4 w' (by omega) (by omega)
            rw [if_pos q4] at z4
            have Z4 : Hid _ := z4
            clear z4
            have HD : Hid _ := hd
            clear hd q0 q1 q2 q3 q4 b00 b01 hl1 b10 b11 hl2 b20 b21 hl3 b30 b31 hl4 b40 b41
            go_enter Try.func4, Try.ntmps4
            go_wp2_with (first | (go_at_call 9; refine Calls.mono (Z0.out _) ?_; rintro e u0 ⟨rfl, hu0⟩; rw [hu0]; clear hu0 Z0) | (go_at_call 9; refine Calls.mono (Z1.out _) ?_; rintro e u1 ⟨rfl, hu1⟩; rw [hu1]; clear hu1 Z1) | (go_at_call 9; refine Calls.mono (Z2.out _) ?_; rintro e u2 ⟨rfl, hu2⟩; rw [hu2]; clear hu2 Z2) | (go_at_call 10; refine Calls.mono (Z4.out _) ?_; rintro e u4 ⟨rfl, hu4⟩; rw [hu4]; clear hu4 Z4))
            go_ret
            exact ⟨-1, rfl, HD.out, by omega, HBX.out⟩
          · obtain ⟨l5, hl5⟩ : ∃ l : Int, l = l4 - n4 := ⟨_, rfl⟩
            have b50 : 0 ≤ l5 := by omega
            have b51 : l5 ≤ 1048576 := by omega
            have t5 : ¬ l5 < 0 := by omega
            have z4 := fun w' => HZ4H.out l4 w' (by omega) (by omega)
            rw [if_neg q4, ← hl5] at z4
            have Z4 : Hid _ := z4
            clear z4
            by_cases q5 : l5 < (n5 : Int)
            · have hd : decide ((-1 : Int) < 0) = (!szL l0 m) := by
                rw [HSZ.out]
                have hz : decide ((n1 : Int) + n2 + n3 + n6 + n4 + n5 ≤ l0) = false := decide_eq_false (by omega)
                rw [hz]
                rfl
              have z5 := fun w' => HZ5H.out l5 w' (by omega) (by omega)
              rw [if_pos q5] at z5
              have Z5 : Hid _ := z5
              clear z5
              have HD : Hid _ := hd
              clear hd q0 q1 q2 q3 q4 q5 b00 b01 hl1 b10 b11 hl2 b20 b21 hl3 b30 b31 hl4 b40 b41 hl5 b50 b51
              go_enter Try.func4, Try.ntmps4
              go_wp2_with (first | (go_at_call 9; refine Calls.mono (Z0.out _) ?_; rintro e u0 ⟨rfl, hu0⟩; rw [hu0]; clear hu0 Z0) | (go_at_call 9; refine Calls.mono (Z1.out _) ?_; rintro e u1 ⟨rfl, hu1⟩; rw [hu1]; clear hu1 Z1) | (go_at_call 9; refine Calls.mono (Z2.out _) ?_; rintro e u2 ⟨rfl, hu2⟩; rw [hu2]; clear hu2 Z2) | (go_at_call 10; refine Calls.mono (Z4.out _) ?_; rintro e u4 ⟨rfl, hu4⟩; rw [hu4]; clear hu4 Z4) | (go_at_call 10; refine Calls.mono (Z5.out _) ?_; rintro e u5 ⟨rfl, hu5⟩; rw [hu5]; clear hu5 Z5))
              go_ret
              exact ⟨-1, rfl, HD.out, by omega, HBX.out⟩
            · obtain ⟨l6, hl6⟩ : ∃ l : Int, l = l5 - n5 := ⟨_, rfl⟩
              have b60 : 0 ≤ l6 := by omega
              have b61 : l6 ≤ 1048576 := by omega
              have t6 : ¬ l6 < 0 := by omega
              have HB6 : Hid (l6 ≤ 1048576) := b61
              have z5 := fun w' => HZ5H.out l5 w' (by omega) (by omega)
              rw [if_neg q5, ← hl6] at z5
              have Z5 : Hid _ := z5
              clear z5
              have hd : decide (l6 < 0) = (!szL l0 m) := by
                rw [HSZ.out]
                have hz : decide ((n1 : Int) + n2 + n3 + n6 + n4 + n5 ≤ l0) = true := decide_eq_true (by omega)
                rw [hz]
                exact decide_eq_false t6
              have HD : Hid _ := hd
              clear hd q0 q1 q2 q3 q4 q5 b00 b01 hl1 b10 b11 hl2 b20 b21 hl3 b30 b31 hl4 b40 b41 hl5 b50 b51 hl6 b60 b61
              go_enter Try.func4, Try.ntmps4
              go_wp2_with (first | (go_at_call 9; refine Calls.mono (Z0.out _) ?_; rintro e u0 ⟨rfl, hu0⟩; rw [hu0]; clear hu0 Z0) | (go_at_call 9; refine Calls.mono (Z1.out _) ?_; rintro e u1 ⟨rfl, hu1⟩; rw [hu1]; clear hu1 Z1) | (go_at_call 9; refine Calls.mono (Z2.out _) ?_; rintro e u2 ⟨rfl, hu2⟩; rw [hu2]; clear hu2 Z2) | (go_at_call 10; refine Calls.mono (Z4.out _) ?_; rintro e u4 ⟨rfl, hu4⟩; rw [hu4]; clear hu4 Z4) | (go_at_call 10; refine Calls.mono (Z5.out _) ?_; rintro e u5 ⟨rfl, hu5⟩; rw [hu5]; clear hu5 Z5))
              go_ret
              exact ⟨_, rfl, HD.out, HB6.out, HBX.out⟩

/-- The law's two arguments in their boxes. -/
structure N2 (w u : World) (A B : Nat) (m p : MV) (a b : MA) : Prop where
  bel : Below w.heap.size w u
  bA : u.heap[A]? = some (.cells (mC m a) 25 (0, 0))
  bB : u.heap[B]? = some (.cells (mC p b) 25 (0, 0))
theorem N2.lA {w u : World} {A B : Nat} {m p : MV} {a b : MA} (h : N2 w u A B m p a b) : A < u.heap.size := (Array.getElem?_eq_some_iff.1 h.bA).1
theorem N2.lB {w u : World} {A B : Nat} {m p : MV} {a b : MA} (h : N2 w u A B m p a b) : B < u.heap.size := (Array.getElem?_eq_some_iff.1 h.bB).1
theorem N2.step {w u u' : World} {A B : Nat} {m p : MV} {a b : MA} (h : N2 w u A B m p a b) (hb : Below u.heap.size u u') : N2 w u' A B m p a b :=
  ⟨h.bel.trans (hb.mono h.bel.size), (hb.block _ h.lA).trans h.bA, (hb.block _ h.lB).trans h.bB⟩
theorem N2.new (w : World) (m p : MV) (a b : MA) : N2 w ((w.alloc (.cells (mC m a) 25)).alloc (.cells (mC p b) 25)) w.heap.size (w.heap.size + 1) m p a b := by
  have h := heap_new (w.alloc (.cells (mC m a) 25)) (.cells (mC p b) 25)
  rw [World.size_alloc] at h
  exact ⟨(bx1 _ _).trans ((bx1 _ _).mono (by simp)), ((bx1 _ _).block _ (by simp)).trans (heap_new _ _), h⟩
theorem N2.cA {w u : World} {A B : Nat} {m p : MV} {a b : MA} (h : N2 w u A B m p a b) : u.cell? ⟨A, 0, none⟩ = some (.int .i64 m.pc) ∧ u.cell? ⟨A, 1, none⟩ = some (.slice a.ar m.rs.length a.cr) ∧ u.cell? ⟨A, 2, none⟩ = some (.int .i64 m.md) ∧ u.cell? ⟨A, 3, none⟩ = some (.slice a.ac m.cs.length a.cc) ∧ u.cell? ⟨A, 4, none⟩ = some (.slice a.av m.vs.length a.cv) ∧ u.cell? ⟨A, 5, none⟩ = some (.string m.mem) ∧ u.cell? ⟨A, 6, none⟩ = some (.int .i64 m.st) ∧ u.cell? ⟨A, 7, none⟩ = some (.int .i64 m.ct) ∧ u.cell? ⟨A, 8, none⟩ = some (.int .i64 m.ln) ∧ u.cell? ⟨A, 9, none⟩ = some (.slice a.ai m.is.length a.ci) ∧ u.cell? ⟨A, 10, none⟩ = some (.slice a.ao m.os.length a.co) ∧ u.cell? ⟨A, 11, none⟩ = some (.int .i64 m.tr) := by
  have h2 := h.bA
  unfold mC at h2
  obtain ⟨c0, c1, c2, c3, c4, c5, c6, c7, c8, c9, c10, c11, _⟩ := cel12 h2
  exact ⟨c0, c1, c2, c3, c4, c5, c6, c7, c8, c9, c10, c11⟩
theorem N2.cB {w u : World} {A B : Nat} {m p : MV} {a b : MA} (h : N2 w u A B m p a b) : u.cell? ⟨B, 0, none⟩ = some (.int .i64 p.pc) ∧ u.cell? ⟨B, 1, none⟩ = some (.slice b.ar p.rs.length b.cr) ∧ u.cell? ⟨B, 2, none⟩ = some (.int .i64 p.md) ∧ u.cell? ⟨B, 3, none⟩ = some (.slice b.ac p.cs.length b.cc) ∧ u.cell? ⟨B, 4, none⟩ = some (.slice b.av p.vs.length b.cv) ∧ u.cell? ⟨B, 5, none⟩ = some (.string p.mem) ∧ u.cell? ⟨B, 6, none⟩ = some (.int .i64 p.st) ∧ u.cell? ⟨B, 7, none⟩ = some (.int .i64 p.ct) ∧ u.cell? ⟨B, 8, none⟩ = some (.int .i64 p.ln) ∧ u.cell? ⟨B, 9, none⟩ = some (.slice b.ai p.is.length b.ci) ∧ u.cell? ⟨B, 10, none⟩ = some (.slice b.ao p.os.length b.co) ∧ u.cell? ⟨B, 11, none⟩ = some (.int .i64 p.tr) := by
  have h2 := h.bB
  unfold mC at h2
  obtain ⟨c0, c1, c2, c3, c4, c5, c6, c7, c8, c9, c10, c11, _⟩ := cel12 h2
  exact ⟨c0, c1, c2, c3, c4, c5, c6, c7, c8, c9, c10, c11⟩
theorem BoxM.cel {u : World} {D : Nat} {m : MV} {a : MA} (h : BoxM u D m a) : u.cell? ⟨D, 0, none⟩ = some (.int .i64 m.pc) ∧ u.cell? ⟨D, 1, none⟩ = some (.slice a.ar m.rs.length a.cr) ∧ u.cell? ⟨D, 2, none⟩ = some (.int .i64 m.md) ∧ u.cell? ⟨D, 3, none⟩ = some (.slice a.ac m.cs.length a.cc) ∧ u.cell? ⟨D, 4, none⟩ = some (.slice a.av m.vs.length a.cv) ∧ u.cell? ⟨D, 5, none⟩ = some (.string m.mem) ∧ u.cell? ⟨D, 6, none⟩ = some (.int .i64 m.st) ∧ u.cell? ⟨D, 7, none⟩ = some (.int .i64 m.ct) ∧ u.cell? ⟨D, 8, none⟩ = some (.int .i64 m.ln) ∧ u.cell? ⟨D, 9, none⟩ = some (.slice a.ai m.is.length a.ci) ∧ u.cell? ⟨D, 10, none⟩ = some (.slice a.ao m.os.length a.co) ∧ u.cell? ⟨D, 11, none⟩ = some (.int .i64 m.tr) := by
  have h2 := h
  unfold BoxM mC at h2
  obtain ⟨c0, c1, c2, c3, c4, c5, c6, c7, c8, c9, c10, c11, _⟩ := cel12 h2
  exact ⟨c0, c1, c2, c3, c4, c5, c6, c7, c8, c9, c10, c11⟩
/-- What the law keeps: its arguments, and the two machines that were handed in. -/
structure L4 (w u : World) (A B C D : Nat) (m p : MV) (a b c d : MA) : Prop where
  n2 : N2 w u A B m p a b
  bC : BoxM u C m c
  bD : BoxM u D p d
  rC : MRows u m c
  rD : MRows u p d
theorem L4.step {w u u' : World} {A B C D : Nat} {m p : MV} {a b c d : MA} (h : L4 w u A B C D m p a b c d) (hb : Below u.heap.size u u') : L4 w u' A B C D m p a b c d :=
  ⟨h.n2.step hb, h.bC.below hb h.bC.lt, h.bD.below hb h.bD.lt, h.rC.below hb, h.rD.below hb⟩
theorem szL_len {m p : MV} {r : Int} (h1 : szL 1048576 m = true) (h2 : szL r p = true) (hr : r ≤ 1048576) : MLen m ∧ MLen p := by
  unfold szL at h1 h2
  have h3 := of_decide_eq_true h1
  have h4 := of_decide_eq_true h2
  exact ⟨⟨by omega, by omega, by omega, by omega, by omega, by omega⟩, ⟨by omega, by omega, by omega, by omega, by omega, by omega⟩⟩
set_option maxRecDepth 100000 in
set_option maxHeartbeats 8000000 in
theorem walkDO {w : World} {m p : MV} {a b : MA} (ha : MRows w m a) (hb : MRows w p b) (xa : MMax m) (xb : MMax p) : Calls Try.prog 3 #[.agg (mC m a), .agg (mC p b)] w fun e w' => e = .returned (.bool true) ∧ Below w.heap.size w w' := by
  have HRA : Hid (MRows w m a) := ha
  have HRB : Hid (MRows w p b) := hb
  have HN : Hid (N2 w ((w.alloc (.cells #[.int .i64 m.pc, .slice a.ar m.rs.length a.cr, .int .i64 m.md, .slice a.ac m.cs.length a.cc, .slice a.av m.vs.length a.cv, .string m.mem, .int .i64 m.st, .int .i64 m.ct, .int .i64 m.ln, .slice a.ai m.is.length a.ci, .slice a.ao m.os.length a.co, .int .i64 m.tr] 25)).alloc (.cells #[.int .i64 p.pc, .slice b.ar p.rs.length b.cr, .int .i64 p.md, .slice b.ac p.cs.length b.cc, .slice b.av p.vs.length b.cv, .string p.mem, .int .i64 p.st, .int .i64 p.ct, .int .i64 p.ln, .slice b.ai p.is.length b.ci, .slice b.ao p.os.length b.co, .int .i64 p.tr] 25)) w.heap.size (w.heap.size + 1) m p a b) := N2.new w m p a b
  have HS1 : Hid (∀ u, Calls Try.prog 4 #[.agg #[.int .i64 m.pc, .slice a.ar m.rs.length a.cr, .int .i64 m.md, .slice a.ac m.cs.length a.cc, .slice a.av m.vs.length a.cv, .string m.mem, .int .i64 m.st, .int .i64 m.ct, .int .i64 m.ln, .slice a.ai m.is.length a.ci, .slice a.ao m.os.length a.co, .int .i64 m.tr], .int .i64 1048576] u fun e w' => ∃ r, e = .returned (.int .i64 r) ∧ decide (r < 0) = !szL 1048576 m ∧ r ≤ 1048576 ∧ Below u.heap.size u w') := fun u => szMachineL u m a xa 1048576 (by omega) (by omega)
  have HS2 : Hid (∀ (r : Int) u, 0 ≤ r → r ≤ 1048576 → Calls Try.prog 4 #[.agg #[.int .i64 p.pc, .slice b.ar p.rs.length b.cr, .int .i64 p.md, .slice b.ac p.cs.length b.cc, .slice b.av p.vs.length b.cv, .string p.mem, .int .i64 p.st, .int .i64 p.ct, .int .i64 p.ln, .slice b.ai p.is.length b.ci, .slice b.ao p.os.length b.co, .int .i64 p.tr], .int .i64 r] u fun e w' => ∃ r2, e = .returned (.int .i64 r2) ∧ decide (r2 < 0) = !szL r p ∧ r2 ≤ 1048576 ∧ Below u.heap.size u w') := fun r u h0 h1 => szMachineL u p b xb r h0 h1
  clear ha hb xa xb
  unfold mC
  go_enter Try.func3, Try.ntmps3
  go_upto_region 1 with fail
  generalize ((w.alloc (.cells #[.int .i64 m.pc, .slice a.ar m.rs.length a.cr, .int .i64 m.md, .slice a.ac m.cs.length a.cc, .slice a.av m.vs.length a.cv, .string m.mem, .int .i64 m.st, .int .i64 m.ct, .int .i64 m.ln, .slice a.ai m.is.length a.ci, .slice a.ao m.os.length a.co, .int .i64 m.tr] 25)).alloc (.cells #[.int .i64 p.pc, .slice b.ar p.rs.length b.cr, .int .i64 p.md, .slice b.ac p.cs.length b.cc, .slice b.av p.vs.length b.cv, .string p.mem, .int .i64 p.st, .int .i64 p.ct, .int .i64 p.ln, .slice b.ai p.is.length b.ci, .slice b.ao p.os.length b.co, .int .i64 p.tr] 25)) = u0 at *
  obtain ⟨B, hB⟩ : ∃ B, w.heap.size + 1 = B := ⟨_, rfl⟩
  obtain ⟨A, hA⟩ : ∃ A, w.heap.size = A := ⟨_, rfl⟩
  have HN0 : Hid (N2 w u0 A B m p a b) := (by rw [← hA, ← hB]; exact HN.out)
  rw [hB, hA]
  have HA0 : Hid (w.heap.size = A) := hA
  clear hA hB HN
  obtain ⟨c0, c1, c2, c3, c4, c5, c6, c7, c8, c9, c10, c11⟩ := HN0.out.cA
  have cl := HN0.out.lA
  go_wp2_with fail
  refine Calls.mono (HS1.out _) ?_
  rintro e u1 ⟨r, rfl, hr, hr1, hb⟩
  have HN1 : Hid (N2 w u1 A B m p a b) := HN0.out.step hb
  clear hb HS1 HN0 cl c0 c1 c2 c3 c4 c5 c6 c7 c8 c9 c10 c11
  cases hz1 : szL 1048576 m
  · rw [hz1] at hr
    have hr2 : r < 0 := by simpa using hr
    clear hr
    go_wp2
    go_ret
    exact ⟨rfl, by first | exact HN1.out.bel | (rw [← HA0.out]; exact HN1.out.bel)⟩
  rw [hz1] at hr
  have hr2 : ¬ r < 0 := by simpa using hr
  clear hr
  obtain ⟨d0, d1, d2, d3, d4, d5, d6, d7, d8, d9, d10, d11⟩ := HN1.out.cB
  have dl := HN1.out.lB
  go_wp2_with fail
  refine Calls.mono (HS2.out r _ (by omega) hr1) ?_
  rintro e u2 ⟨r2, rfl, hq, hq1, hb⟩
  have HN2' : Hid (N2 w u2 A B m p a b) := HN1.out.step hb
  clear hb HS2 HN1 dl d0 d1 d2 d3 d4 d5 d6 d7 d8 d9 d10 d11
  cases hz2 : szL r p
  · rw [hz2] at hq
    have hq2 : r2 < 0 := by simpa using hq
    clear hq
    go_wp2
    go_ret
    exact ⟨rfl, by first | exact HN2'.out.bel | (rw [← HA0.out]; exact HN2'.out.bel)⟩
  rw [hz2] at hq
  have hq2 : ¬ r2 < 0 := by simpa using hq
  clear hq
  have HLL := szL_len hz1 hz2 hr1
  have HLM : Hid (MLen m) := HLL.1
  have HLP : Hid (MLen p) := HLL.2
  clear HLL hz1 hz2 hr1 hq1
  have HTA : Hid (∀ u, N2 w u A B m p a b → Calls Try.prog 6 #[.agg #[.int .i64 m.pc, .slice a.ar m.rs.length a.cr, .int .i64 m.md, .slice a.ac m.cs.length a.cc, .slice a.av m.vs.length a.cv, .string m.mem, .int .i64 m.st, .int .i64 m.ct, .int .i64 m.ln, .slice a.ai m.is.length a.ci, .slice a.ao m.os.length a.co, .int .i64 m.tr]] u fun e w' => ∃ a2 : MA, e = .returned (.agg #[.int .i64 m.pc, .slice a2.ar m.rs.length a2.cr, .int .i64 m.md, .slice a2.ac m.cs.length a2.cc, .slice a2.av m.vs.length a2.cv, .string m.mem, .int .i64 m.st, .int .i64 m.ct, .int .i64 m.ln, .slice a2.ai m.is.length a2.ci, .slice a2.ao m.os.length a2.co, .int .i64 m.tr]) ∧ MRows w' m a2 ∧ Below u.heap.size u w') := fun u h => Calls.mono (toMachine_any (HRA.out.below h.bel) HLM.out) (by rintro e w' ⟨a2, rfl, ho, hb⟩; exact ⟨a2, rfl, ho.rows, hb⟩)
  have HTB : Hid (∀ u, N2 w u A B m p a b → Calls Try.prog 6 #[.agg #[.int .i64 p.pc, .slice b.ar p.rs.length b.cr, .int .i64 p.md, .slice b.ac p.cs.length b.cc, .slice b.av p.vs.length b.cv, .string p.mem, .int .i64 p.st, .int .i64 p.ct, .int .i64 p.ln, .slice b.ai p.is.length b.ci, .slice b.ao p.os.length b.co, .int .i64 p.tr]] u fun e w' => ∃ b2 : MA, e = .returned (.agg #[.int .i64 p.pc, .slice b2.ar p.rs.length b2.cr, .int .i64 p.md, .slice b2.ac p.cs.length b2.cc, .slice b2.av p.vs.length b2.cv, .string p.mem, .int .i64 p.st, .int .i64 p.ct, .int .i64 p.ln, .slice b2.ai p.is.length b2.ci, .slice b2.ao p.os.length b2.co, .int .i64 p.tr]) ∧ MRows w' p b2 ∧ Below u.heap.size u w') := fun u h => Calls.mono (toMachine_any (HRB.out.below h.bel) HLP.out) (by rintro e w' ⟨a2, rfl, ho, hb⟩; exact ⟨a2, rfl, ho.rows, hb⟩)
  have HSP : Hid (∀ u (x y : MA), MRows u m x → MRows u p y → Calls Try.prog 5 #[.agg #[.int .i64 m.pc, .slice x.ar m.rs.length x.cr, .int .i64 m.md, .slice x.ac m.cs.length x.cc, .slice x.av m.vs.length x.cv, .string m.mem, .int .i64 m.st, .int .i64 m.ct, .int .i64 m.ln, .slice x.ai m.is.length x.ci, .slice x.ao m.os.length x.co, .int .i64 m.tr], .agg #[.int .i64 p.pc, .slice y.ar p.rs.length y.cr, .int .i64 p.md, .slice y.ac p.cs.length y.cc, .slice y.av p.vs.length y.cv, .string p.mem, .int .i64 p.st, .int .i64 p.ct, .int .i64 p.ln, .slice y.ai p.is.length y.ci, .slice y.ao p.os.length y.co, .int .i64 p.tr]] u fun e w' => e = .returned (.string (doV m p)) ∧ Below u.heap.size u w') := fun u x y h1 h2 => specDO_any h1 h2 HLM.out HLP.out
  have HIM : Hid (∀ u (x y : MA), MRows u m x → MRows u p y → Calls Try.prog 7 #[.agg #[.int .i64 m.pc, .slice x.ar m.rs.length x.cr, .int .i64 m.md, .slice x.ac m.cs.length x.cc, .slice x.av m.vs.length x.cv, .string m.mem, .int .i64 m.st, .int .i64 m.ct, .int .i64 m.ln, .slice x.ai m.is.length x.ci, .slice x.ao m.os.length x.co, .int .i64 m.tr], .agg #[.int .i64 p.pc, .slice y.ar p.rs.length y.cr, .int .i64 p.md, .slice y.ac p.cs.length y.cc, .slice y.av p.vs.length y.cv, .string p.mem, .int .i64 p.st, .int .i64 p.ct, .int .i64 p.ln, .slice y.ai p.is.length y.ci, .slice y.ao p.os.length y.co, .int .i64 p.tr]] u fun e w' => e = .returned (.string (doV m p)) ∧ Below u.heap.size u w') := fun u x y h1 h2 => implDO_any h1 h2 HLM.out HLP.out
  generalize doV m p = V at *
  go_upto_region 8 with fail
  have HN2 : Hid (N2 w u2.drew A B m p a b) := HN2'.out.step (bdn (Below.refl _ _) 1)
  clear HN2'
  refine wp_region_held (S := fun w9 => N2 w w9 A B m p a b) (by kernel_rfl) ?_
  change wpAnyH _ _ _ _ _ _ _ _ (World.drew _)
  refine wpAnyH_take (i := 0) (v := .agg #[.int .i64 m.pc, .slice a.ar m.rs.length a.cr, .int .i64 m.md, .slice a.ac m.cs.length a.cc, .slice a.av m.vs.length a.cv, .string m.mem, .int .i64 m.st, .int .i64 m.ct, .int .i64 m.ln, .slice a.ai m.is.length a.ci, .slice a.ao m.os.length a.co, .int .i64 m.tr]) rfl (by kernel_rfl) (by kernel_rfl) (by kernel_rfl) (fun _ _ _ h => h) (Or.inl ⟨by kernel_rfl, fun w9 h9 => ?_⟩) HN2.out ?_
  · obtain ⟨c0, c1, c2, c3, c4, c5, c6, c7, c8, c9, c10, c11⟩ := h9.cA; obtain ⟨d0, d1, d2, d3, d4, d5, d6, d7, d8, d9, d10, d11⟩ := h9.cB; have cl := h9.lA; have dl := h9.lB; clear h9; go_simp
  refine wpAnyH_take (i := 2) (v := .agg #[.int .i64 p.pc, .slice b.ar p.rs.length b.cr, .int .i64 p.md, .slice b.ac p.cs.length b.cc, .slice b.av p.vs.length b.cv, .string p.mem, .int .i64 p.st, .int .i64 p.ct, .int .i64 p.ln, .slice b.ai p.is.length b.ci, .slice b.ao p.os.length b.co, .int .i64 p.tr]) rfl (by kernel_rfl) (by kernel_rfl) (by kernel_rfl) (fun _ _ _ h => h) (Or.inl ⟨by kernel_rfl, fun w9 h9 => ?_⟩) HN2.out ?_
  · obtain ⟨c0, c1, c2, c3, c4, c5, c6, c7, c8, c9, c10, c11⟩ := h9.cA; obtain ⟨d0, d1, d2, d3, d4, d5, d6, d7, d8, d9, d10, d11⟩ := h9.cB; have cl := h9.lA; have dl := h9.lB; clear h9; go_simp
  refine held_one 1 (by kernel_rfl) rfl (by kernel_rfl) fun K hK => ?_
  go_simp
  go_wp2_with (go_at_call 6; refine Calls.mono (HTA.out _ HN2.out) ?_; rintro e u3 ⟨a1, rfl, ho, hb⟩; have HN3 : Hid (N2 w u3 A B m p a b) := HN2.out.step hb; have HR3 : Hid (MRows u3 m a1) := ho; clear ho hb)
  refine hK _ _ HN3.out ?_
  clear hK K
  refine held_one 3 (by kernel_rfl) rfl (by kernel_rfl) fun K hK => ?_
  go_simp
  go_wp2_with (go_at_call 6; refine Calls.mono (HTB.out _ HN3.out) ?_; rintro e u4 ⟨b1, rfl, ho, hb⟩; have HN4 : Hid (N2 w u4 A B m p a b) := HN3.out.step hb; have HR4 : Hid (MRows u4 m a1) := HR3.out.below hb; have HS4 : Hid (MRows u4 p b1) := ho; clear ho hb HR3)
  refine hK _ _ HN4.out ?_
  clear hK K
  refine held_one 4 (by kernel_rfl) rfl (by kernel_rfl) fun K hK => ?_
  go_simp
  go_wp2_with (go_at_call 5; refine Calls.mono (HSP.out _ a1 b1 HR4.out HS4.out) ?_; rintro e u5 ⟨rfl, hb⟩; have HN5 : Hid (N2 w u5 A B m p a b) := HN4.out.step hb; clear hb HR4 HS4)
  refine hK _ _ HN5.out ?_
  clear hK K
  refine wpAnyH_take (i := 5) (v := .string V) rfl (by kernel_rfl) (by kernel_rfl) (by kernel_rfl) (fun _ _ _ h => h) (Or.inl ⟨by kernel_rfl, fun w9 h9 => ?_⟩) HN5.out ?_
  · go_simp
  refine wpAnyH_done (by kernel_rfl) ?_ _
  go_simp
  clear HSP
  obtain ⟨c0, c1, c2, c3, c4, c5, c6, c7, c8, c9, c10, c11⟩ := HN5.out.cA
  have cl := HN5.out.lA
  go_upto_region 10 with (go_at_call 6; refine Calls.mono (HTA.out _ HN5.out) ?_; rintro e u6 ⟨c, rfl, ho, hb⟩; have HN6 : Hid (N2 w u6 A B m p a b) := HN5.out.step hb; have HR6 : Hid (MRows u6 m c) := ho; clear ho hb)
  have HN7 : Hid (N2 w (u6.alloc (.cells #[.int .i64 m.pc, .slice c.ar m.rs.length c.cr, .int .i64 m.md, .slice c.ac m.cs.length c.cc, .slice c.av m.vs.length c.cv, .string m.mem, .int .i64 m.st, .int .i64 m.ct, .int .i64 m.ln, .slice c.ai m.is.length c.ci, .slice c.ao m.os.length c.co, .int .i64 m.tr] 30)) A B m p a b) := HN6.out.step (bx1 _ _)
  have HR7 : Hid (MRows (u6.alloc (.cells #[.int .i64 m.pc, .slice c.ar m.rs.length c.cr, .int .i64 m.md, .slice c.ac m.cs.length c.cc, .slice c.av m.vs.length c.cv, .string m.mem, .int .i64 m.st, .int .i64 m.ct, .int .i64 m.ln, .slice c.ai m.is.length c.ci, .slice c.ao m.os.length c.co, .int .i64 m.tr] 30)) m c) := HR6.out.below (bx1 _ _)
  have HC7 : Hid (BoxM (u6.alloc (.cells #[.int .i64 m.pc, .slice c.ar m.rs.length c.cr, .int .i64 m.md, .slice c.ac m.cs.length c.cc, .slice c.av m.vs.length c.cv, .string m.mem, .int .i64 m.st, .int .i64 m.ct, .int .i64 m.ln, .slice c.ai m.is.length c.ci, .slice c.ao m.os.length c.co, .int .i64 m.tr] 30)) u6.heap.size m c) := (show BoxM _ _ _ _ from heap_new _ _)
  clear cl c0 c1 c2 c3 c4 c5 c6 c7 c8 c9 c10 c11 HN5 HN6 HR6
  generalize (u6.alloc (.cells #[.int .i64 m.pc, .slice c.ar m.rs.length c.cr, .int .i64 m.md, .slice c.ac m.cs.length c.cc, .slice c.av m.vs.length c.cv, .string m.mem, .int .i64 m.st, .int .i64 m.ct, .int .i64 m.ln, .slice c.ai m.is.length c.ci, .slice c.ao m.os.length c.co, .int .i64 m.tr] 30)) = u7 at *
  generalize u6.heap.size = C at *
  obtain ⟨d0, d1, d2, d3, d4, d5, d6, d7, d8, d9, d10, d11⟩ := HN7.out.cB
  have dl := HN7.out.lB
  go_upto_region 11 with (go_at_call 6; refine Calls.mono (HTB.out _ HN7.out) ?_; rintro e u8 ⟨d, rfl, ho, hb⟩; have HN8 : Hid (N2 w u8 A B m p a b) := HN7.out.step hb; have HR8 : Hid (MRows u8 m c) := HR7.out.below hb; have HC8 : Hid (BoxM u8 C m c) := HC7.out.below hb HC7.out.lt; have HS8 : Hid (MRows u8 p d) := ho; clear ho hb)
  have HL8 : Hid (L4 w (u8.alloc (.cells #[.int .i64 p.pc, .slice d.ar p.rs.length d.cr, .int .i64 p.md, .slice d.ac p.cs.length d.cc, .slice d.av p.vs.length d.cv, .string p.mem, .int .i64 p.st, .int .i64 p.ct, .int .i64 p.ln, .slice d.ai p.is.length d.ci, .slice d.ao p.os.length d.co, .int .i64 p.tr] 30)) A B C u8.heap.size m p a b c d) := (show L4 _ _ _ _ _ _ _ _ _ _ _ _ from ⟨HN8.out.step (bx1 _ _), HC8.out.below (bx1 _ _) HC8.out.lt, heap_new _ _, HR8.out.below (bx1 _ _), HS8.out.below (bx1 _ _)⟩)
  clear dl d0 d1 d2 d3 d4 d5 d6 d7 d8 d9 d10 d11 HN7 HR7 HC7 HN8 HR8 HC8 HS8
  generalize (u8.alloc (.cells #[.int .i64 p.pc, .slice d.ar p.rs.length d.cr, .int .i64 p.md, .slice d.ac p.cs.length d.cc, .slice d.av p.vs.length d.cv, .string p.mem, .int .i64 p.st, .int .i64 p.ct, .int .i64 p.ln, .slice d.ai p.is.length d.ci, .slice d.ao p.os.length d.co, .int .i64 p.tr] 30)) = u9 at *
  generalize u8.heap.size = D at *
  obtain ⟨c0, c1, c2, c3, c4, c5, c6, c7, c8, c9, c10, c11⟩ := HL8.out.bC.cel
  have cl := HL8.out.bC.lt
  obtain ⟨d0, d1, d2, d3, d4, d5, d6, d7, d8, d9, d10, d11⟩ := HL8.out.bD.cel
  have dl := HL8.out.bD.lt
  go_upto_region 14 with (go_at_call 7; refine Calls.mono (HIM.out _ c d HL8.out.rC HL8.out.rD) ?_; rintro e v9 ⟨rfl, hb⟩; have HL9' : Hid (L4 w v9 A B C D m p a b c d) := HL8.out.step hb; clear hb)
  have HL9 : Hid (L4 w v9.drew A B C D m p a b c d) := HL9'.out.step (bdn (Below.refl _ _) 1)
  clear cl dl c0 c1 c2 c3 c4 c5 c6 c7 c8 c9 c10 c11 d0 d1 d2 d3 d4 d5 d6 d7 d8 d9 d10 d11 HIM HL8 HL9'
  refine wp_region_held (S := fun w9 => L4 w w9 A B C D m p a b c d) (by kernel_rfl) ?_
  change wpAnyH _ _ _ _ _ _ _ _ (World.drew _)
  refine wpAnyH_take (i := 0) (v := .agg #[.int .i64 m.pc, .slice c.ar m.rs.length c.cr, .int .i64 m.md, .slice c.ac m.cs.length c.cc, .slice c.av m.vs.length c.cv, .string m.mem, .int .i64 m.st, .int .i64 m.ct, .int .i64 m.ln, .slice c.ai m.is.length c.ci, .slice c.ao m.os.length c.co, .int .i64 m.tr]) rfl (by kernel_rfl) (by kernel_rfl) (by kernel_rfl) (fun _ _ _ h => h) (Or.inl ⟨by kernel_rfl, fun w9 h9 => ?_⟩) HL9.out ?_
  · obtain ⟨c0, c1, c2, c3, c4, c5, c6, c7, c8, c9, c10, c11⟩ := h9.n2.cA; obtain ⟨d0, d1, d2, d3, d4, d5, d6, d7, d8, d9, d10, d11⟩ := h9.bC.cel; have cl := h9.n2.lA; have dl := h9.bC.lt; clear h9; go_simp
  refine wpAnyH_take (i := 1) (v := .agg #[.int .i64 m.pc, .slice a.ar m.rs.length a.cr, .int .i64 m.md, .slice a.ac m.cs.length a.cc, .slice a.av m.vs.length a.cv, .string m.mem, .int .i64 m.st, .int .i64 m.ct, .int .i64 m.ln, .slice a.ai m.is.length a.ci, .slice a.ao m.os.length a.co, .int .i64 m.tr]) rfl (by kernel_rfl) (by kernel_rfl) (by kernel_rfl) (fun _ _ _ h => h) (Or.inl ⟨by kernel_rfl, fun w9 h9 => ?_⟩) HL9.out ?_
  · obtain ⟨c0, c1, c2, c3, c4, c5, c6, c7, c8, c9, c10, c11⟩ := h9.n2.cA; obtain ⟨d0, d1, d2, d3, d4, d5, d6, d7, d8, d9, d10, d11⟩ := h9.bC.cel; have cl := h9.n2.lA; have dl := h9.bC.lt; clear h9; go_simp
  refine held_one 2 (by kernel_rfl) rfl (by kernel_rfl) fun K hK => ?_
  go_simp
  go_wp2_with (go_at_call 6; refine Calls.mono (HTA.out _ HL9.out.n2) ?_; rintro e u10 ⟨a3, rfl, ho, hb⟩; have HL10 : Hid (L4 w u10 A B C D m p a b c d) := HL9.out.step hb; have HR10 : Hid (MRows u10 m a3) := ho; clear ho hb)
  refine hK _ _ HL10.out ?_
  clear hK K
  refine held_one 3 (by kernel_rfl) rfl (by kernel_rfl) fun K hK => ?_
  go_simp
  go_wp2_with (go_at_call 8; refine Calls.mono (eqMachine_ok HL10.out.rC HR10.out HLM.out) ?_; rintro e u11 ⟨rfl, hb⟩; have HL11 : Hid (L4 w u11 A B C D m p a b c d) := HL10.out.step hb; clear hb HR10)
  refine hK _ _ HL11.out ?_
  clear hK K
  refine wpAnyH_take (i := 4) (v := .bool false) rfl (by kernel_rfl) (by kernel_rfl) (by kernel_rfl) (fun _ _ _ h => h) (Or.inl ⟨by kernel_rfl, fun w9 h9 => ?_⟩) HL11.out ?_
  · go_simp
  refine wpAnyH_done (by kernel_rfl) ?_ _
  go_simp
  go_upto_region 16 with fail
  have HL12 : Hid (L4 w u11.drew A B C D m p a b c d) := HL11.out.step (bdn (Below.refl _ _) 1)
  refine wp_region_held (S := fun w9 => L4 w w9 A B C D m p a b c d) (by kernel_rfl) ?_
  change wpAnyH _ _ _ _ _ _ _ _ (World.drew _)
  refine wpAnyH_take (i := 0) (v := .agg #[.int .i64 p.pc, .slice d.ar p.rs.length d.cr, .int .i64 p.md, .slice d.ac p.cs.length d.cc, .slice d.av p.vs.length d.cv, .string p.mem, .int .i64 p.st, .int .i64 p.ct, .int .i64 p.ln, .slice d.ai p.is.length d.ci, .slice d.ao p.os.length d.co, .int .i64 p.tr]) rfl (by kernel_rfl) (by kernel_rfl) (by kernel_rfl) (fun _ _ _ h => h) (Or.inl ⟨by kernel_rfl, fun w9 h9 => ?_⟩) HL12.out ?_
  · obtain ⟨c0, c1, c2, c3, c4, c5, c6, c7, c8, c9, c10, c11⟩ := h9.n2.cB; obtain ⟨d0, d1, d2, d3, d4, d5, d6, d7, d8, d9, d10, d11⟩ := h9.bD.cel; have cl := h9.n2.lB; have dl := h9.bD.lt; clear h9; go_simp
  refine wpAnyH_take (i := 1) (v := .agg #[.int .i64 p.pc, .slice b.ar p.rs.length b.cr, .int .i64 p.md, .slice b.ac p.cs.length b.cc, .slice b.av p.vs.length b.cv, .string p.mem, .int .i64 p.st, .int .i64 p.ct, .int .i64 p.ln, .slice b.ai p.is.length b.ci, .slice b.ao p.os.length b.co, .int .i64 p.tr]) rfl (by kernel_rfl) (by kernel_rfl) (by kernel_rfl) (fun _ _ _ h => h) (Or.inl ⟨by kernel_rfl, fun w9 h9 => ?_⟩) HL12.out ?_
  · obtain ⟨c0, c1, c2, c3, c4, c5, c6, c7, c8, c9, c10, c11⟩ := h9.n2.cB; obtain ⟨d0, d1, d2, d3, d4, d5, d6, d7, d8, d9, d10, d11⟩ := h9.bD.cel; have cl := h9.n2.lB; have dl := h9.bD.lt; clear h9; go_simp
  refine held_one 2 (by kernel_rfl) rfl (by kernel_rfl) fun K hK => ?_
  go_simp
  go_wp2_with (go_at_call 6; refine Calls.mono (HTB.out _ HL12.out.n2) ?_; rintro e u13 ⟨b3, rfl, ho, hb⟩; have HL13 : Hid (L4 w u13 A B C D m p a b c d) := HL12.out.step hb; have HR13 : Hid (MRows u13 p b3) := ho; clear ho hb)
  refine hK _ _ HL13.out ?_
  clear hK K
  refine held_one 3 (by kernel_rfl) rfl (by kernel_rfl) fun K hK => ?_
  go_simp
  go_wp2_with (go_at_call 8; refine Calls.mono (eqMachine_ok HL13.out.rD HR13.out HLP.out) ?_; rintro e u14 ⟨rfl, hb⟩; have HL14 : Hid (L4 w u14 A B C D m p a b c d) := HL13.out.step hb; clear hb HR13)
  refine hK _ _ HL14.out ?_
  clear hK K
  refine wpAnyH_take (i := 4) (v := .bool false) rfl (by kernel_rfl) (by kernel_rfl) (by kernel_rfl) (fun _ _ _ h => h) (Or.inl ⟨by kernel_rfl, fun w9 h9 => ?_⟩) HL14.out ?_
  · go_simp
  refine wpAnyH_done (by kernel_rfl) ?_ _
  go_simp
  go_wp2
  go_ret
  exact ⟨rfl, by first | exact HL14.out.n2.bel | (rw [← HA0.out]; exact HL14.out.n2.bel)⟩

theorem cM : Try.prog.cellsOf 25 = 12 := by kernel_rfl
theorem cIS : Try.prog.cellsOf 22 = 1 := by kernel_rfl
theorem cPS : Try.prog.cellsOf 23 = 1 := by kernel_rfl
theorem cI : Try.prog.cellsOf 2 = 1 := by kernel_rfl
theorem cSt : Try.prog.cellsOf 9 = 1 := by kernel_rfl
theorem array12 {α : Type} {cs : Array α} (h : cs.size = 12) : ∃ c0 c1 c2 c3 c4 c5 c6 c7 c8 c9 c10 c11, cs = #[c0, c1, c2, c3, c4, c5, c6, c7, c8, c9, c10, c11] := by
  obtain ⟨l⟩ := cs
  match l, h with
  | [c0, c1, c2, c3, c4, c5, c6, c7, c8, c9, c10, c11], _ => exact ⟨c0, c1, c2, c3, c4, c5, c6, c7, c8, c9, c10, c11, rfl⟩
set_option maxRecDepth 100000 in
theorem open_mac {H : Type} {enc : TypeId × Value → H} {W : World} {base : Nat} {v : Value} {d : DataW H} {p : List MemPlace} (hv : Value.okWide Try.prog W .any base 25 v)
    (h : DataW.Trod enc Try.prog W 0 (fun _ => true) true 25 v d p) : ∃ (m : MV) (a : MA), v = .agg (mC m a) ∧ MRows W m a ∧ MMax m := by
  obtain ⟨cs, rfl, hsz⟩ := okWide_struct Try.underlying25 hv
  obtain ⟨x0, x1, x2, x3, x4, x5, x6, x7, x8, x9, x10, x11, rfl⟩ := array12 (hsz.trans cM)
  obtain ⟨fuel, hf⟩ := h
  obtain ⟨xs, n, _, hx, _, hlen, hel⟩ := DataW.trod_struct Try.underlying25 hf
  match xs, hlen, hel, hx with
  | [y0, y1, y2, y3, y4, y5, y6, y7, y8, y9, y10, y11], _, hel, hx =>
    have g0 := hel 0 _ rfl
    have g1 := hel 1 _ rfl
    have g2 := hel 2 _ rfl
    have g3 := hel 3 _ rfl
    have g4 := hel 4 _ rfl
    have g5 := hel 5 _ rfl
    have g6 := hel 6 _ rfl
    have g7 := hel 7 _ rfl
    have g8 := hel 8 _ rfl
    have g9 := hel 9 _ rfl
    have g10 := hel 10 _ rfl
    have g11 := hel 11 _ rfl
    simp only [Value.cells] at g0 g1 g2 g3 g4 g5 g6 g7 g8 g9 g10 g11
    obtain ⟨z0, e0, _, _⟩ := DataW.trod_int Try.underlying2 g0
    obtain ⟨z2, e2, _, _⟩ := DataW.trod_int Try.underlying2 g2
    obtain ⟨z6, e6, _, _⟩ := DataW.trod_int Try.underlying2 g6
    obtain ⟨z7, e7, _, _⟩ := DataW.trod_int Try.underlying2 g7
    obtain ⟨z8, e8, _, _⟩ := DataW.trod_int Try.underlying2 g8
    obtain ⟨z11, e11, _, _⟩ := DataW.trod_int Try.underlying2 g11
    obtain ⟨z5, e5, _, m5⟩ := DataW.trod_string Try.underlying9 g5
    simp [cI] at e0 e2 e6 e7 e8 e11
    simp [cSt] at e5
    subst e0 e2 e6 e7 e8 e11 e5
    have k1 : DataW.trod enc Try.prog W 0 (fun _ => true) true n 22 [x1] = some y1 := by simpa [cIS] using g1
    obtain ⟨l1, r1, w1⟩ := open_iS k1
    obtain ⟨a1, c1, rfl⟩ := r1.sl
    have k3 : DataW.trod enc Try.prog W 0 (fun _ => true) true n 22 [x3] = some y3 := by simpa [cIS] using g3
    obtain ⟨l3, r3, w3⟩ := open_iS k3
    obtain ⟨a3, c3, rfl⟩ := r3.sl
    have k4 : DataW.trod enc Try.prog W 0 (fun _ => true) true n 22 [x4] = some y4 := by simpa [cIS] using g4
    obtain ⟨l4, r4, w4⟩ := open_iS k4
    obtain ⟨a4, c4, rfl⟩ := r4.sl
    have k9 : DataW.trod enc Try.prog W 0 (fun _ => true) true n 23 [x9] = some y9 := by simpa [cPS] using g9
    obtain ⟨l9, r9, w9⟩ := open_pvS k9
    obtain ⟨a9, c9, rfl⟩ := r9.sl
    have k10 : DataW.trod enc Try.prog W 0 (fun _ => true) true n 23 [x10] = some y10 := by simpa [cPS] using g10
    obtain ⟨l10, r10, w10⟩ := open_pvS k10
    obtain ⟨a10, c10, rfl⟩ := r10.sl
    exact ⟨⟨z0, l1, z2, l3, l4, z5, z6, z7, z8, l9, l10, z11⟩, ⟨a1, c1, a3, c3, a4, c4, a9, c9, a10, c10⟩, rfl, ⟨r1, r3, r4, r9, r10⟩, ⟨w1, w3, w4, w9, w10, m5⟩⟩
end Go.Proofs.Ytmbdclbddbbdpaa
