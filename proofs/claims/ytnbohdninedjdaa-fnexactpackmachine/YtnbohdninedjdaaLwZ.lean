import Derived.Test.YtnbohdninedjdaaPlain
import Derived.RegionTactic
import Derived.Test.YtnbohdninedjdaaNewM3
import Derived.Test.YtnbohdninedjdaaMFm
import Derived.Test.YtnbohdninedjdaaMFd
import Derived.Test.YtnbohdninedjdaaMFe
import Derived.Deep.RegionHeld3
import Derived.Test.YtnbohdninedjdaaKm5
namespace Go.Proofs.Ytnbohdninedjdaa
open Go.ChangeShapes Go.WideShapes Go.ChangeAt Go.RowKit

/-- How many have not come up yet. -/
def left (L : Array Bool) : Nat := L.toList.countP (fun b => !b)
theorem left_set {L : Array Bool} {i : Nat} (h : L.getD i true = false) : left (L.setIfInBounds i true) + 1 = left L := by
  have hi : i < L.size := by
    rcases Nat.lt_or_ge i L.size with h' | h'
    · exact h'
    · simp [Array.getD, Nat.not_lt.2 h'] at h
  have hv : L[i] = false := by simpa [Array.getD, hi] using h
  unfold left
  rw [Array.toList_setIfInBounds]
  have e : L.toList = L.toList.take i ++ (false :: L.toList.drop (i + 1)) := by
    have h2 : L.toList[i]'(by simpa using hi) = false := by simpa using hv
    rw [← h2, List.getElem_cons_drop, List.take_append_drop]
  have hl : (L.toList.take i).length = i := by rw [List.length_take]; simp; omega
  have e2 : L.toList.set i true = L.toList.take i ++ (true :: L.toList.drop (i + 1)) := by
    conv => lhs; rw [e]
    rw [List.set_append_right _ _ (by omega), hl, Nat.sub_self, List.set_cons_zero]
  rw [e2]
  conv => rhs; rw [e]
  simp [List.countP_append]
  omega
theorem ready_of_left {md : Region.Mode} {ops : Array Oper} {L : Array Bool} (h : left L = 0) : Region.ready md ops L = [] := by
  rw [List.eq_nil_iff_forall_not_mem]
  intro i hi
  have h1 := (mem_ready.1 hi).1
  have := left_set h1
  omega
/-- A region by what holds whichever operations have come up. -/
theorem wpAny_inv {P : Program} {md : Region.Mode} {ops : Array Oper} {Q : Exit → Act → World → Prop} (I : Array Bool → Act → World → Prop)
    (hs : ∀ L a w i, I L a w → i ∈ Region.ready md ops L → wpOp P ops Q i (fun a' w' => I (L.setIfInBounds i true) a' w') a w)
    (hd : ∀ L a w, I L a w → Region.ready md ops L = [] → Q .normal a w) : ∀ (fuel : Nat) (L : Array Bool) (a : Act) (w : World), left L ≤ fuel → I L a w → wpAny P md ops Q fuel L a w
  | 0, L, a, w, hl, hI => by
    have h0 := ready_of_left (md := md) (ops := ops) (Nat.le_zero.1 hl)
    exact ⟨h0, hd L a w hI h0⟩
  | fuel + 1, L, a, w, hl, hI => by
    refine ⟨hd L a w hI, fun i hi => wpOp_mono (fun a' w' h => wpAny_inv I hs hd fuel _ a' w' ?_ h) (hs L a w i hI hi)⟩
    have := left_set (mem_ready.1 hi).1
    omega

def zBox : Obj := .cells #[.int .i64 0, .slice none 0 0, .int .i64 0, .slice none 0 0, .slice none 0 0, .string ⟨#[]⟩, .int .i64 0, .int .i64 0, .int .i64 0, .slice none 0 0, .slice none 0 0, .int .i64 0] 41 (0, 0)
theorem blk_set {u : World} {b : Nat} {cs : Array Value} {t : TypeId} {z : Nat × Nat} (h : u.heap[b]? = some (.cells cs t z)) (o : Nat) (v : Value) : (u.setCell ⟨b, o, none⟩ v).heap[b]? = some (.cells (cs.setIfInBounds o v) t z) := by
  simp [World.setCell, Array.getElem?_modify, h]
theorem st12 {B : Nat} {w u : World} {b : Nat} {t : TypeId} {a0 a1 a2 a3 a4 a5 a6 a7 a8 a9 a10 a11 : Value} (hb : Below B w u) (hB : B ≤ b) (h : u.heap[b]? = some (.cells #[a0, a1, a2, a3, a4, a5, a6, a7, a8, a9, a10, a11] t (0, 0))) (v0 v1 v2 v3 v4 v5 v6 v7 v8 v9 v10 v11 : Value) {U : World}
    (hU : ((((((((((((u.setCell ⟨b, 0, none⟩ v0).setCell ⟨b, 1, none⟩ v1).setCell ⟨b, 2, none⟩ v2).setCell ⟨b, 3, none⟩ v3).setCell ⟨b, 4, none⟩ v4).setCell ⟨b, 5, none⟩ v5).setCell ⟨b, 6, none⟩ v6).setCell ⟨b, 7, none⟩ v7).setCell ⟨b, 8, none⟩ v8).setCell ⟨b, 9, none⟩ v9).setCell ⟨b, 10, none⟩ v10).setCell ⟨b, 11, none⟩ v11) = U) : Below B w U ∧ U.heap[b]? = some (.cells #[v0, v1, v2, v3, v4, v5, v6, v7, v8, v9, v10, v11] t (0, 0)) ∧ (∀ k, k ≠ b → U.heap[k]? = u.heap[k]?) := by
  subst hU
  refine ⟨?_, ?_, fun k hk => ?_⟩
  · exact ((((((((((((hb.setCell (p := ⟨b, 0, none⟩) hB _).setCell (p := ⟨b, 1, none⟩) hB _).setCell (p := ⟨b, 2, none⟩) hB _).setCell (p := ⟨b, 3, none⟩) hB _).setCell (p := ⟨b, 4, none⟩) hB _).setCell (p := ⟨b, 5, none⟩) hB _).setCell (p := ⟨b, 6, none⟩) hB _).setCell (p := ⟨b, 7, none⟩) hB _).setCell (p := ⟨b, 8, none⟩) hB _).setCell (p := ⟨b, 9, none⟩) hB _).setCell (p := ⟨b, 10, none⟩) hB _).setCell (p := ⟨b, 11, none⟩) hB _)
  · have h0 := blk_set h 0 v0
    have h1 := blk_set h0 1 v1
    have h2 := blk_set h1 2 v2
    have h3 := blk_set h2 3 v3
    have h4 := blk_set h3 4 v4
    have h5 := blk_set h4 5 v5
    have h6 := blk_set h5 6 v6
    have h7 := blk_set h6 7 v7
    have h8 := blk_set h7 8 v8
    have h9 := blk_set h8 9 v9
    have h10 := blk_set h9 10 v10
    have h11 := blk_set h10 11 v11
    simpa using h11
  · iterate 12 rw [Below.heap_setCell _ _ _ _ hk]

def szM (m : MV) : Bool := decide ((m.rs.length : Int) + m.cs.length + m.vs.length + m.mem.size + m.is.length + m.os.length ≤ 1048576)
structure MMax (m : MV) : Prop where
  r : m.rs.length ≤ maxLen
  c : m.cs.length ≤ maxLen
  v : m.vs.length ≤ maxLen
  i : m.is.length ≤ maxLen
  o : m.os.length ≤ maxLen
  s : m.mem.size ≤ maxLen
theorem boxC {w u : World} {m : MV} {a : MA} {t : Nat} (hu : Below (w.alloc (.cells (mC m a) t)).heap.size (w.alloc (.cells (mC m a) t)) u) : u.heap[w.heap.size]? = some (.cells (mC m a) t (0, 0)) := (hu.block _ (by simp)).trans (heap_new _ _)
set_option maxRecDepth 100000 in
set_option maxHeartbeats 4000000 in
theorem szMachine_any (w : World) (m : MV) (a : MA) (h : MMax m) : Calls Try.prog 18 #[.agg (mC m a), .int .i64 1048576] w fun e w' => ∃ r, e = .returned (.int .i64 r) ∧ decide (r < 0) = !szM m ∧ Below w.heap.size w w' := by
  obtain ⟨h1, h2, h3, h4, h5, h6⟩ := h
  have hmx : maxLen ≤ 9223372036854775807 := by decide
  have HZ1 := fun (l : Int) (w : World) (h0 : 0 ≤ l) (hh : l ≤ 1048576) => szIS_any a.ar m.rs.length a.cr l w h0 hh h1
  have HZ2 := fun (l : Int) (w : World) (h0 : 0 ≤ l) (hh : l ≤ 1048576) => szIS_any a.ac m.cs.length a.cc l w h0 hh h2
  have HZ3 := fun (l : Int) (w : World) (h0 : 0 ≤ l) (hh : l ≤ 1048576) => szIS_any a.av m.vs.length a.cv l w h0 hh h3
  have HZ4 := fun (l : Int) (w : World) (h0 : 0 ≤ l) (hh : l ≤ 1048576) => szPVS_any a.ai m.is.length a.ci l w h0 hh h4
  have HZ5 := fun (l : Int) (w : World) (h0 : 0 ≤ l) (hh : l ≤ 1048576) => szPVS_any a.ao m.os.length a.co l w h0 hh h5
  obtain ⟨n1, e1⟩ : ∃ n, m.rs.length = n := ⟨_, rfl⟩
  obtain ⟨n2, e2⟩ : ∃ n, m.cs.length = n := ⟨_, rfl⟩
  obtain ⟨n3, e3⟩ : ∃ n, m.vs.length = n := ⟨_, rfl⟩
  obtain ⟨n4, e4⟩ : ∃ n, m.is.length = n := ⟨_, rfl⟩
  obtain ⟨n5, e5⟩ : ∃ n, m.os.length = n := ⟨_, rfl⟩
  obtain ⟨n6, e6⟩ : ∃ n, m.mem.size = n := ⟨_, rfl⟩
  rw [e6] at h6
  have hw6 : ∀ l : Int, 0 ≤ l → l ≤ 1048576 → IntKind.i64.wrap (l - (n6 : Int)) = l - n6 := fun l h0 h1 => by rw [IntKind.wrap_i64]; omega
  have HSZ : Hid (szM m = decide ((n1 : Int) + n2 + n3 + n6 + n4 + n5 ≤ 1048576)) := (show szM m = _ by unfold szM; rw [e1, e2, e3, e4, e5, e6])
  rw [e1] at HZ1
  rw [e2] at HZ2
  rw [e3] at HZ3
  rw [e4] at HZ4
  rw [e5] at HZ5
  unfold mC
  rw [e1, e2, e3, e4, e5]
  have HZ1H : Hid _ := HZ1
  have HZ2H : Hid _ := HZ2
  have HZ3H : Hid _ := HZ3
  have HZ4H : Hid _ := HZ4
  have HZ5H : Hid _ := HZ5
  have HBX : Hid (Below w.heap.size w (w.alloc (.cells #[.int .i64 m.pc, .slice a.ar n1 a.cr, .int .i64 m.md, .slice a.ac n2 a.cc, .slice a.av n3 a.cv, .string m.mem, .int .i64 m.st, .int .i64 m.ct, .int .i64 m.ln, .slice a.ai n4 a.ci, .slice a.ao n5 a.co, .int .i64 m.tr] 36))) := (Below.refl _ _).alloc (Nat.le_refl _) _
  clear HZ1 HZ2 HZ3 HZ4 HZ5 e1 e2 e3 e4 e5 h1 h2 h3 h4 h5
  obtain ⟨l0, hl0⟩ : ∃ l : Int, l = 1048576 := ⟨_, rfl⟩
  have b00 : 0 ≤ l0 := by omega
  have b01 : l0 ≤ 1048576 := by omega
  rw [← hl0]
  by_cases q0 : l0 < (n1 : Int)
  · have hd : decide ((-1 : Int) < 0) = (!szM m) := by
      rw [HSZ.out]
      have hz : decide ((n1 : Int) + n2 + n3 + n6 + n4 + n5 ≤ 1048576) = false := decide_eq_false (by omega)
      rw [hz]
      rfl
    have z0 := fun w' => HZ1H.out l0 w' (by omega) (by omega)
    rw [if_pos q0] at z0
    have Z0 : Hid _ := z0
    clear z0
    have HD : Hid _ := hd
    clear hd q0 hl0 b00 b01
    go_enter Try.func18, Try.ntmps18
    go_wp2_with (first | (go_at_call 34; refine Calls.mono (Z0.out _) ?_; rintro e u0 ⟨rfl, hu0⟩; rw [hu0]; clear hu0 Z0))
    go_ret
    exact ⟨-1, rfl, HD.out, HBX.out⟩
  · obtain ⟨l1, hl1⟩ : ∃ l : Int, l = l0 - n1 := ⟨_, rfl⟩
    have b10 : 0 ≤ l1 := by omega
    have b11 : l1 ≤ 1048576 := by omega
    have t1 : ¬ l1 < 0 := by omega
    have z0 := fun w' => HZ1H.out l0 w' (by omega) (by omega)
    rw [if_neg q0, ← hl1] at z0
    have Z0 : Hid _ := z0
    clear z0
    by_cases q1 : l1 < (n2 : Int)
    · have hd : decide ((-1 : Int) < 0) = (!szM m) := by
        rw [HSZ.out]
        have hz : decide ((n1 : Int) + n2 + n3 + n6 + n4 + n5 ≤ 1048576) = false := decide_eq_false (by omega)
        rw [hz]
        rfl
      have z1 := fun w' => HZ2H.out l1 w' (by omega) (by omega)
      rw [if_pos q1] at z1
      have Z1 : Hid _ := z1
      clear z1
      have HD : Hid _ := hd
      clear hd q0 q1 hl0 b00 b01 hl1 b10 b11
      go_enter Try.func18, Try.ntmps18
      go_wp2_with (first | (go_at_call 34; refine Calls.mono (Z0.out _) ?_; rintro e u0 ⟨rfl, hu0⟩; rw [hu0]; clear hu0 Z0) | (go_at_call 34; refine Calls.mono (Z1.out _) ?_; rintro e u1 ⟨rfl, hu1⟩; rw [hu1]; clear hu1 Z1))
      go_ret
      exact ⟨-1, rfl, HD.out, HBX.out⟩
    · obtain ⟨l2, hl2⟩ : ∃ l : Int, l = l1 - n2 := ⟨_, rfl⟩
      have b20 : 0 ≤ l2 := by omega
      have b21 : l2 ≤ 1048576 := by omega
      have t2 : ¬ l2 < 0 := by omega
      have z1 := fun w' => HZ2H.out l1 w' (by omega) (by omega)
      rw [if_neg q1, ← hl2] at z1
      have Z1 : Hid _ := z1
      clear z1
      by_cases q2 : l2 < (n3 : Int)
      · have hd : decide ((-1 : Int) < 0) = (!szM m) := by
          rw [HSZ.out]
          have hz : decide ((n1 : Int) + n2 + n3 + n6 + n4 + n5 ≤ 1048576) = false := decide_eq_false (by omega)
          rw [hz]
          rfl
        have z2 := fun w' => HZ3H.out l2 w' (by omega) (by omega)
        rw [if_pos q2] at z2
        have Z2 : Hid _ := z2
        clear z2
        have HD : Hid _ := hd
        clear hd q0 q1 q2 hl0 b00 b01 hl1 b10 b11 hl2 b20 b21
        go_enter Try.func18, Try.ntmps18
        go_wp2_with (first | (go_at_call 34; refine Calls.mono (Z0.out _) ?_; rintro e u0 ⟨rfl, hu0⟩; rw [hu0]; clear hu0 Z0) | (go_at_call 34; refine Calls.mono (Z1.out _) ?_; rintro e u1 ⟨rfl, hu1⟩; rw [hu1]; clear hu1 Z1) | (go_at_call 34; refine Calls.mono (Z2.out _) ?_; rintro e u2 ⟨rfl, hu2⟩; rw [hu2]; clear hu2 Z2))
        go_ret
        exact ⟨-1, rfl, HD.out, HBX.out⟩
      · obtain ⟨l3, hl3⟩ : ∃ l : Int, l = l2 - n3 := ⟨_, rfl⟩
        have b30 : 0 ≤ l3 := by omega
        have b31 : l3 ≤ 1048576 := by omega
        have t3 : ¬ l3 < 0 := by omega
        have z2 := fun w' => HZ3H.out l2 w' (by omega) (by omega)
        rw [if_neg q2, ← hl3] at z2
        have Z2 : Hid _ := z2
        clear z2
        by_cases q3 : l3 < (n6 : Int)
        · have hd : decide ((-1 : Int) < 0) = (!szM m) := by
            rw [HSZ.out]
            have hz : decide ((n1 : Int) + n2 + n3 + n6 + n4 + n5 ≤ 1048576) = false := decide_eq_false (by omega)
            rw [hz]
            rfl
          have hw7 := hw6 l3 b30 b31
          have hneg : l3 - (n6 : Int) < 0 := by omega
          have HD : Hid _ := hd
          clear hd q0 q1 q2 q3 hl0 b00 b01 hl1 b10 b11 hl2 b20 b21 hl3 b30 b31
          go_enter Try.func18, Try.ntmps18
          go_wp2_with (first | (go_at_call 34; refine Calls.mono (Z0.out _) ?_; rintro e u0 ⟨rfl, hu0⟩; rw [hu0]; clear hu0 Z0) | (go_at_call 34; refine Calls.mono (Z1.out _) ?_; rintro e u1 ⟨rfl, hu1⟩; rw [hu1]; clear hu1 Z1) | (go_at_call 34; refine Calls.mono (Z2.out _) ?_; rintro e u2 ⟨rfl, hu2⟩; rw [hu2]; clear hu2 Z2))
          go_ret
          exact ⟨-1, rfl, HD.out, HBX.out⟩
        · obtain ⟨l4, hl4⟩ : ∃ l : Int, l = l3 - n6 := ⟨_, rfl⟩
          have b40 : 0 ≤ l4 := by omega
          have b41 : l4 ≤ 1048576 := by omega
          have t4 : ¬ l4 < 0 := by omega
          have hw8 : IntKind.i64.wrap (l3 - (n6 : Int)) = l4 := (hw6 l3 b30 b31).trans hl4.symm
          by_cases q4 : l4 < (n4 : Int)
          · have hd : decide ((-1 : Int) < 0) = (!szM m) := by
              rw [HSZ.out]
              have hz : decide ((n1 : Int) + n2 + n3 + n6 + n4 + n5 ≤ 1048576) = false := decide_eq_false (by omega)
              rw [hz]
              rfl
            have z4 := fun w' => HZ4H.out l4 w' (by omega) (by omega)
            rw [if_pos q4] at z4
            have Z4 : Hid _ := z4
            clear z4
            have HD : Hid _ := hd
            clear hd q0 q1 q2 q3 q4 hl0 b00 b01 hl1 b10 b11 hl2 b20 b21 hl3 b30 b31 hl4 b40 b41
            go_enter Try.func18, Try.ntmps18
            go_wp2_with (first | (go_at_call 34; refine Calls.mono (Z0.out _) ?_; rintro e u0 ⟨rfl, hu0⟩; rw [hu0]; clear hu0 Z0) | (go_at_call 34; refine Calls.mono (Z1.out _) ?_; rintro e u1 ⟨rfl, hu1⟩; rw [hu1]; clear hu1 Z1) | (go_at_call 34; refine Calls.mono (Z2.out _) ?_; rintro e u2 ⟨rfl, hu2⟩; rw [hu2]; clear hu2 Z2) | (go_at_call 35; refine Calls.mono (Z4.out _) ?_; rintro e u4 ⟨rfl, hu4⟩; rw [hu4]; clear hu4 Z4))
            go_ret
            exact ⟨-1, rfl, HD.out, HBX.out⟩
          · obtain ⟨l5, hl5⟩ : ∃ l : Int, l = l4 - n4 := ⟨_, rfl⟩
            have b50 : 0 ≤ l5 := by omega
            have b51 : l5 ≤ 1048576 := by omega
            have t5 : ¬ l5 < 0 := by omega
            have z4 := fun w' => HZ4H.out l4 w' (by omega) (by omega)
            rw [if_neg q4, ← hl5] at z4
            have Z4 : Hid _ := z4
            clear z4
            by_cases q5 : l5 < (n5 : Int)
            · have hd : decide ((-1 : Int) < 0) = (!szM m) := by
                rw [HSZ.out]
                have hz : decide ((n1 : Int) + n2 + n3 + n6 + n4 + n5 ≤ 1048576) = false := decide_eq_false (by omega)
                rw [hz]
                rfl
              have z5 := fun w' => HZ5H.out l5 w' (by omega) (by omega)
              rw [if_pos q5] at z5
              have Z5 : Hid _ := z5
              clear z5
              have HD : Hid _ := hd
              clear hd q0 q1 q2 q3 q4 q5 hl0 b00 b01 hl1 b10 b11 hl2 b20 b21 hl3 b30 b31 hl4 b40 b41 hl5 b50 b51
              go_enter Try.func18, Try.ntmps18
              go_wp2_with (first | (go_at_call 34; refine Calls.mono (Z0.out _) ?_; rintro e u0 ⟨rfl, hu0⟩; rw [hu0]; clear hu0 Z0) | (go_at_call 34; refine Calls.mono (Z1.out _) ?_; rintro e u1 ⟨rfl, hu1⟩; rw [hu1]; clear hu1 Z1) | (go_at_call 34; refine Calls.mono (Z2.out _) ?_; rintro e u2 ⟨rfl, hu2⟩; rw [hu2]; clear hu2 Z2) | (go_at_call 35; refine Calls.mono (Z4.out _) ?_; rintro e u4 ⟨rfl, hu4⟩; rw [hu4]; clear hu4 Z4) | (go_at_call 35; refine Calls.mono (Z5.out _) ?_; rintro e u5 ⟨rfl, hu5⟩; rw [hu5]; clear hu5 Z5))
              go_ret
              exact ⟨-1, rfl, HD.out, HBX.out⟩
            · obtain ⟨l6, hl6⟩ : ∃ l : Int, l = l5 - n5 := ⟨_, rfl⟩
              have b60 : 0 ≤ l6 := by omega
              have b61 : l6 ≤ 1048576 := by omega
              have t6 : ¬ l6 < 0 := by omega
              have z5 := fun w' => HZ5H.out l5 w' (by omega) (by omega)
              rw [if_neg q5, ← hl6] at z5
              have Z5 : Hid _ := z5
              clear z5
              have hd : decide (l6 < 0) = (!szM m) := by
                rw [HSZ.out]
                have hz : decide ((n1 : Int) + n2 + n3 + n6 + n4 + n5 ≤ 1048576) = true := decide_eq_true (by omega)
                rw [hz]
                exact decide_eq_false t6
              have HD : Hid _ := hd
              clear hd q0 q1 q2 q3 q4 q5 hl0 b00 b01 hl1 b10 b11 hl2 b20 b21 hl3 b30 b31 hl4 b40 b41 hl5 b50 b51 hl6 b60 b61
              go_enter Try.func18, Try.ntmps18
              go_wp2_with (first | (go_at_call 34; refine Calls.mono (Z0.out _) ?_; rintro e u0 ⟨rfl, hu0⟩; rw [hu0]; clear hu0 Z0) | (go_at_call 34; refine Calls.mono (Z1.out _) ?_; rintro e u1 ⟨rfl, hu1⟩; rw [hu1]; clear hu1 Z1) | (go_at_call 34; refine Calls.mono (Z2.out _) ?_; rintro e u2 ⟨rfl, hu2⟩; rw [hu2]; clear hu2 Z2) | (go_at_call 35; refine Calls.mono (Z4.out _) ?_; rintro e u4 ⟨rfl, hu4⟩; rw [hu4]; clear hu4 Z4) | (go_at_call 35; refine Calls.mono (Z5.out _) ?_; rintro e u5 ⟨rfl, hu5⟩; rw [hu5]; clear hu5 Z5))
              go_ret
              exact ⟨_, rfl, HD.out, HBX.out⟩

/-- A copy under way: the argument's box, the answer's, and the one at work. -/
structure TO (w u : World) (m : MV) (a : MA) (out : Array Value) : Prop where
  bel : Below w.heap.size w u
  b0 : u.heap[w.heap.size]? = some (.cells (mC m a) 36 (0, 0))
  b1 : u.heap[w.heap.size + 1]? = some zBox
  b2 : u.heap[w.heap.size + 1 + 1]? = some (.cells out 41 (0, 0))
theorem TO.lt {w u : World} {m : MV} {a : MA} {out : Array Value} (h : TO w u m a out) : w.heap.size + 1 + 1 < u.heap.size := (Array.getElem?_eq_some_iff.1 h.b2).1
theorem TO.step {w u u' : World} {m : MV} {a : MA} {out : Array Value} (h : TO w u m a out) (hb : Below u.heap.size u u') : TO w u' m a out := by
  have := h.lt
  exact ⟨h.bel.trans (hb.mono h.bel.size), (hb.block _ (by omega)).trans h.b0, (hb.block _ (by omega)).trans h.b1, (hb.block _ (by omega)).trans h.b2⟩
theorem TO.set {w u : World} {m : MV} {a : MA} {out : Array Value} (h : TO w u m a out) (o : Nat) (v : Value) : TO w (u.setCell ⟨w.heap.size + 1 + 1, o, none⟩ v) m a (out.setIfInBounds o v) :=
  ⟨h.bel.setCell (by simp only; omega) _, (Below.heap_setCell _ _ _ _ (by simp only; omega)).trans h.b0, (Below.heap_setCell _ _ _ _ (by simp only; omega)).trans h.b1, blk_set h.b2 o v⟩
theorem TO.new (w : World) (m : MV) (a : MA) (out : Array Value) : TO w (((w.alloc (.cells (mC m a) 36)).alloc zBox).alloc (.cells out 41)) m a out := by
  have h0 : (((w.alloc (.cells (mC m a) 36)).alloc zBox).alloc (.cells out 41)).heap[w.heap.size]? = some (.cells (mC m a) 36) := by
    rw [Below.heap_alloc _ _ _ (by simp; omega), Below.heap_alloc _ _ _ (by simp)]
    exact heap_new _ _
  have h1 : (((w.alloc (.cells (mC m a) 36)).alloc zBox).alloc (.cells out 41)).heap[w.heap.size + 1]? = some zBox := by
    rw [Below.heap_alloc _ _ _ (by simp)]
    simpa using heap_new (w.alloc (.cells (mC m a) 36)) zBox
  have h2 : (((w.alloc (.cells (mC m a) 36)).alloc zBox).alloc (.cells out 41)).heap[w.heap.size + 1 + 1]? = some (.cells out 41) := by simpa using heap_new ((w.alloc (.cells (mC m a) 36)).alloc zBox) (.cells out 41)
  exact ⟨(((Below.refl _ _).alloc (Nat.le_refl _) _).alloc (by simp) _).alloc (by simp; omega) _, h0, h1, h2⟩
/-- A new row persists while the copy is at work. -/
theorem own_setT {w u : World} {e size n : Nat} {v x : Value} {xs : List Value} {lo o : Nat} (h : u.ownsRow lo e size v n xs) (hlo : w.heap.size + 1 + 1 < lo) : (u.setCell ⟨w.heap.size + 1 + 1, o, none⟩ x).ownsRow lo e size v n xs :=
  own_set h (fun e => by have := (h.lt _ e).1; simp at this; omega)
theorem own_heap {u U : World} {lo lo' e size n : Nat} {v : Value} {xs : List Value} (h : u.ownsRow lo e size v n xs) (he : ∀ k, lo ≤ k → U.heap[k]? = u.heap[k]?) (hl : lo' ≤ lo) : U.ownsRow lo' e size v n xs := by
  obtain ⟨h1, h | ⟨g, cap, cur, hv, hg, h2, h3⟩⟩ := h
  · exact ⟨h1, .inl h⟩
  · exact ⟨h1, .inr ⟨g, cap, cur, hv, Nat.le_trans hl hg, (he g hg).trans h2, h3⟩⟩
/-- The rows of an answer, each in a block of its own. -/
structure MOwn (u : World) (lo : Nat) (m : MV) (a : MA) : Prop where
  r : u.ownsRow lo 2 1 (.slice a.ar m.rs.length a.cr) m.rs.length (iR m.rs)
  c : u.ownsRow lo 2 1 (.slice a.ac m.cs.length a.cc) m.cs.length (iR m.cs)
  v : u.ownsRow lo 2 1 (.slice a.av m.vs.length a.cv) m.vs.length (iR m.vs)
  i : u.ownsRow lo 91 2 (.slice a.ai m.is.length a.ci) m.is.length (pvR m.is)
  o : u.ownsRow lo 91 2 (.slice a.ao m.os.length a.co) m.os.length (pvR m.os)
theorem MOwn.rows {u : World} {lo : Nat} {m : MV} {a : MA} (h : MOwn u lo m a) : MRows u m a := ⟨Irow.of h.r, Irow.of h.c, Irow.of h.v, PVrow.of h.i, PVrow.of h.o⟩
set_option maxRecDepth 100000 in
set_option maxHeartbeats 4000000 in
theorem toMachine_any {w : World} {m : MV} {a : MA} (h : MRows w m a) (hl : MLen m) : Calls Try.prog 20 #[.agg (mC m a)] w fun e w' => ∃ a2 : MA, e = .returned (.agg (mC m a2)) ∧ MOwn w' w.heap.size m a2 ∧ Below w.heap.size w w' := by
  have HT0 : Hid (TO w (((w.alloc (.cells #[.int .i64 m.pc, .slice a.ar m.rs.length a.cr, .int .i64 m.md, .slice a.ac m.cs.length a.cc, .slice a.av m.vs.length a.cv, .string m.mem, .int .i64 m.st, .int .i64 m.ct, .int .i64 m.ln, .slice a.ai m.is.length a.ci, .slice a.ao m.os.length a.co, .int .i64 m.tr] 36)).alloc (.cells #[.int .i64 0, .slice none 0 0, .int .i64 0, .slice none 0 0, .slice none 0 0, .string ⟨#[]⟩, .int .i64 0, .int .i64 0, .int .i64 0, .slice none 0 0, .slice none 0 0, .int .i64 0] 41)).alloc (.cells #[.int .i64 m.pc, .slice none 0 0, .int .i64 0, .slice none 0 0, .slice none 0 0, .string ⟨#[]⟩, .int .i64 0, .int .i64 0, .int .i64 0, .slice none 0 0, .slice none 0 0, .int .i64 0] 41)) m a #[.int .i64 m.pc, .slice none 0 0, .int .i64 0, .slice none 0 0, .slice none 0 0, .string ⟨#[]⟩, .int .i64 0, .int .i64 0, .int .i64 0, .slice none 0 0, .slice none 0 0, .int .i64 0]) := TO.new w m a #[.int .i64 m.pc, .slice none 0 0, .int .i64 0, .slice none 0 0, .slice none 0 0, .string ⟨#[]⟩, .int .i64 0, .int .i64 0, .int .i64 0, .slice none 0 0, .slice none 0 0, .int .i64 0]
  have HM : Hid (MRows w m a) := h
  have HL : Hid (MLen m) := hl
  clear h hl
  unfold mC
  go_enter Try.func20, Try.ntmps20
  go_wp2_with fail
  generalize (((w.alloc (.cells #[.int .i64 m.pc, .slice a.ar m.rs.length a.cr, .int .i64 m.md, .slice a.ac m.cs.length a.cc, .slice a.av m.vs.length a.cv, .string m.mem, .int .i64 m.st, .int .i64 m.ct, .int .i64 m.ln, .slice a.ai m.is.length a.ci, .slice a.ao m.os.length a.co, .int .i64 m.tr] 36)).alloc (.cells #[.int .i64 0, .slice none 0 0, .int .i64 0, .slice none 0 0, .slice none 0 0, .string ⟨#[]⟩, .int .i64 0, .int .i64 0, .int .i64 0, .slice none 0 0, .slice none 0 0, .int .i64 0] 41)).alloc (.cells #[.int .i64 m.pc, .slice none 0 0, .int .i64 0, .slice none 0 0, .slice none 0 0, .string ⟨#[]⟩, .int .i64 0, .int .i64 0, .int .i64 0, .slice none 0 0, .slice none 0 0, .int .i64 0] 41)) = V at *
  refine Calls.mono (toIS_any (HM.out.below HT0.out.bel).r HL.out.r) ?_
  rintro e u1 ⟨v1, rfl, o1, hb1⟩
  obtain ⟨ar2, cr2, rfl⟩ := i_sl o1
  have HT1 : Hid (TO w u1 m a #[.int .i64 m.pc, .slice none 0 0, .int .i64 0, .slice none 0 0, .slice none 0 0, .string ⟨#[]⟩, .int .i64 0, .int .i64 0, .int .i64 0, .slice none 0 0, .slice none 0 0, .int .i64 0]) := HT0.out.step hb1
  have HRr : Hid (u1.ownsRow (w.heap.size + 3) 2 1 (.slice ar2 m.rs.length cr2) m.rs.length (iR m.rs)) := own_weak1 o1 (by have := HT0.out.lt; omega)
  clear o1 hb1
  obtain ⟨c0, c1, c2, c3, c4, c5, c6, c7, c8, c9, c10, c11, _⟩ := cel12 HT1.out.b0
  obtain ⟨d0, d1, d2, d3, d4, d5, d6, d7, d8, d9, d10, d11, df⟩ := cel12 HT1.out.b2
  have lt1 := HT1.out.lt
  have g0 : w.heap.size < u1.heap.size := by omega
  have g2 : w.heap.size + 1 + 1 < u1.heap.size := by omega
  go_wp2_with fail
  clear c0 c1 c2 c3 c4 c5 c6 c7 c8 c9 c10 c11 d0 d1 d2 d3 d4 d5 d6 d7 d8 d9 d10 d11 df g0 g2
  have HS1 : Hid (TO w ((u1.setCell ⟨w.heap.size + 1 + 1, 1, none⟩ (.slice ar2 m.rs.length cr2)).setCell ⟨w.heap.size + 1 + 1, 2, none⟩ (.int .i64 m.md)) m a #[.int .i64 m.pc, .slice ar2 m.rs.length cr2, .int .i64 m.md, .slice none 0 0, .slice none 0 0, .string ⟨#[]⟩, .int .i64 0, .int .i64 0, .int .i64 0, .slice none 0 0, .slice none 0 0, .int .i64 0]) := ((HT1.out.set 1 (.slice ar2 m.rs.length cr2)).set 2 (.int .i64 m.md))
  have HSr : Hid (((u1.setCell ⟨w.heap.size + 1 + 1, 1, none⟩ (.slice ar2 m.rs.length cr2)).setCell ⟨w.heap.size + 1 + 1, 2, none⟩ (.int .i64 m.md)).ownsRow (w.heap.size + 3) 2 1 (.slice ar2 m.rs.length cr2) m.rs.length (iR m.rs)) := (own_setT (own_setT HRr.out (by omega)) (by omega))
  generalize ((u1.setCell ⟨w.heap.size + 1 + 1, 1, none⟩ (.slice ar2 m.rs.length cr2)).setCell ⟨w.heap.size + 1 + 1, 2, none⟩ (.int .i64 m.md)) = V1 at *
  refine Calls.mono (toIS_any (HM.out.below HS1.out.bel).c HL.out.c) ?_
  rintro e u2 ⟨v2, rfl, o2, hb2⟩
  obtain ⟨ac2, cc2, rfl⟩ := i_sl o2
  have HT2 : Hid (TO w u2 m a #[.int .i64 m.pc, .slice ar2 m.rs.length cr2, .int .i64 m.md, .slice none 0 0, .slice none 0 0, .string ⟨#[]⟩, .int .i64 0, .int .i64 0, .int .i64 0, .slice none 0 0, .slice none 0 0, .int .i64 0]) := HS1.out.step hb2
  have HRr : Hid (u2.ownsRow (w.heap.size + 3) 2 1 (.slice ar2 m.rs.length cr2) m.rs.length (iR m.rs)) := own_below HSr.out hb2
  have HRc : Hid (u2.ownsRow (w.heap.size + 3) 2 1 (.slice ac2 m.cs.length cc2) m.cs.length (iR m.cs)) := own_weak1 o2 (by have := HS1.out.lt; omega)
  clear o2 hb2 HS1 lt1
  obtain ⟨c0, c1, c2, c3, c4, c5, c6, c7, c8, c9, c10, c11, _⟩ := cel12 HT2.out.b0
  obtain ⟨d0, d1, d2, d3, d4, d5, d6, d7, d8, d9, d10, d11, df⟩ := cel12 HT2.out.b2
  have lt2 := HT2.out.lt
  have g0 : w.heap.size < u2.heap.size := by omega
  have g2 : w.heap.size + 1 + 1 < u2.heap.size := by omega
  go_wp2_with fail
  clear c0 c1 c2 c3 c4 c5 c6 c7 c8 c9 c10 c11 d0 d1 d2 d3 d4 d5 d6 d7 d8 d9 d10 d11 df g0 g2
  have HS2 : Hid (TO w (u2.setCell ⟨w.heap.size + 1 + 1, 3, none⟩ (.slice ac2 m.cs.length cc2)) m a #[.int .i64 m.pc, .slice ar2 m.rs.length cr2, .int .i64 m.md, .slice ac2 m.cs.length cc2, .slice none 0 0, .string ⟨#[]⟩, .int .i64 0, .int .i64 0, .int .i64 0, .slice none 0 0, .slice none 0 0, .int .i64 0]) := (HT2.out.set 3 (.slice ac2 m.cs.length cc2))
  have HSr : Hid ((u2.setCell ⟨w.heap.size + 1 + 1, 3, none⟩ (.slice ac2 m.cs.length cc2)).ownsRow (w.heap.size + 3) 2 1 (.slice ar2 m.rs.length cr2) m.rs.length (iR m.rs)) := (own_setT HRr.out (by omega))
  have HSc : Hid ((u2.setCell ⟨w.heap.size + 1 + 1, 3, none⟩ (.slice ac2 m.cs.length cc2)).ownsRow (w.heap.size + 3) 2 1 (.slice ac2 m.cs.length cc2) m.cs.length (iR m.cs)) := (own_setT HRc.out (by omega))
  generalize (u2.setCell ⟨w.heap.size + 1 + 1, 3, none⟩ (.slice ac2 m.cs.length cc2)) = V2 at *
  refine Calls.mono (toIS_any (HM.out.below HS2.out.bel).v HL.out.v) ?_
  rintro e u3 ⟨v3, rfl, o3, hb3⟩
  obtain ⟨av2, cv2, rfl⟩ := i_sl o3
  have HT3 : Hid (TO w u3 m a #[.int .i64 m.pc, .slice ar2 m.rs.length cr2, .int .i64 m.md, .slice ac2 m.cs.length cc2, .slice none 0 0, .string ⟨#[]⟩, .int .i64 0, .int .i64 0, .int .i64 0, .slice none 0 0, .slice none 0 0, .int .i64 0]) := HS2.out.step hb3
  have HRr : Hid (u3.ownsRow (w.heap.size + 3) 2 1 (.slice ar2 m.rs.length cr2) m.rs.length (iR m.rs)) := own_below HSr.out hb3
  have HRc : Hid (u3.ownsRow (w.heap.size + 3) 2 1 (.slice ac2 m.cs.length cc2) m.cs.length (iR m.cs)) := own_below HSc.out hb3
  have HRv : Hid (u3.ownsRow (w.heap.size + 3) 2 1 (.slice av2 m.vs.length cv2) m.vs.length (iR m.vs)) := own_weak1 o3 (by have := HS2.out.lt; omega)
  clear o3 hb3 HS2 lt2
  obtain ⟨c0, c1, c2, c3, c4, c5, c6, c7, c8, c9, c10, c11, _⟩ := cel12 HT3.out.b0
  obtain ⟨d0, d1, d2, d3, d4, d5, d6, d7, d8, d9, d10, d11, df⟩ := cel12 HT3.out.b2
  have lt3 := HT3.out.lt
  have g0 : w.heap.size < u3.heap.size := by omega
  have g2 : w.heap.size + 1 + 1 < u3.heap.size := by omega
  go_wp2_with fail
  clear c0 c1 c2 c3 c4 c5 c6 c7 c8 c9 c10 c11 d0 d1 d2 d3 d4 d5 d6 d7 d8 d9 d10 d11 df g0 g2
  have HS3 : Hid (TO w (((((u3.setCell ⟨w.heap.size + 1 + 1, 4, none⟩ (.slice av2 m.vs.length cv2)).setCell ⟨w.heap.size + 1 + 1, 5, none⟩ (.string m.mem)).setCell ⟨w.heap.size + 1 + 1, 6, none⟩ (.int .i64 m.st)).setCell ⟨w.heap.size + 1 + 1, 7, none⟩ (.int .i64 m.ct)).setCell ⟨w.heap.size + 1 + 1, 8, none⟩ (.int .i64 m.ln)) m a #[.int .i64 m.pc, .slice ar2 m.rs.length cr2, .int .i64 m.md, .slice ac2 m.cs.length cc2, .slice av2 m.vs.length cv2, .string m.mem, .int .i64 m.st, .int .i64 m.ct, .int .i64 m.ln, .slice none 0 0, .slice none 0 0, .int .i64 0]) := (((((HT3.out.set 4 (.slice av2 m.vs.length cv2)).set 5 (.string m.mem)).set 6 (.int .i64 m.st)).set 7 (.int .i64 m.ct)).set 8 (.int .i64 m.ln))
  have HSr : Hid ((((((u3.setCell ⟨w.heap.size + 1 + 1, 4, none⟩ (.slice av2 m.vs.length cv2)).setCell ⟨w.heap.size + 1 + 1, 5, none⟩ (.string m.mem)).setCell ⟨w.heap.size + 1 + 1, 6, none⟩ (.int .i64 m.st)).setCell ⟨w.heap.size + 1 + 1, 7, none⟩ (.int .i64 m.ct)).setCell ⟨w.heap.size + 1 + 1, 8, none⟩ (.int .i64 m.ln)).ownsRow (w.heap.size + 3) 2 1 (.slice ar2 m.rs.length cr2) m.rs.length (iR m.rs)) := (own_setT (own_setT (own_setT (own_setT (own_setT HRr.out (by omega)) (by omega)) (by omega)) (by omega)) (by omega))
  have HSc : Hid ((((((u3.setCell ⟨w.heap.size + 1 + 1, 4, none⟩ (.slice av2 m.vs.length cv2)).setCell ⟨w.heap.size + 1 + 1, 5, none⟩ (.string m.mem)).setCell ⟨w.heap.size + 1 + 1, 6, none⟩ (.int .i64 m.st)).setCell ⟨w.heap.size + 1 + 1, 7, none⟩ (.int .i64 m.ct)).setCell ⟨w.heap.size + 1 + 1, 8, none⟩ (.int .i64 m.ln)).ownsRow (w.heap.size + 3) 2 1 (.slice ac2 m.cs.length cc2) m.cs.length (iR m.cs)) := (own_setT (own_setT (own_setT (own_setT (own_setT HRc.out (by omega)) (by omega)) (by omega)) (by omega)) (by omega))
  have HSv : Hid ((((((u3.setCell ⟨w.heap.size + 1 + 1, 4, none⟩ (.slice av2 m.vs.length cv2)).setCell ⟨w.heap.size + 1 + 1, 5, none⟩ (.string m.mem)).setCell ⟨w.heap.size + 1 + 1, 6, none⟩ (.int .i64 m.st)).setCell ⟨w.heap.size + 1 + 1, 7, none⟩ (.int .i64 m.ct)).setCell ⟨w.heap.size + 1 + 1, 8, none⟩ (.int .i64 m.ln)).ownsRow (w.heap.size + 3) 2 1 (.slice av2 m.vs.length cv2) m.vs.length (iR m.vs)) := (own_setT (own_setT (own_setT (own_setT (own_setT HRv.out (by omega)) (by omega)) (by omega)) (by omega)) (by omega))
  generalize (((((u3.setCell ⟨w.heap.size + 1 + 1, 4, none⟩ (.slice av2 m.vs.length cv2)).setCell ⟨w.heap.size + 1 + 1, 5, none⟩ (.string m.mem)).setCell ⟨w.heap.size + 1 + 1, 6, none⟩ (.int .i64 m.st)).setCell ⟨w.heap.size + 1 + 1, 7, none⟩ (.int .i64 m.ct)).setCell ⟨w.heap.size + 1 + 1, 8, none⟩ (.int .i64 m.ln)) = V3 at *
  refine Calls.mono (toPVS_any (HM.out.below HS3.out.bel).i HL.out.i) ?_
  rintro e u4 ⟨v4, rfl, o4, hb4⟩
  obtain ⟨ai2, ci2, rfl⟩ := pv_sl o4
  have HT4 : Hid (TO w u4 m a #[.int .i64 m.pc, .slice ar2 m.rs.length cr2, .int .i64 m.md, .slice ac2 m.cs.length cc2, .slice av2 m.vs.length cv2, .string m.mem, .int .i64 m.st, .int .i64 m.ct, .int .i64 m.ln, .slice none 0 0, .slice none 0 0, .int .i64 0]) := HS3.out.step hb4
  have HRr : Hid (u4.ownsRow (w.heap.size + 3) 2 1 (.slice ar2 m.rs.length cr2) m.rs.length (iR m.rs)) := own_below HSr.out hb4
  have HRc : Hid (u4.ownsRow (w.heap.size + 3) 2 1 (.slice ac2 m.cs.length cc2) m.cs.length (iR m.cs)) := own_below HSc.out hb4
  have HRv : Hid (u4.ownsRow (w.heap.size + 3) 2 1 (.slice av2 m.vs.length cv2) m.vs.length (iR m.vs)) := own_below HSv.out hb4
  have HRi : Hid (u4.ownsRow (w.heap.size + 3) 91 2 (.slice ai2 m.is.length ci2) m.is.length (pvR m.is)) := pv_weak o4 (by have := HS3.out.lt; omega)
  clear o4 hb4 HS3 lt3
  obtain ⟨c0, c1, c2, c3, c4, c5, c6, c7, c8, c9, c10, c11, _⟩ := cel12 HT4.out.b0
  obtain ⟨d0, d1, d2, d3, d4, d5, d6, d7, d8, d9, d10, d11, df⟩ := cel12 HT4.out.b2
  have lt4 := HT4.out.lt
  have g0 : w.heap.size < u4.heap.size := by omega
  have g2 : w.heap.size + 1 + 1 < u4.heap.size := by omega
  go_wp2_with fail
  clear c0 c1 c2 c3 c4 c5 c6 c7 c8 c9 c10 c11 d0 d1 d2 d3 d4 d5 d6 d7 d8 d9 d10 d11 df g0 g2
  have HS4 : Hid (TO w (u4.setCell ⟨w.heap.size + 1 + 1, 9, none⟩ (.slice ai2 m.is.length ci2)) m a #[.int .i64 m.pc, .slice ar2 m.rs.length cr2, .int .i64 m.md, .slice ac2 m.cs.length cc2, .slice av2 m.vs.length cv2, .string m.mem, .int .i64 m.st, .int .i64 m.ct, .int .i64 m.ln, .slice ai2 m.is.length ci2, .slice none 0 0, .int .i64 0]) := (HT4.out.set 9 (.slice ai2 m.is.length ci2))
  have HSr : Hid ((u4.setCell ⟨w.heap.size + 1 + 1, 9, none⟩ (.slice ai2 m.is.length ci2)).ownsRow (w.heap.size + 3) 2 1 (.slice ar2 m.rs.length cr2) m.rs.length (iR m.rs)) := (own_setT HRr.out (by omega))
  have HSc : Hid ((u4.setCell ⟨w.heap.size + 1 + 1, 9, none⟩ (.slice ai2 m.is.length ci2)).ownsRow (w.heap.size + 3) 2 1 (.slice ac2 m.cs.length cc2) m.cs.length (iR m.cs)) := (own_setT HRc.out (by omega))
  have HSv : Hid ((u4.setCell ⟨w.heap.size + 1 + 1, 9, none⟩ (.slice ai2 m.is.length ci2)).ownsRow (w.heap.size + 3) 2 1 (.slice av2 m.vs.length cv2) m.vs.length (iR m.vs)) := (own_setT HRv.out (by omega))
  have HSi : Hid ((u4.setCell ⟨w.heap.size + 1 + 1, 9, none⟩ (.slice ai2 m.is.length ci2)).ownsRow (w.heap.size + 3) 91 2 (.slice ai2 m.is.length ci2) m.is.length (pvR m.is)) := (own_setT HRi.out (by omega))
  generalize (u4.setCell ⟨w.heap.size + 1 + 1, 9, none⟩ (.slice ai2 m.is.length ci2)) = V4 at *
  refine Calls.mono (toPVS_any (HM.out.below HS4.out.bel).o HL.out.o) ?_
  rintro e u5 ⟨v5, rfl, o5, hb5⟩
  obtain ⟨ao2, co2, rfl⟩ := pv_sl o5
  have HT5 : Hid (TO w u5 m a #[.int .i64 m.pc, .slice ar2 m.rs.length cr2, .int .i64 m.md, .slice ac2 m.cs.length cc2, .slice av2 m.vs.length cv2, .string m.mem, .int .i64 m.st, .int .i64 m.ct, .int .i64 m.ln, .slice ai2 m.is.length ci2, .slice none 0 0, .int .i64 0]) := HS4.out.step hb5
  have HRr : Hid (u5.ownsRow (w.heap.size + 3) 2 1 (.slice ar2 m.rs.length cr2) m.rs.length (iR m.rs)) := own_below HSr.out hb5
  have HRc : Hid (u5.ownsRow (w.heap.size + 3) 2 1 (.slice ac2 m.cs.length cc2) m.cs.length (iR m.cs)) := own_below HSc.out hb5
  have HRv : Hid (u5.ownsRow (w.heap.size + 3) 2 1 (.slice av2 m.vs.length cv2) m.vs.length (iR m.vs)) := own_below HSv.out hb5
  have HRi : Hid (u5.ownsRow (w.heap.size + 3) 91 2 (.slice ai2 m.is.length ci2) m.is.length (pvR m.is)) := pv_below HSi.out hb5
  have HRo : Hid (u5.ownsRow (w.heap.size + 3) 91 2 (.slice ao2 m.os.length co2) m.os.length (pvR m.os)) := pv_weak o5 (by have := HS4.out.lt; omega)
  clear o5 hb5 HS4 lt4
  obtain ⟨c0, c1, c2, c3, c4, c5, c6, c7, c8, c9, c10, c11, _⟩ := cel12 HT5.out.b0
  obtain ⟨d0, d1, d2, d3, d4, d5, d6, d7, d8, d9, d10, d11, df⟩ := cel12 HT5.out.b2
  have lt5 := HT5.out.lt
  have g0 : w.heap.size < u5.heap.size := by omega
  have g2 : w.heap.size + 1 + 1 < u5.heap.size := by omega
  have b1c := HT5.out.b1
  unfold zBox at b1c
  obtain ⟨k0, k1, k2, k3, k4, k5, k6, k7, k8, k9, k10, k11, kf⟩ := cel12 b1c
  have g1 : w.heap.size + 1 < u5.heap.size := by omega
  have HB1 : Hid (u5.heap[w.heap.size + 1]? = some (.cells #[.int .i64 0, .slice none 0 0, .int .i64 0, .slice none 0 0, .slice none 0 0, .string ⟨#[]⟩, .int .i64 0, .int .i64 0, .int .i64 0, .slice none 0 0, .slice none 0 0, .int .i64 0] 41 (0, 0))) := b1c
  clear b1c
  go_wp2
  have hb2 : Below w.heap.size w ((u5.setCell ⟨w.heap.size + 1 + 1, 10, none⟩ (.slice ao2 m.os.length co2)).setCell ⟨w.heap.size + 1 + 1, 11, none⟩ (.int .i64 m.tr)) := (HT5.out.bel.setCell (by simp only; omega) _).setCell (by simp only; omega) _
  have hbx : ((u5.setCell ⟨w.heap.size + 1 + 1, 10, none⟩ (.slice ao2 m.os.length co2)).setCell ⟨w.heap.size + 1 + 1, 11, none⟩ (.int .i64 m.tr)).heap[w.heap.size + 1]? = some (.cells #[.int .i64 0, .slice none 0 0, .int .i64 0, .slice none 0 0, .slice none 0 0, .string ⟨#[]⟩, .int .i64 0, .int .i64 0, .int .i64 0, .slice none 0 0, .slice none 0 0, .int .i64 0] 41 (0, 0)) := (Below.heap_setCell _ _ _ _ (by simp only; omega)).trans ((Below.heap_setCell _ _ _ _ (by simp only; omega)).trans HB1.out)
  obtain ⟨e1, e2, e3⟩ := st12 hb2 (by omega) hbx (.int .i64 m.pc) (.slice ar2 m.rs.length cr2) (.int .i64 m.md) (.slice ac2 m.cs.length cc2) (.slice av2 m.vs.length cv2) (.string m.mem) (.int .i64 m.st) (.int .i64 m.ct) (.int .i64 m.ln) (.slice ai2 m.is.length ci2) (.slice ao2 m.os.length co2) (.int .i64 m.tr) rfl
  have e4 : ∀ k, w.heap.size + 3 ≤ k → ((u5.setCell ⟨w.heap.size + 1 + 1, 10, none⟩ (.slice ao2 m.os.length co2)).setCell ⟨w.heap.size + 1 + 1, 11, none⟩ (.int .i64 m.tr)).heap[k]? = u5.heap[k]? := fun k hk => (Below.heap_setCell _ _ _ _ (by simp only; omega)).trans (Below.heap_setCell _ _ _ _ (by simp only; omega))
  have e5 := fun k (hk : w.heap.size + 3 ≤ k) => (e3 k (by omega)).trans (e4 k hk)
  obtain ⟨f0, f1, f2, f3, f4, f5, f6, f7, f8, f9, f10, f11, _⟩ := cel12 e2
  refine bodyPost_ret (v := .agg #[.int .i64 m.pc, .slice ar2 m.rs.length cr2, .int .i64 m.md, .slice ac2 m.cs.length cc2, .slice av2 m.vs.length cv2, .string m.mem, .int .i64 m.st, .int .i64 m.ct, .int .i64 m.ln, .slice ai2 m.is.length ci2, .slice ao2 m.os.length co2, .int .i64 m.tr]) ?_ rfl ⟨⟨ar2, cr2, ac2, cc2, av2, cv2, ai2, ci2, ao2, co2⟩, rfl, ⟨own_heap HRr.out e5 (by omega), own_heap HRc.out e5 (by omega), own_heap HRv.out e5 (by omega), own_heap HRi.out e5 (by omega), own_heap HRo.out e5 (by omega)⟩, e1⟩
  clear e5 e4 e3 e1 hbx hb2 HT5 HRr HRc HRv HRi HRo HB1 e2 c0 c1 c2 c3 c4 c5 c6 c7 c8 c9 c10 c11 d0 d1 d2 d3 d4 d5 d6 d7 d8 d9 d10 d11 df k0 k1 k2 k3 k4 k5 k6 k7 k8 k9 k10 k11 kf
  simp only [results, Try.results20, go_sem]
  simp [go_sem, f0, f1, f2, f3, f4, f5, f6, f7, f8, f9, f10, f11]

/-- Two machines' boxes. -/
structure E2 (w u : World) (m : MV) (a a2 : MA) : Prop where
  bel : Below w.heap.size w u
  b0 : u.heap[w.heap.size]? = some (.cells (mC m a) 41 (0, 0))
  b1 : u.heap[w.heap.size + 1]? = some (.cells (mC m a2) 41 (0, 0))
theorem E2.lt {w u : World} {m : MV} {a a2 : MA} (h : E2 w u m a a2) : w.heap.size + 1 < u.heap.size := (Array.getElem?_eq_some_iff.1 h.b1).1
theorem E2.step {w u u' : World} {m : MV} {a a2 : MA} (h : E2 w u m a a2) (hb : Below u.heap.size u u') : E2 w u' m a a2 := by
  have := h.lt
  exact ⟨h.bel.trans (hb.mono h.bel.size), (hb.block _ (by omega)).trans h.b0, (hb.block _ (by omega)).trans h.b1⟩
theorem E2.new (w : World) (m : MV) (a a2 : MA) : E2 w ((w.alloc (.cells (mC m a) 41)).alloc (.cells (mC m a2) 41)) m a a2 :=
  ⟨((Below.refl _ _).alloc (Nat.le_refl _) _).alloc (by simp) _, (Below.heap_alloc _ _ _ (by simp)).trans (heap_new _ _), by simpa using heap_new (w.alloc (.cells (mC m a) 41)) (.cells (mC m a2) 41)⟩
set_option maxRecDepth 100000 in
set_option maxHeartbeats 4000000 in
theorem eqMachine_ok {w : World} {m : MV} {a a2 : MA} (h : MRows w m a) (h' : MRows w m a2) (hl : MLen m) : Calls Try.prog 22 #[.agg (mC m a), .agg (mC m a2)] w fun e w' => e = .returned (.bool true) ∧ Below w.heap.size w w' := by
  have HE0 : Hid (E2 w ((w.alloc (.cells #[.int .i64 m.pc, .slice a.ar m.rs.length a.cr, .int .i64 m.md, .slice a.ac m.cs.length a.cc, .slice a.av m.vs.length a.cv, .string m.mem, .int .i64 m.st, .int .i64 m.ct, .int .i64 m.ln, .slice a.ai m.is.length a.ci, .slice a.ao m.os.length a.co, .int .i64 m.tr] 41)).alloc (.cells #[.int .i64 m.pc, .slice a2.ar m.rs.length a2.cr, .int .i64 m.md, .slice a2.ac m.cs.length a2.cc, .slice a2.av m.vs.length a2.cv, .string m.mem, .int .i64 m.st, .int .i64 m.ct, .int .i64 m.ln, .slice a2.ai m.is.length a2.ci, .slice a2.ao m.os.length a2.co, .int .i64 m.tr] 41)) m a a2) := E2.new w m a a2
  have HM : Hid (MRows w m a) := h
  have HM2 : Hid (MRows w m a2) := h'
  have HL : Hid (MLen m) := hl
  clear h h' hl
  unfold mC
  go_enter Try.func22, Try.ntmps22
  go_wp2_with fail
  generalize ((w.alloc (.cells #[.int .i64 m.pc, .slice a.ar m.rs.length a.cr, .int .i64 m.md, .slice a.ac m.cs.length a.cc, .slice a.av m.vs.length a.cv, .string m.mem, .int .i64 m.st, .int .i64 m.ct, .int .i64 m.ln, .slice a.ai m.is.length a.ci, .slice a.ao m.os.length a.co, .int .i64 m.tr] 41)).alloc (.cells #[.int .i64 m.pc, .slice a2.ar m.rs.length a2.cr, .int .i64 m.md, .slice a2.ac m.cs.length a2.cc, .slice a2.av m.vs.length a2.cv, .string m.mem, .int .i64 m.st, .int .i64 m.ct, .int .i64 m.ln, .slice a2.ai m.is.length a2.ci, .slice a2.ao m.os.length a2.co, .int .i64 m.tr] 41)) = u0 at *
  refine Calls.mono (eqIS_ok (HM.out.below HE0.out.bel).r (HM2.out.below HE0.out.bel).r HL.out.r) ?_
  rintro e u1 ⟨rfl, hb1⟩
  have HE1 : Hid (E2 w u1 m a a2) := HE0.out.step hb1
  clear hb1 HE0
  obtain ⟨c0, c1, c2, c3, c4, c5, c6, c7, c8, c9, c10, c11, _⟩ := cel12 HE1.out.b0
  obtain ⟨d0, d1, d2, d3, d4, d5, d6, d7, d8, d9, d10, d11, _⟩ := cel12 HE1.out.b1
  go_wp2_with fail
  clear c0 c1 c2 c3 c4 c5 c6 c7 c8 c9 c10 c11 d0 d1 d2 d3 d4 d5 d6 d7 d8 d9 d10 d11
  refine Calls.mono (eqIS_ok (HM.out.below HE1.out.bel).c (HM2.out.below HE1.out.bel).c HL.out.c) ?_
  rintro e u2 ⟨rfl, hb2⟩
  have HE2 : Hid (E2 w u2 m a a2) := HE1.out.step hb2
  clear hb2 HE1
  obtain ⟨c0, c1, c2, c3, c4, c5, c6, c7, c8, c9, c10, c11, _⟩ := cel12 HE2.out.b0
  obtain ⟨d0, d1, d2, d3, d4, d5, d6, d7, d8, d9, d10, d11, _⟩ := cel12 HE2.out.b1
  go_wp2_with fail
  clear c0 c1 c2 c3 c4 c5 c6 c7 c8 c9 c10 c11 d0 d1 d2 d3 d4 d5 d6 d7 d8 d9 d10 d11
  refine Calls.mono (eqIS_ok (HM.out.below HE2.out.bel).v (HM2.out.below HE2.out.bel).v HL.out.v) ?_
  rintro e u3 ⟨rfl, hb3⟩
  have HE3 : Hid (E2 w u3 m a a2) := HE2.out.step hb3
  clear hb3 HE2
  obtain ⟨c0, c1, c2, c3, c4, c5, c6, c7, c8, c9, c10, c11, _⟩ := cel12 HE3.out.b0
  obtain ⟨d0, d1, d2, d3, d4, d5, d6, d7, d8, d9, d10, d11, _⟩ := cel12 HE3.out.b1
  go_wp2_with fail
  clear c0 c1 c2 c3 c4 c5 c6 c7 c8 c9 c10 c11 d0 d1 d2 d3 d4 d5 d6 d7 d8 d9 d10 d11
  refine Calls.mono (eqPVS_ok (HM.out.below HE3.out.bel).i (HM2.out.below HE3.out.bel).i HL.out.i) ?_
  rintro e u4 ⟨rfl, hb4⟩
  have HE4 : Hid (E2 w u4 m a a2) := HE3.out.step hb4
  clear hb4 HE3
  obtain ⟨c0, c1, c2, c3, c4, c5, c6, c7, c8, c9, c10, c11, _⟩ := cel12 HE4.out.b0
  obtain ⟨d0, d1, d2, d3, d4, d5, d6, d7, d8, d9, d10, d11, _⟩ := cel12 HE4.out.b1
  go_wp2_with fail
  clear c0 c1 c2 c3 c4 c5 c6 c7 c8 c9 c10 c11 d0 d1 d2 d3 d4 d5 d6 d7 d8 d9 d10 d11
  refine Calls.mono (eqPVS_ok (HM.out.below HE4.out.bel).o (HM2.out.below HE4.out.bel).o HL.out.o) ?_
  rintro e u5 ⟨rfl, hb5⟩
  have HE5 : Hid (E2 w u5 m a a2) := HE4.out.step hb5
  clear hb5 HE4
  obtain ⟨c0, c1, c2, c3, c4, c5, c6, c7, c8, c9, c10, c11, _⟩ := cel12 HE5.out.b0
  obtain ⟨d0, d1, d2, d3, d4, d5, d6, d7, d8, d9, d10, d11, _⟩ := cel12 HE5.out.b1
  go_wp2
  go_ret
  exact ⟨rfl, HE5.out.bel⟩

theorem szM_len {m : MV} (h : szM m = true) : MLen m := by
  unfold szM at h
  have h2 := of_decide_eq_true h
  exact ⟨by omega, by omega, by omega, by omega, by omega, by omega⟩
def BoxM (u : World) (b : Nat) (m : MV) (a : MA) : Prop := u.heap[b]? = some (.cells (mC m a) 41 (0, 0))
theorem BoxM.lt {u : World} {b : Nat} {m : MV} {a : MA} (h : BoxM u b m a) : b < u.heap.size := (Array.getElem?_eq_some_iff.1 h).1
theorem BoxM.below {u u' : World} {b B : Nat} {m : MV} {a : MA} (h : BoxM u b m a) (hb : Below B u u') (hB : b < B) : BoxM u' b m a := (hb.block b hB).trans h

set_option maxRecDepth 100000 in
set_option maxHeartbeats 4000000 in
theorem walkPM {w : World} {m : MV} {a : MA} (h : MRows w m a) (hm : MMax m) : Calls Try.prog 6 #[.agg (mC m a)] w fun e w' => e = .returned (.bool true) ∧ Below w.heap.size w w' := by
  have HL1 : Hid (MX w (w.alloc (.cells #[.int .i64 m.pc, .slice a.ar m.rs.length a.cr, .int .i64 m.md, .slice a.ac m.cs.length a.cc, .slice a.av m.vs.length a.cv, .string m.mem, .int .i64 m.st, .int .i64 m.ct, .int .i64 m.ln, .slice a.ai m.is.length a.ci, .slice a.ao m.os.length a.co, .int .i64 m.tr] 36)) 36 m a) := MX.new h
  have HS : Hid _ := szMachine_any (w.alloc (.cells #[.int .i64 m.pc, .slice a.ar m.rs.length a.cr, .int .i64 m.md, .slice a.ac m.cs.length a.cc, .slice a.av m.vs.length a.cv, .string m.mem, .int .i64 m.st, .int .i64 m.ct, .int .i64 m.ln, .slice a.ai m.is.length a.ci, .slice a.ao m.os.length a.co, .int .i64 m.tr] 36)) m a hm
  clear h hm
  cases hsz : szM m
  · rw [hsz] at HS
    unfold mC at HS ⊢
    go_enter Try.func6, Try.ntmps6
    go_wp2_with (go_at_call 18; refine Calls.mono HS.out ?_; rintro e u1 ⟨r, rfl, hr, hu1⟩; have HL2 : Hid (MX w u1 36 m a) := HL1.out.step hu1; have hr2 : r < 0 := (by simpa using hr); clear hu1 HS hr)
    go_ret
    exact ⟨rfl, HL2.out.bel⟩
  · rw [hsz] at HS
    have HL : Hid (MLen m) := szM_len hsz
    have HTO : Hid (∀ {u : World} {b : MA}, MRows u m b → Calls Try.prog 20 #[.agg (mC m b)] u fun e w' => ∃ a2 : MA, e = .returned (.agg (mC m a2)) ∧ MOwn w' u.heap.size m a2 ∧ Below u.heap.size u w') := fun hr => toMachine_any hr HL.out
    clear hsz
    unfold mC at HS ⊢
    go_enter Try.func6, Try.ntmps6
    go_wp2_with (first
      | (go_at_call 18; refine Calls.mono HS.out ?_; rintro e u1 ⟨r, rfl, hr, hu1⟩; have HL2 : Hid (MX w u1 36 m a) := HL1.out.step hu1; have hr2 : ¬ r < 0 := (by simpa using hr); obtain ⟨c0, c1, c2, c3, c4, c5, c6, c7, c8, c9, c10, c11, _⟩ := cel12 HL2.out.box; clear hu1 HS hr)
      | (go_at_call 20; have hA := HTO.out HL2.out.row; refine Calls.mono hA ?_; clear hA; rintro e u2 ⟨a1, rfl, ho, hb⟩; have HL3 : Hid (MX w u2 36 m a) := HL2.out.step hb; have HR : Hid (MRows u2 m a1) := ho.rows; clear ho hb HL2; unfold mC)
      | (go_at_call 19; have hA := specPM_any HR.out HL.out; refine Calls.mono hA ?_; clear hA; rintro e u3 ⟨rfl, hb⟩; have HL4 : Hid (MX w u3 36 m a) := HL3.out.step hb; obtain ⟨k0, k1, k2, k3, k4, k5, k6, k7, k8, k9, k10, k11, _⟩ := cel12 HL4.out.box; clear hb HL3 HR)
      | (go_at_call 20; have hA := HTO.out HL4.out.row; refine Calls.mono hA ?_; clear hA; rintro e u4 ⟨a2, rfl, ho, hb⟩; have HL5 : Hid (MX w (u4.alloc (.cells #[.int .i64 m.pc, .slice a2.ar m.rs.length a2.cr, .int .i64 m.md, .slice a2.ac m.cs.length a2.cc, .slice a2.av m.vs.length a2.cv, .string m.mem, .int .i64 m.st, .int .i64 m.ct, .int .i64 m.ln, .slice a2.ai m.is.length a2.ci, .slice a2.ao m.os.length a2.co, .int .i64 m.tr] 41)) 36 m a) := (HL4.out.step hb).step ((Below.refl _ _).alloc (Nat.le_refl _) _); have HR5 : Hid (MRows (u4.alloc (.cells #[.int .i64 m.pc, .slice a2.ar m.rs.length a2.cr, .int .i64 m.md, .slice a2.ac m.cs.length a2.cc, .slice a2.av m.vs.length a2.cv, .string m.mem, .int .i64 m.st, .int .i64 m.ct, .int .i64 m.ln, .slice a2.ai m.is.length a2.ci, .slice a2.ao m.os.length a2.co, .int .i64 m.tr] 41)) m a2) := ho.rows.below ((Below.refl _ _).alloc (Nat.le_refl _) _); have HX5 : Hid (BoxM (u4.alloc (.cells #[.int .i64 m.pc, .slice a2.ar m.rs.length a2.cr, .int .i64 m.md, .slice a2.ac m.cs.length a2.cc, .slice a2.av m.vs.length a2.cv, .string m.mem, .int .i64 m.st, .int .i64 m.ct, .int .i64 m.ln, .slice a2.ai m.is.length a2.ci, .slice a2.ao m.os.length a2.co, .int .i64 m.tr] 41)) u4.heap.size m a2) := heap_new _ _; clear ho hb HL4; unfold mC)
      | (go_at_call 21; have hA := implPM_any HR5.out HL.out; refine Calls.mono hA ?_; clear hA; rintro e u5 ⟨rfl, hb⟩; have HL6 : Hid (MX w u5 36 m a) := HL5.out.step hb; have HR6 : Hid (MRows u5 m a2) := HR5.out.below hb; have HX6 : Hid (BoxM u5 u4.heap.size m a2) := HX5.out.below hb HX5.out.lt; clear hb HL5 HR5 HX5))
    obtain ⟨p0, p1, p2, p3, p4, p5, p6, p7, p8, p9, p10, p11, _⟩ := cel12 HL6.out.box
    obtain ⟨q0, q1, q2, q3, q4, q5, q6, q7, q8, q9, q10, q11, _⟩ := cel12 HX6.out
    have hq := HX6.out.lt
    have hp := HL6.out.lt
    go_region_held3 (fun w' => w'.cell? ⟨w.heap.size, 0, none⟩ = some (.int .i64 m.pc) ∧ w'.cell? ⟨w.heap.size, 1, none⟩ = some (.slice a.ar m.rs.length a.cr) ∧ w'.cell? ⟨w.heap.size, 2, none⟩ = some (.int .i64 m.md) ∧ w'.cell? ⟨w.heap.size, 3, none⟩ = some (.slice a.ac m.cs.length a.cc) ∧ w'.cell? ⟨w.heap.size, 4, none⟩ = some (.slice a.av m.vs.length a.cv) ∧ w'.cell? ⟨w.heap.size, 5, none⟩ = some (.string m.mem) ∧ w'.cell? ⟨w.heap.size, 6, none⟩ = some (.int .i64 m.st) ∧ w'.cell? ⟨w.heap.size, 7, none⟩ = some (.int .i64 m.ct) ∧ w'.cell? ⟨w.heap.size, 8, none⟩ = some (.int .i64 m.ln) ∧ w'.cell? ⟨w.heap.size, 9, none⟩ = some (.slice a.ai m.is.length a.ci) ∧ w'.cell? ⟨w.heap.size, 10, none⟩ = some (.slice a.ao m.os.length a.co) ∧ w'.cell? ⟨w.heap.size, 11, none⟩ = some (.int .i64 m.tr) ∧ w'.cell? ⟨u4.heap.size, 0, none⟩ = some (.int .i64 m.pc) ∧ w'.cell? ⟨u4.heap.size, 1, none⟩ = some (.slice a2.ar m.rs.length a2.cr) ∧ w'.cell? ⟨u4.heap.size, 2, none⟩ = some (.int .i64 m.md) ∧ w'.cell? ⟨u4.heap.size, 3, none⟩ = some (.slice a2.ac m.cs.length a2.cc) ∧ w'.cell? ⟨u4.heap.size, 4, none⟩ = some (.slice a2.av m.vs.length a2.cv) ∧ w'.cell? ⟨u4.heap.size, 5, none⟩ = some (.string m.mem) ∧ w'.cell? ⟨u4.heap.size, 6, none⟩ = some (.int .i64 m.st) ∧ w'.cell? ⟨u4.heap.size, 7, none⟩ = some (.int .i64 m.ct) ∧ w'.cell? ⟨u4.heap.size, 8, none⟩ = some (.int .i64 m.ln) ∧ w'.cell? ⟨u4.heap.size, 9, none⟩ = some (.slice a2.ai m.is.length a2.ci) ∧ w'.cell? ⟨u4.heap.size, 10, none⟩ = some (.slice a2.ao m.os.length a2.co) ∧ w'.cell? ⟨u4.heap.size, 11, none⟩ = some (.int .i64 m.tr)) (go_keep) ((first
      | (go_at_call 20; have hA := HTO.out (u := u5.drew) (HL6.out.row.below (Below.refl _ _).drew); refine Calls.mono hA ?_; clear hA; rintro e u6 ⟨a3, rfl, ho, hb⟩; have hb6 : Below u5.heap.size u5 u6 := ⟨hb.os, hb.tape, hb.output, hb.size, hb.block⟩; have HL7 : Hid (MX w u6 36 m a) := HL6.out.step hb6; have HR7 : Hid (MRows u6 m a2) := HR6.out.below hb6; have HO7 : Hid (MRows u6 m a3) := ho.rows; have HX7 : Hid (BoxM u6 u4.heap.size m a2) := HX6.out.below hb6 hq; obtain ⟨s0, s1, s2, s3, s4, s5, s6, s7, s8, s9, s10, s11, _⟩ := cel12 HL7.out.box; obtain ⟨t0, t1, t2, t3, t4, t5, t6, t7, t8, t9, t10, t11, _⟩ := cel12 HX7.out; clear ho hb hb6 HL6 HR6; unfold mC)
      | (go_at_call 22; have hA := eqMachine_ok HR7.out HO7.out HL.out; refine Calls.mono hA ?_; clear hA; rintro e u7 ⟨rfl, hb⟩; have HL8 : Hid (MX w u7 36 m a) := HL7.out.step hb; have HX8 : Hid (BoxM u7 u4.heap.size m a2) := HX7.out.below hb HX7.out.lt; obtain ⟨x0, x1, x2, x3, x4, x5, x6, x7, x8, x9, x10, x11, _⟩ := cel12 HL8.out.box; obtain ⟨y0, y1, y2, y3, y4, y5, y6, y7, y8, y9, y10, y11, _⟩ := cel12 HX8.out; clear hb HL7 HR7)))
    all_goals go_wp2
    all_goals go_ret
    exact ⟨rfl, HL8.out.bel⟩
end Go.Proofs.Ytnbohdninedjdaa
