import Derived.Test.YtdlodflinibaoaaDmY
import Derived.Test.YtdlodflinibaoaaRegE
import Derived.Test.YtdlodflinibaoaaGa2
import Derived.Test.YtdlodflinibaoaaApZ
import Derived.Test.YtdlodflinibaoaaPMem4
namespace Go.Proofs.Ytdlodflinibaoaa
open Go.ChangeShapes Go.WideShapes Go.ChangeAt Go.RowKit

/-- What is asked is right. -/
def dmA (s : ByteArray) (root va size : Int) : Bool := memOk s && (decide (0 ≤ root) && decide (root ≤ 255)) && (decide (0 ≤ va) && decide (va < 262144)) && (decide (0 ≤ size) && decide (size ≤ 65536)) && decide (va + size ≤ 262144)
def dmC (s : ByteArray) (root va size : Int) : Int := if dmA s root va size = true then 0 else 1
theorem dmA_ok {s : ByteArray} {root va size : Int} (h : dmA s root va size = true) : memOk s = true ∧ 0 ≤ root ∧ root ≤ 255 ∧ 0 ≤ va ∧ va < 262144 ∧ 0 ≤ size ∧ size ≤ 65536 ∧ va + size ≤ 262144 := by
  simp only [dmA, Bool.and_eq_true, decide_eq_true_eq] at h
  obtain ⟨⟨⟨⟨h1, h2, h3⟩, h4, h5⟩, h6, h7⟩, h8⟩ := h
  exact ⟨h1, h2, h3, h4, h5, h6, h7, h8⟩
set_option maxRecDepth 100000 in
set_option maxHeartbeats 4000000 in
theorem dmaCode_any (s : ByteArray) (root va size : Int) (w : World) (hs : s.size ≤ 1099511627776) :
    Calls Try.prog 49 #[.string s, .int .i64 root, .int .i64 va, .int .i64 size] w fun e w' => e = .returned (.int .i64 (dmC s root va size)) ∧ w' = w := by
  have HMF : Hid (∀ u, Calls Try.prog 83 #[.string s] u fun e w' => e = .returned (.int .i64 (memC s)) ∧ w' = u) := fun u => implMemFault_any s u hs
  have HRT : Hid (∀ u, Calls Try.prog 84 #[.int .i64 root] u fun e w' => e = .returned (.bool (decide (0 ≤ root) && decide (root ≤ 255))) ∧ w' = u) := fun u => isRoot_any root u
  have HVT : Hid (∀ u, Calls Try.prog 85 #[.int .i64 va] u fun e w' => e = .returned (.bool (decide (0 ≤ va) && decide (va < 262144))) ∧ w' = u) := fun u => isVirtual_any va u
  have HE : Hid (dmC s root va size = if (memOk s && (decide (0 ≤ root) && decide (root ≤ 255)) && (decide (0 ≤ va) && decide (va < 262144)) && (decide (0 ≤ size) && decide (size ≤ 65536)) && decide (va + size ≤ 262144)) = true then 0 else 1) := rfl
  have HMC : Hid (memC s = if memOk s then 0 else 1) := rfl
  have HVB : Hid ((decide (0 ≤ va) && decide (va < 262144)) = true → 0 ≤ va ∧ va < 262144) := fun h => by simpa using h
  generalize memOk s = q1 at *
  generalize (decide (0 ≤ root) && decide (root ≤ 255)) = q2 at *
  generalize (decide (0 ≤ va) && decide (va < 262144)) = q3 at *
  generalize dmC s root va size = R at *
  generalize memC s = mc at *
  cases q1
  · have hmc : mc = 1 := HMC.out
    have hR : R = 1 := HE.out
    subst hmc hR
    go_enter Try.func49, Try.ntmps49
    go_wp2_with (go_at_call 83; refine Calls.mono (HMF.out _) ?_; rintro e u1 ⟨rfl, hu⟩; subst hu)
    go_ret
    exact ⟨rfl, rfl⟩
  have hmc : mc = 0 := HMC.out
  subst hmc
  cases q2
  · have hR : R = 1 := HE.out
    subst hR
    go_enter Try.func49, Try.ntmps49
    go_wp2_with (first | (go_at_call 83; refine Calls.mono (HMF.out _) ?_; rintro e u1 ⟨rfl, hu⟩; subst hu) | (go_at_call 84; refine Calls.mono (HRT.out _) ?_; rintro e u1 ⟨rfl, hu⟩; subst hu))
    go_ret
    exact ⟨rfl, rfl⟩
  cases q3
  · have hR : R = 1 := HE.out
    subst hR
    go_enter Try.func49, Try.ntmps49
    go_wp2_with (first | (go_at_call 83; refine Calls.mono (HMF.out _) ?_; rintro e u1 ⟨rfl, hu⟩; subst hu) | (go_at_call 84; refine Calls.mono (HRT.out _) ?_; rintro e u1 ⟨rfl, hu⟩; subst hu) | (go_at_call 85; refine Calls.mono (HVT.out _) ?_; rintro e u1 ⟨rfl, hu⟩; subst hu))
    go_ret
    exact ⟨rfl, rfl⟩
  obtain ⟨v0, v1⟩ := HVB.out rfl
  have HE2 : Hid (R = if ((decide (0 ≤ size) && decide (size ≤ 65536)) && decide (va + size ≤ 262144)) = true then 0 else 1) := HE.out
  clear HE HMC HVB
  by_cases s0 : 0 ≤ size
  rotate_left
  · have hR : R = 1 := by rw [HE2.out, decide_eq_false s0]; rfl
    subst hR
    have k0 : decide (size < 0) = true := decide_eq_true (by omega)
    go_enter Try.func49, Try.ntmps49
    go_wp2_with (first | (go_at_call 83; refine Calls.mono (HMF.out _) ?_; rintro e u1 ⟨rfl, hu⟩; subst hu) | (go_at_call 84; refine Calls.mono (HRT.out _) ?_; rintro e u1 ⟨rfl, hu⟩; subst hu) | (go_at_call 85; refine Calls.mono (HVT.out _) ?_; rintro e u1 ⟨rfl, hu⟩; subst hu))
    go_ret
    exact ⟨rfl, rfl⟩
  have k0 : decide (size < 0) = false := decide_eq_false (by omega)
  by_cases s1 : size ≤ 65536
  rotate_left
  · have hR : R = 1 := by rw [HE2.out, decide_eq_false s1, Bool.and_false]; rfl
    subst hR
    have k1 : decide (65536 < size) = true := decide_eq_true (by omega)
    go_enter Try.func49, Try.ntmps49
    go_wp2_with (first | (go_at_call 83; refine Calls.mono (HMF.out _) ?_; rintro e u1 ⟨rfl, hu⟩; subst hu) | (go_at_call 84; refine Calls.mono (HRT.out _) ?_; rintro e u1 ⟨rfl, hu⟩; subst hu) | (go_at_call 85; refine Calls.mono (HVT.out _) ?_; rintro e u1 ⟨rfl, hu⟩; subst hu))
    go_ret
    exact ⟨rfl, rfl⟩
  have k1 : decide (65536 < size) = false := decide_eq_false (by omega)
  obtain ⟨T, hT⟩ : ∃ T, va + size = T := ⟨_, rfl⟩
  have hT0 : 0 ≤ T := by omega
  have hT1 : T ≤ 400000 := by omega
  cases k2 : decide (262144 < T)
  · have hR : R = 0 := by
      have := of_decide_eq_false k2
      rw [HE2.out, decide_eq_true s0, decide_eq_true s1, hT, decide_eq_true (by omega)]
      rfl
    subst hR
    go_enter Try.func49, Try.ntmps49
    go_wp2_with (first | (go_at_call 83; refine Calls.mono (HMF.out _) ?_; rintro e u1 ⟨rfl, hu⟩; subst hu) | (go_at_call 84; refine Calls.mono (HRT.out _) ?_; rintro e u1 ⟨rfl, hu⟩; subst hu) | (go_at_call 85; refine Calls.mono (HVT.out _) ?_; rintro e u1 ⟨rfl, hu⟩; subst hu))
    go_ret
    exact ⟨rfl, rfl⟩
  · have hR : R = 1 := by
      have := of_decide_eq_true k2
      rw [HE2.out, hT, decide_eq_false (show ¬ T ≤ 262144 by omega), Bool.and_false]
      rfl
    subst hR
    go_enter Try.func49, Try.ntmps49
    go_wp2_with (first | (go_at_call 83; refine Calls.mono (HMF.out _) ?_; rintro e u1 ⟨rfl, hu⟩; subst hu) | (go_at_call 84; refine Calls.mono (HRT.out _) ?_; rintro e u1 ⟨rfl, hu⟩; subst hu) | (go_at_call 85; refine Calls.mono (HVT.out _) ?_; rintro e u1 ⟨rfl, hu⟩; subst hu))
    go_ret
    exact ⟨rfl, rfl⟩

/-- What a device is answered. -/
structure DMv where
  code : Int
  pos : Int
  data : ByteArray
  mem : ByteArray
def dvA (x : DMv) : Value := .agg #[.int .i64 x.code, .int .i64 x.pos, .string x.data, .string x.mem]
def e0B : ByteArray := ⟨#[]⟩
def drV (s : ByteArray) (root va size : Int) : DMv :=
  if 65536 < s.size then ⟨2, 0, ⟨#[]⟩, ⟨#[]⟩⟩ else if dmA s root va size = false then ⟨1, 0, ⟨#[]⟩, ⟨#[]⟩⟩ else
    if (dmK root.toNat 1 size.toNat s va.toNat size.toNat).bad = true then ⟨7, (dmK root.toNat 1 size.toNat s va.toNat size.toNat).va, ⟨#[]⟩, ⟨#[]⟩⟩
    else ⟨0, 0, tx (catB (gaP (dmK root.toNat 1 size.toNat s va.toNat size.toNat).mem (dmK root.toNat 1 size.toNat s va.toNat size.toNat).zs)), (dmK root.toNat 1 size.toNat s va.toNat size.toNat).mem⟩
def dwV (s : ByteArray) (root va : Int) (d : ByteArray) : DMv :=
  if 65536 < s.size ∨ 65536 < d.size then ⟨2, 0, ⟨#[]⟩, ⟨#[]⟩⟩ else if dmA s root va d.size = false then ⟨1, 0, ⟨#[]⟩, ⟨#[]⟩⟩ else
    if (dmK root.toNat 2 d.size s va.toNat d.size).bad = true then ⟨7, (dmK root.toNat 2 d.size s va.toNat d.size).va, ⟨#[]⟩, ⟨#[]⟩⟩
    else ⟨0, 0, ⟨#[]⟩, (spK (dmK root.toNat 2 d.size s va.toNat d.size).mem d (dmK root.toNat 2 d.size s va.toNat d.size).zs (dmK root.toNat 2 d.size s va.toNat d.size).zs.length).1⟩
theorem rmN_sum {zs : List BU} (h : ∀ z ∈ zs, z.write = false) : rmN zs = sumL zs := by
  induction zs with
  | nil => rfl
  | cons z r ih => rw [sumL_cons, rmN, ih (fun x hx => h x (by simp [hx])), if_pos (h z (by simp))]
/-- The answer's box, and what came since. -/
structure DBx (w u : World) (cs : Array Value) : Prop where
  bel : Below w.heap.size w u
  box : u.heap[w.heap.size]? = some (.cells cs 41 (0, 0))
theorem DBx.lt {w u : World} {cs : Array Value} (h : DBx w u cs) : w.heap.size < u.heap.size := (Array.getElem?_eq_some_iff.1 h.box).1
theorem DBx.grow {w u u' : World} {cs : Array Value} {r : Option Nat} (h : DBx w u cs) (hg : u.grownBy u' r) (hr : ∀ k, r = some k → w.heap.size < k) : DBx w u' cs :=
  ⟨h.bel.grown hg h.bel.size (fun k e => by have := hr k e; omega), (hg.block _ h.lt (fun e => by have := hr _ e.symm; omega)).trans h.box⟩
theorem DBx.step {w u u' : World} {cs : Array Value} (h : DBx w u cs) (hb : Below u.heap.size u u') : DBx w u' cs := h.grow (r := none) ⟨hb.os, hb.tape, hb.output, hb.size, fun k hk _ => hb.block k hk⟩ (fun k e => by cases e)
theorem DBx.put {w u : World} {c0 c1 c2 c3 : Value} (h : DBx w u #[c0, c1, c2, c3]) (d0 d1 d2 d3 : Value) : DBx w (st4 u w.heap.size d0 d1 d2 d3) #[d0, d1, d2, d3] :=
  ⟨h.bel.grown (g4 _ _ _ _ _ _) h.bel.size (fun k e => by cases e; exact Nat.le_refl _), st4_box h.box d0 d1 d2 d3⟩
theorem DBx.new (w : World) (cs : Array Value) : DBx w (w.alloc (.cells cs 41)) cs := ⟨(Below.refl _ _).alloc (Nat.le_refl _) _, (MapKept.heap_alloc w _).1⟩
set_option maxRecDepth 100000 in
set_option maxHeartbeats 4000000 in
theorem implDmaRead_any (s : ByteArray) (root va size : Int) (w : World) (hs : s.size ≤ 1048576) :
    Calls Try.prog 20 #[.string s, .int .i64 root, .int .i64 va, .int .i64 size] w fun e w' => e = .returned (dvA (drV s root va size)) ∧ Below w.heap.size w w' := by
  have HX0 : Hid (DBx w (w.alloc (.cells #[.int .i64 0, .int .i64 0, .string ⟨#[]⟩, .string ⟨#[]⟩] 41)) #[.int .i64 0, .int .i64 0, .string ⟨#[]⟩, .string ⟨#[]⟩]) := DBx.new _ _
  have HTL : Hid (∀ u, Calls Try.prog 48 #[.string s] u fun e w' => e = .returned (.bool (decide (65536 < (s.size : Int)))) ∧ w' = u) := fun u => tooLong_any s u
  have HDC : Hid (∀ u, Calls Try.prog 49 #[.string s, .int .i64 root, .int .i64 va, .int .i64 size] u fun e w' => e = .returned (.int .i64 (dmC s root va size)) ∧ w' = u) := fun u => dmaCode_any s root va size u (by omega)
  by_cases hsz : 65536 < s.size
  · have hV : drV s root va size = ⟨2, 0, ⟨#[]⟩, ⟨#[]⟩⟩ := by unfold drV; rw [if_pos hsz]
    rw [hV]
    have e1 : decide (65536 < (s.size : Int)) = true := decide_eq_true (by omega)
    go_enter Try.func20, Try.ntmps20
    go_wp2_with fail
    generalize (w.alloc (.cells #[.int .i64 0, .int .i64 0, .string ⟨#[]⟩, .string ⟨#[]⟩] 41)) = u0 at *
    refine Calls.mono (HTL.out _) ?_
    rintro e u1 ⟨rfl, hu⟩
    subst hu
    have HX9 : Hid (DBx w u1 #[.int .i64 0, .int .i64 0, .string ⟨#[]⟩, .string ⟨#[]⟩]) := HX0.out
    obtain ⟨c0, c1, c2, c3, cf⟩ := cel4d HX9.out.box
    have cl := HX9.out.lt
    go_wp2
    have HP : Hid (DBx w (st4 u1 w.heap.size (.int .i64 2) (.int .i64 0) (.string ⟨#[]⟩) (.string ⟨#[]⟩)) #[.int .i64 2, .int .i64 0, .string ⟨#[]⟩, .string ⟨#[]⟩]) := HX9.out.put _ _ _ _
    unfold st4 at HP
    generalize ((((u1.setCell ⟨w.heap.size, 0, none⟩ (.int .i64 2)).setCell ⟨w.heap.size, 1, none⟩ (.int .i64 0)).setCell ⟨w.heap.size, 2, none⟩ (.string ⟨#[]⟩)).setCell ⟨w.heap.size, 3, none⟩ (.string ⟨#[]⟩)) = W9 at *
    obtain ⟨p0, p1, p2, p3, _⟩ := cel4d HP.out.box
    refine bodyPost_ret (v := .agg #[.int .i64 2, .int .i64 0, .string ⟨#[]⟩, .string ⟨#[]⟩]) (by simp [results, Try.results20, go_sem, p0, p1, p2, p3]) rfl ?_
    exact ⟨rfl, HP.out.bel⟩
  have e1 : decide (65536 < (s.size : Int)) = false := decide_eq_false (by omega)
  cases hA : dmA s root va size
  · have hV : drV s root va size = ⟨1, 0, ⟨#[]⟩, ⟨#[]⟩⟩ := by unfold drV; rw [if_neg hsz, if_pos hA]
    rw [hV]
    have hC : dmC s root va size = 1 := by unfold dmC; rw [hA]; rfl
    rw [hC] at HDC
    go_enter Try.func20, Try.ntmps20
    go_wp2_with fail
    generalize (w.alloc (.cells #[.int .i64 0, .int .i64 0, .string ⟨#[]⟩, .string ⟨#[]⟩] 41)) = u0 at *
    refine Calls.mono (HTL.out _) ?_
    rintro e u1 ⟨rfl, hu⟩
    subst hu
    have HX9 : Hid (DBx w u1 #[.int .i64 0, .int .i64 0, .string ⟨#[]⟩, .string ⟨#[]⟩]) := HX0.out
    obtain ⟨c0, c1, c2, c3, cf⟩ := cel4d HX9.out.box
    have cl := HX9.out.lt
    go_wp2_with (go_at_call 49; refine Calls.mono (HDC.out _) ?_; rintro e u2 ⟨rfl, hu⟩; subst hu)
    have HP : Hid (DBx w (st4 u2 w.heap.size (.int .i64 1) (.int .i64 0) (.string ⟨#[]⟩) (.string ⟨#[]⟩)) #[.int .i64 1, .int .i64 0, .string ⟨#[]⟩, .string ⟨#[]⟩]) := HX9.out.put _ _ _ _
    unfold st4 at HP
    generalize ((((u2.setCell ⟨w.heap.size, 0, none⟩ (.int .i64 1)).setCell ⟨w.heap.size, 1, none⟩ (.int .i64 0)).setCell ⟨w.heap.size, 2, none⟩ (.string ⟨#[]⟩)).setCell ⟨w.heap.size, 3, none⟩ (.string ⟨#[]⟩)) = W9 at *
    obtain ⟨p0, p1, p2, p3, _⟩ := cel4d HP.out.box
    refine bodyPost_ret (v := .agg #[.int .i64 1, .int .i64 0, .string ⟨#[]⟩, .string ⟨#[]⟩]) (by simp [results, Try.results20, go_sem, p0, p1, p2, p3]) rfl ?_
    exact ⟨rfl, HP.out.bel⟩
  · have hC : dmC s root va size = 0 := by unfold dmC; rw [hA]; rfl
    rw [hC] at HDC
    obtain ⟨m1, r0, r1, v0, v1, z0, z1, t1⟩ := dmA_ok hA
    obtain ⟨ms0, ms1, ms2⟩ := memOk_b m1
    obtain ⟨n, hn⟩ : ∃ n, s.size = n * 256 := ⟨s.size / 256, by omega⟩
    obtain ⟨RT, rfl⟩ := Int.eq_ofNat_of_zero_le r0
    obtain ⟨VA, rfl⟩ := Int.eq_ofNat_of_zero_le v0
    obtain ⟨SZ, rfl⟩ := Int.eq_ofNat_of_zero_le z0
    obtain ⟨R, hR⟩ : ∃ R, dmK RT 1 SZ s VA SZ = R := ⟨_, rfl⟩
    have hV : drV s RT VA SZ = if R.bad = true then ⟨7, R.va, ⟨#[]⟩, ⟨#[]⟩⟩ else ⟨0, 0, tx (catB (gaP R.mem R.zs)), R.mem⟩ := by
      unfold drV
      rw [if_neg hsz, if_neg (by rw [hA]; simp)]
      simp only [Int.toNat_natCast]
      rw [hR]
    rw [hV]
    obtain ⟨X, hX⟩ : ∃ X : DMv, (if R.bad = true then ⟨7, R.va, ⟨#[]⟩, ⟨#[]⟩⟩ else ⟨0, 0, tx (catB (gaP R.mem R.zs)), R.mem⟩) = X := ⟨_, rfl⟩
    rw [hX]
    have HXE : Hid ((if R.bad = true then ⟨7, R.va, ⟨#[]⟩, ⟨#[]⟩⟩ else ⟨0, 0, tx (catB (gaP R.mem R.zs)), R.mem⟩) = X) := hX
    clear hX
    have HRM : Hid (∀ u, Calls Try.prog 50 #[.string s] u fun e w' => e = .returned (mv u.heap.size n) ∧ MemAt w' u.heap.size s ∧ Below u.heap.size u w' ∧ w'.heap.size = u.heap.size + 1) := fun u => readMemory_any s n u hn (by omega)
    have HPO : Hid (∀ (u : World) (b : Nat), MemAt u b s → _) := fun u b hm => passedOn_any hm hn (by omega) RT VA SZ 1 (by omega) (by omega) (by omega) (by omega) (by omega) R hR
    have hsz2 : R.mem.size = s.size := by rw [← hR]; exact dmK_size RT 1 SZ s VA SZ (by omega)
    have hin : ∀ z ∈ R.zs, inW R.mem.size z.pos z.len = true := fun z hz => by rw [hsz2]; rw [← hR] at hz; exact (dmK_in RT 1 SZ s VA SZ (by omega) z hz).1
    have hlen : R.zs.length ≤ 1000 := by have := dmK_len RT 1 SZ s VA SZ; rw [hR] at this; omega
    have hcat : R.bad = false → (catB (gaP R.mem R.zs)).length ≤ 65536 := fun hb => by
      have h1 := rmN_cat R.mem R.zs hin
      have h2 : rmN R.zs = sumL R.zs := rmN_sum (fun z hz => by rw [← hR] at hz; rw [(dmK_in RT 1 SZ s VA SZ (by omega) z hz).2]; rfl)
      have h3 : sumL R.zs = SZ := by rw [← hR] at hb ⊢; exact dmK_sum RT 1 SZ s VA SZ (Nat.le_refl _) hb
      omega
    have HGA : Hid (∀ (u : World) (b : Nat) (v : Value), R.bad = false → BUrow u v R.zs → MemAt u b R.mem → Calls Try.prog 52 #[mv b n, v] u fun e w' => ∃ v', e = .returned v' ∧ w'.ownsRow u.heap.size 5 1 v' (catB (gaP R.mem R.zs)).length (cells8 (catB (gaP R.mem R.zs))) ∧ Below u.heap.size u w') := fun u b v hb hv hm => by
      refine (gather_any hv hm (by rw [hsz2]; exact hn) (by rw [hsz2]; omega) hin hlen).mono ?_
      rintro e w' ⟨v', L, rfl, hL, ho, hb2⟩
      rw [if_pos (hcat hb)] at hL
      subst hL
      exact ⟨v', rfl, ho, hb2⟩
    have HTX : Hid (∀ (u : World) (b : Nat), MemAt u b R.mem → Calls Try.prog 53 #[mv b n] u fun e w' => e = .returned (.string R.mem) ∧ Below u.heap.size u w') := fun u b hm => memText_any b R.mem n u hm (by rw [hsz2]; exact hn) (by omega)
    clear hin hlen hcat hsz2 hV hR hn m1 ms0 ms1 ms2 r0 r1 v0 v1 z0 z1 t1 hsz hs hA hC
    unfold mv at HRM HPO HGA HTX
    go_enter Try.func20, Try.ntmps20
    go_wp2_with fail
    generalize (w.alloc (.cells #[.int .i64 0, .int .i64 0, .string ⟨#[]⟩, .string ⟨#[]⟩] 41)) = u0 at *
    refine Calls.mono (HTL.out _) ?_
    rintro e u1 ⟨rfl, hu⟩
    subst hu
    go_wp2_with fail
    refine Calls.mono (HDC.out _) ?_
    rintro e u2 ⟨rfl, hu⟩
    subst hu
    go_wp2_with fail
    refine Calls.mono (HRM.out _) ?_
    rintro e u3 ⟨rfl, hm3, hb3, hs3⟩
    have HX3 : Hid (DBx w u3 #[.int .i64 0, .int .i64 0, .string ⟨#[]⟩, .string ⟨#[]⟩]) := HX0.out.step hb3
    have HM3 : Hid (MemAt u3 u2.heap.size s) := hm3
    have HBL : Hid (w.heap.size < u2.heap.size) := HX0.out.lt
    clear hm3 hb3 hs3 HX0
    generalize u2.heap.size = b at *
    go_wp2_with fail
    refine Calls.mono (HPO.out _ _ HM3.out) ?_
    rintro e u4 (⟨hbad, rfl, hg4⟩ | ⟨hbad, ao, cp, rfl, ho4, hm4, hg4⟩)
    · have HX4 : Hid (DBx w (u4.alloc (.cells #[.int .i64 7, .int .i64 R.va, .string ⟨#[]⟩, .string ⟨#[]⟩] 41)) #[.int .i64 0, .int .i64 0, .string ⟨#[]⟩, .string ⟨#[]⟩]) := (HX3.out.grow hg4 (fun k e => by cases e; exact HBL.out)).step ((Below.refl _ _).alloc (Nat.le_refl _) _)
      have HY4 : Hid ((u4.alloc (.cells #[.int .i64 7, .int .i64 R.va, .string ⟨#[]⟩, .string ⟨#[]⟩] 41)).heap[u4.heap.size]? = some (.cells #[.int .i64 7, .int .i64 R.va, .string ⟨#[]⟩, .string ⟨#[]⟩] 41 (0, 0))) := (MapKept.heap_alloc u4 _).1
      clear hg4
      go_upto_region 8 with fail
      clear e1
      generalize (u4.alloc (.cells #[.int .i64 7, .int .i64 R.va, .string ⟨#[]⟩, .string ⟨#[]⟩] 41)) = u5 at *
      generalize u4.heap.size = b4 at *
      have HX9 : Hid (DBx w u5 #[.int .i64 0, .int .i64 0, .string ⟨#[]⟩, .string ⟨#[]⟩]) := HX4.out
      obtain ⟨c0, c1, c2, c3, cf⟩ := cel4d HX9.out.box
      have cl := HX9.out.lt
      obtain ⟨f0, f1, f2, f3, _⟩ := cel4d HY4.out
      have fl := (Array.getElem?_eq_some_iff.1 HY4.out).1
      go_wp2
      have HP : Hid (DBx w (st4 u5 w.heap.size (.int .i64 7) (.int .i64 R.va) (.string ⟨#[]⟩) (.string ⟨#[]⟩)) #[.int .i64 7, .int .i64 R.va, .string ⟨#[]⟩, .string ⟨#[]⟩]) := HX9.out.put _ _ _ _
      unfold st4 at HP
      generalize ((((u5.setCell ⟨w.heap.size, 0, none⟩ (.int .i64 7)).setCell ⟨w.heap.size, 1, none⟩ (.int .i64 R.va)).setCell ⟨w.heap.size, 2, none⟩ (.string ⟨#[]⟩)).setCell ⟨w.heap.size, 3, none⟩ (.string ⟨#[]⟩)) = W9 at *
      obtain ⟨p0, p1, p2, p3, _⟩ := cel4d HP.out.box
      refine bodyPost_ret (v := .agg #[.int .i64 7, .int .i64 R.va, .string ⟨#[]⟩, .string ⟨#[]⟩]) (by simp [results, Try.results20, go_sem, p0, p1, p2, p3]) rfl ?_
      refine ⟨?_, HP.out.bel⟩
      rw [← HXE.out, if_pos hbad]
      rfl
    · have HX4 : Hid (DBx w (u4.alloc (.cells #[.int .i64 0, .int .i64 0, .string ⟨#[]⟩, .string ⟨#[]⟩] 41)) #[.int .i64 0, .int .i64 0, .string ⟨#[]⟩, .string ⟨#[]⟩]) := (HX3.out.grow hg4 (fun k e => by cases e; exact HBL.out)).step ((Below.refl _ _).alloc (Nat.le_refl _) _)
      have HY4 : Hid ((u4.alloc (.cells #[.int .i64 0, .int .i64 0, .string ⟨#[]⟩, .string ⟨#[]⟩] 41)).heap[u4.heap.size]? = some (.cells #[.int .i64 0, .int .i64 0, .string ⟨#[]⟩, .string ⟨#[]⟩] 41 (0, 0))) := (MapKept.heap_alloc u4 _).1
      have HM4 : Hid (MemAt (u4.alloc (.cells #[.int .i64 0, .int .i64 0, .string ⟨#[]⟩, .string ⟨#[]⟩] 41)) b R.mem) := hm4.below ((Below.refl _ _).alloc (Nat.le_refl _) _) hm4.lt
      have HR4 : Hid (BUrow (u4.alloc (.cells #[.int .i64 0, .int .i64 0, .string ⟨#[]⟩, .string ⟨#[]⟩] 41)) (.slice ao R.zs.length cp) R.zs) := BUrow.of (World.ownsRow.alloc ho4 _)
      have HO4 : Hid ((u4.alloc (.cells #[.int .i64 0, .int .i64 0, .string ⟨#[]⟩, .string ⟨#[]⟩] 41)).ownsRow (u3.heap.size + 1) 53 3 (.slice ao R.zs.length cp) R.zs.length (buR R.zs)) := World.ownsRow.alloc ho4 _
      clear hg4 hm4 ho4 HPO HRM
      go_upto_region 8 with fail
      clear e1
      generalize (u4.alloc (.cells #[.int .i64 0, .int .i64 0, .string ⟨#[]⟩, .string ⟨#[]⟩] 41)) = u5 at *
      generalize u4.heap.size = b4 at *
      obtain ⟨f0, f1, f2, f3, _⟩ := cel4d HY4.out
      have fl := (Array.getElem?_eq_some_iff.1 HY4.out).1
      go_upto_region 10 with fail
      clear f0 f1 f2 f3 fl HY4
      have HXD : Hid (DBx w u5.drew #[.int .i64 0, .int .i64 0, .string ⟨#[]⟩, .string ⟨#[]⟩]) := HX4.out.step (Below.refl _ _).drew
      have HMD : Hid (MemAt u5.drew b R.mem) := HM4.out
      have HRD : Hid (BUrow u5.drew (.slice ao R.zs.length cp) R.zs) := HR4.out.below (Below.refl _ _).drew
      refine AnyE.start (fun _ => True) [] (by kernel_rfl) ?_
      refine AnyE.take (i := 0) (v := .slice (some ⟨b, 0, none⟩) n n) rfl (by kernel_rfl) (by kernel_rfl) (by kernel_rfl) (by kernel_rfl) (by kernel_rfl) (fun _ _ _ h => h) (Or.inl ⟨by kernel_rfl, fun w9 h9 => ?_⟩) trivial ?_
      · go_simp
      refine AnyE.take (i := 1) (v := .slice ao R.zs.length cp) rfl (by kernel_rfl) (by kernel_rfl) (by kernel_rfl) (by kernel_rfl) (by kernel_rfl) (fun _ _ _ h => h) (Or.inl ⟨by kernel_rfl, fun w9 h9 => ?_⟩) trivial ?_
      · go_simp
      refine AnyE.take (i := 4) (v := .slice (some ⟨b, 0, none⟩) n n) rfl (by kernel_rfl) (by kernel_rfl) (by kernel_rfl) (by kernel_rfl) (by kernel_rfl) (fun _ _ _ h => h) (Or.inl ⟨by kernel_rfl, fun w9 h9 => ?_⟩) trivial ?_
      · go_simp
      refine AnyE.one 2 (by kernel_rfl) rfl (by kernel_rfl) fun K hK => ?_
      go_simp
      go_wp2_with (go_at_call 52; refine Calls.mono (HGA.out _ b _ hbad HRD.out HMD.out) ?_; rintro e u6 ⟨v6, rfl, ho6, hb6⟩; have HX6 : Hid (DBx w u6 #[.int .i64 0, .int .i64 0, .string ⟨#[]⟩, .string ⟨#[]⟩]) := HXD.out.step hb6; have HM6 : Hid (MemAt u6 b R.mem) := HMD.out.below hb6 HMD.out.lt; have HO6 : Hid (u6.ownsRow u5.drew.heap.size 5 1 v6 (catB (gaP R.mem R.zs)).length (cells8 (catB (gaP R.mem R.zs)))) := ho6; clear ho6 hb6)
      refine hK _ _ (fun _ => trivial) ?_
      clear hK K
      obtain ⟨a6, c6, rfl⟩ := ow_sl HO6.out
      refine AnyE.two 3 5 (by kernel_rfl) rfl rfl (by kernel_rfl) (by kernel_rfl) (fun K hK => ?_) (fun K hK => ?_)
      · have hcv := own_conv HO6.out
        go_simp
        refine hK _ _ (fun _ => trivial) ?_
        clear hK K hcv
        refine AnyE.one 5 (by kernel_rfl) rfl (by kernel_rfl) fun K hK => ?_
        go_simp
        go_wp2_with (go_at_call 53; refine Calls.mono (HTX.out _ b HM6.out) ?_; rintro e u7 ⟨rfl, hb7⟩; have HX9 : Hid (DBx w u7 #[.int .i64 0, .int .i64 0, .string ⟨#[]⟩, .string ⟨#[]⟩]) := HX6.out.step hb7; have HB7 : Hid (Below u6.heap.size u6 u7) := hb7; clear hb7)
        refine hK _ _ (fun _ => trivial) ?_
        clear hK K
        refine AnyE.take (i := 6) (v := .agg #[.int .i64 0, .int .i64 0, .string (tx (catB (gaP R.mem R.zs))), .string R.mem]) rfl (by kernel_rfl) (by kernel_rfl) (by kernel_rfl) (by kernel_rfl) (by kernel_rfl) (fun _ _ _ h => h) (Or.inl ⟨by kernel_rfl, fun w9 h9 => ?_⟩) trivial ?_
        · go_simp
        obtain ⟨c0, c1, c2, c3, cf⟩ := cel4d HX9.out.box
        have cl := HX9.out.lt
        refine AnyE.one 7 (by kernel_rfl) rfl (by kernel_rfl) fun K hK => ?_
        go_simp
        refine hK _ _ (fun _ => trivial) ?_
        clear hK K
        refine AnyE.done (by kernel_rfl) ?_ _
        go_simp
        clear c0 c1 c2 c3 cf cl
        go_wp2
        have HP : Hid (DBx w (st4 u7 w.heap.size (.int .i64 0) (.int .i64 0) (.string (tx (catB (gaP R.mem R.zs)))) (.string R.mem)) #[.int .i64 0, .int .i64 0, .string (tx (catB (gaP R.mem R.zs))), .string R.mem]) := HX9.out.put _ _ _ _
        unfold st4 at HP
        generalize ((((u7.setCell ⟨w.heap.size, 0, none⟩ (.int .i64 0)).setCell ⟨w.heap.size, 1, none⟩ (.int .i64 0)).setCell ⟨w.heap.size, 2, none⟩ (.string (tx (catB (gaP R.mem R.zs))))).setCell ⟨w.heap.size, 3, none⟩ (.string R.mem)) = W9 at *
        obtain ⟨p0, p1, p2, p3, _⟩ := cel4d HP.out.box
        refine bodyPost_ret (v := .agg #[.int .i64 0, .int .i64 0, .string (tx (catB (gaP R.mem R.zs))), .string R.mem]) (by simp [results, Try.results20, go_sem, p0, p1, p2, p3]) rfl ?_
        refine ⟨?_, HP.out.bel⟩
        rw [← HXE.out, if_neg (by rw [hbad]; simp)]
        rfl
      · skip
        go_simp
        go_wp2_with (go_at_call 53; refine Calls.mono (HTX.out _ b HM6.out) ?_; rintro e u7 ⟨rfl, hb7⟩; have HX9 : Hid (DBx w u7 #[.int .i64 0, .int .i64 0, .string ⟨#[]⟩, .string ⟨#[]⟩]) := HX6.out.step hb7; have HB7 : Hid (Below u6.heap.size u6 u7) := hb7; clear hb7)
        refine hK _ _ (fun _ => trivial) ?_
        clear hK K
        have HO7 : Hid (u7.ownsRow u5.drew.heap.size 5 1 (.slice a6 (catB (gaP R.mem R.zs)).length c6) (catB (gaP R.mem R.zs)).length (cells8 (catB (gaP R.mem R.zs)))) := own_below HO6.out HB7.out
        have hcv := own_conv HO7.out
        refine AnyE.one 3 (by kernel_rfl) rfl (by kernel_rfl) fun K hK => ?_
        go_simp
        refine hK _ _ (fun _ => trivial) ?_
        clear hK K
        clear hcv
        refine AnyE.take (i := 6) (v := .agg #[.int .i64 0, .int .i64 0, .string (tx (catB (gaP R.mem R.zs))), .string R.mem]) rfl (by kernel_rfl) (by kernel_rfl) (by kernel_rfl) (by kernel_rfl) (by kernel_rfl) (fun _ _ _ h => h) (Or.inl ⟨by kernel_rfl, fun w9 h9 => ?_⟩) trivial ?_
        · go_simp
        obtain ⟨c0, c1, c2, c3, cf⟩ := cel4d HX9.out.box
        have cl := HX9.out.lt
        refine AnyE.one 7 (by kernel_rfl) rfl (by kernel_rfl) fun K hK => ?_
        go_simp
        refine hK _ _ (fun _ => trivial) ?_
        clear hK K
        refine AnyE.done (by kernel_rfl) ?_ _
        go_simp
        clear c0 c1 c2 c3 cf cl
        go_wp2
        have HP : Hid (DBx w (st4 u7 w.heap.size (.int .i64 0) (.int .i64 0) (.string (tx (catB (gaP R.mem R.zs)))) (.string R.mem)) #[.int .i64 0, .int .i64 0, .string (tx (catB (gaP R.mem R.zs))), .string R.mem]) := HX9.out.put _ _ _ _
        unfold st4 at HP
        generalize ((((u7.setCell ⟨w.heap.size, 0, none⟩ (.int .i64 0)).setCell ⟨w.heap.size, 1, none⟩ (.int .i64 0)).setCell ⟨w.heap.size, 2, none⟩ (.string (tx (catB (gaP R.mem R.zs))))).setCell ⟨w.heap.size, 3, none⟩ (.string R.mem)) = W9 at *
        obtain ⟨p0, p1, p2, p3, _⟩ := cel4d HP.out.box
        refine bodyPost_ret (v := .agg #[.int .i64 0, .int .i64 0, .string (tx (catB (gaP R.mem R.zs))), .string R.mem]) (by simp [results, Try.results20, go_sem, p0, p1, p2, p3]) rfl ?_
        refine ⟨?_, HP.out.bel⟩
        rw [← HXE.out, if_neg (by rw [hbad]; simp)]
        rfl

theorem rb_conv (u : World) (S : ByteArray) : RB (Lib.bytesWorld u 5 S) u.heap.size S := by
  refine ⟨fun j v hv => ?_, fun j hj => bw_frozen u S j hj, by rw [Lib.bytesWorld_size]; omega⟩
  have hj : j < S.size := by
    have := (List.getElem?_eq_some_iff.1 hv).1
    rw [c8len] at this
    exact this
  rw [bw_cell u S j hj]
  have hj' : j < S.data.toList.length := by simpa using hj
  simp [cells8, List.getElem?_eq_getElem hj'] at hv
  rw [← bt_list S j hj, ← hv]
  simp [List.getD, List.getElem?_eq_getElem hj']
theorem rb_back {w : World} {g : Nat} {m : ByteArray} (h : RB w g m) (cap : Nat) : Sem.run Try.prog (convert 47 9 (.slice (some ⟨g, 0, none⟩) m.size cap)) w = .ok (.string m) w := by
  have hl : m.data.toList.length = m.size := bsize m
  have hr := run_convert_bytes_back (P := Try.prog) w 47 9 5 ⟨g, 0, none⟩ cap m.data.toList Try.underlying47 Try.underlying5 Try.underlying9 (fun j hj => by
    have hadd : (⟨g, 0, none⟩ : Addr).add j = ⟨g, j, none⟩ := by unfold Addr.add; split <;> simp_all
    rw [hadd]
    exact h.cel j _ (by simp [cells8, List.getElem?_eq_getElem hj]))
  rw [hl] at hr
  rw [hr]
theorem da_conv (u : World) (S : ByteArray) : DA (Lib.bytesWorld u 5 S) u.heap.size 0 S :=
  ⟨fun j v hv => by rw [Nat.zero_add]; exact (rb_conv u S).cel j v hv, (rb_conv u S).lt⟩
set_option maxRecDepth 100000 in
set_option maxHeartbeats 4000000 in
theorem implSpread_any {w : World} {v : Value} {zs : List BU} (s d : ByteArray) (h : BUrow w v zs) (hl : zs.length ≤ 1048576) (hs : s.size ≤ 1048576) (hd : d.size ≤ 1048576) (hzb : ∀ z ∈ zs, i64B z.len) :
    Calls Try.prog 25 #[.string s, v, .string d] w fun e w' => e = .returned (.string (spV s zs d)) ∧ Below w.heap.size w w' := by
  have HK : Hid _ := fun u (hu : BUrow u v zs) => holdsBufs_any s hu hl hs hzb
  have HT : Hid _ := fun u => tooLong_any d u
  clear hzb
  obtain ⟨a1, c1, rfl⟩ := h.sl
  have HR : Hid (BUrow w (.slice a1 zs.length c1) zs) := h
  clear h
  by_cases h1 : 65536 < d.size
  · have hdd : decide (65536 < (d.size : Int)) = true := decide_eq_true (by omega)
    rw [hdd] at HT
    have E : Hid (spV s zs d = ⟨#[]⟩) := (show spV s zs d = ⟨#[]⟩ by unfold spV; rw [if_pos h1])
    clear h1 hdd
    go_enter Try.func25, Try.ntmps25
    go_wp2_with (go_at_call 48; refine Calls.mono (HT.out _) ?_; rintro e u1 ⟨rfl, hu1⟩; rw [hu1]; clear hu1)
    go_ret
    exact ⟨sr_eq E.out.symm, Below.refl _ _⟩
  have hdd : decide (65536 < (d.size : Int)) = false := decide_eq_false (by omega)
  rw [hdd] at HT
  clear hdd
  cases hb : bsB s zs
  · rw [hb] at HK
    have E : Hid (spV s zs d = ⟨#[]⟩) := (show spV s zs d = ⟨#[]⟩ by unfold spV; rw [if_neg h1, hb]; rfl)
    clear h1 hb
    go_enter Try.func25, Try.ntmps25
    go_wp2_with (first | (go_at_call 48; refine Calls.mono (HT.out _) ?_; rintro e u1 ⟨rfl, hu1⟩; rw [hu1]; clear hu1) | (go_at_call 60; refine Calls.mono (HK.out _ HR.out) ?_; rintro e u1 ⟨rfl, hu1⟩; have HB1 : Hid _ := hu1; clear hu1))
    go_ret
    exact ⟨sr_eq E.out.symm, HB1.out⟩
  rw [hb] at HK
  obtain ⟨hm, hn, hz⟩ := bsB_b hb
  obtain ⟨m1, m2, m3⟩ := memOk_b hm
  have E : Hid (spV s zs d = (spK s d zs zs.length).1) := (show spV s zs d = _ by unfold spV; rw [if_neg h1, hb, if_pos rfl])
  have hsz : (spK s d zs zs.length).1.size = s.size := (spK_size s d zs s.size rfl hz zs.length (Nat.le_refl _)).1
  obtain ⟨n, hN⟩ : ∃ n, s.size = n * 256 := ⟨s.size / 256, by omega⟩
  have HRM : Hid _ := fun x => readMemory_any s n x hN (by omega)
  have HTX : Hid _ := fun (x : World) (b : Nat) (hM : MemAt x b (spK s d zs zs.length).1) => memText_any b _ n x hM (by omega) (by omega)
  have HSP : Hid (∀ (x : World) (mb g cap : Nat), (∀ u, x.grownBy u (some mb) → BUrow u (.slice a1 zs.length c1) zs) → MemAt x mb s → DA x g 0 d → g ≠ mb → d.size ≤ cap → Calls Try.prog 54 #[mv mb n, .slice a1 zs.length c1, .slice (some ⟨g, 0, none⟩) d.size cap] x fun e w' => e = .returned (.tuple #[]) ∧ MemAt w' mb (spK s d zs zs.length).1 ∧ x.grownBy w' (some mb)) := fun x mb g cap h1 h2 h3 h4 h5 => spread_rd h1 h2 h3 h4 h5 hN m2 hz hn (by omega)
  generalize (spK s d zs zs.length).1 = M at *
  clear h1 hb hm hz m1 m2 m3 hs hd hN hsz hn
  unfold mv at HRM HTX HSP
  go_enter Try.func25, Try.ntmps25
  go_wp2_with (first | (go_at_call 48; refine Calls.mono (HT.out _) ?_; rintro e u1 ⟨rfl, hu1⟩; rw [hu1]; clear hu1) | (go_at_call 60; refine Calls.mono (HK.out _ HR.out) ?_; rintro e u1 ⟨rfl, hu1⟩; have HB1 : Hid _ := hu1; clear hu1) | (go_at_call 50; refine Calls.mono (HRM.out _) ?_; rintro e u2 ⟨rfl, hM, hu, hsz⟩; have HM2 : Hid (MemAt u2 u1.heap.size s) := hM; have HB2 : Hid (Below w.heap.size w u2) := HB1.out.trans (hu.mono HB1.out.size); have HZ2 : Hid _ := hsz; have hcv := bw_conv u2 d; clear hu hM hsz))
  have HB3 : Hid (Below w.heap.size w (Lib.bytesWorld u2 5 d)) := HB2.out.trans ((bw_below u2 d).mono HB2.out.size)
  have HD3 : Hid _ := da_conv u2 d
  have HM3 : Hid (MemAt (Lib.bytesWorld u2 5 d) u1.heap.size s) := HM2.out.below (bw_below u2 d) HM2.out.lt
  have hcap : d.size ≤ grownCap u2 d.size 0 5 := grownCap_ge _ _ _ _
  have hne : u2.heap.size ≠ u1.heap.size := by have := HZ2.out; omega
  have hwl : w.heap.size ≤ u1.heap.size := HB1.out.size
  clear hcv HM2 HZ2 HB2
  generalize Lib.bytesWorld u2 5 d = u3 at *
  generalize grownCap u2 d.size 0 5 = cap at *
  generalize u2.heap.size = G at *
  generalize u1.heap.size = mb at *
  refine Calls.mono (HSP.out u3 mb G cap (fun u hu => ?_) HM3.out HD3.out hne hcap) ?_
  · have h5 : Below w.heap.size w u := HB3.out.grown hu HB3.out.size (fun j hj => by cases hj; exact hwl)
    exact HR.out.below h5
  rintro e u4 ⟨rfl, hM, hg⟩
  have HM4 : Hid _ := hM
  have HB4 : Hid (Below w.heap.size w u4) := HB3.out.grown hg HB3.out.size (fun j hj => by cases hj; exact hwl)
  clear hM hg
  go_wp2_with (go_at_call 53; refine Calls.mono (HTX.out _ _ HM4.out) ?_; rintro e u5 ⟨rfl, hu⟩; have HB5 : Hid (Below w.heap.size w u5) := HB4.out.trans (hu.mono HB4.out.size); clear hu)
  go_ret
  exact ⟨sr_eq E.out.symm, HB5.out⟩

set_option maxRecDepth 100000 in
set_option maxHeartbeats 4000000 in
theorem implDmaWrite_any (s : ByteArray) (root va : Int) (d : ByteArray) (w : World) (hs : s.size ≤ 1048576) (hd : d.size ≤ 1048576) :
    Calls Try.prog 23 #[.string s, .int .i64 root, .int .i64 va, .string d] w fun e w' => e = .returned (dvA (dwV s root va d)) ∧ Below w.heap.size w w' := by
  have HX0 : Hid (DBx w (w.alloc (.cells #[.int .i64 0, .int .i64 0, .string ⟨#[]⟩, .string ⟨#[]⟩] 41)) #[.int .i64 0, .int .i64 0, .string ⟨#[]⟩, .string ⟨#[]⟩]) := DBx.new _ _
  have HTL : Hid (∀ u, Calls Try.prog 48 #[.string s] u fun e w' => e = .returned (.bool (decide (65536 < (s.size : Int)))) ∧ w' = u) := fun u => tooLong_any s u
  have HTD : Hid (∀ u, Calls Try.prog 48 #[.string d] u fun e w' => e = .returned (.bool (decide (65536 < (d.size : Int)))) ∧ w' = u) := fun u => tooLong_any d u
  have HDC : Hid (∀ u, Calls Try.prog 49 #[.string s, .int .i64 root, .int .i64 va, .int .i64 (d.size : Int)] u fun e w' => e = .returned (.int .i64 (dmC s root va d.size)) ∧ w' = u) := fun u => dmaCode_any s root va d.size u (by omega)
  by_cases hsz : 65536 < s.size ∨ 65536 < d.size
  · have hV : dwV s root va d = ⟨2, 0, ⟨#[]⟩, ⟨#[]⟩⟩ := by unfold dwV; rw [if_pos hsz]
    rw [hV]
    by_cases hs1 : 65536 < s.size
    · have e1 : decide (65536 < (s.size : Int)) = true := decide_eq_true (by omega)
      rw [e1] at HTL
      clear e1 hs hd hsz hs1 hV
      go_enter Try.func23, Try.ntmps23
      go_upto_region 1 with fail
      generalize (w.alloc (.cells #[.int .i64 0, .int .i64 0, .string ⟨#[]⟩, .string ⟨#[]⟩] 41)) = u0 at *
      go_wp2_with fail
      refine Calls.mono (HTL.out _) ?_
      rintro e u1 ⟨rfl, hu⟩
      subst hu
      have HX9 : Hid (DBx w u1 #[.int .i64 0, .int .i64 0, .string ⟨#[]⟩, .string ⟨#[]⟩]) := HX0.out
      obtain ⟨c0, c1, c2, c3, cf⟩ := cel4d HX9.out.box
      have cl := HX9.out.lt
      go_wp2
      have HP : Hid (DBx w (st4 u1 w.heap.size (.int .i64 2) (.int .i64 0) (.string ⟨#[]⟩) (.string ⟨#[]⟩)) #[.int .i64 2, .int .i64 0, .string ⟨#[]⟩, .string ⟨#[]⟩]) := HX9.out.put _ _ _ _
      unfold st4 at HP
      generalize ((((u1.setCell ⟨w.heap.size, 0, none⟩ (.int .i64 2)).setCell ⟨w.heap.size, 1, none⟩ (.int .i64 0)).setCell ⟨w.heap.size, 2, none⟩ (.string ⟨#[]⟩)).setCell ⟨w.heap.size, 3, none⟩ (.string ⟨#[]⟩)) = W9 at *
      obtain ⟨p0, p1, p2, p3, _⟩ := cel4d HP.out.box
      refine bodyPost_ret (v := .agg #[.int .i64 2, .int .i64 0, .string ⟨#[]⟩, .string ⟨#[]⟩]) (by simp [results, Try.results23, go_sem, p0, p1, p2, p3]) rfl ?_
      exact ⟨rfl, HP.out.bel⟩
    · have e1 : decide (65536 < (s.size : Int)) = false := decide_eq_false (by omega)
      have e2 : decide (65536 < (d.size : Int)) = true := decide_eq_true (by omega)
      rw [e1] at HTL
      rw [e2] at HTD
      clear e1 e2 hs hd hsz hs1 hV
      go_enter Try.func23, Try.ntmps23
      go_upto_region 1 with fail
      generalize (w.alloc (.cells #[.int .i64 0, .int .i64 0, .string ⟨#[]⟩, .string ⟨#[]⟩] 41)) = u0 at *
      go_wp2_with fail
      refine Calls.mono (HTL.out _) ?_
      rintro e u1 ⟨rfl, hu⟩
      subst hu
      go_wp2_with fail
      refine Calls.mono (HTD.out _) ?_
      rintro e u2 ⟨rfl, hu⟩
      subst hu
      have HX9 : Hid (DBx w u2 #[.int .i64 0, .int .i64 0, .string ⟨#[]⟩, .string ⟨#[]⟩]) := HX0.out
      obtain ⟨c0, c1, c2, c3, cf⟩ := cel4d HX9.out.box
      have cl := HX9.out.lt
      go_wp2
      have HP : Hid (DBx w (st4 u2 w.heap.size (.int .i64 2) (.int .i64 0) (.string ⟨#[]⟩) (.string ⟨#[]⟩)) #[.int .i64 2, .int .i64 0, .string ⟨#[]⟩, .string ⟨#[]⟩]) := HX9.out.put _ _ _ _
      unfold st4 at HP
      generalize ((((u2.setCell ⟨w.heap.size, 0, none⟩ (.int .i64 2)).setCell ⟨w.heap.size, 1, none⟩ (.int .i64 0)).setCell ⟨w.heap.size, 2, none⟩ (.string ⟨#[]⟩)).setCell ⟨w.heap.size, 3, none⟩ (.string ⟨#[]⟩)) = W9 at *
      obtain ⟨p0, p1, p2, p3, _⟩ := cel4d HP.out.box
      refine bodyPost_ret (v := .agg #[.int .i64 2, .int .i64 0, .string ⟨#[]⟩, .string ⟨#[]⟩]) (by simp [results, Try.results23, go_sem, p0, p1, p2, p3]) rfl ?_
      exact ⟨rfl, HP.out.bel⟩
  have hs1 : ¬ 65536 < s.size := fun h => hsz (.inl h)
  have hd1 : ¬ 65536 < d.size := fun h => hsz (.inr h)
  have e1 : decide (65536 < (s.size : Int)) = false := decide_eq_false (by omega)
  have e2 : decide (65536 < (d.size : Int)) = false := decide_eq_false (by omega)
  rw [e1] at HTL
  rw [e2] at HTD
  clear e1 e2
  cases hA : dmA s root va d.size
  · have hV : dwV s root va d = ⟨1, 0, ⟨#[]⟩, ⟨#[]⟩⟩ := by unfold dwV; rw [if_neg hsz, if_pos hA]
    rw [hV]
    have hC : dmC s root va d.size = 1 := by unfold dmC; rw [hA]; rfl
    rw [hC] at HDC
    clear hC hV hA hs1 hd1 hsz hs hd
    go_enter Try.func23, Try.ntmps23
    go_upto_region 1 with fail
    generalize (w.alloc (.cells #[.int .i64 0, .int .i64 0, .string ⟨#[]⟩, .string ⟨#[]⟩] 41)) = u0 at *
    go_wp2_with fail
    refine Calls.mono (HTL.out _) ?_
    rintro e u1 ⟨rfl, hu⟩
    subst hu
    go_wp2_with fail
    refine Calls.mono (HTD.out _) ?_
    rintro e u2 ⟨rfl, hu⟩
    subst hu
    go_wp2_with fail
    refine Calls.mono (HDC.out _) ?_
    rintro e u3 ⟨rfl, hu⟩
    subst hu
    have HX9 : Hid (DBx w u3 #[.int .i64 0, .int .i64 0, .string ⟨#[]⟩, .string ⟨#[]⟩]) := HX0.out
    obtain ⟨c0, c1, c2, c3, cf⟩ := cel4d HX9.out.box
    have cl := HX9.out.lt
    go_wp2
    have HP : Hid (DBx w (st4 u3 w.heap.size (.int .i64 1) (.int .i64 0) (.string ⟨#[]⟩) (.string ⟨#[]⟩)) #[.int .i64 1, .int .i64 0, .string ⟨#[]⟩, .string ⟨#[]⟩]) := HX9.out.put _ _ _ _
    unfold st4 at HP
    generalize ((((u3.setCell ⟨w.heap.size, 0, none⟩ (.int .i64 1)).setCell ⟨w.heap.size, 1, none⟩ (.int .i64 0)).setCell ⟨w.heap.size, 2, none⟩ (.string ⟨#[]⟩)).setCell ⟨w.heap.size, 3, none⟩ (.string ⟨#[]⟩)) = W9 at *
    obtain ⟨p0, p1, p2, p3, _⟩ := cel4d HP.out.box
    refine bodyPost_ret (v := .agg #[.int .i64 1, .int .i64 0, .string ⟨#[]⟩, .string ⟨#[]⟩]) (by simp [results, Try.results23, go_sem, p0, p1, p2, p3]) rfl ?_
    exact ⟨rfl, HP.out.bel⟩
  · have hC : dmC s root va d.size = 0 := by unfold dmC; rw [hA]; rfl
    rw [hC] at HDC
    obtain ⟨m1, r0, r1, v0, v1, z0, z1, t1⟩ := dmA_ok hA
    obtain ⟨ms0, ms1, ms2⟩ := memOk_b m1
    obtain ⟨n, hn⟩ : ∃ n, s.size = n * 256 := ⟨s.size / 256, by omega⟩
    obtain ⟨RT, rfl⟩ := Int.eq_ofNat_of_zero_le r0
    obtain ⟨VA, rfl⟩ := Int.eq_ofNat_of_zero_le v0
    obtain ⟨R, hR⟩ : ∃ R, dmK RT 2 d.size s VA d.size = R := ⟨_, rfl⟩
    obtain ⟨M, hM⟩ : ∃ M, (spK R.mem d R.zs R.zs.length).1 = M := ⟨_, rfl⟩
    have hV : dwV s RT VA d = if R.bad = true then ⟨7, R.va, ⟨#[]⟩, ⟨#[]⟩⟩ else ⟨0, 0, ⟨#[]⟩, M⟩ := by
      unfold dwV
      rw [if_neg hsz, if_neg (by rw [hA]; simp)]
      simp only [Int.toNat_natCast]
      rw [hR, hM]
    rw [hV]
    obtain ⟨X, hX⟩ : ∃ X : DMv, (if R.bad = true then ⟨7, R.va, ⟨#[]⟩, ⟨#[]⟩⟩ else ⟨0, 0, ⟨#[]⟩, M⟩) = X := ⟨_, rfl⟩
    rw [hX]
    have HXE : Hid ((if R.bad = true then ⟨7, R.va, ⟨#[]⟩, ⟨#[]⟩⟩ else ⟨0, 0, ⟨#[]⟩, M⟩) = X) := hX
    clear hX
    have HRM : Hid (∀ u, Calls Try.prog 50 #[.string s] u fun e w' => e = .returned (mv u.heap.size n) ∧ MemAt w' u.heap.size s ∧ Below u.heap.size u w' ∧ w'.heap.size = u.heap.size + 1) := fun u => readMemory_any s n u hn (by omega)
    have HPO : Hid (∀ (u : World) (b : Nat), MemAt u b s → _) := fun u b hm => passedOn_any hm hn (by omega) RT VA d.size 2 (by omega) (by omega) (by omega) (by omega) (by omega) R hR
    have hsz2 : R.mem.size = s.size := by rw [← hR]; exact dmK_size RT 2 d.size s VA d.size (by omega)
    have hin : ∀ j (hj : j < R.zs.length), inW R.mem.size R.zs[j].pos R.zs[j].len = true := fun j hj => by
      have h9 := List.getElem_mem hj
      rw [hsz2]
      revert h9
      generalize R.zs[j] = z
      intro h9
      rw [← hR] at h9
      exact (dmK_in RT 2 d.size s VA d.size (by omega) z h9).1
    have hlen : R.zs.length ≤ 1000 := by have := dmK_len RT 2 d.size s VA d.size; rw [hR] at this; omega
    have HSP : Hid (∀ (u : World) (B b g cap : Nat) (v : Value), u.ownsRow B 53 3 v R.zs.length (buR R.zs) → MemAt u b R.mem → DA u g 0 d → g ≠ b → d.size ≤ cap → Calls Try.prog 54 #[mv b n, v, .slice (some ⟨g, 0, none⟩) d.size cap] u fun e w' => e = .returned (.tuple #[]) ∧ MemAt w' b M ∧ u.grownBy w' (some b)) := fun u B b g cap v hv hm hda hg hc => by
      rw [← hM]
      exact spread_any hv hm hda hg hc (by rw [hsz2]; exact hn) (by rw [hsz2]; omega) hin hlen (by omega)
    have hMz : M.size = s.size := by rw [← hM, (spK_size R.mem d R.zs R.mem.size rfl hin R.zs.length (Nat.le_refl _)).1, hsz2]
    have HTX : Hid (∀ (u : World) (b : Nat), MemAt u b M → Calls Try.prog 53 #[mv b n] u fun e w' => e = .returned (.string M) ∧ Below u.heap.size u w') := fun u b hm => memText_any b M n u hm (by rw [hMz]; exact hn) (by omega)
    have HDS : Hid (d.size ≤ 65536) := (show d.size ≤ 65536 by omega)
    clear hin hlen hsz2 hV hR hn m1 ms0 ms1 ms2 r0 r1 v0 v1 z0 z1 t1 hsz hs hA hC hM hMz hs1 hd1 hd
    unfold mv at HRM HPO HSP HTX
    go_enter Try.func23, Try.ntmps23
    go_upto_region 1 with fail
    generalize (w.alloc (.cells #[.int .i64 0, .int .i64 0, .string ⟨#[]⟩, .string ⟨#[]⟩] 41)) = u0 at *
    go_wp2_with fail
    refine Calls.mono (HTL.out _) ?_
    rintro e u1 ⟨rfl, hu⟩
    subst hu
    go_wp2_with fail
    refine Calls.mono (HTD.out _) ?_
    rintro e u2 ⟨rfl, hu⟩
    subst hu
    go_wp2_with fail
    refine Calls.mono (HDC.out _) ?_
    rintro e u3 ⟨rfl, hu⟩
    subst hu
    go_wp2_with fail
    refine Calls.mono (HRM.out _) ?_
    rintro e u4 ⟨rfl, hm4, hb4, hs4⟩
    have HX3 : Hid (DBx w u4 #[.int .i64 0, .int .i64 0, .string ⟨#[]⟩, .string ⟨#[]⟩]) := HX0.out.step hb4
    have HM3 : Hid (MemAt u4 u3.heap.size s) := hm4
    have HBL : Hid (w.heap.size < u3.heap.size) := HX0.out.lt
    have HB4 : Hid (u3.heap.size < u4.heap.size) := (show u3.heap.size < u4.heap.size by omega)
    clear hm4 hb4 hs4 HX0
    generalize u3.heap.size = b at *
    go_wp2_with fail
    refine Calls.mono (HPO.out _ _ HM3.out) ?_
    rintro e u5 (⟨hbad, rfl, hg5⟩ | ⟨hbad, ao, cp, rfl, ho5, hm5, hg5⟩)
    · have HX4 : Hid (DBx w (u5.alloc (.cells #[.int .i64 7, .int .i64 R.va, .string ⟨#[]⟩, .string ⟨#[]⟩] 41)) #[.int .i64 0, .int .i64 0, .string ⟨#[]⟩, .string ⟨#[]⟩]) := (HX3.out.grow hg5 (fun k e => by cases e; exact HBL.out)).step ((Below.refl _ _).alloc (Nat.le_refl _) _)
      have HY4 : Hid ((u5.alloc (.cells #[.int .i64 7, .int .i64 R.va, .string ⟨#[]⟩, .string ⟨#[]⟩] 41)).heap[u5.heap.size]? = some (.cells #[.int .i64 7, .int .i64 R.va, .string ⟨#[]⟩, .string ⟨#[]⟩] 41 (0, 0))) := (MapKept.heap_alloc u5 _).1
      clear hg5
      go_upto_region 8 with fail
      generalize (u5.alloc (.cells #[.int .i64 7, .int .i64 R.va, .string ⟨#[]⟩, .string ⟨#[]⟩] 41)) = u6 at *
      generalize u5.heap.size = b5 at *
      have HX9 : Hid (DBx w u6 #[.int .i64 0, .int .i64 0, .string ⟨#[]⟩, .string ⟨#[]⟩]) := HX4.out
      obtain ⟨c0, c1, c2, c3, cf⟩ := cel4d HX9.out.box
      have cl := HX9.out.lt
      obtain ⟨f0, f1, f2, f3, _⟩ := cel4d HY4.out
      have fl := (Array.getElem?_eq_some_iff.1 HY4.out).1
      go_wp2
      have HP : Hid (DBx w (st4 u6 w.heap.size (.int .i64 7) (.int .i64 R.va) (.string ⟨#[]⟩) (.string ⟨#[]⟩)) #[.int .i64 7, .int .i64 R.va, .string ⟨#[]⟩, .string ⟨#[]⟩]) := HX9.out.put _ _ _ _
      unfold st4 at HP
      generalize ((((u6.setCell ⟨w.heap.size, 0, none⟩ (.int .i64 7)).setCell ⟨w.heap.size, 1, none⟩ (.int .i64 R.va)).setCell ⟨w.heap.size, 2, none⟩ (.string ⟨#[]⟩)).setCell ⟨w.heap.size, 3, none⟩ (.string ⟨#[]⟩)) = W9 at *
      obtain ⟨p0, p1, p2, p3, _⟩ := cel4d HP.out.box
      refine bodyPost_ret (v := .agg #[.int .i64 7, .int .i64 R.va, .string ⟨#[]⟩, .string ⟨#[]⟩]) (by simp [results, Try.results23, go_sem, p0, p1, p2, p3]) rfl ?_
      refine ⟨?_, HP.out.bel⟩
      rw [← HXE.out, if_pos hbad]
      rfl
    · have HX4 : Hid (DBx w (u5.alloc (.cells #[.int .i64 0, .int .i64 0, .string ⟨#[]⟩, .string ⟨#[]⟩] 41)) #[.int .i64 0, .int .i64 0, .string ⟨#[]⟩, .string ⟨#[]⟩]) := (HX3.out.grow hg5 (fun k e => by cases e; exact HBL.out)).step ((Below.refl _ _).alloc (Nat.le_refl _) _)
      have HY4 : Hid ((u5.alloc (.cells #[.int .i64 0, .int .i64 0, .string ⟨#[]⟩, .string ⟨#[]⟩] 41)).heap[u5.heap.size]? = some (.cells #[.int .i64 0, .int .i64 0, .string ⟨#[]⟩, .string ⟨#[]⟩] 41 (0, 0))) := (MapKept.heap_alloc u5 _).1
      have HM4 : Hid (MemAt (u5.alloc (.cells #[.int .i64 0, .int .i64 0, .string ⟨#[]⟩, .string ⟨#[]⟩] 41)) b R.mem) := hm5.below ((Below.refl _ _).alloc (Nat.le_refl _) _) hm5.lt
      have HO4 : Hid ((u5.alloc (.cells #[.int .i64 0, .int .i64 0, .string ⟨#[]⟩, .string ⟨#[]⟩] 41)).ownsRow (u4.heap.size + 1) 53 3 (.slice ao R.zs.length cp) R.zs.length (buR R.zs)) := World.ownsRow.alloc ho5 _
      clear hg5 hm5 ho5 HPO HRM
      go_upto_region 8 with fail
      generalize (u5.alloc (.cells #[.int .i64 0, .int .i64 0, .string ⟨#[]⟩, .string ⟨#[]⟩] 41)) = u6 at *
      generalize u5.heap.size = b5 at *
      obtain ⟨f0, f1, f2, f3, _⟩ := cel4d HY4.out
      have fl := (Array.getElem?_eq_some_iff.1 HY4.out).1
      go_upto_region 10 with fail
      clear f0 f1 f2 f3 fl HY4
      have hcv := bw_conv u6 d
      have HX6 : Hid (DBx w (Lib.bytesWorld u6 5 d) #[.int .i64 0, .int .i64 0, .string ⟨#[]⟩, .string ⟨#[]⟩]) := HX4.out.step (bw_below u6 d)
      have HDA : Hid _ := da_conv u6 d
      have HM6 : Hid (MemAt (Lib.bytesWorld u6 5 d) b R.mem) := HM4.out.below (bw_below u6 d) HM4.out.lt
      have HO6 : Hid ((Lib.bytesWorld u6 5 d).ownsRow (u4.heap.size + 1) 53 3 (.slice ao R.zs.length cp) R.zs.length (buR R.zs)) := bu_below HO4.out (bw_below u6 d)
      have hcap : d.size ≤ grownCap u6 d.size 0 5 := grownCap_ge _ _ _ _
      have hne : u6.heap.size ≠ b := (by have := HM4.out.lt; omega)
      go_wp2_with fail
      clear hcv
      generalize Lib.bytesWorld u6 5 d = u7 at *
      generalize grownCap u6 d.size 0 5 = cap at *
      generalize u6.heap.size = G at *
      refine Calls.mono (HSP.out u7 _ b G cap _ HO6.out HM6.out HDA.out hne hcap) ?_
      rintro e u8 ⟨rfl, hm8, hg8⟩
      have HX8 : Hid (DBx w u8 #[.int .i64 0, .int .i64 0, .string ⟨#[]⟩, .string ⟨#[]⟩]) := HX6.out.grow hg8 (fun k e => by cases e; exact HBL.out)
      have HM8 : Hid (MemAt u8 b M) := hm8
      clear hm8 hg8
      go_wp2_with fail
      refine Calls.mono (HTX.out _ b HM8.out) ?_
      rintro e u9 ⟨rfl, hb9⟩
      have HX9 : Hid (DBx w u9 #[.int .i64 0, .int .i64 0, .string ⟨#[]⟩, .string ⟨#[]⟩]) := HX8.out.step hb9
      clear hb9
      obtain ⟨c0, c1, c2, c3, cf⟩ := cel4d HX9.out.box
      have cl := HX9.out.lt
      go_wp2
      have HP : Hid (DBx w (st4 u9 w.heap.size (.int .i64 0) (.int .i64 0) (.string ⟨#[]⟩) (.string M)) #[.int .i64 0, .int .i64 0, .string ⟨#[]⟩, .string M]) := HX9.out.put _ _ _ _
      unfold st4 at HP
      generalize ((((u9.setCell ⟨w.heap.size, 0, none⟩ (.int .i64 0)).setCell ⟨w.heap.size, 1, none⟩ (.int .i64 0)).setCell ⟨w.heap.size, 2, none⟩ (.string ⟨#[]⟩)).setCell ⟨w.heap.size, 3, none⟩ (.string M)) = W9 at *
      obtain ⟨p0, p1, p2, p3, _⟩ := cel4d HP.out.box
      refine bodyPost_ret (v := .agg #[.int .i64 0, .int .i64 0, .string ⟨#[]⟩, .string M]) (by simp [results, Try.results23, go_sem, p0, p1, p2, p3]) rfl ?_
      refine ⟨?_, HP.out.bel⟩
      rw [← HXE.out, if_neg (by rw [hbad]; simp)]
      rfl
end Go.Proofs.Ytdlodflinibaoaa
