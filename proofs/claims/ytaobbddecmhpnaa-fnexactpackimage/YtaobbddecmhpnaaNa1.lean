import Derived.Test.YtaobbddecmhpnaaTe1
import Derived.Test.YtaobbddecmhpnaaIs1
import Derived.Test.YtaobbddecmhpnaaIdxS
import Derived.Test.YtaobbddecmhpnaaIdxSN
namespace Go.Proofs.Ytaobbddecmhpnaa
open Go.ChangeShapes Go.WideShapes Go.ChangeAt Go.RowKit

set_option maxRecDepth 100000
/-- The texts of Data. -/
def daB (m : IM) : Bool := decide (∀ k (hk : k < m.d.length), m.d[k].size = 16)
set_option maxHeartbeats 2000000 in
theorem dataOne_any (z : ByteArray) (w : World) : Calls Try.prog 51 #[.string z] w fun r w' => r = .returned (.bool (!(decide (z.size = 16)))) ∧ w' = w := by
  by_cases h : z.size = 16
  · have e : ((z.size : Int) == 16) = true := by simp; omega
    have e2 : decide (z.size = 16) = true := decide_eq_true h
    rw [e2]
    clear e2 h
    go_enter Try.func51, Try.ntmps51
    go_wp2
    go_ret
    exact ⟨ret_bool (by simp; simpa using e), rfl⟩
  · have e : ((z.size : Int) == 16) = false := by simp; omega
    have e2 : decide (z.size = 16) = false := decide_eq_false h
    rw [e2]
    clear e2 h
    go_enter Try.func51, Try.ntmps51
    go_wp2
    go_ret
    exact ⟨ret_bool (by simp; simpa using e), rfl⟩
set_option maxHeartbeats 2000000 in
theorem dataRight_any {w : World} {B : Nat} {m : IM} {a : IA} (h : PB w B m a) (hl : m.d.length ≤ 1048576) : Calls Try.prog 38 #[.pointer (some ⟨B, 0, none⟩)] w fun r w' => r = .returned (.bool (daB m)) ∧ Below w.heap.size w w' := by
  have c3 := h.c3
  have HC : Hid _ := containsByteArray_any h.row.d hl 51 #[] (fun z => !(decide (z.size = 16))) (fun xs w' => by kernel_rfl) (fun y w' _ => Calls.mono (dataOne_any y w') (fun r w'' ⟨h1, h2⟩ => ⟨h1, by rw [h2]; exact Below.refl _ _⟩))
  have HE : Hid (m.d.any (fun z => !(decide (z.size = 16))) = !daB m) := (show _ = _ by
    cases hq : m.d.any (fun z => !(decide (z.size = 16))) with
    | false =>
      have h2 := List.any_eq_false.1 hq
      have : daB m = true := decide_eq_true (fun k hk => by have := h2 m.d[k] (List.getElem_mem hk); simpa using this)
      rw [this]; rfl
    | true =>
      obtain ⟨e, he, h2⟩ := List.any_eq_true.1 hq
      obtain ⟨k, hk, rfl⟩ := List.getElem_of_mem he
      have : daB m = false := decide_eq_false (fun h3 => by rw [h3 k hk] at h2; simp at h2)
      rw [this]; rfl)
  obtain ⟨ad, kd, hd⟩ := h.row.d.sl
  rw [hd] at c3 HC
  rw [HE.out] at HC
  clear HE h hd
  generalize daB m = g at *
  go_enter Try.func38, Try.ntmps38
  go_wp2_with (go_at_call 50; refine Calls.mono HC.out ?_; rintro e u1 ⟨rfl, hu⟩)
  go_ret
  exact ⟨ret_bool (by simp), hu⟩
/-- The bounds of an image. -/
def bdB (m : IM) : Bool := decide (1 ≤ m.t.length ∧ m.t.length ≤ 64 ∧ m.d.length ≤ 128 ∧ m.s.length ≤ 8)
set_option maxHeartbeats 2000000 in
theorem bounded_any {w : World} {B : Nat} {m : IM} {a : IA} (h : PB w B m a) : Calls Try.prog 36 #[.pointer (some ⟨B, 0, none⟩)] w fun r w' => r = .returned (.bool (bdB m)) ∧ w' = w := by
  have c2 := h.c2
  have c3 := h.c3
  have c4 := h.c4
  obtain ⟨ad, kd, hd⟩ := h.row.d.sl
  obtain ⟨at2, kt, ht⟩ := h.row.t.sl
  obtain ⟨as2, ks, hs⟩ := h.row.sn.sl
  rw [h.row.si.len] at hs
  rw [hd] at c3
  rw [ht] at c2
  rw [hs] at c4
  have HE : Hid (bdB m = decide (1 ≤ m.t.length ∧ m.t.length ≤ 64 ∧ m.d.length ≤ 128 ∧ m.s.length ≤ 8)) := (show bdB m = _ from rfl)
  have hlt := h.lt
  clear h hd ht hs
  generalize bdB m = g at *
  generalize m.t.length = nt at *
  generalize m.d.length = nd at *
  generalize m.s.length = ns at *
  by_cases q1 : 1 ≤ nt
  · by_cases q2 : nt ≤ 64
    · by_cases q3 : nd ≤ 128
      · have HG : Hid (g = decide ((ns : Int) ≤ 8)) := (show _ = _ by rw [HE.out]; exact decide_eq_decide.2 (by omega))
        have i1 : (1 : Int) ≤ (nt : Int) := by omega
        have i2 : (nt : Int) ≤ 64 := by omega
        have i3 : (nd : Int) ≤ 128 := by omega
        go_enter Try.func36, Try.ntmps36
        go_wp2
        go_ret
        exact ⟨ret_bool HG.out.symm, rfl⟩
      · have HG : Hid (g = false) := (show _ = _ by rw [HE.out]; exact decide_eq_false (by omega))
        have i1 : (1 : Int) ≤ (nt : Int) := by omega
        have i2 : (nt : Int) ≤ 64 := by omega
        have i3 : ¬ (nd : Int) ≤ 128 := by omega
        go_enter Try.func36, Try.ntmps36
        go_wp2
        go_ret
        exact ⟨ret_bool HG.out.symm, rfl⟩
    · have HG : Hid (g = false) := (show _ = _ by rw [HE.out]; exact decide_eq_false (by omega))
      have i1 : (1 : Int) ≤ (nt : Int) := by omega
      have i2 : ¬ (nt : Int) ≤ 64 := by omega
      go_enter Try.func36, Try.ntmps36
      go_wp2
      go_ret
      exact ⟨ret_bool HG.out.symm, rfl⟩
  · have HG : Hid (g = false) := (show _ = _ by rw [HE.out]; exact decide_eq_false (by omega))
    have i1 : ¬ (1 : Int) ≤ (nt : Int) := by omega
    go_enter Try.func36, Try.ntmps36
    go_wp2
    go_ret
    exact ⟨ret_bool HG.out.symm, rfl⟩
set_option maxHeartbeats 2000000 in
theorem snapIs_any (z n : ByteArray) (at1 : Option Addr) (k1 k2 Bc : Nat) (w : World) (hb : Bc < w.heap.size) (hc : w.cell? ⟨Bc, 0, none⟩ = some (.string n)) : Calls Try.prog 59 #[.agg #[.string z, .slice at1 k1 k2], .pointer (some ⟨Bc, 0, none⟩)] w fun r w' => r = .returned (.bool (z.toList == n.toList)) ∧ Below w.heap.size w w' := by
  have HB : Hid (Below w.heap.size w (w.alloc (.cells #[.string z, .slice at1 k1 k2] 43))) := (Below.refl _ _).alloc (Nat.le_refl _) _
  go_enter Try.func59, Try.ntmps59
  go_wp2
  go_ret
  exact ⟨rfl, HB.out⟩
/-- The name of a Snap. -/
def nmO (m : IM) (k : Nat) : ByteArray := (m.s.getD k ⟨⟨#[]⟩, []⟩).n
theorem nmO_at (m : IM) (k : Nat) (hk : k < m.s.length) : nmO m k = m.s[k].n := by
  simp [nmO, List.getD_eq_getElem?_getD, List.getElem?_eq_getElem hk]
/-- It is unlike those ahead. -/
def okB (m : IM) (k : Nat) : Bool := decide (∀ j, j < k → ((nmO m j).toList == (nmO m k).toList) = false)
theorem okB_ix {w : World} {m : IM} {a : IA} (h : SNin w a.qs m.s) (k : Nat) (hk : k < m.s.length) : decide (ixSN (fun x => x.n.toList == (nmO m k).toList) a.qs < (k : Int)) = !okB m k := by
  have hq : ∀ j, j < m.s.length → j < a.qs.length := fun j hj => by rw [h.len]; exact hj
  have hn : ∀ j (hj : j < m.s.length), (a.qs[j]'(hq j hj)).n = nmO m j := fun j hj => by rw [nmO_at m j hj]; exact (h.el j (hq j hj) hj).1
  unfold ixSN
  cases hf : a.qs.findIdx? (fun x => x.n.toList == (nmO m k).toList) with
  | none =>
    exfalso
    have hkq := hq k hk
    have := List.findIdx?_eq_none_iff.1 hf a.qs[k] (List.getElem_mem hkq)
    rw [hn k hk] at this
    simp at this
  | some i =>
    obtain ⟨hi, hp, hb⟩ := List.findIdx?_eq_some_iff_getElem.1 hf
    have hi2 : i < m.s.length := by rw [← h.len]; exact hi
    rw [hn i hi2] at hp
    show decide ((i : Int) < (k : Int)) = !okB m k
    by_cases hik : i < k
    · have e1 : okB m k = false := decide_eq_false (fun h2 => by rw [h2 i hik] at hp; cases hp)
      rw [e1, decide_eq_true (by omega)]; rfl
    · have e1 : okB m k = true := decide_eq_true (fun j hj => by
        have h3 := hb j (by omega)
        rw [hn j (by omega)] at h3
        simpa using h3)
      rw [e1, decide_eq_false (by omega)]; rfl
set_option maxHeartbeats 2000000 in
theorem snapAt_any {w : World} {B : Nat} {m : IM} {a : IA} (h : PB w B m a) (hl : m.s.length ≤ 1048576) (n : ByteArray) : Calls Try.prog 49 #[.pointer (some ⟨B, 0, none⟩), .string n] w fun r w' => r = .returned (.int .i64 (ixSN (fun x => x.n.toList == n.toList) a.qs)) ∧ Below w.heap.size w w' := by
  have hb1 : Below w.heap.size w (w.alloc (.cells #[.string n] 9)) := (Below.refl _ _).alloc (Nat.le_refl _) _
  have hP1 := h.below hb1
  have c4 := h.c4
  have hcn : (w.alloc (.cells #[.string n] 9)).cell? ⟨w.heap.size, 0, none⟩ = some (.string n) := by
    have hh := heap_new w (.cells #[.string n] 9)
    simp only [World.cell?, hh]
    rfl
  have HC : Hid _ := indexSN_any hP1.row.sn (by rw [hP1.row.si.len]; exact hl) 59 #[.pointer (some ⟨w.heap.size, 0, none⟩)] (fun x => x.n.toList == n.toList) (fun xs w' => by kernel_rfl) (fun x hx w' hb => by
    obtain ⟨k, hk, rfl⟩ := List.getElem_of_mem hx
    have hks : k < m.s.length := by rw [← hP1.row.si.len]; exact hk
    obtain ⟨ao, cap, hv⟩ := (hP1.row.si.el k hk hks).2.sl
    generalize m.s[k].t.length = nz at hv
    generalize a.qs[k] = z at *
    obtain ⟨zn, zt⟩ := z
    simp only at hv
    subst hv
    have hsz : w.heap.size < (w.alloc (.cells #[.string n] 9)).heap.size := by simp
    exact snapIs_any zn n ao nz cap w.heap.size w' (Nat.lt_of_lt_of_le hsz hb.size) (((bcell hb).1 w.heap.size 0 hsz).trans hcn))
  obtain ⟨as2, ks, hs⟩ := h.row.sn.sl
  rw [hs] at c4 HC
  have HB : Hid (Below w.heap.size w (w.alloc (.cells #[.string n] 9))) := hb1
  have hlt := h.lt
  clear h hP1 hs hb1 hcn
  go_enter Try.func49, Try.ntmps49
  go_wp2_with (go_at_call 58; refine Calls.mono HC.out ?_; rintro e u1 ⟨rfl, hu⟩)
  go_ret
  exact ⟨rfl, HB.out.trans (hu.mono HB.out.size)⟩
end Go.Proofs.Ytaobbddecmhpnaa
