import Derived.Test.YtomfbiiegcmmlaaMq7
namespace Go.Proofs.Ytomfbiiegcmmlaa
open Go.ChangeShapes Go.WideShapes Go.ChangeAt Go.RowKit

set_option maxRecDepth 100000
set_option maxHeartbeats 4000000 in
theorem notOwn_any {w : World} {B b3 b5 : Nat} {h : MH} {a : HA} (hQ : QH w B h a) (hlc : h.cs.length ≤ 1048576) (y : SL) {an : Option Addr} {nn kn : Nat} (hI : Irow w (.slice an nn kn) (ldL h.cs 1 (allS h))) (l3 : b3 < w.heap.size) (l5 : b5 < w.heap.size) (h3 : w.cell? ⟨b3, 0, none⟩ = some (.pointer (some ⟨B, 0, none⟩))) (h5 : w.cell? ⟨b5, 0, none⟩ = some (.slice an nn kn)) : Calls Try.prog 143 #[.agg #[.int .i64 y.kind, .int .i64 y.pos, .int .i64 y.used], .pointer (some ⟨b3, 0, none⟩), .pointer (some ⟨b5, 0, none⟩)] w fun e w' => e = .returned (.bool (!owB h y)) ∧ Below w.heap.size w w' := by
  have HB0 : Hid (Below w.heap.size w (w.alloc (.cells #[.int .i64 y.kind, .int .i64 y.pos, .int .i64 y.used] 99))) := (Below.refl _ _).alloc (Nat.le_refl _) _
  have HC : Hid (Calls Try.prog 144 #[.pointer (some ⟨B, 0, none⟩), .agg #[.int .i64 y.kind, .int .i64 y.pos, .int .i64 y.used], .slice an nn kn] (w.alloc (.cells #[.int .i64 y.kind, .int .i64 y.pos, .int .i64 y.used] 99)) fun e w' => e = .returned (.bool (owB h y)) ∧ Below (w.alloc (.cells #[.int .i64 y.kind, .int .i64 y.pos, .int .i64 y.used] 99)).heap.size (w.alloc (.cells #[.int .i64 y.kind, .int .i64 y.pos, .int .i64 y.used] 99)) w') := ownsCell_any (hQ.below HB0.out) hlc y (hI.below HB0.out)
  clear hQ hI
  generalize owB h y = G at *
  go_enter Try.func143, Try.ntmps143
  go_wp2_with (go_at_call 144; refine Calls.mono HC.out ?_; rintro e u1 ⟨rfl, hu⟩; have HU : Hid (Below w.heap.size w u1) := HB0.out.trans (hu.mono HB0.out.size); clear hu)
  go_ret
  exact ⟨rfl, HU.out⟩
set_option maxHeartbeats 4000000 in
theorem ownCells_any {w : World} {B : Nat} {h : MH} {a : HA} (hQ : QH w B h a) (hlc : h.cs.length ≤ 1048576) {sv : Value} {ss : List SL} (hs : SLrow w sv ss) (hsl : ss.length ≤ 1048576) {lv : Value} (hI : Irow w lv (ldL h.cs 1 (allS h))) : Calls Try.prog 134 #[.pointer (some ⟨B, 0, none⟩), sv, lv] w fun e w' => e = .returned (.bool (ss.all (owB h))) ∧ Below w.heap.size w w' := by
  obtain ⟨an, kn, rfl⟩ := hI.sl
  obtain ⟨ao, cap, rfl⟩ := hs.sl
  obtain ⟨W, hW⟩ : ∃ W, W = ((w.alloc (.cells #[.pointer (some ⟨B, 0, none⟩)] 75)).alloc (.cells #[.slice an (ldL h.cs 1 (allS h)).length kn] 47)) := ⟨_, rfl⟩
  have hB : Below w.heap.size w W := by rw [hW]; exact ((Below.refl _ _).alloc (Nat.le_refl _) _).alloc (by simp) _
  have hsz : W.heap.size = w.heap.size + 2 := by rw [hW]; simp
  have b3 : W.heap[w.heap.size]? = some (.cells #[.pointer (some ⟨B, 0, none⟩)] 75) := by rw [hW, Below.heap_alloc _ _ _ (by simp)]; exact heap_new _ _
  have b5 : W.heap[w.heap.size + 1]? = some (.cells #[.slice an (ldL h.cs 1 (allS h)).length kn] 47) := by rw [hW]; simpa using heap_new (w.alloc (.cells #[.pointer (some ⟨B, 0, none⟩)] 75)) (.cells #[.slice an (ldL h.cs 1 (allS h)).length kn] 47)
  have c3 : W.cell? ⟨w.heap.size, 0, none⟩ = some (.pointer (some ⟨B, 0, none⟩)) := by simp only [World.cell?, b3]; rfl
  have c5 : W.cell? ⟨w.heap.size + 1, 0, none⟩ = some (.slice an (ldL h.cs 1 (allS h)).length kn) := by simp only [World.cell?, b5]; rfl
  have HC : Hid _ := containsSL_any (hs.below hB) hsl 143 #[.pointer (some ⟨w.heap.size, 0, none⟩), .pointer (some ⟨w.heap.size + 1, 0, none⟩)] (fun x => !owB h x) (fun xs w' => by kernel_rfl) (fun x w' hb => notOwn_any ((hQ.below hB).below hb) hlc x ((hI.below hB).below hb) (by have := hb.size; omega) (by have := hb.size; omega) (((bcell hb).1 w.heap.size 0 (by omega)).trans c3) (((bcell hb).1 (w.heap.size + 1) 0 (by omega)).trans c5))
  have e0 : ss.any (fun x => !owB h x) = !ss.all (owB h) := by rw [List.not_all_eq_any_not]
  rw [e0] at HC
  have HB : Hid (Below w.heap.size w W) := hB
  generalize ss.all (owB h) = G at *
  clear hQ hs hI hB b3 b5 c3 c5 e0 hsz
  subst hW
  go_enter Try.func134, Try.ntmps134
  go_wp2_with (go_at_call 142; refine Calls.mono HC.out ?_; rintro e u1 ⟨rfl, hu⟩; have HU : Hid (Below w.heap.size w u1) := HB.out.trans (hu.mono HB.out.size); clear hu)
  go_ret
  exact ⟨ret_bool (by simp), HU.out⟩
/-- A guest has a group of that number. -/
def hgB (n : Nat) (x : Int) : Bool := decide (0 ≤ x ∧ (x + 1) * 4 ≤ (n : Int))
set_option maxHeartbeats 4000000 in
theorem hasGroup_any {w : World} {g o n : Nat} {as1 : Option Addr} {ks : Nat} (hc : w.cell? ⟨g, o, none⟩ = some (.slice as1 n ks)) (hn : n ≤ 32) (x : Int) : Calls Try.prog 115 #[.pointer (some ⟨g, o, none⟩), .int .i64 x] w fun e w' => e = .returned (.bool (hgB n x)) ∧ Below w.heap.size w w' := by
  unfold hgB
  by_cases h0 : 0 ≤ x
  · obtain ⟨q, hq⟩ : ∃ q : Nat, n / 4 = q := ⟨_, rfl⟩
    have hqi : ((n : Int)).tdiv 4 = (q : Int) := by rw [Int.tdiv_eq_ediv_of_nonneg (by omega)]; omega
    have hqe : ((n : Int)) / 4 = (q : Int) := by omega
    have HQ : Hid (decide (0 ≤ x ∧ (x + 1) * 4 ≤ (n : Int)) = decide (x < (q : Int))) := (show _ = _ from decide_eq_decide.2 (by omega))
    rw [HQ.out]
    clear hq
    go_enter Try.func115, Try.ntmps115
    go_wp2
    go_ret
    exact ⟨rfl, Below.refl _ _⟩
  · rw [decide_eq_false (by omega)]
    go_enter Try.func115, Try.ntmps115
    go_wp2
    go_ret
    exact ⟨rfl, Below.refl _ _⟩
set_option maxHeartbeats 4000000 in
theorem group_any {w : World} {g o n : Nat} {g2 o2 ks : Nat} (hc : w.cell? ⟨g, o, none⟩ = some (.slice (some ⟨g2, o2, none⟩) n ks)) (hn : n ≤ 32) (hk : n ≤ ks) (N : Nat) (hN : (N + 1) * 4 ≤ n) : Calls Try.prog 117 #[.pointer (some ⟨g, o, none⟩), .int .i64 (N : Nat)] w fun e w' => e = .returned (.slice (some ⟨g2, o2 + N * 4 * 3, none⟩) 4 (ks - N * 4)) ∧ w' = w := by
  obtain ⟨M, hM⟩ : ∃ M : Nat, N * 4 = M := ⟨_, rfl⟩
  obtain ⟨N1, hN1⟩ : ∃ N1 : Nat, N + 1 = N1 := ⟨_, rfl⟩
  have h1 : ((N : Nat) : Int) * 4 = (M : Int) := by omega
  have h2 : ((N : Nat) : Int) + 1 = (N1 : Int) := by omega
  have h3 : ((N1 : Nat) : Int) * 4 = ((M + 4 : Nat) : Int) := by omega
  have hN8 : N ≤ 8 := by omega
  have hN18 : N1 ≤ 9 := by omega
  have hM32 : M ≤ 32 := by omega
  have hMk : M + 4 ≤ ks := by omega
  obtain ⟨M4, hM4⟩ : ∃ M4 : Nat, M + 4 = M4 := ⟨_, rfl⟩
  rw [hM4] at h3 hMk
  have q1 : (0 : Int) ≤ (M : Int) := by omega
  have q2 : (M : Int) ≤ (M4 : Int) := by omega
  have q3 : (M4 : Int) ≤ (ks : Int) := by omega
  have q4 : M ≤ M4 := by omega
  have HE : Hid (M4 - M = 4) := (show M4 - M = 4 by omega)
  rw [hM]
  clear hM hN1 hN hM4
  go_enter Try.func117, Try.ntmps117
  go_wp2
  go_ret
  exact ⟨by rw [HE.out]; rfl, rfl⟩
end Go.Proofs.Ytomfbiiegcmmlaa
