import Derived.Test.YtfagohdmepnkkaaSMap5
import Derived.Deep.DeepCutAuto
namespace Go.Proofs.Ytfagohdmepnkkaa
open Go.ChangeShapes Go.WideShapes Go.ChangeAt Go.RowKit

def pm0 : PM := ⟨0, 0, 0, false⟩
/-- What MapPages comes to behind so many maps. -/
def mst (mem : ByteArray) (root : Nat) (ms : List PM) (free : List Int) : Nat → MR
  | 0 => ⟨0, mem, free⟩
  | k + 1 => if (mst mem root ms free k).c = 0 then mapV (mst mem root ms free k).mem root (ms.getD k pm0) (mst mem root ms free k).free else mst mem root ms free k
def inF (mem : ByteArray) (free : List Int) : Prop := ∀ x ∈ free, 0 ≤ x ∧ x * 256 + 256 ≤ (mem.size : Int)
theorem setv_sz2 (s : ByteArray) (k : Nat) (n : Int) (h : k + 4 ≤ s.size) : (setv s k n).size = s.size := setv_sz s k n h
theorem secV_ok {mem : ByteArray} {t : Nat} {m : PM} {free : List Int} (ht : t * 256 + 256 ≤ mem.size) : (secV mem t m free).mem.size = mem.size ∧ (secV mem t m free).free = free := by
  unfold secV
  split
  · exact ⟨rfl, rfl⟩
  · exact ⟨setv_sz _ _ _ (by unfold atS; omega), rfl⟩
set_option maxRecDepth 100000 in
theorem mapV_ok {mem : ByteArray} {root : Nat} {m : PM} {free : List Int} (hr : root * 256 + 256 ≤ mem.size) (hf : inF mem free) (h : (mapV mem root m free).c = 0) : (mapV mem root m free).mem.size = mem.size ∧ ∀ x ∈ (mapV mem root m free).free, x ∈ free := by
  have ha : pmOk m = true → atM root m + 4 ≤ mem.size := fun hp => by
    unfold pmOk at hp
    have q := of_decide_eq_true hp
    unfold atM
    omega
  unfold mapV at h ⊢
  by_cases h1 : pmOk m = false
  · rw [if_pos h1] at h
    cases h
  · rw [if_neg h1] at h ⊢
    have hp : pmOk m = true := by simpa using h1
    have ha2 := ha hp
    by_cases h2 : m.large = true
    · rw [if_pos h2] at h ⊢
      split at h
      · cases h
      · rename_i q
        rw [if_neg q]
        exact ⟨setv_sz _ _ _ ha2, fun x hx => hx⟩
    · rw [if_neg h2] at h ⊢
      by_cases h3 : wv mem (atM root m) % 2 = 1
      · rw [if_pos h3] at h ⊢
        by_cases h4 : ¬ wv mem (atM root m) / 2 % 8 = 0
        · rw [if_pos h4] at h
          cases h
        · rw [if_neg h4] at h ⊢
          by_cases h5 : (mem.size : Int) < (wv mem (atM root m) / 256 + 1) * 256
          · rw [if_pos h5] at h
            cases h
          · rw [if_neg h5] at h ⊢
            have hb := wv_b mem (atM root m)
            obtain ⟨q1, q2⟩ := secV_ok (m := m) (free := free) (mem := mem) (t := (wv mem (atM root m) / 256).toNat) (by omega)
            exact ⟨q1, fun x hx => by rw [q2] at hx; exact hx⟩
      · rw [if_neg h3] at h ⊢
        cases free with
        | nil => cases h
        | cons f fr =>
          obtain ⟨p0, p1⟩ := hf f (by simp)
          simp only at h ⊢
          have z0 := zfr_size mem f.toNat (by omega)
          have z1 := setv_sz (zfr mem f.toNat) (atM root m) (f * 256 + 1) (by omega)
          obtain ⟨q1, q2⟩ := secV_ok (m := m) (free := fr) (mem := setv (zfr mem f.toNat) (atM root m) (f * 256 + 1)) (t := f.toNat) (by omega)
          exact ⟨by rw [q1, z1, z0], fun x hx => by rw [q2] at hx; exact List.mem_cons_of_mem _ hx⟩
set_option maxRecDepth 100000 in
theorem mst_ok {mem : ByteArray} {root : Nat} {ms : List PM} {free : List Int} (hr : root * 256 + 256 ≤ mem.size) (hf : inF mem free) : ∀ k, (mst mem root ms free k).c = 0 → (mst mem root ms free k).mem.size = mem.size ∧ ∀ x ∈ (mst mem root ms free k).free, x ∈ free
  | 0, _ => ⟨rfl, fun x hx => hx⟩
  | k + 1, h => by
    unfold mst at h ⊢
    by_cases h1 : (mst mem root ms free k).c = 0
    · rw [if_pos h1] at h ⊢
      obtain ⟨q1, q2⟩ := mst_ok (ms := ms) hr hf k h1
      obtain ⟨p1, p2⟩ := mapV_ok (root := root) (m := ms.getD k pm0) (by rw [q1]; exact hr) (fun x hx => by rw [q1]; exact hf x (q2 x hx)) h
      exact ⟨p1.trans q1, fun x hx => q2 x (p2 x hx)⟩
    · rw [if_neg h1] at h
      exact absurd h h1
/-- At which map it ended. -/
def mAt (mem : ByteArray) (root : Nat) (ms : List PM) (free : List Int) : Nat → Int
  | 0 => 0
  | k + 1 => if (mst mem root ms free k).c = 0 then (k : Int) else mAt mem root ms free k
theorem mst_stay {mem : ByteArray} {root : Nat} {ms : List PM} {free : List Int} {k : Nat} (h : ¬ (mst mem root ms free (k + 1)).c = 0) (h0 : (mst mem root ms free k).c = 0) : ∀ j, mst mem root ms free (k + 1 + j) = mst mem root ms free (k + 1) ∧ mAt mem root ms free (k + 1 + j) = k
  | 0 => ⟨rfl, by rw [Nat.add_zero]; unfold mAt; rw [if_pos h0]⟩
  | j + 1 => by
    obtain ⟨q1, q2⟩ := mst_stay h h0 j
    have e : k + 1 + (j + 1) = (k + 1 + j) + 1 := by omega
    have hn : ¬ (mst mem root ms free (k + 1 + j)).c = 0 := by rw [q1]; exact h
    rw [e]
    constructor
    · have : mst mem root ms free (k + 1 + j + 1) = mst mem root ms free (k + 1 + j) := by
        conv => lhs; unfold mst
        rw [if_neg hn]
      rw [this, q1]
    · have : mAt mem root ms free (k + 1 + j + 1) = mAt mem root ms free (k + 1 + j) := by
        conv => lhs; unfold mAt
        rw [if_neg hn]
      rw [this, q2]
def resA (c at_ : Int) (s : ByteArray) (v : Value) : Value := .agg #[.int .i64 c, .int .i64 at_, .string s, v]
/-- The box of MapPages's answer. -/
def RB (w u : World) : Prop := u.heap[w.heap.size]? = some (.cells #[.int .i64 0, .int .i64 0, .string ⟨#[]⟩, .slice none 0 0] 31 (0, 0))
theorem RB.below {w u u' : World} (h : RB w u) (hb : Below u.heap.size u u') : RB w u' := (hb.block _ (Array.getElem?_eq_some_iff.1 h).1).trans h
theorem inN_of {mem : ByteArray} {x : Int} (h0 : 0 ≤ x) (h1 : x * 256 + 256 ≤ (mem.size : Int)) : (decide (0 ≤ x) && decide (x < (mem.size : Int) / 256)) = true := by
  simp
  omega
set_option maxRecDepth 100000 in
set_option maxHeartbeats 4000000 in
theorem l03In_yes (s : ByteArray) (x : Int) (w : World) (hs : s.size ≤ 65536) (h0 : 0 ≤ x) (h1 : x * 256 + 256 ≤ (s.size : Int)) :
    Calls Try.prog 52 #[.string s, .int .i64 x] w fun e w' => e = .returned (.bool true) ∧ w' = w := by
  have h2 : x < (s.size : Int) / 256 := by omega
  clear h1
  go_enter Try.func52, Try.ntmps52
  go_wp2
  go_ret
  exact ⟨rfl, rfl⟩
theorem Orow.set {w : World} {B b o : Nat} {x v : Value} {zs : List Int} (h : Orow w B v zs) (hb : b < B) : Orow (w.setCell ⟨b, o, none⟩ x) B v zs := by
  rcases h with h | ⟨g, o2, cap, cur, hv, hB, hc, hg, ha⟩
  · exact .inl h
  · exact .inr ⟨g, o2, cap, cur, hv, hB, hc, (Below.heap_setCell _ _ _ _ (by simp only; omega)).trans hg, ha⟩
theorem Orow.weak {w : World} {B B' : Nat} {v : Value} {zs : List Int} (h : Orow w B v zs) (hb : B' ≤ B) : Orow w B' v zs := by
  rcases h with h | ⟨g, o2, cap, cur, hv, hB, hr⟩
  · exact .inl h
  · exact .inr ⟨g, o2, cap, cur, hv, Nat.le_trans hb hB, hr⟩
theorem RB.put {w u : World} (h : RB w u) (c a : Int) (s : ByteArray) (v : Value) {U : World} (hU : (((u.setCell ⟨w.heap.size, 0, none⟩ (.int .i64 c)).setCell ⟨w.heap.size, 1, none⟩ (.int .i64 a)).setCell ⟨w.heap.size, 2, none⟩ (.string s)).setCell ⟨w.heap.size, 3, none⟩ v = U) : U.heap[w.heap.size]? = some (.cells #[.int .i64 c, .int .i64 a, .string s, v] 31 (0, 0)) := by
  subst hU
  have h0 := heap_setCell_same u w.heap.size 0 _ _ (.int .i64 c) h
  have h1 := heap_setCell_same _ w.heap.size 1 _ _ (.int .i64 a) h0
  have h2 := heap_setCell_same _ w.heap.size 2 _ _ (.string s) h1
  have h3 := heap_setCell_same _ w.heap.size 3 _ _ v h2
  simpa using h3
set_option maxRecDepth 100000 in
set_option maxHeartbeats 8000000 in
theorem specMaps_good {w : World} {mv0 fv : Value} {ms : List PM} {free : List Int} (mem : ByteArray) (root : Nat) (hM : PMrow w mv0 ms) (hF : Irow w fv free) (hm : memOk mem = true) (hr : root * 256 + 256 ≤ mem.size) (hf : inF mem free) (l1 : ms.length ≤ 1000) (l2 : free.length ≤ 1000) :
    Calls Try.prog 12 #[.string mem, .int .i64 root, mv0, fv] w fun e w' => Below w.heap.size w w' ∧ (((mst mem root ms free ms.length).c = 0 ∧ ∃ v, e = .returned (resA 0 0 (mst mem root ms free ms.length).mem v) ∧ Orow w' w.heap.size v (mst mem root ms free ms.length).free) ∨ (¬ (mst mem root ms free ms.length).c = 0 ∧ e = .returned (resA (mst mem root ms free ms.length).c (mAt mem root ms free ms.length) ⟨#[]⟩ (.slice none 0 0)))) := by
  obtain ⟨ao, cap, rfl⟩ := hM.sl
  obtain ⟨ao2, cap2, rfl⟩ := hF.sl
  have hb := memOk_b hm
  have HS : Hid (mem.size ≤ 65536) := hb.2.1
  have hs1 : ¬ 65536 < (mem.size : Int) := by omega
  have hs2 : ¬ 1000 < (ms.length : Int) := by omega
  have hs3 : ¬ 1000 < (free.length : Int) := by omega
  have HMF : Hid _ := fun u => specMemFault_any mem u (by omega)
  rw [memC_ok hm] at HMF
  have HIR : Hid _ := fun u => l03In_yes mem (root : Int) u hb.2.1 (by omega) (by omega)
  have HM : Hid (PMrow w (.slice ao ms.length cap) ms) := hM
  have HF : Hid (Irow w (.slice ao2 free.length cap2) free) := hF
  have HIN : Hid (inF mem free) := hf
  have HR : Hid (root * 256 + 256 ≤ mem.size) := hr
  have HB0 : Hid (Below w.heap.size w (w.alloc (.cells #[.int .i64 0, .int .i64 0, .string ⟨#[]⟩, .slice none 0 0] 31))) := (Below.refl _ _).alloc (Nat.le_refl _) _
  have HX0 : Hid (RB w (w.alloc (.cells #[.int .i64 0, .int .i64 0, .string ⟨#[]⟩, .slice none 0 0] 31))) := heap_new _ _
  have HWS : Hid ((w.alloc (.cells #[.int .i64 0, .int .i64 0, .string ⟨#[]⟩, .slice none 0 0] 31)).heap.size = w.heap.size + 1) := (show (w.alloc (.cells #[.int .i64 0, .int .i64 0, .string ⟨#[]⟩, .slice none 0 0] 31)).heap.size = w.heap.size + 1 by simp)
  clear hM hF hm hr hf hb
  go_enter Try.func12, Try.ntmps12
  go_upto_region 6 with (first
    | (go_at_call 36; refine Calls.mono (HMF.out _) ?_; rintro r u1 ⟨rfl, hu1⟩; subst u1)
    | (go_at_call 52; refine Calls.mono (HIR.out _) ?_; rintro r u1 ⟨rfl, hu1⟩; subst u1))
  generalize w.alloc (.cells #[.int .i64 0, .int .i64 0, .string ⟨#[]⟩, .slice none 0 0] 31) = W at *
  go_loopw [9] (fun i wr => ∃ k : Nat, k ≤ free.length ∧ i = .int .i64 k ∧ wr = W) (fun i _ => free.length - (intOf i).toNat)
  case atStart => exact ⟨0, Nat.zero_le _, rfl, rfl⟩
  case round =>
    obtain ⟨k, hk, rfl, rfl⟩ := hrel
    by_cases hlt : k < free.length
    · obtain ⟨g, o, c3, hv, _, hg, hc⟩ := HF.out.resolve_left (fun h => by rw [h.1] at hlt; simp at hlt)
      injection hv with hv1 hv2 hv3
      subst hv1 hv3
      have d1 := hc.below HB0.out hg k hlt
      obtain ⟨z, hz⟩ : ∃ z, free[k] = z := ⟨_, rfl⟩
      rw [hz] at d1
      have HZ : Hid _ := HIN.out z (by rw [← hz]; exact List.getElem_mem hlt)
      have HIZ : Hid _ := fun u => l03In_yes mem z u HS.out HZ.out.1 HZ.out.2
      have hk0 : (0 : Int) ≤ (k : Int) := by omega
      have hk1 : (k : Int) < (free.length : Int) := by omega
      clear hc hz
      go_wp2_with (go_at_call 52; refine Calls.mono (HIZ.out _) ?_; rintro r u1 ⟨rfl, hu1⟩; subst u1)
      refine ⟨⟨k + 1, hlt, by go_num, by first | rfl | trivial⟩, by simp [intOf]; omega⟩
    · obtain rfl : k = free.length := by omega
      have HLI : Hid _ := l01Ints_any (HF.out.below HB0.out) (by omega)
      clear hk
      go_upto_region 12 with (go_at_call 53; refine Calls.mono HLI.out ?_; rintro r u2 ⟨lv, rfl, ho, hb⟩; have HO : Hid (Orow u2 wr.heap.size lv free) := ho; have HB2 : Hid (Below w.heap.size w u2) := HB0.out.trans (hb.mono HB0.out.size); have HX2 : Hid (RB w u2) := HX0.out.below hb; clear ho hb HLI)
      have HO2 : Hid (Orow u2 (w.heap.size + 1) lv free) := (show Orow u2 (w.heap.size + 1) lv free by rw [← HWS.out]; exact HO.out)
      clear HO
      go_loopw [0, 10, 11] (fun m l i wr => ∃ (k : Nat) (v2 : Value), k ≤ ms.length ∧ i = .int .i64 k ∧ (mst mem root ms free k).c = 0 ∧ m = .string (mst mem root ms free k).mem ∧ l = v2 ∧ Orow wr (w.heap.size + 1) v2 (mst mem root ms free k).free ∧ Below w.heap.size w wr ∧ RB w wr) (fun _ _ i _ => ms.length - (intOf i).toNat)
      case atStart => exact ⟨0, lv, Nat.zero_le _, rfl, rfl, rfl, rfl, HO2.out, HB2.out, HX2.out⟩
      case round =>
        obtain ⟨k, v2, hk, rfl, hc0, rfl, rfl, hO, hb, hx⟩ := hrel
        have HOK : Hid _ := mst_ok (ms := ms) HR.out HIN.out k hc0
        have HC0 : Hid ((mst mem root ms free k).c = 0) := hc0
        have HO : Hid (Orow _ (w.heap.size + 1) u10 (mst mem root ms free k).free) := hO
        have HBW : Hid (Below w.heap.size w _) := hb
        have HXW : Hid (RB w _) := hx
        clear hO hb hx hc0
        by_cases hlt : k < ms.length
        · obtain ⟨g, o, c3, hv, _, hg, hc⟩ := HM.out.resolve_left (fun h => by rw [h.1] at hlt; simp at hlt)
          injection hv with hv1 hv2 hv3
          subst hv1 hv3
          obtain ⟨d0, d1, d2, d3⟩ := hc.below HBW.out hg k hlt
          obtain ⟨z, hz⟩ : ∃ z, ms[k] = z := ⟨_, rfl⟩
          rw [hz] at d0 d1 d2 d3
          have HGD : Hid (ms.getD k pm0 = z) := (show ms.getD k pm0 = z by rw [← hz]; simp [List.getD, List.getElem?_eq_getElem hlt])
          have HNX : Hid (mst mem root ms free (k + 1) = mapV (mst mem root ms free k).mem root z (mst mem root ms free k).free) := (show mst mem root ms free (k + 1) = _ by
            conv => lhs; unfold mst
            rw [if_pos HC0.out, HGD.out])
          obtain ⟨s1, hs1'⟩ : ∃ s1, (mst mem root ms free k).mem = s1 := ⟨_, rfl⟩
          obtain ⟨f1, hf1⟩ : ∃ f1, (mst mem root ms free k).free = f1 := ⟨_, rfl⟩
          rw [hs1', hf1] at HNX
          rw [hf1] at HO
          rw [hs1', hf1] at HOK
          have HL : Hid _ := l03Map_any s1 root z HO.out.irow (by rw [HOK.out.1]; exact HS.out) (by rw [HOK.out.1]; exact HR.out) (fun x hx => by rw [HOK.out.1]; exact HIN.out x (HOK.out.2 x hx))
          rw [← HNX.out] at HL
          rw [hs1']
          unfold pmA at HL
          have hk0 : (0 : Int) ≤ (k : Int) := by omega
          have hk1 : (k : Int) < (ms.length : Int) := by omega
          clear hc hz hs1' hf1
          by_cases hcz : (mst mem root ms free (k + 1)).c = 0
          · have HCZ : Hid ((mst mem root ms free (k + 1)).c = 0) := hcz
            clear hcz
            go_wp2_with (go_at_call 54; refine Calls.mono HL.out ?_; rintro r u4 ⟨s2, v2, rfl, hb, hq⟩; rw [HCZ.out]; obtain ⟨hq1, hq2⟩ := hq HCZ.out; have HS2 : Hid (s2 = (mst mem root ms free (k + 1)).mem) := hq1; have HO4 : Hid (Orow u4 (w.heap.size + 1) v2 (mst mem root ms free (k + 1)).free) := hq2 _ HO.out; have HB4 : Hid (Below w.heap.size w u4) := HBW.out.trans (hb.mono HBW.out.size); have HX4 : Hid (RB w u4) := HXW.out.below hb; clear hb hq hq1 hq2 HL)
            refine ⟨⟨k + 1, v2, hlt, by go_num, HCZ.out, by rw [HS2.out], rfl, HO4.out, HB4.out, HX4.out⟩, by simp [intOf]; omega⟩
          · obtain ⟨q1, q2⟩ := mst_stay hcz HC0.out (ms.length - (k + 1))
            rw [show k + 1 + (ms.length - (k + 1)) = ms.length by omega] at q1 q2
            have HQ1 : Hid (mst mem root ms free ms.length = mst mem root ms free (k + 1)) := q1
            have HQ2 : Hid (mAt mem root ms free ms.length = k) := q2
            obtain ⟨c, hcc⟩ : ∃ c, (mst mem root ms free (k + 1)).c = c := ⟨_, rfl⟩
            rw [hcc] at hcz HL
            have HCC : Hid ((mst mem root ms free (k + 1)).c = c) := hcc
            have hc2 : (c == 0) = false := by simpa using hcz
            have HCZ : Hid (¬ c = 0) := hcz
            clear q1 q2 hcc hcz
            go_wp2_with (go_at_call 54; refine Calls.mono HL.out ?_; rintro r u4 ⟨s2, v2, rfl, hb, hq⟩; have HB4 : Hid (Below w.heap.size w u4) := HBW.out.trans (hb.mono HBW.out.size); have HX4 : Hid (RB w u4) := HXW.out.below hb; obtain ⟨b0, b1, b2, b3⟩ := cel4P HX4.out; have bf : ∀ x, u4.frozen? ⟨w.heap.size, x, none⟩ = false := (fun x => by simp [World.frozen?, (show u4.heap[w.heap.size]? = _ from HX4.out)]); clear hb hq HL)
            obtain ⟨r0, r1, r2, r3⟩ := cel4P (HX4.out.put c k ⟨#[]⟩ (.slice none 0 0) rfl)
            refine bodyPost_ret (v := .agg #[.int .i64 c, .int .i64 k, .string ⟨#[]⟩, .slice none 0 0]) (by simp [results, Try.results12, go_sem, r0, r1, r2, r3]) rfl ⟨(((HB4.out.setCell (Nat.le_refl _) _).setCell (Nat.le_refl _) _).setCell (Nat.le_refl _) _).setCell (Nat.le_refl _) _, .inr ⟨by rw [HQ1.out, HCC.out]; exact HCZ.out, by rw [HQ1.out, HCC.out, HQ2.out]; rfl⟩⟩
        · obtain rfl : k = ms.length := by omega
          obtain ⟨b0, b1, b2, b3⟩ := cel4P HXW.out
          have bf : ∀ x, wr.frozen? ⟨w.heap.size, x, none⟩ = false := (fun x => by simp [World.frozen?, (show wr.heap[w.heap.size]? = _ from HXW.out)])
          obtain ⟨a10, c10, he10⟩ := HO.out.irow.sl
          subst he10
          obtain ⟨s1, hs1'⟩ : ∃ s1, (mst mem root ms free ms.length).mem = s1 := ⟨_, rfl⟩
          have HS1 : Hid ((mst mem root ms free ms.length).mem = s1) := hs1'
          rw [hs1']
          clear hs1'
          go_wp2
          obtain ⟨r0, r1, r2, r3⟩ := cel4P (HXW.out.put 0 0 s1 (.slice a10 (mst mem root ms free ms.length).free.length c10) rfl)
          refine bodyPost_ret (v := .agg #[.int .i64 0, .int .i64 0, .string s1, .slice a10 (mst mem root ms free ms.length).free.length c10]) (by simp [results, Try.results12, go_sem, r0, r1, r2, r3]) rfl ⟨(((HBW.out.setCell (Nat.le_refl _) _).setCell (Nat.le_refl _) _).setCell (Nat.le_refl _) _).setCell (Nat.le_refl _) _, .inl ⟨HC0.out, _, by rw [HS1.out]; rfl, ?_⟩⟩
          exact ((((HO.out.set (Nat.lt_succ_self _)).set (Nat.lt_succ_self _)).set (Nat.lt_succ_self _)).set (Nat.lt_succ_self _)).weak (Nat.le_succ _)
end Go.Proofs.Ytfagohdmepnkkaa
