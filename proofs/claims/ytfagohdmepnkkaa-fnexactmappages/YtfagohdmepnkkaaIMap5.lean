import Derived.Test.YtfagohdmepnkkaaIMap4
import Derived.Test.YtfagohdmepnkkaaSMap6
import Derived.BigQuiet
namespace Go.Proofs.Ytfagohdmepnkkaa
open Go.ChangeShapes Go.WideShapes Go.ChangeAt Go.RowKit

/-- The mapper under way. -/
structure MpS (w : World) (b M B n : Nat) (root : Int) (s : ByteArray) (fv : Value) (free : List Int) : Prop where
  mem : MemAt w b s
  box : MpB w M b n root fv
  row : Frow w b M B fv free
theorem MpS.below {w u : World} {b M B n : Nat} {root : Int} {s : ByteArray} {fv : Value} {free : List Int} (h : MpS w b M B n root s fv free) (hb : Below w.heap.size w u) : MpS u b M B n root s fv free :=
  ⟨h.mem.below hb h.mem.lt, h.box.below hb, h.row.block (fun k hk _ _ => hb.block k hk)⟩
theorem gbS {w u : World} {b M B n : Nat} {root : Int} {s s2 : ByteArray} {fv : Value} {free : List Int} (h : MpS w b M B n root s fv free) (hne : M ≠ b) (hm : MemAt u b s2) (hg : w.grownBy u (some b)) : MpS u b M B n root s2 fv free :=
  ⟨hm, (hg.block M h.box.lt (fun q => hne (Option.some.inj q))).trans h.box, (Gm.of (M := M) hg).frow h.row⟩
theorem secV_is (mem : ByteArray) (t : Nat) (m : PM) (free : List Int) : (secV mem t m free).c = (if wv mem (atS t m) % 2 = 1 then 9 else 0) ∧ (secV mem t m free).mem = (if wv mem (atS t m) % 2 = 1 then mem else setv mem (atS t m) (enM m)) ∧ (secV mem t m free).free = free := by
  unfold secV
  split <;> exact ⟨rfl, rfl, rfl⟩
theorem putSec {u : World} {b M B n : Nat} {root : Int} {s : ByteArray} {fv : Value} {free : List Int} (m : PM) (h : MpS u b M B n root s fv free) (hne : M ≠ b) (hn : s.size = n * 256) (hs : s.size ≤ 65536) (t : Nat) (ht : t * 256 + 256 ≤ s.size) (V : Nat) (hV : m.va = (V : Int)) (f0 : 0 ≤ m.frame) (f1 : m.frame ≤ 1023) :
    Calls Try.prog 99 #[.pointer (some ⟨M, 0, none⟩), .int .i64 ((t : Int) * 256 + (V : Int) / 256 % 32 * 4), pmA m] u fun e w' => e = .returned (.int .i64 (secV s t m free).c) ∧ MpS w' b M B n root (secV s t m free).mem fv (secV s t m free).free ∧ Gm u w' b M := by
  obtain ⟨q1, q2, q3⟩ := secV_is s t m free
  rw [q1, q2, q3]
  have e : (t : Int) * 256 + (V : Int) / 256 % 32 * 4 = ((atS t m : Nat) : Int) := by
    unfold atS
    rw [hV]
    omega
  rw [e]
  refine (putPage_any m h.mem h.box hn hs (by unfold atS; omega) (by unfold atS; omega) f0 f1).mono ?_
  rintro e w' ⟨rfl, hm, hg⟩
  exact ⟨rfl, gbS h hne hm hg, Gm.of hg⟩
theorem putFst {u : World} {b M B n : Nat} {root : Nat} {s : ByteArray} {fv : Value} {free : List Int} (m : PM) (h : MpS u b M B n root s fv free) (hne : M ≠ b) (hn : s.size = n * 256) (hs : s.size ≤ 65536) (ht : root * 256 + 256 ≤ s.size) (V : Nat) (hV : m.va = (V : Int)) (hv : V < 262144) (f0 : 0 ≤ m.frame) (f1 : m.frame ≤ 1023) (hp : pmOk m = true) (hl : m.large = true) :
    Calls Try.prog 99 #[.pointer (some ⟨M, 0, none⟩), .int .i64 ((root : Int) * 256 + (V : Int) / 8192 * 4), pmA m] u fun e w' => e = .returned (.int .i64 (mapV s root m free).c) ∧ MpS w' b M B n root (mapV s root m free).mem fv (mapV s root m free).free ∧ Gm u w' b M := by
  have q : mapV s root m free = if wv s (atM root m) % 2 = 1 then ⟨9, s, free⟩ else ⟨0, setv s (atM root m) (enM m), free⟩ := by
    unfold mapV
    rw [if_neg (by rw [hp]; decide), if_pos hl]
  have q1 : (mapV s root m free).c = (if wv s (atM root m) % 2 = 1 then 9 else 0) := by rw [q]; split <;> rfl
  have q2 : (mapV s root m free).mem = (if wv s (atM root m) % 2 = 1 then s else setv s (atM root m) (enM m)) := by rw [q]; split <;> rfl
  have q3 : (mapV s root m free).free = free := by rw [q]; split <;> rfl
  rw [q1, q2, q3]
  have e : (root : Int) * 256 + (V : Int) / 8192 * 4 = ((atM root m : Nat) : Int) := by
    unfold atM
    rw [hV]
    omega
  rw [e]
  refine (putPage_any m h.mem h.box hn hs (by unfold atM; rw [hV]; omega) (by unfold atM; omega) f0 f1).mono ?_
  rintro e w' ⟨rfl, hm, hg⟩
  exact ⟨rfl, gbS h hne hm hg, Gm.of hg⟩
/-- What put answers. -/
def PutA (w : World) (b M B n : Nat) (root : Int) (r : MR) (e : Ending) (w' : World) : Prop := e = .returned (.int .i64 r.c) ∧ Gm w w' b M ∧ (r.c = 0 → ∃ fv', MpS w' b M B n root r.mem fv' r.free)
set_option maxRecDepth 100000 in
set_option maxHeartbeats 4000000 in
theorem put_no {w : World} {b M B n : Nat} {root : Nat} {s : ByteArray} {free : List Int} (m : PM) (g0 : -9223372036854775808 ≤ m.flags) (g1 : m.flags ≤ 9223372036854775807) (hp : pmOk m = false) :
    Calls Try.prog 61 #[.pointer (some ⟨M, 0, none⟩), pmA m] w fun e w' => PutA w b M B n root (mapV s root m free) e w' := by
  have E : mapV s root m free = ⟨1, s, free⟩ := by unfold mapV; rw [if_pos hp]
  rw [E]
  have HIP : Hid (∀ u : World, Calls Try.prog 96 #[pmA m] u fun e w' => e = .returned (.bool false) ∧ Below u.heap.size u w') := fun u => by rw [← hp]; exact isPageMap_any m u g0 g1
  clear E hp
  obtain ⟨va, fr, fl, lg⟩ := m
  unfold pmA at HIP ⊢
  simp only at g0 g1 HIP ⊢
  have HB0 : Hid (Below w.heap.size w (w.alloc (.cells #[.int .i64 va, .int .i64 fr, .int .i64 fl, .bool lg] 101))) := (Below.refl _ _).alloc (Nat.le_refl _) _
  have HX1 : Hid ((w.alloc (.cells #[.int .i64 va, .int .i64 fr, .int .i64 fl, .bool lg] 101)).heap[w.heap.size]? = some (.cells #[.int .i64 va, .int .i64 fr, .int .i64 fl, .bool lg] 101 (0, 0))) := heap_new _ _
  clear g0 g1
  go_enter Try.func61, Try.ntmps61
  go_upto_region 1 with fail
  generalize w.alloc (.cells #[.int .i64 va, .int .i64 fr, .int .i64 fl, .bool lg] 101) = W at *
  obtain ⟨d0, d1, d2, d3⟩ := cel4P HX1.out
  go_wp2_with (go_at_call 96; refine Calls.mono (HIP.out _) ?_; rintro r u1 ⟨rfl, hu1⟩; have HU : Hid (Below W.heap.size W u1) := hu1; clear hu1)
  go_ret
  exact ⟨rfl, Gm.of_below (HB0.out.trans (HU.out.mono HB0.out.size)), fun c => by cases c⟩
/-- What haveTable leaves. -/
def haveV (s : ByteArray) (k : Nat) (free : List Int) : MR :=
  if wv s k % 2 = 1 then ⟨0, s, free⟩ else match free with
    | [] => ⟨4, s, []⟩
    | f :: fr => ⟨0, setv (zfr s f.toNat) k (f * 256 + 1), fr⟩
theorem mapV_have {s : ByteArray} {root n : Nat} {m : PM} {free : List Int} (hp : pmOk m = true) (hl : m.large = false) (hn : s.size = n * 256) (hs : s.size ≤ 65536) (hk : atM root m + 4 ≤ s.size) (hfr : inF s free) :
    ((haveV s (atM root m) free).c = 4 ∧ (mapV s root m free).c = 4) ∨ ((haveV s (atM root m) free).c = 0 ∧ (haveV s (atM root m) free).mem.size = s.size ∧
      (¬ wv (haveV s (atM root m) free).mem (atM root m) % 16 = 1 → (mapV s root m free).c = 9) ∧
      (wv (haveV s (atM root m) free).mem (atM root m) % 16 = 1 → ¬ wv (haveV s (atM root m) free).mem (atM root m) / 256 < (n : Int) → (mapV s root m free).c = 9) ∧
      (wv (haveV s (atM root m) free).mem (atM root m) % 16 = 1 → wv (haveV s (atM root m) free).mem (atM root m) / 256 < (n : Int) → mapV s root m free = secV (haveV s (atM root m) free).mem (wv (haveV s (atM root m) free).mem (atM root m) / 256).toNat m (haveV s (atM root m) free).free)) := by
  by_cases h : wv s (atM root m) % 2 = 1
  · have e1 : haveV s (atM root m) free = ⟨0, s, free⟩ := by unfold haveV; rw [if_pos h]
    have e2 : mapV s root m free = (if ¬ wv s (atM root m) / 2 % 8 = 0 then ⟨9, s, free⟩
     else if (s.size : Int) < (wv s (atM root m) / 256 + 1) * 256 then ⟨9, s, free⟩
     else secV s (wv s (atM root m) / 256).toNat m free) := by
      unfold mapV
      rw [if_neg (by rw [hp]; decide), if_neg (by rw [hl]; decide), if_pos h]
    rw [e1, e2]
    refine .inr ⟨rfl, rfl, fun h1 => ?_, fun h1 h2 => ?_, fun h1 h2 => ?_⟩
    · simp only at h1
      rw [if_pos (by omega)]
    · simp only at h1 h2
      rw [if_neg (by omega), if_pos (by omega)]
    · simp only at h1 h2 ⊢
      rw [if_neg (by omega), if_neg (by omega)]
  · cases free with
    | nil =>
      have e1 : haveV s (atM root m) [] = ⟨4, s, []⟩ := by unfold haveV; rw [if_neg h]
      have e2 : mapV s root m [] = ⟨4, s, []⟩ := by
        unfold mapV
        rw [if_neg (by rw [hp]; decide), if_neg (by rw [hl]; decide), if_neg h]
      rw [e1, e2]
      exact .inl ⟨rfl, rfl⟩
    | cons f0 fr =>
      obtain ⟨q0, q1⟩ := hfr f0 (by simp)
      obtain ⟨f, rfl⟩ : ∃ f : Nat, f0 = (f : Int) := ⟨f0.toNat, by omega⟩
      have hz0 := zfr_size s f (by omega)
      have hz1 := setv_sz (zfr s f) (atM root m) ((f : Int) * 256 + 1) (by omega)
      have hz2 := wv_setv (zfr s f) (atM root m) ((f : Int) * 256 + 1) (by omega) (by omega) (by omega)
      have e1 : haveV s (atM root m) ((f : Int) :: fr) = ⟨0, setv (zfr s f) (atM root m) ((f : Int) * 256 + 1), fr⟩ := by
        unfold haveV
        rw [if_neg h]
        simp only [Int.toNat_natCast]
      have e2 : mapV s root m ((f : Int) :: fr) = secV (setv (zfr s f) (atM root m) ((f : Int) * 256 + 1)) f m fr := by
        unfold mapV
        rw [if_neg (by rw [hp]; decide), if_neg (by rw [hl]; decide), if_neg h]
        simp only [Int.toNat_natCast]
      rw [e1, e2]
      refine .inr ⟨rfl, hz1.trans hz0, fun h1 => ?_, fun h1 h2 => ?_, fun h1 h2 => ?_⟩
      · simp only [hz2] at h1
        omega
      · simp only [hz2] at h2
        omega
      · simp only [hz2]
        rw [show ((f : Int) * 256 + 1) / 256 = (f : Int) by omega, Int.toNat_natCast]
set_option maxRecDepth 100000 in
set_option maxHeartbeats 4000000 in
theorem haveTable_any {w : World} {b M B n : Nat} {root : Nat} {s : ByteArray} {fv : Value} {free : List Int} (va K : Nat) (h : MpS w b M B n root s fv free) (hne : M ≠ b) (hn : s.size = n * 256) (hs : s.size ≤ 65536) (hr : root * 256 + 256 ≤ s.size) (hfr : inF s free) (hv : va ≤ 262143) (hK : K = root * 256 + 4 * (va / 8192)) :
    Calls Try.prog 100 #[.pointer (some ⟨M, 0, none⟩), .int .i64 va] w fun e w' => PutA w b M B n root (haveV s K free) e w' := by
  have EK : Hid ((root : Int) * 256 + (va : Int) / 8192 * 4 = (K : Int)) := (show (root : Int) * 256 + (va : Int) / 8192 * 4 = (K : Int) by omega)
  have KB : Hid (K + 4 ≤ s.size ∧ K % 4 = 0) := (show K + 4 ≤ s.size ∧ K % 4 = 0 by omega)
  have HW : Hid (∀ (u : World), MemAt u b s → Calls Try.prog 101 #[mv b n, .int .i64 ((root : Int) * 256 + (va : Int) / 8192 * 4)] u fun e w' => e = .returned (.int .i64 (wv s K)) ∧ ∃ q, w' = u.drewN q) := fun u hu => by
    rw [EK.out]
    exact memWord_any b n s _ u hu hn hs KB.out.1 KB.out.2
  have hxb := wv_b s K
  obtain ⟨x, hx⟩ : ∃ x, wv s K = x := ⟨_, rfl⟩
  rw [hx] at hxb HW
  unfold mv at HW
  have HV : Hid (va ≤ 262143) := hv
  have HN : Hid (s.size = n * 256 ∧ s.size ≤ 65536 ∧ root * 256 + 256 ≤ s.size) := ⟨hn, hs, hr⟩
  have HFR : Hid (inF s free) := hfr
  have HNE : Hid (M ≠ b) := hne
  have HX0 : Hid (wv s K = x) := hx
  have r0 : root ≤ 255 := by omega
  obtain ⟨c0, c1, c2⟩ := h.box.cel
  unfold mv at c0
  have HH : Hid (MpS w b M B n root s fv free) := h
  clear h hn hs hr hfr hne hK hx
  go_enter Try.func100, Try.ntmps100
  go_upto_region 1 with fail
  go_quiet (first | (go_at_call 98; exact Calls.quiet_of (firstIndex_any va _ HV.out)) | (go_at_call 97; exact Calls.quiet_of_same (entryPlace_any _ _ _ (by omega) (by omega) (by omega) (by omega))))
  go_upto_region 2 with fail
  have HS2 : Hid (MpS (w.drewN nq) b M B n root s fv free) := HH.out.below (bdn (Below.refl _ _) nq)
  have HB2 : Hid (Below w.heap.size w (w.drewN nq)) := bdn (Below.refl _ _) nq
  generalize w.drewN nq = U at *
  clear c0 c1 c2 HH
  obtain ⟨c0, c1, c2⟩ := HS2.out.box.cel
  unfold mv at c0
  by_cases h3 : x % 2 = 1
  · have k1 : bits .and .i64 x 1 = 1 := by rw [and1 x hxb.1 (by omega)]; exact h3
    have E : Hid (haveV s K free = ⟨0, s, free⟩) := (show haveV s K free = ⟨0, s, free⟩ by unfold haveV; rw [HX0.out, if_pos h3])
    clear h3
    go_wp2_with (go_at_call 101; refine Calls.mono (HW.out _ HS2.out.mem) ?_; rintro r u3 ⟨rfl, q3, hu3⟩; subst u3)
    go_ret
    exact ⟨by rw [E.out]; rfl, Gm.of_below (bdn HB2.out q3), fun _ => ⟨_, by rw [E.out]; exact HS2.out.below (bdn (Below.refl _ _) q3)⟩⟩
  · have k1 : bits .and .i64 x 1 = 0 := by rw [and1 x hxb.1 (by omega)]; omega
    have HPR : Hid (¬ x % 2 = 1) := h3
    clear h3
    go_upto_region 4 with (go_at_call 101; refine Calls.mono (HW.out _ HS2.out.mem) ?_; rintro r u3 ⟨rfl, q3, hu3⟩; subst u3)
    have HG3 : Hid (Gm w (U.drewN q3) b M) := Gm.of_below (bdn HB2.out q3)
    have HS3 : Hid (MpS (U.drewN q3) b M B n root s fv free) := HS2.out.below (bdn (Below.refl _ _) q3)
    generalize U.drewN q3 = U1 at *
    clear c0 c1 c2 HS2 HB2
    cases free with
    | nil =>
      have E : Hid (haveV s K [] = ⟨4, s, []⟩) := (show haveV s K [] = ⟨4, s, []⟩ by unfold haveV; rw [HX0.out, if_neg HPR.out])
      obtain ⟨ao, cap, hfv⟩ := HS3.out.row.sl
      rw [List.length_nil] at hfv
      subst hfv
      have HAT : Hid _ := addTable_none (k := K) HS3.out.box
      rw [← EK.out] at HAT
      go_wp2_with (go_at_call 121; refine Calls.mono HAT.out ?_; rintro r u5 ⟨rfl, hu5⟩; subst u5)
      go_ret
      exact ⟨by rw [E.out]; rfl, HG3.out, fun c => by rw [E.out] at c; cases c⟩
    | cons f0 frs =>
      obtain ⟨q0, q1⟩ := HFR.out f0 (by simp)
      obtain ⟨f, rfl⟩ : ∃ f : Nat, f0 = (f : Int) := ⟨f0.toNat, by omega⟩
      have hff : f * 256 + 256 ≤ s.size := by omega
      obtain ⟨g, o, cap, cur, hfv, _, _, hgM, hcap, _, _⟩ := HS3.out.row.resolve_left (fun q => by cases q.1)
      subst hfv
      simp only [List.length_cons] at hcap
      obtain ⟨ao2, hsl, hao⟩ := sl_tailI g o (frs.length + 1) cap (by omega) hcap
      obtain ⟨tl1, tl2, tl3⟩ := HS3.out.row.tl ao2 (by simpa using hao)
      simp only [List.length_cons] at tl3
      have HFT : Hid _ := tl3
      have HAT : Hid _ := addTable_some (k := K) (ao2 := ao2) (nn := frs.length + 1) HS3.out.mem HS3.out.box HNE.out hgM tl1 (by omega) hsl hff HN.out.1 HN.out.2.1 KB.out.1 KB.out.2
      rw [← EK.out] at HAT
      have E : Hid (haveV s K ((f : Int) :: frs) = ⟨0, setv (zfr s f) K ((f : Int) * 256 + 1), frs⟩) := (show haveV s K ((f : Int) :: frs) = ⟨0, setv (zfr s f) K ((f : Int) * 256 + 1), frs⟩ by
        unfold haveV
        rw [HX0.out, if_neg HPR.out]
        simp only [Int.toNat_natCast])
      clear q0 q1 hff hcap hsl hao tl1 tl2 tl3 hgM hxb
      go_wp2_with (go_at_call 121; refine Calls.mono HAT.out ?_; rintro r u5 ⟨rfl, hm5, hb5, hg5⟩; have HS5a : Hid (MpS u5 b M B n root (setv (zfr s f) K ((f : Int) * 256 + 1)) _ frs) := ⟨hm5, hb5, hg5.frow HFT.out⟩; have HG5a : Hid (Gm U1 u5 b M) := hg5; clear hm5 hb5 hg5)
      go_ret
      exact ⟨by rw [E.out]; rfl, HG3.out.trans HG5a.out, fun _ => ⟨_, by rw [E.out]; exact HS5a.out⟩⟩
set_option maxRecDepth 100000 in
set_option maxHeartbeats 4000000 in
theorem put_yes {w : World} {b M B n : Nat} {root : Nat} {s : ByteArray} {fv : Value} {free : List Int} (m : PM) (h : MpS w b M B n root s fv free) (hne : M ≠ b) (hn : s.size = n * 256) (hs : s.size ≤ 65536) (hr : root * 256 + 256 ≤ s.size) (hfr : inF s free) (g0 : -9223372036854775808 ≤ m.flags) (g1 : m.flags ≤ 9223372036854775807) (hp : pmOk m = true) :
    Calls Try.prog 61 #[.pointer (some ⟨M, 0, none⟩), pmA m] w fun e w' => PutA w b M B n root (mapV s root m free) e w' := by
  have HIP : Hid (∀ u : World, Calls Try.prog 96 #[pmA m] u fun e w' => e = .returned (.bool true) ∧ Below u.heap.size u w') := fun u => by rw [← hp]; exact isPageMap_any m u g0 g1
  have hok := of_decide_eq_true (show decide _ = true from hp)
  have HPF : Hid _ := fun (u : World) (V : Nat) hu hV hv hl => putFst (u := u) (B := B) (free := free) (fv := fv) m hu hne hn hs hr V hV hv hok.2.2.2.1 hok.2.2.2.2.1 hp hl
  have HPS : Hid _ := fun (u : World) (fr2 : List Int) (fv2 : Value) (s2 : ByteArray) (t V : Nat) hu hn2 hs2 ht hV => putSec (u := u) (B := B) (n := n) (root := (root : Int)) (free := fr2) (fv := fv2) (s := s2) m hu hne hn2 hs2 t ht V hV hok.2.2.2.1 hok.2.2.2.2.1
  have HMV : Hid _ := mapV_ok (m := m) hr hfr
  have HP : Hid (pmOk m = true) := hp
  obtain ⟨va0, fr, fl, lg⟩ := m
  obtain ⟨va, rfl⟩ : ∃ va : Nat, va0 = (va : Int) := ⟨va0.toNat, by have := hok.1; simp only at this; omega⟩
  have hv : va ≤ 262143 := by have := hok.2.1; simp only at this; omega
  have HV : Hid (va ≤ 262143) := hv
  have HAV : Hid _ := fun (u : World) (hu : MpS u b M B n root s fv free) => haveTable_any va (root * 256 + 4 * (va / 8192)) hu hne hn hs hr hfr hv rfl
  clear hok hp
  unfold pmA at *
  simp only at g0 g1 HIP HPF HPS ⊢
  have HB0 : Hid (Below w.heap.size w (w.alloc (.cells #[.int .i64 va, .int .i64 fr, .int .i64 fl, .bool lg] 101))) := (Below.refl _ _).alloc (Nat.le_refl _) _
  have HX1 : Hid ((w.alloc (.cells #[.int .i64 va, .int .i64 fr, .int .i64 fl, .bool lg] 101)).heap[w.heap.size]? = some (.cells #[.int .i64 va, .int .i64 fr, .int .i64 fl, .bool lg] 101 (0, 0))) := heap_new _ _
  have HH : Hid (MpS w b M B n root s fv free) := h
  have HN : Hid (s.size = n * 256 ∧ s.size ≤ 65536 ∧ root * 256 + 256 ≤ s.size) := ⟨hn, hs, hr⟩
  have HFR : Hid (inF s free) := hfr
  have HNE : Hid (M ≠ b) := hne
  have r0 : root ≤ 255 := by omega
  have HNW : Hid (w.heap.size ≠ b ∧ w.heap.size ≠ M) := ⟨fun q => Nat.lt_irrefl _ (q ▸ h.mem.lt), fun q => Nat.lt_irrefl _ (q ▸ h.box.lt)⟩
  clear g0 g1 h hn hs hr hfr hne
  go_enter Try.func61, Try.ntmps61
  go_upto_region 1 with fail
  generalize w.alloc (.cells #[.int .i64 va, .int .i64 fr, .int .i64 fl, .bool lg] 101) = W at *
  obtain ⟨d0, d1, d2, d3⟩ := cel4P HX1.out
  go_upto_region 3 with (go_at_call 96; refine Calls.mono (HIP.out _) ?_; rintro r u1 ⟨rfl, hu1⟩; have HU : Hid (Below W.heap.size W u1) := hu1; clear hu1)
  have HB1 : Hid (Below w.heap.size w u1) := HB0.out.trans (HU.out.mono HB0.out.size)
  have HX2 : Hid (u1.heap[w.heap.size]? = some (.cells #[.int .i64 va, .int .i64 fr, .int .i64 fl, .bool lg] 101 (0, 0))) := (HU.out.block _ (Array.getElem?_eq_some_iff.1 HX1.out).1).trans HX1.out
  have HS1 : Hid (MpS u1 b M B n root s fv free) := HH.out.below HB1.out
  clear d0 d1 d2 d3 HX1 HU HB0
  obtain ⟨d0, d1, d2, d3⟩ := cel4P HX2.out
  obtain ⟨c0, c1, c2⟩ := HS1.out.box.cel
  unfold mv at c0
  go_quiet (first | (go_at_call 98; exact Calls.quiet_of (firstIndex_any va _ HV.out)) | (go_at_call 97; exact Calls.quiet_of_same (entryPlace_any _ _ _ (by omega) (by omega) (by omega) (by omega))))
  go_upto_region 4 with fail
  have HB2 : Hid (Below w.heap.size w (u1.drewN nq)) := bdn HB1.out nq
  have HX3 : Hid ((u1.drewN nq).heap[w.heap.size]? = some (.cells #[.int .i64 va, .int .i64 fr, .int .i64 fl, .bool lg] 101 (0, 0))) := HX2.out
  have HS2 : Hid (MpS (u1.drewN nq) b M B n root s fv free) := HS1.out.below (bdn (Below.refl _ _) nq)
  generalize u1.drewN nq = U at *
  clear d0 d1 d2 d3 c0 c1 c2 HX2 HS1 HB1 HIP HH
  obtain ⟨d0, d1, d2, d3⟩ := cel4P HX3.out
  obtain ⟨c0, c1, c2⟩ := HS2.out.box.cel
  unfold mv at c0
  cases lg
  · have EK : Hid ((root : Int) * 256 + (va : Int) / 8192 * 4 = ((atM root ⟨va, fr, fl, false⟩ : Nat) : Int)) := (show (root : Int) * 256 + (va : Int) / 8192 * 4 = ((atM root ⟨va, fr, fl, false⟩ : Nat) : Int) by unfold atM; simp only [Int.toNat_natCast]; omega)
    have KB : Hid (atM root ⟨va, fr, fl, false⟩ + 4 ≤ s.size ∧ atM root ⟨va, fr, fl, false⟩ % 4 = 0) := (show atM root ⟨va, fr, fl, false⟩ + 4 ≤ s.size ∧ atM root ⟨va, fr, fl, false⟩ % 4 = 0 by
      have := HN.out.2.2
      unfold atM
      simp only [Int.toNat_natCast]
      omega)
    have HW : Hid (∀ (u : World) (s2 : ByteArray), MemAt u b s2 → s2.size = s.size → Calls Try.prog 101 #[mv b n, .int .i64 ((root : Int) * 256 + (va : Int) / 8192 * 4)] u fun e w' => e = .returned (.int .i64 (wv s2 (atM root ⟨va, fr, fl, false⟩))) ∧ ∃ q, w' = u.drewN q) := fun u s2 hu h2 => by
      rw [EK.out]
      exact memWord_any b n s2 _ u hu (by rw [h2]; exact HN.out.1) (by rw [h2]; exact HN.out.2.1) (by rw [h2]; exact KB.out.1) KB.out.2
    unfold mv at HW
    have HI : Hid (∀ (e : Int) (u : World), 0 ≤ e → e ≤ 4294967295 → Calls Try.prog 102 #[.int .i64 e] u fun x w' => x = .returned (.bool (decide (e % 16 = 1))) ∧ w' = u) := fun e u h0 h1 => isTable_any e u h0 h1
    have HH : Hid (∀ (t : Int) (u : World), Calls Try.prog 59 #[mv b n, .int .i64 t] u fun e w' => e = .returned (.bool (decide (0 ≤ t) && decide (t < n))) ∧ w' = u) := fun t u => memHolds_any b n t u
    unfold mv at HH
    have HAW : Hid (∀ u : World, MpS u b M B n root s fv free → Calls Try.prog 100 #[.pointer (some ⟨M, 0, none⟩), .int .i64 va] u fun e w' => PutA u b M B n root (haveV s (atM root ⟨va, fr, fl, false⟩) free) e w') := HAV.out
    clear HAV
    have hE := mapV_have (s := s) (root := root) (n := n) (m := ⟨va, fr, fl, false⟩) (free := free) HP.out rfl HN.out.1 HN.out.2.1 KB.out.1 HFR.out
    obtain ⟨K, hK⟩ : ∃ K, atM root ⟨va, fr, fl, false⟩ = K := ⟨_, rfl⟩
    rw [hK] at hE HAW HW EK KB
    obtain ⟨⟨c, S, FR⟩, hV⟩ : ∃ V, haveV s K free = V := ⟨_, rfl⟩
    rw [hV] at hE HAW
    simp only at hE
    clear hK hV HMV HP HFR
    rcases hE with ⟨rfl, hE⟩ | ⟨rfl, hz, e1, e2, e3⟩
    · have E : Hid ((mapV s root ⟨va, fr, fl, false⟩ free).c = 4) := hE
      clear hE
      go_wp2_with (go_at_call 100; refine Calls.mono (HAW.out _ HS2.out) ?_; rintro r u3 ⟨rfl, hg3, -⟩; have HG3 : Hid _ := hg3; clear hg3)
      go_ret
      exact ⟨by rw [E.out]; rfl, (Gm.of_below HB2.out).trans HG3.out, fun c => by rw [E.out] at c; cases c⟩
    · have HZ : Hid (S.size = s.size) := hz
      have HE : Hid ((¬ wv S K % 16 = 1 → (mapV s root ⟨va, fr, fl, false⟩ free).c = 9) ∧ (wv S K % 16 = 1 → ¬ wv S K / 256 < (n : Int) → (mapV s root ⟨va, fr, fl, false⟩ free).c = 9) ∧ (wv S K % 16 = 1 → wv S K / 256 < (n : Int) → mapV s root ⟨va, fr, fl, false⟩ free = secV S (wv S K / 256).toNat ⟨va, fr, fl, false⟩ FR)) := ⟨e1, e2, e3⟩
      clear hz e1 e2 e3
      go_upto_region 7 with (go_at_call 100; refine Calls.mono (HAW.out _ HS2.out) ?_; rintro r u3 ⟨rfl, hg3, hs3⟩; have HG3a : Hid (Gm U u3 b M) := hg3; have HS3a : Hid _ := hs3 rfl; clear hg3 hs3)
      obtain ⟨fv2, hs3⟩ := HS3a.out
      have HG3 : Hid (Gm w u3 b M) := (Gm.of_below HB2.out).trans HG3a.out
      have HX4 : Hid (u3.heap[w.heap.size]? = some (.cells #[.int .i64 va, .int .i64 fr, .int .i64 fl, .bool false] 101 (0, 0))) := (HG3a.out.block _ (Array.getElem?_eq_some_iff.1 HX3.out).1 HNW.out.1 HNW.out.2).trans HX3.out
      have HS3 : Hid (MpS u3 b M B n root S fv2 FR) := hs3
      clear d0 d1 d2 d3 c0 c1 c2 HX3 HS2 HB2 HG3a HS3a hs3
      obtain ⟨d0, d1, d2, d3⟩ := cel4P HX4.out
      obtain ⟨c0, c1, c2⟩ := HS3.out.box.cel
      unfold mv at c0
      generalize u3 = U2 at *
      have hxb := wv_b S K
      obtain ⟨x, hx⟩ : ∃ x, wv S K = x := ⟨_, rfl⟩
      rw [hx] at hxb HE
      have HX0 : Hid (wv S K = x) := hx
      clear hx
      go_upto_region 10 with (go_at_call 101; refine Calls.mono (HW.out _ S HS3.out.mem HZ.out) ?_; rintro r u3 ⟨rfl, q4, hu3⟩; rw [HX0.out]; subst u3)
      obtain ⟨T, hT⟩ : ∃ T : Nat, x / 256 = (T : Int) := ⟨(x / 256).toNat, by omega⟩
      have HT : Hid (x / 256 = (T : Int)) := hT
      have HXB : Hid _ := hxb
      have HFO : Hid (∀ u : World, Calls Try.prog 103 #[.int .i64 x] u fun e w' => e = .returned (.int .i64 (T : Int)) ∧ w' = u) := fun u => by rw [← HT.out]; exact frameOf_any x u
      by_cases h4 : x % 16 = 1
      · have t1 : decide (x % 16 = 1) = true := by simpa using h4
        by_cases h5 : T < n
        · have t2 : (decide (0 ≤ (T : Int)) && decide ((T : Int) < (n : Int))) = true := by simp; omega
          have tb : T < 256 := by have := HN.out; omega
          have E : Hid (mapV s root ⟨va, fr, fl, false⟩ free = secV S T ⟨va, fr, fl, false⟩ FR) := (show mapV s root ⟨va, fr, fl, false⟩ free = secV S T ⟨va, fr, fl, false⟩ FR by
            have := HE.out.2.2 h4 (by omega)
            rw [this, hT, Int.toNat_natCast])
          have HTB : Hid (T * 256 + 256 ≤ S.size) := (show T * 256 + 256 ≤ S.size by have := HN.out.1; have := HZ.out; omega)
          have HSZ : Hid (S.size = n * 256 ∧ S.size ≤ 65536) := (show S.size = n * 256 ∧ S.size ≤ 65536 by rw [HZ.out]; exact ⟨HN.out.1, HN.out.2.1⟩)
          clear h4 h5 hT hxb
          have HB5 : Hid (Gm w (U2.drewN q4) b M) := HG3.out.below (bdn (Below.refl _ _) q4)
          have HX5 : Hid ((U2.drewN q4).heap[w.heap.size]? = some (.cells #[.int .i64 va, .int .i64 fr, .int .i64 fl, .bool false] 101 (0, 0))) := HX4.out
          have HS5 : Hid (MpS (U2.drewN q4) b M B n root S fv2 FR) := HS3.out.below (bdn (Below.refl _ _) q4)
          generalize U2.drewN q4 = U3 at *
          clear d0 d1 d2 d3 c0 c1 c2 HX4 HS3 HG3
          obtain ⟨d0, d1, d2, d3⟩ := cel4P HX5.out
          obtain ⟨c0, c1, c2⟩ := HS5.out.box.cel
          unfold mv at c0
          have HIT : Hid (∀ u : World, Calls Try.prog 102 #[.int .i64 x] u fun e w' => e = .returned (.bool true) ∧ w' = u) := fun u => by rw [← t1]; exact HI.out _ u HXB.out.1 HXB.out.2
          have HHT : Hid (∀ u : World, Calls Try.prog 59 #[.slice (some ⟨b, 0, none⟩) n n, .int .i64 (T : Int)] u fun e w' => e = .returned (.bool true) ∧ w' = u) := fun u => by rw [← t2]; exact HH.out _ u
          clear HI HH t1 t2
          go_quiet (first | (go_at_call 102; exact Calls.quiet_of_same (HIT.out _)) | (go_at_call 103; exact Calls.quiet_of_same (HFO.out _)) | (go_at_call 59; exact Calls.quiet_of_same (HHT.out _)))
          go_upto_region 12 with fail
          have HB6 : Hid (Gm w (U3.drewN nq) b M) := HB5.out.below (bdn (Below.refl _ _) nq)
          have HX6 : Hid ((U3.drewN nq).heap[w.heap.size]? = some (.cells #[.int .i64 va, .int .i64 fr, .int .i64 fl, .bool false] 101 (0, 0))) := HX5.out
          have HS6 : Hid (MpS (U3.drewN nq) b M B n root S fv2 FR) := HS5.out.below (bdn (Below.refl _ _) nq)
          generalize U3.drewN nq = U4 at *
          clear d0 d1 d2 d3 c0 c1 c2 HX5 HS5 HB5
          obtain ⟨d0, d1, d2, d3⟩ := cel4P HX6.out
          go_region_held (fun w' => w'.cell? ⟨w.heap.size, 0, none⟩ = some (.int .i64 va) ∧ w'.cell? ⟨w.heap.size, 1, none⟩ = some (.int .i64 fr) ∧ w'.cell? ⟨w.heap.size, 2, none⟩ = some (.int .i64 fl) ∧ w'.cell? ⟨w.heap.size, 3, none⟩ = some (.bool false)) (go_keep) ((first | (go_at_call 103; refine Calls.mono (HFO.out _) ?_; rintro e u6 ⟨rfl, hu6⟩; rw [hu6]; clear hu6 u6) | (go_at_call 104; refine Calls.mono (secondIndex_any va _ HV.out) ?_; rintro e u6 ⟨rfl, q6, hu6⟩; rw [hu6]; clear hu6 u6) | (go_at_call 97; refine Calls.mono (entryPlace_any _ _ _ (by omega) (by omega) (by omega) (by omega)) ?_; rintro e u6 ⟨rfl, hu6⟩; rw [hu6]; clear hu6 u6) | (go_at_call 99; refine Calls.mono (HPS.out _ FR fv2 S T va (HS6.out.below ⟨rfl, rfl, rfl, Nat.le_refl _, fun _ _ => rfl⟩) HSZ.out.1 HSZ.out.2 HTB.out rfl) ?_; rintro r u7 ⟨rfl, hm7, hg7⟩; have HM7 : Hid _ := hm7; have HG7 : Hid (Gm U4 u7 b M) := ⟨hg7.os, hg7.tape, hg7.output, hg7.size, hg7.block⟩; obtain ⟨e0, e1, e2, e3⟩ := cel4P ((HG7.out.block _ (Array.getElem?_eq_some_iff.1 HX6.out).1 HNW.out.1 HNW.out.2).trans HX6.out); clear hm7 hg7)))
          all_goals go_wp2
          all_goals go_ret
          all_goals exact ⟨by rw [E.out]; rfl, HB6.out.trans HG7.out, fun _ => ⟨_, by rw [E.out]; exact HM7.out⟩⟩
        · have t2 : (decide (0 ≤ (T : Int)) && decide ((T : Int) < (n : Int))) = false := by simp; omega
          have E : Hid ((mapV s root ⟨va, fr, fl, false⟩ free).c = 9) := HE.out.2.1 h4 (by omega)
          clear h4 h5 hT hxb
          have HB5 : Hid (Gm w (U2.drewN q4) b M) := HG3.out.below (bdn (Below.refl _ _) q4)
          have HX5 : Hid ((U2.drewN q4).heap[w.heap.size]? = some (.cells #[.int .i64 va, .int .i64 fr, .int .i64 fl, .bool false] 101 (0, 0))) := HX4.out
          have HS5 : Hid (MpS (U2.drewN q4) b M B n root S fv2 FR) := HS3.out.below (bdn (Below.refl _ _) q4)
          generalize U2.drewN q4 = U3 at *
          clear d0 d1 d2 d3 c0 c1 c2 HX4 HS3 HG3
          obtain ⟨d0, d1, d2, d3⟩ := cel4P HX5.out
          obtain ⟨c0, c1, c2⟩ := HS5.out.box.cel
          unfold mv at c0
          have HIT : Hid (∀ u : World, Calls Try.prog 102 #[.int .i64 x] u fun e w' => e = .returned (.bool true) ∧ w' = u) := fun u => by rw [← t1]; exact HI.out _ u HXB.out.1 HXB.out.2
          have HHT : Hid (∀ u : World, Calls Try.prog 59 #[.slice (some ⟨b, 0, none⟩) n n, .int .i64 (T : Int)] u fun e w' => e = .returned (.bool false) ∧ w' = u) := fun u => by rw [← t2]; exact HH.out _ u
          clear HI HH t1 t2
          go_quiet (first | (go_at_call 102; exact Calls.quiet_of_same (HIT.out _)) | (go_at_call 103; exact Calls.quiet_of_same (HFO.out _)) | (go_at_call 59; exact Calls.quiet_of_same (HHT.out _)))
          go_wp2
          go_ret
          exact ⟨by rw [E.out]; rfl, HB5.out.below (bdn (Below.refl _ _) nq), fun c => by rw [E.out] at c; cases c⟩
      · have t1 : decide (x % 16 = 1) = false := by simpa using h4
        have t2 : (decide (0 ≤ (T : Int)) && decide ((T : Int) < (n : Int))) = (decide (0 ≤ (T : Int)) && decide ((T : Int) < (n : Int))) := rfl
        have E : Hid ((mapV s root ⟨va, fr, fl, false⟩ free).c = 9) := HE.out.1 h4
        clear h4 hT hxb
        have HB5 : Hid (Gm w (U2.drewN q4) b M) := HG3.out.below (bdn (Below.refl _ _) q4)
        have HX5 : Hid ((U2.drewN q4).heap[w.heap.size]? = some (.cells #[.int .i64 va, .int .i64 fr, .int .i64 fl, .bool false] 101 (0, 0))) := HX4.out
        have HS5 : Hid (MpS (U2.drewN q4) b M B n root S fv2 FR) := HS3.out.below (bdn (Below.refl _ _) q4)
        generalize U2.drewN q4 = U3 at *
        clear d0 d1 d2 d3 c0 c1 c2 HX4 HS3 HG3
        obtain ⟨d0, d1, d2, d3⟩ := cel4P HX5.out
        obtain ⟨c0, c1, c2⟩ := HS5.out.box.cel
        unfold mv at c0
        have HIT : Hid (∀ u : World, Calls Try.prog 102 #[.int .i64 x] u fun e w' => e = .returned (.bool false) ∧ w' = u) := fun u => by rw [← t1]; exact HI.out _ u HXB.out.1 HXB.out.2
        have HHT : Hid (∀ u : World, Calls Try.prog 59 #[.slice (some ⟨b, 0, none⟩) n n, .int .i64 (T : Int)] u fun e w' => e = .returned (.bool (decide (0 ≤ (T : Int)) && decide ((T : Int) < (n : Int)))) ∧ w' = u) := fun u => by rw [← t2]; exact HH.out _ u
        clear HI HH t1 t2
        go_quiet (first | (go_at_call 102; exact Calls.quiet_of_same (HIT.out _)) | (go_at_call 103; exact Calls.quiet_of_same (HFO.out _)) | (go_at_call 59; exact Calls.quiet_of_same (HHT.out _)))
        go_wp2
        go_ret
        exact ⟨by rw [E.out]; rfl, HB5.out.below (bdn (Below.refl _ _) nq), fun c => by rw [E.out] at c; cases c⟩
  · go_wp2_with (go_at_call 99; refine Calls.mono (HPF.out _ va HS2.out rfl (by omega) rfl) ?_; rintro r u3 ⟨rfl, hm3, hg3⟩; have HM3 : Hid _ := hm3; have HG3 : Hid _ := hg3; clear hm3 hg3)
    go_ret
    exact ⟨rfl, (Gm.of_below HB2.out).trans HG3.out, fun _ => ⟨_, HM3.out⟩⟩
end Go.Proofs.Ytfagohdmepnkkaa
