import Derived.Test.YtfagohdmepnkkaaWkM
import Derived.Test.YtfagohdmepnkkaaDr6
import Derived.Test.YtfagohdmepnkkaaWalkYes
import Derived.Test.YtfagohdmepnkkaaWalkYesS
import Derived.Test.YtfagohdmepnkkaaWalkNo
import Derived.BigQuiet
namespace Go.Proofs.Ytfagohdmepnkkaa
open Go.ChangeShapes Go.WideShapes Go.ChangeAt Go.RowKit

/-- What Walk may be asked. -/
def wkOk (s : ByteArray) (root va acc : Int) : Prop := memOk s = true ∧ 0 ≤ root ∧ root ≤ 255 ∧ 0 ≤ va ∧ va ≤ 262143 ∧ 1 ≤ acc ∧ acc ≤ 3
/-- What both sides answer. -/
structure AnsWk (F : Nat) (s : ByteArray) (root va acc : Int) (user : Bool) (r : WV) : Prop where
  ans : ∀ U : World, Calls Try.prog F #[.string s, .int .i64 root, .int .i64 va, .int .i64 acc, .bool user] U fun e w' => ∃ ao n cap, e = .returned (.agg #[.int .i64 r.fault, .int .i64 r.pa, .int .i64 r.entry, .bool r.large, .slice ao n cap, .string r.mem]) ∧ Below U.heap.size U w'
theorem own_slI {w : World} {B n : Nat} {v : Value} {xs : List Value} (h : w.ownsRow B 2 1 v n xs) : ∃ ao cap, v = .slice ao n cap := by
  rcases h.2 with ⟨rfl, e⟩ | ⟨g, cap, cur, rfl, _⟩
  · exact ⟨none, 0, by rw [e]⟩
  · exact ⟨_, cap, rfl⟩
theorem ansWk_yes (s : ByteArray) (root va acc : Int) (user : Bool) (h : wkOk s root va acc) : AnsWk 28 s root va acc user (walkV s root va acc user) ∧ AnsWk 29 s root va acc user (walkV s root va acc user) := by
  obtain ⟨hm, r0, r1, v0, v1, a1, a2⟩ := h
  obtain ⟨R, rfl⟩ := Int.eq_ofNat_of_zero_le r0
  obtain ⟨V, rfl⟩ := Int.eq_ofNat_of_zero_le v0
  refine ⟨⟨fun U => (implWalk_yes s R V acc user U hm (by omega) (by omega) a1 a2).mono ?_⟩, ⟨fun U => (specWalk_yes s R V acc user U hm (by omega) (by omega) a1 a2).mono ?_⟩⟩
  all_goals
    rintro e w' ⟨v, rfl, ho, hb⟩
    obtain ⟨ao, cap, rfl⟩ := own_slI ho
    exact ⟨_, _, _, rfl, hb⟩
theorem ansWk_no (s : ByteArray) (root va acc : Int) (user : Bool) (hs : s.size ≤ 10240) (h : ¬ wkOk s root va acc) : AnsWk 28 s root va acc user w00 ∧ AnsWk 29 s root va acc user w00 := by
  refine ⟨⟨fun U => (implWalk_no s root va acc user U (by omega) h).mono ?_⟩, ⟨fun U => (specWalk_no s root va acc user U (by omega) h).mono ?_⟩⟩
  all_goals
    rintro e w' ⟨v, rfl, ho, hb⟩
    obtain ⟨ao, cap, rfl⟩ := own_slI ho
    exact ⟨_, _, _, rfl, hb⟩
theorem isE_no {s : ByteArray} (h : 2047 ≤ s.size) : s.toList.isEmpty = false := by
  rw [ByteArray.toList_eq]
  obtain ⟨⟨l⟩⟩ := s
  cases l with
  | nil => exact absurd h (by decide)
  | cons x l => rfl
/-- What the law knows of an answer. -/
structure WkF (s : ByteArray) (root va acc : Int) (user : Bool) (r : WV) : Prop where
  im : AnsWk 28 s root va acc user r
  sp : AnsWk 29 s root va acc user r
  how : (r.fault = 0 ∧ r.mem = ⟨#[]⟩) ∨ (¬ r.fault = 0 ∧ r.mem = s) ∨ (r.fault = 0 ∧ (∃ k, OneB s r.mem k) ∧ ∃ r2 : WV, AnsWk 28 r.mem root va acc user r2 ∧ r2.fault = 0 ∧ r2.pa = r.pa ∧ r2.mem = r.mem)
theorem wkF (s : ByteArray) (root va acc : Int) (user : Bool) (hs : s.size ≤ 10240) : ∃ r, WkF s root va acc user r := by
  by_cases h : wkOk s root va acc
  · obtain ⟨h1, h2⟩ := ansWk_yes s root va acc user h
    refine ⟨_, h1, h2, ?_⟩
    by_cases hf : (walkV s root va acc user).fault = 0
    · obtain ⟨hm, r0, r1, v0, v1, a1, a2⟩ := h
      obtain ⟨R, rfl⟩ := Int.eq_ofNat_of_zero_le r0
      obtain ⟨V, rfl⟩ := Int.eq_ofNat_of_zero_le v0
      obtain ⟨⟨k, hk⟩, f1, f2, f3⟩ := walk_again s R V acc user (by omega) hf
      have hm2 : memOk (walkV s R V acc user).mem = true := by
        unfold memOk at hm ⊢
        rw [hk.sz]
        exact hm
      exact .inr (.inr ⟨hf, ⟨k, hk⟩, _, (ansWk_yes _ R V acc user ⟨hm2, r0, r1, v0, v1, a1, a2⟩).1, f1, f2, f3⟩)
    · exact .inr (.inl ⟨hf, walk_fault s root va acc user hf⟩)
  · obtain ⟨h1, h2⟩ := ansWk_no s root va acc user hs h
    exact ⟨_, h1, h2, .inl ⟨rfl, rfl⟩⟩
set_option maxRecDepth 100000 in
set_option maxHeartbeats 8000000 in
theorem walkWk (a : Option Addr) (len cap : Nat) (w : World) (hcode : CodeAt w w.heap.size a len) (hl : len ≤ 1048576) :
    Calls Try.prog 6 #[.slice a len cap] w fun r w' => r = .returned (.bool true) ∧ Below w.heap.size w w' := by
  have HD : Hid _ := drawWalk_any a len cap w hcode hl
  have hd1 : ¬ 1048576 < (len : Int) := by omega
  clear hcode hl
  go_enter Try.func6, Try.ntmps6
  go_upto_region 4 with (go_at_call 27; refine Calls.mono HD.out ?_; rintro e u0 ⟨s, root, va, acc, user, rfl, s1, s0, _, _, _, _, _, _, hb0⟩; have HB0 : Hid (Below w.heap.size w u0) := hb0; clear hb0 HD)
  obtain ⟨r, hr⟩ := wkF s root va acc user s1
  have HW : Hid (WkF s root va acc user r) := hr
  clear hr
  go_upto_region 5 with (go_at_call 28; refine Calls.mono (HW.out.im.ans _) ?_; rintro e u1 ⟨a1, n1, c1, rfl, hb⟩; have HB1 : Hid (Below w.heap.size w (u1.alloc (.cells #[.int .i64 r.fault, .int .i64 r.pa, .int .i64 r.entry, .bool r.large, .slice a1 n1 c1, .string r.mem] 56))) := (HB0.out.trans (hb.mono HB0.out.size)).alloc (Nat.le_trans HB0.out.size hb.size) _; have HX1 : Hid ((u1.alloc (.cells #[.int .i64 r.fault, .int .i64 r.pa, .int .i64 r.entry, .bool r.large, .slice a1 n1 c1, .string r.mem] 56)).heap[u1.heap.size]? = some (.cells #[.int .i64 r.fault, .int .i64 r.pa, .int .i64 r.entry, .bool r.large, .slice a1 n1 c1, .string r.mem] 56 (0, 0))) := (MapKept.heap_alloc u1 _).1; clear hb HB0)
  generalize u1.alloc (.cells #[.int .i64 r.fault, .int .i64 r.pa, .int .i64 r.entry, .bool r.large, .slice a1 n1 c1, .string r.mem] 56) = U1 at *
  generalize u1.heap.size = p1 at *
  go_upto_region 6 with (go_at_call 29; refine Calls.mono (HW.out.sp.ans _) ?_; rintro e u2 ⟨a2, n2, c2, rfl, hb⟩; have HB2 : Hid (Below w.heap.size w (u2.alloc (.cells #[.int .i64 r.fault, .int .i64 r.pa, .int .i64 r.entry, .bool r.large, .slice a2 n2 c2, .string r.mem] 56))) := (HB1.out.trans (hb.mono HB1.out.size)).alloc (Nat.le_trans HB1.out.size hb.size) _; have HX2 : Hid ((u2.alloc (.cells #[.int .i64 r.fault, .int .i64 r.pa, .int .i64 r.entry, .bool r.large, .slice a2 n2 c2, .string r.mem] 56)).heap[u2.heap.size]? = some (.cells #[.int .i64 r.fault, .int .i64 r.pa, .int .i64 r.entry, .bool r.large, .slice a2 n2 c2, .string r.mem] 56 (0, 0))) := (MapKept.heap_alloc u2 _).1; have HX3 : Hid ((u2.alloc (.cells #[.int .i64 r.fault, .int .i64 r.pa, .int .i64 r.entry, .bool r.large, .slice a2 n2 c2, .string r.mem] 56)).heap[p1]? = some (.cells #[.int .i64 r.fault, .int .i64 r.pa, .int .i64 r.entry, .bool r.large, .slice a1 n1 c1, .string r.mem] 56 (0, 0))) := (Below.heap_alloc _ _ _ (Nat.lt_of_lt_of_le (Array.getElem?_eq_some_iff.1 HX1.out).1 hb.size)).trans ((hb.block _ (Array.getElem?_eq_some_iff.1 HX1.out).1).trans HX1.out); clear hb HB1 HX1)
  generalize u2.alloc (.cells #[.int .i64 r.fault, .int .i64 r.pa, .int .i64 r.entry, .bool r.large, .slice a2 n2 c2, .string r.mem] 56) = U2 at *
  generalize u2.heap.size = p2 at *
  have HOW : Hid _ := HW.out.how
  clear HW
  obtain ⟨x0, x1, x2, x3, x4, x5, _⟩ := cel6 HX3.out
  obtain ⟨y0, y1, y2, y3, y4, y5, _⟩ := cel6 HX2.out
  obtain ⟨f, pa, en, lg, rd, M⟩ := r
  simp only at x0 x1 x2 x3 x4 x5 y0 y1 y2 y3 y4 y5 HX3 HX2 HOW
  rcases HOW.out with ⟨hf, hM⟩ | ⟨hf, hM⟩ | ⟨hf, ⟨k, hk⟩, r2, hr2, g0, g1, g2⟩
  · subst hf hM
    clear HOW
    go_wp2
    go_ret
    exact ⟨rfl, HB2.out⟩
  · subst hM
    have hne := isE_no s0
    clear HOW
    go_wp2
    go_ret
    exact ⟨rfl, HB2.out⟩
  · subst hf
    have HR2 : Hid (AnsWk 28 M root va acc user r2) := hr2
    have HG : Hid (r2.fault = 0 ∧ r2.pa = pa ∧ r2.mem = M) := ⟨g0, g1, g2⟩
    have HK : Hid (OneB s M k) := hk
    have HZM : Hid (M.size = s.size) := hk.sz
    have hne : M.toList.isEmpty = false := isE_no (by rw [hk.sz]; exact s0)
    clear HOW hr2 g0 g1 g2 hk
    go_wp2
    clear hne x0 x1 x2 x3 x4 x5 y0 y1 y2 y3 y4 y5
    go_loopw [10, 11] (fun c i wr => ∃ n j : Nat, c = .int .i64 n ∧ i = .int .i64 j ∧ j ≤ s.size ∧ n ≤ 1 ∧ (j ≤ k → n = 0) ∧ wr.heap = U2.heap ∧ Below w.heap.size w wr) (fun _ i _ => s.size - (intOf i).toNat)
    case atStart => exact ⟨0, 0, rfl, rfl, Nat.zero_le _, Nat.zero_le _, fun _ => rfl, rfl, HB2.out⟩
    case round =>
      obtain ⟨n, j, rfl, rfl, hj, hn1, hnk, hh, hb⟩ := hrel
      have HBB : Hid (Below w.heap.size w wr) := hb
      have HX : Hid (wr.heap[p1]? = some (.cells #[.int .i64 0, .int .i64 pa, .int .i64 en, .bool lg, .slice a1 n1 c1, .string M] 56 (0, 0))) := (show _ = _ by rw [hh]; exact HX3.out)
      have HH : Hid (wr.heap = U2.heap) := hh
      have HNK : Hid (j ≤ k → n = 0) := hnk
      obtain ⟨x0, x1, x2, x3, x4, x5, xf⟩ := cel6 HX.out
      clear hb hh hnk
      by_cases hlt : j < s.size
      · have hj0 : (0 : Int) ≤ (j : Int) := by omega
        have hj1 : (j : Int) < (s.size : Int) := by omega
        have ix1 := fun w => idx_str s j hlt w j rfl
        have ix2 := fun w => idx_str M j (by rw [HZM.out]; exact hlt) w j rfl
        by_cases hjk : j = k
        · subst hjk
          have h4 := HK.out.k4
          have horr := HK.out.orr
          have hn0 : n = 0 := HNK.out (Nat.le_refl _)
          subst hn0
          obtain ⟨bs, hbs⟩ : ∃ x, bt s j = x := ⟨_, rfl⟩
          obtain ⟨bm, hbm⟩ : ∃ x, bt M j = x := ⟨_, rfl⟩
          rw [hbs] at ix1 horr
          rw [hbm] at ix2 horr
          clear hbs hbm
          by_cases hd : bs = bm
          · subst hd
            go_wp2_with fail
            go_quiet (fail)
            go_wp2
            refine ⟨⟨0, j + 1, rfl, by go_num, hlt, by omega, fun q => by omega, HH.out, bdn HBB.out nq⟩, by simp [intOf]; omega⟩
          · have hrem : ((j : Int)).tmod 4 = 0 := by rw [Int.tmod_eq_emod_of_nonneg (by omega)]; omega
            go_wp2_with fail
            go_quiet (fail)
            go_wp2_with fail
            go_quiet (fail)
            go_wp2
            refine ⟨⟨1, j + 1, rfl, by go_num, hlt, by omega, fun q => by omega, HH.out, bdn HBB.out _⟩, by simp [intOf]; omega⟩
        · have hsame := HK.out.oth j hlt hjk
          rw [hsame] at ix2
          obtain ⟨bs, hbs⟩ : ∃ x, bt s j = x := ⟨_, rfl⟩
          rw [hbs] at ix1 ix2
          clear hbs hsame
          go_wp2_with fail
          go_quiet (fail)
          go_wp2
          refine ⟨⟨n, j + 1, rfl, by go_num, hlt, hn1, fun q => HNK.out (by omega), HH.out, bdn HBB.out nq⟩, by simp [intOf]; omega⟩
      · obtain rfl : j = s.size := by omega
        have hn2 : (n : Int) ≤ 1 := by omega
        go_upto_region 19 with (go_at_call 28; refine Calls.mono (HR2.out.ans _) ?_; rintro e u3 ⟨a3, n3, c3, rfl, hb⟩; have HB3 : Hid (Below w.heap.size w (u3.alloc (.cells #[.int .i64 r2.fault, .int .i64 r2.pa, .int .i64 r2.entry, .bool r2.large, .slice a3 n3 c3, .string r2.mem] 56))) := (HBB.out.trans (hb.mono HBB.out.size)).alloc (Nat.le_trans HBB.out.size hb.size) _; have HY3 : Hid ((u3.alloc (.cells #[.int .i64 r2.fault, .int .i64 r2.pa, .int .i64 r2.entry, .bool r2.large, .slice a3 n3 c3, .string r2.mem] 56)).heap[u3.heap.size]? = some (.cells #[.int .i64 r2.fault, .int .i64 r2.pa, .int .i64 r2.entry, .bool r2.large, .slice a3 n3 c3, .string r2.mem] 56)) := (MapKept.heap_alloc u3 _).1; have HX5 : Hid ((u3.alloc (.cells #[.int .i64 r2.fault, .int .i64 r2.pa, .int .i64 r2.entry, .bool r2.large, .slice a3 n3 c3, .string r2.mem] 56)).heap[p1]? = some (.cells #[.int .i64 0, .int .i64 pa, .int .i64 en, .bool lg, .slice a1 n1 c1, .string M] 56 (0, 0))) := (Below.heap_alloc _ _ _ (Nat.lt_of_lt_of_le (Array.getElem?_eq_some_iff.1 HX.out).1 hb.size)).trans ((hb.block _ (Array.getElem?_eq_some_iff.1 HX.out).1).trans HX.out); clear hb x0 x1 x2 x3 x4 x5 xf)
        generalize u3.alloc (.cells #[.int .i64 r2.fault, .int .i64 r2.pa, .int .i64 r2.entry, .bool r2.large, .slice a3 n3 c3, .string r2.mem] 56) = U4 at *
        generalize u3.heap.size = p3 at *
        obtain ⟨x0, x1, x2, x3, x4, x5, _⟩ := cel6 HX5.out
        obtain ⟨y0, y1, y2, y3, y4, y5, _⟩ := cel6 HY3.out
        obtain ⟨g0, g1, g2⟩ := HG.out
        rw [g0] at y0
        rw [g1] at y1
        rw [g2] at y5
        clear g0 g1 g2
        go_wp2
        go_ret
        exact ⟨rfl, HB3.out⟩
end Go.Proofs.Ytfagohdmepnkkaa
