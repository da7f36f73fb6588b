import Derived.Test.YtfagohdmepnkkaaLawWk
import Derived.Test.YtfagohdmepnkkaaCaW
import Derived.Test.YtfagohdmepnkkaaTFl4
import Derived.Test.YtfagohdmepnkkaaTPut2
import Derived.Test.YtfagohdmepnkkaaTPut4
import Derived.Test.YtfagohdmepnkkaaTFn3
import Derived.Test.YtfagohdmepnkkaaTlbF4
import Derived.Test.YtfagohdmepnkkaaCaC
namespace Go.Proofs.Ytfagohdmepnkkaa
open Go.ChangeShapes Go.WideShapes Go.ChangeAt Go.RowKit

/-- What the law knows of a walk's answer. -/
structure CkF (s : ByteArray) (root va acc : Int) (user : Bool) (r : WV) : Prop where
  im : AnsWk 28 s root va acc user r
  sp : AnsWk 29 s root va acc user r
  how : (r.fault = 0 ∧ r.mem = ⟨#[]⟩) ∨ (¬ r.fault = 0) ∨ (r.fault = 0 ∧ 2047 ≤ r.mem.size ∧ GoodW s va acc user r ∧ 0 ≤ va ∧ va ≤ 262143 ∧ 1 ≤ acc ∧ acc ≤ 3)
theorem ckF (s : ByteArray) (root va acc : Int) (user : Bool) (hs : s.size ≤ 10240) (hs2 : 2047 ≤ s.size) : ∃ r, CkF s root va acc user r := by
  by_cases h : wkOk s root va acc
  · obtain ⟨h1, h2⟩ := ansWk_yes s root va acc user h
    refine ⟨_, h1, h2, ?_⟩
    by_cases hf : (walkV s root va acc user).fault = 0
    · obtain ⟨hm, r0, r1, v0, v1, a1, a2⟩ := h
      obtain ⟨R, rfl⟩ := Int.eq_ofNat_of_zero_le r0
      obtain ⟨V, rfl⟩ := Int.eq_ofNat_of_zero_le v0
      obtain ⟨⟨k, hk⟩, f1, f2, f3⟩ := walk_again s R V acc user (by omega) hf
      exact .inr (.inr ⟨hf, by rw [hk.sz]; exact hs2, walk_good hf, v0, v1, a1, a2⟩)
    · exact .inr (.inl hf)
  · obtain ⟨h1, h2⟩ := ansWk_no s root va acc user hs h
    exact ⟨_, h1, h2, .inl ⟨rfl, rfl⟩⟩
/-- What the law keeps: the cache in its box, both walks in theirs. -/
structure CaL (w U : World) (pT p1 p2 : Nat) (ao : Option Addr) (zs : List TE) (cp : Nat) (nx : Int) (r : WV) (a1 : Option Addr) (n1 c1 : Nat) (a2 : Option Addr) (n2 c2 : Nat) : Prop where
  bel : Below w.heap.size w U
  tb : U.heap[pT]? = some (.cells #[.slice ao zs.length cp, .int .i64 nx] 61 (0, 0))
  b1 : U.heap[p1]? = some (.cells #[.int .i64 r.fault, .int .i64 r.pa, .int .i64 r.entry, .bool r.large, .slice a1 n1 c1, .string r.mem] 56 (0, 0))
  b2 : U.heap[p2]? = some (.cells #[.int .i64 r.fault, .int .i64 r.pa, .int .i64 r.entry, .bool r.large, .slice a2 n2 c2, .string r.mem] 56 (0, 0))
  row : U.ownsRow 0 66 5 (.slice ao zs.length cp) zs.length (teR zs)
theorem CaL.step {w U U' : World} {pT p1 p2 : Nat} {ao : Option Addr} {zs : List TE} {cp : Nat} {nx : Int} {r : WV} {a1 : Option Addr} {n1 c1 : Nat} {a2 : Option Addr} {n2 c2 : Nat} (h : CaL w U pT p1 p2 ao zs cp nx r a1 n1 c1 a2 n2 c2) (hb : Below U.heap.size U U') : CaL w U' pT p1 p2 ao zs cp nx r a1 n1 c1 a2 n2 c2 :=
  ⟨h.bel.trans (hb.mono h.bel.size), (hb.block _ (Array.getElem?_eq_some_iff.1 h.tb).1).trans h.tb, (hb.block _ (Array.getElem?_eq_some_iff.1 h.b1).1).trans h.b1, (hb.block _ (Array.getElem?_eq_some_iff.1 h.b2).1).trans h.b2, te_below h.row hb⟩
set_option maxRecDepth 100000 in
set_option maxHeartbeats 8000000 in
theorem walkCa (a : Option Addr) (len cap : Nat) (b : Option Addr) (lenb capb : Nat) (w : World) (hcode : CodeAt w w.heap.size a len) (hl : len ≤ 1048576) (hlb : lenb ≤ 1048576)
    (HDT : Hid (∀ U : World, Below w.heap.size w U → Calls Try.prog 30 #[.slice b lenb capb] U fun e w' => ∃ (ao : Option Addr) (zs : List TE) (cp : Nat) (nx : Int), e = .returned (.agg #[.slice ao zs.length cp, .int .i64 nx]) ∧ zs.length ≤ 17 ∧ w'.ownsRow (U.heap.size + 1) 66 5 (.slice ao zs.length cp) zs.length (teR zs) ∧ Below U.heap.size U w')) :
    Calls Try.prog 7 #[.slice a len cap, .slice b lenb capb] w fun r w' => r = .returned (.bool true) ∧ Below w.heap.size w w' := by
  have HD : Hid _ := drawWalk_any a len cap w hcode hl
  have hd1 : ¬ 1048576 < (len : Int) := by omega
  have hd2 : ¬ 1048576 < (lenb : Int) := by omega
  clear hcode hl hlb
  go_enter Try.func7, Try.ntmps7
  go_upto_region 4 with (go_at_call 27; refine Calls.mono HD.out ?_; rintro e u0 ⟨s, root, va, acc, user, rfl, s1, s0, _, _, _, _, _, _, hb0⟩; have HB0 : Hid (Below w.heap.size w u0) := hb0; clear hb0 HD)
  obtain ⟨r, hr⟩ := ckF s root va acc user s1 s0
  have HW : Hid (CkF s root va acc user r) := hr
  clear hr
  go_upto_region 5 with (go_at_call 30; refine Calls.mono (HDT.out _ HB0.out) ?_; rintro e u1 ⟨ao, zs, cp, nx, rfl, l17, ho, hb⟩; have HB1 : Hid (Below w.heap.size w (u1.alloc (.cells #[.slice ao zs.length cp, .int .i64 nx] 61))) := (HB0.out.trans (hb.mono HB0.out.size)).alloc (Nat.le_trans HB0.out.size hb.size) _; have HX1 : Hid ((u1.alloc (.cells #[.slice ao zs.length cp, .int .i64 nx] 61)).heap[u1.heap.size]? = some (.cells #[.slice ao zs.length cp, .int .i64 nx] 61 (0, 0))) := (MapKept.heap_alloc u1 _).1; have HO1 : Hid ((u1.alloc (.cells #[.slice ao zs.length cp, .int .i64 nx] 61)).ownsRow 0 66 5 (.slice ao zs.length cp) zs.length (teR zs)) := te_weak (te_below ho ((Below.refl _ _).alloc (Nat.le_refl _) _)) (Nat.zero_le _); clear hb ho HB0 HDT)
  generalize u1.alloc (.cells #[.slice ao zs.length cp, .int .i64 nx] 61) = U1 at *
  generalize u1.heap.size = pT at *
  go_upto_region 6 with (go_at_call 29; refine Calls.mono (HW.out.sp.ans _) ?_; rintro e u2 ⟨a1, n1, c1, rfl, hb⟩; have hb2 : Below U1.heap.size U1 (u2.alloc (.cells #[.int .i64 r.fault, .int .i64 r.pa, .int .i64 r.entry, .bool r.large, .slice a1 n1 c1, .string r.mem] 56)) := hb.alloc hb.size _; have HB2 : Hid (Below U1.heap.size U1 (u2.alloc (.cells #[.int .i64 r.fault, .int .i64 r.pa, .int .i64 r.entry, .bool r.large, .slice a1 n1 c1, .string r.mem] 56))) := hb2; have HX2 : Hid ((u2.alloc (.cells #[.int .i64 r.fault, .int .i64 r.pa, .int .i64 r.entry, .bool r.large, .slice a1 n1 c1, .string r.mem] 56)).heap[u2.heap.size]? = some (.cells #[.int .i64 r.fault, .int .i64 r.pa, .int .i64 r.entry, .bool r.large, .slice a1 n1 c1, .string r.mem] 56 (0, 0))) := (MapKept.heap_alloc u2 _).1; clear hb hb2)
  generalize u2.alloc (.cells #[.int .i64 r.fault, .int .i64 r.pa, .int .i64 r.entry, .bool r.large, .slice a1 n1 c1, .string r.mem] 56) = U2 at *
  generalize u2.heap.size = p1 at *
  go_upto_region 7 with (go_at_call 28; refine Calls.mono (HW.out.im.ans _) ?_; rintro e u3 ⟨a2, n2, c2, rfl, hb⟩; have hb3 : Below U2.heap.size U2 (u3.alloc (.cells #[.int .i64 r.fault, .int .i64 r.pa, .int .i64 r.entry, .bool r.large, .slice a2 n2 c2, .string r.mem] 56)) := hb.alloc hb.size _; have HC : Hid (CaL w (u3.alloc (.cells #[.int .i64 r.fault, .int .i64 r.pa, .int .i64 r.entry, .bool r.large, .slice a2 n2 c2, .string r.mem] 56)) pT p1 u3.heap.size ao zs cp nx r a1 n1 c1 a2 n2 c2) := ⟨(HB1.out.trans (HB2.out.mono HB1.out.size)).trans (hb3.mono (Nat.le_trans HB1.out.size HB2.out.size)), blk hb3 (blk HB2.out HX1.out), blk hb3 HX2.out, (MapKept.heap_alloc u3 _).1, te_below (te_below HO1.out HB2.out) hb3⟩; clear hb hb3 HB1 HB2 HX1 HX2 HO1)
  generalize u3.alloc (.cells #[.int .i64 r.fault, .int .i64 r.pa, .int .i64 r.entry, .bool r.large, .slice a2 n2 c2, .string r.mem] 56) = U at *
  generalize u3.heap.size = p2 at *
  have HOW : Hid _ := HW.out.how
  clear HW
  obtain ⟨f, pa, en, lg, rd, M⟩ := r
  simp only at HC HOW
  go_cut [80] (fun s80 wc => s80 = .bool false ∧ CaL w wc pT p1 p2 ao zs cp nx ⟨f, pa, en, lg, rd, M⟩ a1 n1 c1 a2 n2 c2)
  case first =>
    have HS : Hid (Below U.heap.size U U.drew) := (Below.refl _ _).drew
    have HV : Hid (∀ u, Below U.heap.size U u → (u.cell? ⟨p1, 0, none⟩ = some (.int .i64 f) ∧ u.cell? ⟨p1, 1, none⟩ = some (.int .i64 pa) ∧ u.cell? ⟨p1, 2, none⟩ = some (.int .i64 en) ∧ u.cell? ⟨p1, 5, none⟩ = some (.string M)) ∧ (u.cell? ⟨p2, 0, none⟩ = some (.int .i64 f) ∧ u.cell? ⟨p2, 1, none⟩ = some (.int .i64 pa) ∧ u.cell? ⟨p2, 2, none⟩ = some (.int .i64 en) ∧ u.cell? ⟨p2, 5, none⟩ = some (.string M)) ∧ u.cell? ⟨pT, 0, none⟩ = some (.slice ao zs.length cp) ∧ u.cell? ⟨pT, 1, none⟩ = some (.int .i64 nx)) := fun u hu => by
      obtain ⟨x0, x1, x2, _, _, x5, _⟩ := cel6 (blk hu HC.out.b1)
      obtain ⟨y0, y1, y2, _, _, y5, _⟩ := cel6 (blk hu HC.out.b2)
      obtain ⟨t0, t1⟩ := cel2 (blk hu HC.out.tb)
      exact ⟨⟨x0, x1, x2, x5⟩, ⟨y0, y1, y2, y5⟩, t0, t1⟩
    refine wp_region_held (S := fun w' => Below U.heap.size U w') (by kernel_rfl) ?_
    change wpAnyH _ _ _ _ _ _ _ _ (World.drew _)
    refine wpAnyH_take (i := 0) (v := .pointer (some ⟨p2, 0, none⟩)) rfl (by kernel_rfl) (by kernel_rfl) (by kernel_rfl) (fun _ _ _ h => h) (Or.inl ⟨by kernel_rfl, fun w9 h9 => ?_⟩) HS.out ?_
    · go_simp
    refine wpAnyH_take (i := 1) (v := .int .i64 f) rfl (by kernel_rfl) (by kernel_rfl) (by kernel_rfl) (fun _ _ _ h => h) (Or.inl ⟨by kernel_rfl, fun w9 h9 => ?_⟩) HS.out ?_
    · have h8 := (HV.out w9 h9).2.1.1
      go_simp
    refine wpAnyH_take (i := 2) (v := .pointer (some ⟨p1, 0, none⟩)) rfl (by kernel_rfl) (by kernel_rfl) (by kernel_rfl) (fun _ _ _ h => h) (Or.inl ⟨by kernel_rfl, fun w9 h9 => ?_⟩) HS.out ?_
    · go_simp
    refine wpAnyH_take (i := 3) (v := .int .i64 f) rfl (by kernel_rfl) (by kernel_rfl) (by kernel_rfl) (fun _ _ _ h => h) (Or.inl ⟨by kernel_rfl, fun w9 h9 => ?_⟩) HS.out ?_
    · have h8 := (HV.out w9 h9).1.1
      go_simp
    refine wpAnyH_take (i := 4) (v := .bool false) rfl (by kernel_rfl) (by kernel_rfl) (by kernel_rfl) (fun _ _ _ h => h) (Or.inl ⟨by kernel_rfl, fun w9 h9 => ?_⟩) HS.out ?_
    · go_simp
    refine wpAnyH_take (i := 5) (v := .bool false) rfl (by kernel_rfl) (by kernel_rfl) (by kernel_rfl) (fun _ _ _ h => h) (Or.inl ⟨by kernel_rfl, fun w9 h9 => ?_⟩) HS.out ?_
    · go_simp
    refine wpAnyH_take (i := 6) (v := .pointer (some ⟨p2, 1, none⟩)) rfl (by kernel_rfl) (by kernel_rfl) (by kernel_rfl) (fun _ _ _ h => h) (Or.inl ⟨by kernel_rfl, fun w9 h9 => ?_⟩) HS.out ?_
    · go_simp
    refine wpAnyH_take (i := 7) (v := .int .i64 pa) rfl (by kernel_rfl) (by kernel_rfl) (by kernel_rfl) (fun _ _ _ h => h) (Or.inl ⟨by kernel_rfl, fun w9 h9 => ?_⟩) HS.out ?_
    · have h8 := (HV.out w9 h9).2.1.2.1
      go_simp
    refine wpAnyH_take (i := 8) (v := .pointer (some ⟨p1, 1, none⟩)) rfl (by kernel_rfl) (by kernel_rfl) (by kernel_rfl) (fun _ _ _ h => h) (Or.inl ⟨by kernel_rfl, fun w9 h9 => ?_⟩) HS.out ?_
    · go_simp
    refine wpAnyH_take (i := 9) (v := .int .i64 pa) rfl (by kernel_rfl) (by kernel_rfl) (by kernel_rfl) (fun _ _ _ h => h) (Or.inl ⟨by kernel_rfl, fun w9 h9 => ?_⟩) HS.out ?_
    · have h8 := (HV.out w9 h9).1.2.1
      go_simp
    refine wpAnyH_take (i := 10) (v := .bool false) rfl (by kernel_rfl) (by kernel_rfl) (by kernel_rfl) (fun _ _ _ h => h) (Or.inl ⟨by kernel_rfl, fun w9 h9 => ?_⟩) HS.out ?_
    · go_simp
    refine wpAnyH_take (i := 11) (v := .bool false) rfl (by kernel_rfl) (by kernel_rfl) (by kernel_rfl) (fun _ _ _ h => h) (Or.inl ⟨by kernel_rfl, fun w9 h9 => ?_⟩) HS.out ?_
    · go_simp
    refine wpAnyH_take (i := 12) (v := .bool false) rfl (by kernel_rfl) (by kernel_rfl) (by kernel_rfl) (fun _ _ _ h => h) (Or.inl ⟨by kernel_rfl, fun w9 h9 => ?_⟩) HS.out ?_
    · go_simp
    refine wpAnyH_take (i := 13) (v := .pointer (some ⟨p2, 5, none⟩)) rfl (by kernel_rfl) (by kernel_rfl) (by kernel_rfl) (fun _ _ _ h => h) (Or.inl ⟨by kernel_rfl, fun w9 h9 => ?_⟩) HS.out ?_
    · go_simp
    refine wpAnyH_take (i := 14) (v := .string M) rfl (by kernel_rfl) (by kernel_rfl) (by kernel_rfl) (fun _ _ _ h => h) (Or.inl ⟨by kernel_rfl, fun w9 h9 => ?_⟩) HS.out ?_
    · have h8 := (HV.out w9 h9).2.1.2.2.2
      go_simp
    refine wpAnyH_take (i := 15) (v := .pointer (some ⟨p1, 5, none⟩)) rfl (by kernel_rfl) (by kernel_rfl) (by kernel_rfl) (fun _ _ _ h => h) (Or.inl ⟨by kernel_rfl, fun w9 h9 => ?_⟩) HS.out ?_
    · go_simp
    refine wpAnyH_take (i := 16) (v := .string M) rfl (by kernel_rfl) (by kernel_rfl) (by kernel_rfl) (fun _ _ _ h => h) (Or.inl ⟨by kernel_rfl, fun w9 h9 => ?_⟩) HS.out ?_
    · have h8 := (HV.out w9 h9).1.2.2.2
      go_simp
    refine wpAnyH_take (i := 17) (v := .bool false) rfl (by kernel_rfl) (by kernel_rfl) (by kernel_rfl) (fun _ _ _ h => h) (Or.inl ⟨by kernel_rfl, fun w9 h9 => ?_⟩) HS.out ?_
    · go_simp
    refine wpAnyH_take (i := 18) (v := .bool false) rfl (by kernel_rfl) (by kernel_rfl) (by kernel_rfl) (fun _ _ _ h => h) (Or.inl ⟨by kernel_rfl, fun w9 h9 => ?_⟩) HS.out ?_
    · go_simp
    refine wpAnyH_take (i := 19) (v := .bool false) rfl (by kernel_rfl) (by kernel_rfl) (by kernel_rfl) (fun _ _ _ h => h) (Or.inl ⟨by kernel_rfl, fun w9 h9 => ?_⟩) HS.out ?_
    · go_simp
    refine wpAnyH_take (i := 20) (v := .pointer (some ⟨p2, 2, none⟩)) rfl (by kernel_rfl) (by kernel_rfl) (by kernel_rfl) (fun _ _ _ h => h) (Or.inl ⟨by kernel_rfl, fun w9 h9 => ?_⟩) HS.out ?_
    · go_simp
    refine wpAnyH_take (i := 21) (v := .int .i64 en) rfl (by kernel_rfl) (by kernel_rfl) (by kernel_rfl) (fun _ _ _ h => h) (Or.inl ⟨by kernel_rfl, fun w9 h9 => ?_⟩) HS.out ?_
    · have h8 := (HV.out w9 h9).2.1.2.2.1
      go_simp
    refine wpAnyH_take (i := 22) (v := .pointer (some ⟨p1, 2, none⟩)) rfl (by kernel_rfl) (by kernel_rfl) (by kernel_rfl) (fun _ _ _ h => h) (Or.inl ⟨by kernel_rfl, fun w9 h9 => ?_⟩) HS.out ?_
    · go_simp
    refine wpAnyH_take (i := 23) (v := .int .i64 en) rfl (by kernel_rfl) (by kernel_rfl) (by kernel_rfl) (fun _ _ _ h => h) (Or.inl ⟨by kernel_rfl, fun w9 h9 => ?_⟩) HS.out ?_
    · have h8 := (HV.out w9 h9).1.2.2.1
      go_simp
    refine wpAnyH_take (i := 24) (v := .bool false) rfl (by kernel_rfl) (by kernel_rfl) (by kernel_rfl) (fun _ _ _ h => h) (Or.inl ⟨by kernel_rfl, fun w9 h9 => ?_⟩) HS.out ?_
    · go_simp
    refine wpAnyH_take (i := 25) (v := .bool false) rfl (by kernel_rfl) (by kernel_rfl) (by kernel_rfl) (fun _ _ _ h => h) (Or.inl ⟨by kernel_rfl, fun w9 h9 => ?_⟩) HS.out ?_
    · go_simp
    refine wpAnyH_take (i := 26) (v := .bool false) rfl (by kernel_rfl) (by kernel_rfl) (by kernel_rfl) (fun _ _ _ h => h) (Or.inl ⟨by kernel_rfl, fun w9 h9 => ?_⟩) HS.out ?_
    · go_simp
    refine wpAnyH_take (i := 27) (v := .agg #[.slice ao zs.length cp, .int .i64 nx]) rfl (by kernel_rfl) (by kernel_rfl) (by kernel_rfl) (fun _ _ _ h => h) (Or.inl ⟨by kernel_rfl, fun w9 h9 => ?_⟩) HS.out ?_
    · have h8 := (HV.out w9 h9).2.2.1
      have h7 := (HV.out w9 h9).2.2.2
      go_simp
    refine wpAnyH_take (i := 29) (v := .agg #[.slice ao zs.length cp, .int .i64 nx]) rfl (by kernel_rfl) (by kernel_rfl) (by kernel_rfl) (fun _ _ _ h => h) (Or.inl ⟨by kernel_rfl, fun w9 h9 => ?_⟩) HS.out ?_
    · have h8 := (HV.out w9 h9).2.2.1
      have h7 := (HV.out w9 h9).2.2.2
      go_simp
    refine held_one 28 (by kernel_rfl) rfl (by kernel_rfl) fun K hK => ?_
    go_simp
    refine Calls.mono (tlI (te_below HC.out.row HS.out) nx l17) ?_
    rintro e X1 ⟨rfl, hb⟩
    have HX : Hid (Below U.heap.size U X1) := HS.out.trans (hb.mono HS.out.size)
    refine hK _ _ HX.out ?_
    clear hK K hb
    refine held_one 30 (by kernel_rfl) rfl (by kernel_rfl) fun K hK => ?_
    go_simp
    refine Calls.mono (tlS (te_below HC.out.row HX.out) nx l17) ?_
    rintro e X2 ⟨rfl, hb⟩
    have HY : Hid (Below U.heap.size U X2) := HX.out.trans (hb.mono HX.out.size)
    refine hK _ _ HY.out ?_
    clear hK K hb
    refine wpAnyH_take (i := 31) (v := .bool false) rfl (by kernel_rfl) (by kernel_rfl) (by kernel_rfl) (fun _ _ _ h => h) (Or.inl ⟨by kernel_rfl, fun w9 h9 => ?_⟩) HY.out ?_
    · go_simp
    refine wpAnyH_take (i := 32) (v := .bool false) rfl (by kernel_rfl) (by kernel_rfl) (by kernel_rfl) (fun _ _ _ h => h) (Or.inl ⟨by kernel_rfl, fun w9 h9 => ?_⟩) HY.out ?_
    · go_simp
    refine wpAnyH_done (by kernel_rfl) ?_ _
    go_simp
    go_wp2
    go_meet
    case rel => exact ⟨rfl, HC.out.step HY.out⟩
  case rest =>
    obtain ⟨rfl, hC⟩ := hcut
    have HK : Hid (CaL w wc pT p1 p2 ao zs cp nx ⟨f, pa, en, lg, rd, M⟩ a1 n1 c1 a2 n2 c2) := hC
    clear hC HC
    obtain ⟨x0, x1, x2, x3, x4, x5, _⟩ := cel6 HK.out.b1
    obtain ⟨t0, t1⟩ := cel2 HK.out.tb
    simp only at x0 x1 x2 x3 x4 x5
    rcases HOW.out with ⟨hf, hM⟩ | hf | ⟨hf, hM, hg, v0, v1, g1, g2⟩
    · subst hf hM
      clear HOW
      go_wp2
      go_ret
      exact ⟨rfl, HK.out.bel⟩
    · clear HOW
      go_wp2
      go_ret
      exact ⟨rfl, HK.out.bel⟩
    · subst hf
      clear HOW
      have hne : M.toList.isEmpty = false := isE_no hM
      have HG : Hid (GoodW s va acc user ⟨0, pa, en, lg, rd, M⟩) := hg
      clear hg
      rcases tlbC_or zs nx with hc | hc
      rotate_left
      · go_wp2_with (go_at_call 32; refine Calls.mono (tlS HK.out.row nx l17) ?_; rintro e u4 ⟨rfl, hb⟩; rw [hc]; have HK4 : Hid (CaL w u4 pT p1 p2 ao zs cp nx ⟨0, pa, en, lg, rd, M⟩ a1 n1 c1 a2 n2 c2) := HK.out.step hb; clear hb HK x0 x1 x2 x3 x4 x5 t0 t1)
        go_ret
        exact ⟨rfl, HK4.out.bel⟩
      · go_upto_region 11 with (go_at_call 32; refine Calls.mono (tlS HK.out.row nx l17) ?_; rintro e u4 ⟨rfl, hb⟩; rw [hc]; have HK4 : Hid (CaL w u4 pT p1 p2 ao zs cp nx ⟨0, pa, en, lg, rd, M⟩ a1 n1 c1 a2 n2 c2) := HK.out.step hb; clear hb HK x0 x1 x2 x3 x4 x5 t0 t1)
        obtain ⟨x0, x1, x2, x3, x4, x5, _⟩ := cel6 HK4.out.b1
        simp only at x0 x1 x2 x3 x4 x5
        have hen := HG.out.e0
        have hpg := HG.out.pg
        have hin := HG.out.inn
        have hlg := HG.out.lg
        simp only at hen hpg hin hlg
        have hpa : 0 ≤ pa ∧ pa ≤ 10240 := by
          cases lg
          · have e1 : pgV en va false = en / 256 := rfl
            rw [e1] at hpg hin
            omega
          · have e1 : pgV en va true = en / 256 + va / 256 % 32 := rfl
            rw [e1] at hpg hin
            omega
        have htm : en.tmod 256 = en % 256 := Int.tmod_eq_emod_of_nonneg hen.1
        clear hpg hin hlg
        go_upto_region 12 with fail
        have HE : Hid (EBx (u4.alloc (.cells #[.int .i64 7, .int .i64 (va / 256), .int .i64 (pa / 256), .int .i64 (en % 256), .bool lg] 66)) u4.heap.size ⟨7, va / 256, pa / 256, en % 256, lg⟩) := (MapKept.heap_alloc u4 _).1
        have HUP : Hid (Below u4.heap.size u4 (u4.alloc (.cells #[.int .i64 7, .int .i64 (va / 256), .int .i64 (pa / 256), .int .i64 (en % 256), .bool lg] 66))) := (Below.refl _ _).alloc (Nat.le_refl _) _
        generalize u4.alloc (.cells #[.int .i64 7, .int .i64 (va / 256), .int .i64 (pa / 256), .int .i64 (en % 256), .bool lg] 66) = U5 at *
        clear x0 x1 x2 x3 x4 x5
        obtain ⟨x0, x1, x2, x3, x4, x5, _⟩ := cel6 (blk HUP.out HK4.out.b1)
        simp only at x0 x1 x2 x3 x4 x5
        cases lg
        · go_upto_region 15 with fail
          have HEN : Hid (teOk (⟨7, va / 256, pa / 256, en % 256, false⟩ : TE) = true ∧ holdsB (⟨7, va / 256, pa / 256, en % 256, false⟩ : TE) va = true ∧ ((⟨7, va / 256, pa / 256, en % 256, false⟩ : TE) : TE).asid = 7 ∧ ∀ k : Nat, tfR (⟨7, va / 256, pa / 256, en % 256, false⟩ : TE) va acc user k = hitA true pa k) := by
            obtain ⟨h1, h2, h3⟩ := entW_ok HG.out (by omega) v0 v1
            exact ⟨h1, h2, h3, fun k => hit_new HG.out v0 k⟩
          have HX1 : Hid (U5.heap[p1]? = some (.cells #[.int .i64 0, .int .i64 pa, .int .i64 en, .bool false, .slice a1 n1 c1, .string M] 56 (0, 0))) := blk HUP.out HK4.out.b1
          have HXT : Hid (U5.heap[pT]? = some (.cells #[.slice ao zs.length cp, .int .i64 nx] 61 (0, 0))) := blk HUP.out HK4.out.tb
          have HRT : Hid ((U5).ownsRow 0 66 5 (.slice ao zs.length cp) zs.length (teR zs)) := te_below HK4.out.row HUP.out
          have HB5 : Hid (Below w.heap.size w U5) := HK4.out.bel.trans (HUP.out.mono HK4.out.bel.size)
          obtain ⟨t0, t1⟩ := cel2 HXT.out
          clear HK4 HUP HG
          go_upto_region 16 with (go_at_call 33; refine Calls.mono (flA HRT.out nx va hc v0) ?_; rintro e5 y5 ⟨a5, zc, c5, rfl, ho, hz, hb⟩; have hb2 : Below U5.heap.size U5 (y5.alloc (.cells #[.slice a5 zc.length c5, .int .i64 0] 61)) := hb.alloc hb.size _; have HT6 : Hid ((y5.alloc (.cells #[.slice a5 zc.length c5, .int .i64 0] 61)).heap[y5.heap.size]? = some (.cells #[.slice a5 zc.length c5, .int .i64 0] 61 (0, 0))) := (MapKept.heap_alloc y5 _).1; have HR6 : Hid ((y5.alloc (.cells #[.slice a5 zc.length c5, .int .i64 0] 61)).ownsRow 0 66 5 (.slice a5 zc.length c5) zc.length (teR zc)) := te_below ho ((Below.refl _ _).alloc (Nat.le_refl _) _); have HZ6 : Hid (tlbC zc 0 = 0 ∧ ∀ x ∈ zc, holdsB x va = false) := hz; have HX6 : Hid ((y5.alloc (.cells #[.slice a5 zc.length c5, .int .i64 0] 61)).heap[p1]? = some (.cells #[.int .i64 0, .int .i64 pa, .int .i64 en, .bool false, .slice a1 n1 c1, .string M] 56 (0, 0))) := blk hb2 HX1.out; have HE6 : Hid (EBx (y5.alloc (.cells #[.slice a5 zc.length c5, .int .i64 0] 61)) u4.heap.size (⟨7, va / 256, pa / 256, en % 256, false⟩ : TE)) := HE.out.step hb2; have HB6 : Hid (Below w.heap.size w (y5.alloc (.cells #[.slice a5 zc.length c5, .int .i64 0] 61))) := HB5.out.trans (hb2.mono HB5.out.size); clear hb hb2 ho hz HX1 HXT HRT HB5 HE t0 t1)
          generalize y5.alloc (.cells #[.slice a5 zc.length c5, .int .i64 0] 61) = U8 at *
          generalize y5.heap.size = p5 at *
          obtain ⟨t0, t1⟩ := cel2 HT6.out
          obtain ⟨d0, d1, d2, d3, d4, _⟩ := HE6.out.cel
          go_upto_region 17 with (go_at_call 34; refine Calls.mono (puA HR6.out HZ6.out (⟨7, va / 256, pa / 256, en % 256, false⟩ : TE) HEN.out.1 HEN.out.2.1) ?_; rintro e6 y6 ⟨a6, zu, c6, nu, rfl, ho, hz, hb⟩; have hb2 : Below U8.heap.size U8 (y6.alloc (.cells #[.slice a6 zu.length c6, .int .i64 nu] 61)) := hb.alloc hb.size _; have HT7 : Hid ((y6.alloc (.cells #[.slice a6 zu.length c6, .int .i64 nu] 61)).heap[y6.heap.size]? = some (.cells #[.slice a6 zu.length c6, .int .i64 nu] 61 (0, 0))) := (MapKept.heap_alloc y6 _).1; have HR7 : Hid ((y6.alloc (.cells #[.slice a6 zu.length c6, .int .i64 nu] 61)).ownsRow 0 66 5 (.slice a6 zu.length c6) zu.length (teR zu)) := te_below ho ((Below.refl _ _).alloc (Nat.le_refl _) _); have HZ7 : Hid (tlbC zu nu = 0 ∧ ∃ (k : Nat) (hk : k < zu.length), zu[k] = (⟨7, va / 256, pa / 256, en % 256, false⟩ : TE) ∧ ∀ (j : Nat) (hj : j < zu.length), j ≠ k → holdsB zu[j] va = false) := hz; have HX7 : Hid ((y6.alloc (.cells #[.slice a6 zu.length c6, .int .i64 nu] 61)).heap[p1]? = some (.cells #[.int .i64 0, .int .i64 pa, .int .i64 en, .bool false, .slice a1 n1 c1, .string M] 56 (0, 0))) := blk hb2 HX6.out; have HB7 : Hid (Below w.heap.size w (y6.alloc (.cells #[.slice a6 zu.length c6, .int .i64 nu] 61))) := HB6.out.trans (hb2.mono HB6.out.size); clear hb hb2 ho hz HX6 HT6 HR6 HZ6 HB6 HE6 t0 t1 d0 d1 d2 d3 d4)
          generalize y6.alloc (.cells #[.slice a6 zu.length c6, .int .i64 nu] 61) = U9 at *
          generalize y6.heap.size = p6 at *
          obtain ⟨t0, t1⟩ := cel2 HT7.out
          go_upto_region 18 with (go_at_call 35; refine Calls.mono (fnA HR7.out HZ7.out acc user pa v0 v1 g1 g2 HEN.out.2.1 rfl HEN.out.2.2.2) ?_; rintro e7 y7 ⟨k7, rfl, hb⟩; have hb2 : Below U9.heap.size U9 (y7.alloc (.cells #[.bool true, .int .i64 pa, .int .i64 k7] 70)) := hb.alloc hb.size _; have HH8 : Hid (HBx (y7.alloc (.cells #[.bool true, .int .i64 pa, .int .i64 k7] 70)) y7.heap.size true pa k7) := (MapKept.heap_alloc y7 _).1; have HT8 : Hid ((y7.alloc (.cells #[.bool true, .int .i64 pa, .int .i64 k7] 70)).heap[p6]? = some (.cells #[.slice a6 zu.length c6, .int .i64 nu] 61 (0, 0))) := blk hb2 HT7.out; have HR8 : Hid ((y7.alloc (.cells #[.bool true, .int .i64 pa, .int .i64 k7] 70)).ownsRow 0 66 5 (.slice a6 zu.length c6) zu.length (teR zu)) := te_below HR7.out hb2; have HX8 : Hid ((y7.alloc (.cells #[.bool true, .int .i64 pa, .int .i64 k7] 70)).heap[p1]? = some (.cells #[.int .i64 0, .int .i64 pa, .int .i64 en, .bool false, .slice a1 n1 c1, .string M] 56 (0, 0))) := blk hb2 HX7.out; have HB8 : Hid (Below w.heap.size w (y7.alloc (.cells #[.bool true, .int .i64 pa, .int .i64 k7] 70))) := HB7.out.trans (hb2.mono HB7.out.size); clear hb hb2 HX7 HT7 HR7 HB7 t0 t1)
          generalize y7.alloc (.cells #[.bool true, .int .i64 pa, .int .i64 k7] 70) = U10 at *
          generalize y7.heap.size = p7 at *
          obtain ⟨t0, t1⟩ := cel2 HT8.out
          go_upto_region 19 with (first | (go_at_call 33; refine Calls.mono (flA HR8.out nu va HZ7.out.1 v0) ?_; rintro e8 y8 ⟨a8, zg, c8, rfl, ho, hz, hb⟩; have HY8 : Hid (Below U10.heap.size U10 y8) := hb; have HR9 : Hid ((y8).ownsRow 0 66 5 (.slice a8 zg.length c8) zg.length (teR zg)) := ho; have HZ9 : Hid (tlbC zg 0 = 0 ∧ ∀ x ∈ zg, holdsB x va = false) := hz; clear hb ho hz t0 t1) | (go_at_call 35; refine Calls.mono (gnA HR9.out HZ9.out acc user v0 v1 g1 g2) ?_; rintro e9 y9 ⟨rfl, hb⟩; have hb2 : Below U10.heap.size U10 (y9.alloc (.cells #[.bool false, .int .i64 0, .int .i64 0] 70)) := (HY8.out.trans (hb.mono HY8.out.size)).alloc (Nat.le_trans HY8.out.size hb.size) _; have HG10 : Hid (HBx (y9.alloc (.cells #[.bool false, .int .i64 0, .int .i64 0] 70)) y9.heap.size false 0 0) := (MapKept.heap_alloc y9 _).1; have HH10 : Hid (HBx (y9.alloc (.cells #[.bool false, .int .i64 0, .int .i64 0] 70)) p7 true pa k7) := HH8.out.step hb2; have HT10 : Hid ((y9.alloc (.cells #[.bool false, .int .i64 0, .int .i64 0] 70)).heap[p6]? = some (.cells #[.slice a6 zu.length c6, .int .i64 nu] 61 (0, 0))) := blk hb2 HT8.out; have HR10 : Hid ((y9.alloc (.cells #[.bool false, .int .i64 0, .int .i64 0] 70)).ownsRow 0 66 5 (.slice a6 zu.length c6) zu.length (teR zu)) := te_below HR8.out hb2; have HX10 : Hid ((y9.alloc (.cells #[.bool false, .int .i64 0, .int .i64 0] 70)).heap[p1]? = some (.cells #[.int .i64 0, .int .i64 pa, .int .i64 en, .bool false, .slice a1 n1 c1, .string M] 56 (0, 0))) := blk hb2 HX8.out; have HB10 : Hid (Below w.heap.size w (y9.alloc (.cells #[.bool false, .int .i64 0, .int .i64 0] 70))) := HB8.out.trans (hb2.mono HB8.out.size); clear hb hb2 HX8 HT8 HR8 HB8 HH8 HY8 HR9 HZ9))
          generalize y9.alloc (.cells #[.bool false, .int .i64 0, .int .i64 0] 70) = U11 at *
          generalize y9.heap.size = p9 at *
          obtain ⟨t0, t1⟩ := cel2 HT10.out
          have hcu := HZ7.out.1
          have hlu : zu.length ≤ 17 := by have := ((tlbC_iff zu nu).1 hcu).1; omega
          clear x0 x1 x2 x3 x4 x5
          go_wp2_with (go_at_call 31; refine Calls.mono (tlI HR10.out nu hlu) ?_; rintro e10 y10 ⟨rfl, hb⟩; rw [hcu]; obtain ⟨x0, x1, x2, x3, x4, x5, _⟩ := cel6 (blk hb HX10.out); obtain ⟨h0, h1⟩ := (HH10.out.step hb).cel; obtain ⟨i0, i1⟩ := (HG10.out.step hb).cel; have HB11 : Hid (Below w.heap.size w y10) := HB10.out.trans (hb.mono HB10.out.size); clear hb HX10 HH10 HG10 HT10 HR10 HB10 t0 t1)
          go_ret
          exact ⟨rfl, HB11.out⟩
        · obtain ⟨d0, d1, d2, d3, d4, df⟩ := HE.out.cel
          have q1 : (va / 256).tdiv 32 = va / 256 / 32 := Int.tdiv_eq_ediv_of_nonneg (by omega)
          have q2 : (pa / 256).tdiv 32 = pa / 256 / 32 := Int.tdiv_eq_ediv_of_nonneg (by omega)
          go_upto_region 14 with fail
          have HE2 : Hid (EBx (U5.setCell ⟨u4.heap.size, 1, none⟩ (.int .i64 (va / 256 / 32 * 32))) u4.heap.size ⟨7, va / 256 / 32 * 32, pa / 256, en % 256, true⟩) := ebx_page HE.out _
          have HUP2 : Hid (Below u4.heap.size u4 (U5.setCell ⟨u4.heap.size, 1, none⟩ (.int .i64 (va / 256 / 32 * 32)))) := HUP.out.setCell (Nat.le_refl _) _
          clear HE HUP d0 d1 d2 d3 d4 df x0 x1 x2 x3 x4 x5
          generalize U5.setCell ⟨u4.heap.size, 1, none⟩ (.int .i64 (va / 256 / 32 * 32)) = U6 at *
          obtain ⟨d0, d1, d2, d3, d4, df⟩ := HE2.out.cel
          go_upto_region 15 with fail
          have HE : Hid (EBx (U6.setCell ⟨u4.heap.size, 2, none⟩ (.int .i64 (pa / 256 / 32 * 32))) u4.heap.size ⟨7, va / 256 / 32 * 32, pa / 256 / 32 * 32, en % 256, true⟩) := ebx_frame HE2.out _
          have HUP : Hid (Below u4.heap.size u4 (U6.setCell ⟨u4.heap.size, 2, none⟩ (.int .i64 (pa / 256 / 32 * 32)))) := HUP2.out.setCell (Nat.le_refl _) _
          clear HE2 HUP2 d0 d1 d2 d3 d4 df
          generalize U6.setCell ⟨u4.heap.size, 2, none⟩ (.int .i64 (pa / 256 / 32 * 32)) = U7 at *
          obtain ⟨x0, x1, x2, x3, x4, x5, _⟩ := cel6 (blk HUP.out HK4.out.b1)
          have HEN : Hid (teOk (⟨7, va / 256 / 32 * 32, pa / 256 / 32 * 32, en % 256, true⟩ : TE) = true ∧ holdsB (⟨7, va / 256 / 32 * 32, pa / 256 / 32 * 32, en % 256, true⟩ : TE) va = true ∧ ((⟨7, va / 256 / 32 * 32, pa / 256 / 32 * 32, en % 256, true⟩ : TE) : TE).asid = 7 ∧ ∀ k : Nat, tfR (⟨7, va / 256 / 32 * 32, pa / 256 / 32 * 32, en % 256, true⟩ : TE) va acc user k = hitA true pa k) := by
            obtain ⟨h1, h2, h3⟩ := entW_ok HG.out (by omega) v0 v1
            exact ⟨h1, h2, h3, fun k => hit_new HG.out v0 k⟩
          have HX1 : Hid (U7.heap[p1]? = some (.cells #[.int .i64 0, .int .i64 pa, .int .i64 en, .bool true, .slice a1 n1 c1, .string M] 56 (0, 0))) := blk HUP.out HK4.out.b1
          have HXT : Hid (U7.heap[pT]? = some (.cells #[.slice ao zs.length cp, .int .i64 nx] 61 (0, 0))) := blk HUP.out HK4.out.tb
          have HRT : Hid ((U7).ownsRow 0 66 5 (.slice ao zs.length cp) zs.length (teR zs)) := te_below HK4.out.row HUP.out
          have HB5 : Hid (Below w.heap.size w U7) := HK4.out.bel.trans (HUP.out.mono HK4.out.bel.size)
          obtain ⟨t0, t1⟩ := cel2 HXT.out
          clear HK4 HUP HG
          go_upto_region 16 with (go_at_call 33; refine Calls.mono (flA HRT.out nx va hc v0) ?_; rintro e5 y5 ⟨a5, zc, c5, rfl, ho, hz, hb⟩; have hb2 : Below U7.heap.size U7 (y5.alloc (.cells #[.slice a5 zc.length c5, .int .i64 0] 61)) := hb.alloc hb.size _; have HT6 : Hid ((y5.alloc (.cells #[.slice a5 zc.length c5, .int .i64 0] 61)).heap[y5.heap.size]? = some (.cells #[.slice a5 zc.length c5, .int .i64 0] 61 (0, 0))) := (MapKept.heap_alloc y5 _).1; have HR6 : Hid ((y5.alloc (.cells #[.slice a5 zc.length c5, .int .i64 0] 61)).ownsRow 0 66 5 (.slice a5 zc.length c5) zc.length (teR zc)) := te_below ho ((Below.refl _ _).alloc (Nat.le_refl _) _); have HZ6 : Hid (tlbC zc 0 = 0 ∧ ∀ x ∈ zc, holdsB x va = false) := hz; have HX6 : Hid ((y5.alloc (.cells #[.slice a5 zc.length c5, .int .i64 0] 61)).heap[p1]? = some (.cells #[.int .i64 0, .int .i64 pa, .int .i64 en, .bool true, .slice a1 n1 c1, .string M] 56 (0, 0))) := blk hb2 HX1.out; have HE6 : Hid (EBx (y5.alloc (.cells #[.slice a5 zc.length c5, .int .i64 0] 61)) u4.heap.size (⟨7, va / 256 / 32 * 32, pa / 256 / 32 * 32, en % 256, true⟩ : TE)) := HE.out.step hb2; have HB6 : Hid (Below w.heap.size w (y5.alloc (.cells #[.slice a5 zc.length c5, .int .i64 0] 61))) := HB5.out.trans (hb2.mono HB5.out.size); clear hb hb2 ho hz HX1 HXT HRT HB5 HE t0 t1)
          generalize y5.alloc (.cells #[.slice a5 zc.length c5, .int .i64 0] 61) = U8 at *
          generalize y5.heap.size = p5 at *
          obtain ⟨t0, t1⟩ := cel2 HT6.out
          obtain ⟨d0, d1, d2, d3, d4, _⟩ := HE6.out.cel
          go_upto_region 17 with (go_at_call 34; refine Calls.mono (puA HR6.out HZ6.out (⟨7, va / 256 / 32 * 32, pa / 256 / 32 * 32, en % 256, true⟩ : TE) HEN.out.1 HEN.out.2.1) ?_; rintro e6 y6 ⟨a6, zu, c6, nu, rfl, ho, hz, hb⟩; have hb2 : Below U8.heap.size U8 (y6.alloc (.cells #[.slice a6 zu.length c6, .int .i64 nu] 61)) := hb.alloc hb.size _; have HT7 : Hid ((y6.alloc (.cells #[.slice a6 zu.length c6, .int .i64 nu] 61)).heap[y6.heap.size]? = some (.cells #[.slice a6 zu.length c6, .int .i64 nu] 61 (0, 0))) := (MapKept.heap_alloc y6 _).1; have HR7 : Hid ((y6.alloc (.cells #[.slice a6 zu.length c6, .int .i64 nu] 61)).ownsRow 0 66 5 (.slice a6 zu.length c6) zu.length (teR zu)) := te_below ho ((Below.refl _ _).alloc (Nat.le_refl _) _); have HZ7 : Hid (tlbC zu nu = 0 ∧ ∃ (k : Nat) (hk : k < zu.length), zu[k] = (⟨7, va / 256 / 32 * 32, pa / 256 / 32 * 32, en % 256, true⟩ : TE) ∧ ∀ (j : Nat) (hj : j < zu.length), j ≠ k → holdsB zu[j] va = false) := hz; have HX7 : Hid ((y6.alloc (.cells #[.slice a6 zu.length c6, .int .i64 nu] 61)).heap[p1]? = some (.cells #[.int .i64 0, .int .i64 pa, .int .i64 en, .bool true, .slice a1 n1 c1, .string M] 56 (0, 0))) := blk hb2 HX6.out; have HB7 : Hid (Below w.heap.size w (y6.alloc (.cells #[.slice a6 zu.length c6, .int .i64 nu] 61))) := HB6.out.trans (hb2.mono HB6.out.size); clear hb hb2 ho hz HX6 HT6 HR6 HZ6 HB6 HE6 t0 t1 d0 d1 d2 d3 d4)
          generalize y6.alloc (.cells #[.slice a6 zu.length c6, .int .i64 nu] 61) = U9 at *
          generalize y6.heap.size = p6 at *
          obtain ⟨t0, t1⟩ := cel2 HT7.out
          go_upto_region 18 with (go_at_call 35; refine Calls.mono (fnA HR7.out HZ7.out acc user pa v0 v1 g1 g2 HEN.out.2.1 rfl HEN.out.2.2.2) ?_; rintro e7 y7 ⟨k7, rfl, hb⟩; have hb2 : Below U9.heap.size U9 (y7.alloc (.cells #[.bool true, .int .i64 pa, .int .i64 k7] 70)) := hb.alloc hb.size _; have HH8 : Hid (HBx (y7.alloc (.cells #[.bool true, .int .i64 pa, .int .i64 k7] 70)) y7.heap.size true pa k7) := (MapKept.heap_alloc y7 _).1; have HT8 : Hid ((y7.alloc (.cells #[.bool true, .int .i64 pa, .int .i64 k7] 70)).heap[p6]? = some (.cells #[.slice a6 zu.length c6, .int .i64 nu] 61 (0, 0))) := blk hb2 HT7.out; have HR8 : Hid ((y7.alloc (.cells #[.bool true, .int .i64 pa, .int .i64 k7] 70)).ownsRow 0 66 5 (.slice a6 zu.length c6) zu.length (teR zu)) := te_below HR7.out hb2; have HX8 : Hid ((y7.alloc (.cells #[.bool true, .int .i64 pa, .int .i64 k7] 70)).heap[p1]? = some (.cells #[.int .i64 0, .int .i64 pa, .int .i64 en, .bool true, .slice a1 n1 c1, .string M] 56 (0, 0))) := blk hb2 HX7.out; have HB8 : Hid (Below w.heap.size w (y7.alloc (.cells #[.bool true, .int .i64 pa, .int .i64 k7] 70))) := HB7.out.trans (hb2.mono HB7.out.size); clear hb hb2 HX7 HT7 HR7 HB7 t0 t1)
          generalize y7.alloc (.cells #[.bool true, .int .i64 pa, .int .i64 k7] 70) = U10 at *
          generalize y7.heap.size = p7 at *
          obtain ⟨t0, t1⟩ := cel2 HT8.out
          go_upto_region 19 with (first | (go_at_call 33; refine Calls.mono (flA HR8.out nu va HZ7.out.1 v0) ?_; rintro e8 y8 ⟨a8, zg, c8, rfl, ho, hz, hb⟩; have HY8 : Hid (Below U10.heap.size U10 y8) := hb; have HR9 : Hid ((y8).ownsRow 0 66 5 (.slice a8 zg.length c8) zg.length (teR zg)) := ho; have HZ9 : Hid (tlbC zg 0 = 0 ∧ ∀ x ∈ zg, holdsB x va = false) := hz; clear hb ho hz t0 t1) | (go_at_call 35; refine Calls.mono (gnA HR9.out HZ9.out acc user v0 v1 g1 g2) ?_; rintro e9 y9 ⟨rfl, hb⟩; have hb2 : Below U10.heap.size U10 (y9.alloc (.cells #[.bool false, .int .i64 0, .int .i64 0] 70)) := (HY8.out.trans (hb.mono HY8.out.size)).alloc (Nat.le_trans HY8.out.size hb.size) _; have HG10 : Hid (HBx (y9.alloc (.cells #[.bool false, .int .i64 0, .int .i64 0] 70)) y9.heap.size false 0 0) := (MapKept.heap_alloc y9 _).1; have HH10 : Hid (HBx (y9.alloc (.cells #[.bool false, .int .i64 0, .int .i64 0] 70)) p7 true pa k7) := HH8.out.step hb2; have HT10 : Hid ((y9.alloc (.cells #[.bool false, .int .i64 0, .int .i64 0] 70)).heap[p6]? = some (.cells #[.slice a6 zu.length c6, .int .i64 nu] 61 (0, 0))) := blk hb2 HT8.out; have HR10 : Hid ((y9.alloc (.cells #[.bool false, .int .i64 0, .int .i64 0] 70)).ownsRow 0 66 5 (.slice a6 zu.length c6) zu.length (teR zu)) := te_below HR8.out hb2; have HX10 : Hid ((y9.alloc (.cells #[.bool false, .int .i64 0, .int .i64 0] 70)).heap[p1]? = some (.cells #[.int .i64 0, .int .i64 pa, .int .i64 en, .bool true, .slice a1 n1 c1, .string M] 56 (0, 0))) := blk hb2 HX8.out; have HB10 : Hid (Below w.heap.size w (y9.alloc (.cells #[.bool false, .int .i64 0, .int .i64 0] 70))) := HB8.out.trans (hb2.mono HB8.out.size); clear hb hb2 HX8 HT8 HR8 HB8 HH8 HY8 HR9 HZ9))
          generalize y9.alloc (.cells #[.bool false, .int .i64 0, .int .i64 0] 70) = U11 at *
          generalize y9.heap.size = p9 at *
          obtain ⟨t0, t1⟩ := cel2 HT10.out
          have hcu := HZ7.out.1
          have hlu : zu.length ≤ 17 := by have := ((tlbC_iff zu nu).1 hcu).1; omega
          clear x0 x1 x2 x3 x4 x5
          go_wp2_with (go_at_call 31; refine Calls.mono (tlI HR10.out nu hlu) ?_; rintro e10 y10 ⟨rfl, hb⟩; rw [hcu]; obtain ⟨x0, x1, x2, x3, x4, x5, _⟩ := cel6 (blk hb HX10.out); obtain ⟨h0, h1⟩ := (HH10.out.step hb).cel; obtain ⟨i0, i1⟩ := (HG10.out.step hb).cel; have HB11 : Hid (Below w.heap.size w y10) := HB10.out.trans (hb.mono HB10.out.size); clear hb HX10 HH10 HG10 HT10 HR10 HB10 t0 t1)
          go_ret
          exact ⟨rfl, HB11.out⟩
end Go.Proofs.Ytfagohdmepnkkaa
