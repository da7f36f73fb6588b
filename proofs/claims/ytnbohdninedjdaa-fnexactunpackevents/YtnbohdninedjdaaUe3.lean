import Derived.Test.YtnbohdninedjdaaUe2
import Derived.Test.YtnbohdninedjdaaCc1
namespace Go.Proofs.Ytnbohdninedjdaa
open Go.ChangeShapes Go.WideShapes Go.ChangeAt Go.RowKit

theorem cV_b (s : ByteArray) (st : Nat × Bool) : 0 ≤ cV s st ∧ cV s st < 4294967296 := by
  unfold cV
  split
  · omega
  · exact wv_b s st.1
/-- The event of four words. -/
def evW (x0 x1 x2 x3 : Int) : EV := ⟨tW x1 x0, x2 / 65536, x2 % 65536, x3⟩
def evC4 (s : ByteArray) (a : Nat) : EV := evW (cV s (cS s (a, false) 0)) (cV s (cS s (a, false) 1)) (cV s (cS s (a, false) 2)) (cV s (cS s (a, false) 3))
theorem c4_yes {s : ByteArray} {a : Nat} (h : a + 16 ≤ s.size) : evC4 s a = evE s a ∧ cS s (a, false) 4 = (a + 16, false) := by
  have e1 : cS s (a, false) 1 = (a + 4, false) := by show cW s (a, false) = _; unfold cW; rw [if_neg (by simp; omega)]
  have e2 : cS s (a, false) 2 = (a + 8, false) := by show cW s (cS s (a, false) 1) = _; rw [e1]; unfold cW; rw [if_neg (by simp; omega)]
  have e3 : cS s (a, false) 3 = (a + 12, false) := by show cW s (cS s (a, false) 2) = _; rw [e2]; unfold cW; rw [if_neg (by simp; omega)]
  have e4 : cS s (a, false) 4 = (a + 16, false) := by show cW s (cS s (a, false) 3) = _; rw [e3]; unfold cW; rw [if_neg (by simp; omega)]
  refine ⟨?_, e4⟩
  unfold evC4
  rw [e1, e2, e3]
  have f : ∀ c, c + 4 ≤ s.size → cV s (c, false) = wv s c := fun c hc => by unfold cV; rw [if_neg (by simp; omega)]
  rw [show cS s (a, false) 0 = (a, false) from rfl, f a (by omega), f (a + 4) (by omega), f (a + 8) (by omega), f (a + 12) (by omega)]
  rfl
theorem cW_sh (s : ByteArray) (st : Nat × Bool) (h : st.2 = true) : (cW s st).2 = true := by unfold cW; rw [if_pos (Or.inl h)]
theorem c4_no {s : ByteArray} {a : Nat} (h : s.size < a + 16) : (cS s (a, false) 4).2 = true := by
  cases h4 : (cS s (a, false) 4).2
  · exfalso
    have g : ∀ k, (cS s (a, false) (k + 1)).2 = false → (cS s (a, false) k).2 = false ∧ (cS s (a, false) (k + 1)).1 = (cS s (a, false) k).1 + 4 ∧ (cS s (a, false) k).1 + 4 ≤ s.size := by
      intro k hk
      have hk2 : (cW s (cS s (a, false) k)).2 = false := hk
      show _ ∧ (cW s (cS s (a, false) k)).1 = _ ∧ _
      unfold cW at hk2 ⊢
      split at hk2
      · cases hk2
      · rename_i hn
        rw [if_neg hn]
        obtain ⟨n1, n2⟩ := not_or.1 hn
        exact ⟨by simpa using n1, rfl, by omega⟩
    obtain ⟨p3, q3, r3⟩ := g 3 h4
    obtain ⟨p2, q2, r2⟩ := g 2 p3
    obtain ⟨p1, q1, r1⟩ := g 1 p2
    obtain ⟨p0, q0, r0⟩ := g 0 p1
    have z : (cS s (a, false) 0).1 = a := rfl
    simp only [Nat.zero_add] at q0
    have q0' : (cS s (a, false) 1).1 = a + 4 := by rw [q0, z]
    have q1' : (cS s (a, false) 2).1 = a + 8 := by have := q1; simp only [Nat.reduceAdd] at this; rw [this, q0']
    have q2' : (cS s (a, false) 3).1 = a + 12 := by have := q2; simp only [Nat.reduceAdd] at this; rw [this, q1']
    omega
  · rfl
theorem peV_size (zs : List EV) : (peV zs).size = 0 ∨ (peV zs).size = 4 + 16 * zs.length := by
  unfold peV
  split
  · right
    rw [← peL_size zs]
    simp [peT, ByteArray.size]
  · exact .inl rfl
theorem cel4 {u : World} {g T : Nat} {cs : Array Value} (h : u.heap[g]? = some (.cells cs T (0, 0))) (k : Nat) (v : Value) (hv : cs[k]? = some v) : u.cell? ⟨g, k, none⟩ = some v := by simp [World.cell?, h, hv]
theorem own_neB {w : World} {B T T2 sz n g : Nat} {v : Value} {xs : List Value} {cs : Array Value} (h : w.ownsRow B T sz v n xs) (hg : w.heap[g]? = some (.cells cs T2 (0, 0))) (hT : T ≠ T2) : v.ownBlock ≠ some g := by
  rcases h.2 with ⟨rfl, _⟩ | ⟨g', cap, cur, rfl, _, h2, _⟩
  · simp [Value.ownBlock]
  · intro e
    simp [Value.ownBlock] at e
    subst e
    rw [h2] at hg
    injection hg with e1
    injection e1 with _ e2
    exact hT e2
theorem tW_comm (a b : Int) : wrap64 (b + wrap64 (a * 4294967296)) = tW a b := by
  unfold tW
  rw [Int.add_comm]
def lenOf : Value → Nat
  | .slice _ n _ => n
  | _ => 0
/-- What the loop keeps. -/
structure UL (w wr : World) (b : Nat) (s : ByteArray) (v : Value) (a : Nat) (sh : Bool) (zs : List EV) : Prop where
  cx : CX w wr b s a sh
  row : wr.ownsRow w.heap.size 46 4 v zs.length (evR zs)
  ne : v.ownBlock ≠ some b
  le : a ≤ s.size
  yes : sh = false → a = 4 + 16 * zs.length ∧ zs = evs s zs.length
  no : sh = true → peV zs ≠ s ∧ ueZ s = []
  len : zs.length ≤ cntE s + 1
set_option maxRecDepth 100000 in
set_option maxHeartbeats 4000000 in
theorem specUE_any (s : ByteArray) (hm : s.size ≤ 1048576) : AnsU 14 s (ueZ s) := by
  intro w
  by_cases hs : s.size ≤ 65536
  rotate_left
  · have hd : decide (65536 < (s.size : Int)) = true := decide_eq_true (by omega)
    have HZ : Hid (ueZ s = []) := (show ueZ s = _ by unfold ueZ ueB; rw [decide_eq_false hs]; rfl)
    have HO : Hid ((w.alloc (.cells #[] 46)).ownsRow w.heap.size 46 4 (.slice (some ⟨w.heap.size, 0, none⟩) 0 0) 0 (evR [])) := World.ownsRow_lit w #[] 0 (by simp) (by decide) rfl
    go_enter Try.func14, Try.ntmps14
    go_wp2
    go_ret
    exact ⟨_, rfl, by rw [HZ.out]; exact HO.out, bx1 _ _⟩
  have hd0 : decide (65536 < (s.size : Int)) = false := decide_eq_false (by omega)
  by_cases h4 : s.size < 4
  · have hd : decide ((s.size : Int) < 4) = true := decide_eq_true (by omega)
    have hc : cntE s = 0 := by unfold cntE; omega
    have HZ : Hid (ueZ s = []) := (show ueZ s = _ by
      have hne : peV (evs s (cntE s)) ≠ s := by
        rw [hc]
        intro e
        have := congrArg ByteArray.size e
        have h5 : (peV (evs s 0)).size = 4 := (show (peV []).size = 4 by decide)
        omega
      unfold ueZ ueB
      rw [decide_eq_false hne]
      simp)
    have HO : Hid ((w.alloc (.cells #[] 46)).ownsRow w.heap.size 46 4 (.slice (some ⟨w.heap.size, 0, none⟩) 0 0) 0 (evR [])) := World.ownsRow_lit w #[] 0 (by simp) (by decide) rfl
    go_enter Try.func14, Try.ntmps14
    go_wp2
    go_ret
    exact ⟨_, rfl, by rw [HZ.out]; exact HO.out, bx1 _ _⟩
  have hd1 : decide ((s.size : Int) < 4) = false := decide_eq_false (by omega)
  have HO : Hid ((w.alloc (.cells #[] 46)).ownsRow w.heap.size 46 4 (.slice (some ⟨w.heap.size, 0, none⟩) 0 0) 0 (evR [])) := World.ownsRow_lit w #[] 0 (by simp) (by decide) rfl
  go_enter Try.func14, Try.ntmps14
  go_upto_region 2 with fail
  have HB0 : Hid (Below w.heap.size w (w.alloc (.cells #[] 46))) := bx1 _ _
  have HSZ : Hid ((w.alloc (.cells #[] 46)).heap.size = w.heap.size + 1) := (show _ = _ by simp)
  generalize (w.alloc (.cells #[] 46)) = v0 at *
  have HX0 : Hid (CX w (v0.alloc (.cells #[.string s, .int .i64 4, .bool false] 60)) v0.heap.size s 4 false) := (show CX _ _ _ _ _ _ from ⟨heap_new _ _, ⟨HB0.out.os, HB0.out.tape, HB0.out.output, Nat.le_trans HB0.out.size (by simp), fun j hj _ => ((bx1 _ _).block j (Nat.lt_of_lt_of_le hj HB0.out.size)).trans (HB0.out.block j hj)⟩⟩)
  have HO2 : Hid ((v0.alloc (.cells #[.string s, .int .i64 4, .bool false] 60)).ownsRow w.heap.size 46 4 (.slice (some ⟨w.heap.size, 0, none⟩) 0 0) 0 (evR [])) := World.ownsRow.alloc HO.out _
  go_upto_region 5 with fail
  generalize (v0.alloc (.cells #[.string s, .int .i64 4, .bool false] 60)) = v1 at *
  have HGE : Hid (w.heap.size ≤ v0.heap.size) := HB0.out.size
  have HNB : Hid ((Value.slice (some ⟨w.heap.size, 0, none⟩) 0 0).ownBlock ≠ some v0.heap.size) := (show _ ≠ _ by have := HSZ.out; simp [Value.ownBlock]; omega)
  generalize v0.heap.size = b at *
  clear hd0 hd1 HO HB0 HSZ
  go_loopw [3] (fun v wr => ∃ a sh zs, UL w wr b s v a sh zs) (fun v _ => cntE s + 1 - lenOf v)
  case atStart => exact ⟨4, false, [], ⟨HX0.out, HO2.out, HNB.out, by omega, fun _ => ⟨rfl, rfl⟩, fun h => (by cases h), Nat.zero_le _⟩⟩
  case round =>
    obtain ⟨a, sh, zs, hx⟩ := hrel
    obtain ⟨a3, c3, rfl⟩ := ev_sl hx.row
    have HX : Hid (UL w wr b s (.slice a3 zs.length c3) a sh zs) := hx
    clear hx HX0 HO2 HNB
    obtain ⟨c0, c1, c2⟩ := HX.out.cx.cel
    have hl := HX.out.cx.lt
    have ha := HX.out.le
    have HBW : Hid (∀ u, CX w u b s a sh → Below w.heap.size w u) := fun u h => ⟨h.gr.os, h.gr.tape, h.gr.output, h.gr.size, fun j hj => h.gr.block j hj (by have := HGE.out; intro e; injection e with e; omega)⟩
    by_cases hgo : sh = false ∧ a < s.size
    · obtain ⟨rfl, hlt⟩ := hgo
      obtain ⟨e1, e2⟩ := HX.out.yes rfl
      have hq : decide ((a : Int) < (s.size : Int)) = true := decide_eq_true (by omega)
      have HWS : Hid (Calls Try.prog 31 #[.pointer (some ⟨b, 0, none⟩), .int .i64 4] wr fun e w' => ∃ v, e = .returned v ∧ w'.ownsRow wr.heap.size 2 1 v 4 (iR (cL s (a, false) 4)) ∧ CX wr w' b s (cS s (a, false) 4).1 (cS s (a, false) 4).2) := words_any (st := (a, false)) HX.out.cx.same ha hs 4 (by omega)
      obtain ⟨k, hk⟩ : ∃ k, zs.length = k := ⟨_, rfl⟩
      have HR : Hid (wr.ownsRow w.heap.size 46 4 (.slice a3 k c3) k (evR zs)) := (by rw [← hk]; exact HX.out.row)
      have hkc : k ≤ cntE s := by unfold cntE; omega
      have hkb : k ≤ 4096 := by unfold cntE at hkc; omega
      rw [hk] at HX ⊢
      have HNX : Hid (evs s k = zs) := (show evs s k = zs by rw [← hk]; exact e2.symm)
      have ea : a = 4 + 16 * k := by omega
      clear e2
      go_upto_region 7 with (go_at_call 31; refine Calls.mono HWS.out ?_; rintro e u1 ⟨wv1, rfl, hw1, hx1⟩)
      have HXA : Hid (CX w u1 b s (cS s (a, false) 4).1 (cS s (a, false) 4).2) := ⟨hx1.box, gb_gr HX.out.cx.gr hx1.gr⟩
      have HO1 : Hid (u1.drew.ownsRow w.heap.size 46 4 (.slice a3 k c3) k (evR zs)) := (show u1.ownsRow w.heap.size 46 4 (.slice a3 k c3) k (evR zs) from HR.out.kept hx1.gr (by
        cases ho : (Value.slice a3 k c3).ownBlock with
        | none => exact .inl rfl
        | some q => exact .inr (by have h9 := HX.out.ne; rw [ho] at h9; exact h9)))
      obtain ⟨g, c4, cur, rfl, hgB, hg4, hr4⟩ : ∃ g c4 cur, wv1 = .slice (some ⟨g, 0, none⟩) 4 c4 ∧ wr.heap.size ≤ g ∧ u1.heap[g]? = some (.cells cur 2 (0, 0)) ∧ True := by
        rcases hw1.2 with ⟨_, e⟩ | ⟨g, cap, cur, e, h1, h2, _⟩
        · cases e
        · exact ⟨g, cap, cur, e, h1, h2, trivial⟩
      have k0 : u1.cell? ⟨g, 0, none⟩ = some (.int .i64 (cV s (cS s (a, false) 0))) := hw1.cellAt 0 (by omega)
      have k1 : u1.cell? ⟨g, 1, none⟩ = some (.int .i64 (cV s (cS s (a, false) 1))) := hw1.cellAt 1 (by omega)
      have k2 : u1.cell? ⟨g, 2, none⟩ = some (.int .i64 (cV s (cS s (a, false) 2))) := hw1.cellAt 2 (by omega)
      have k3 : u1.cell? ⟨g, 3, none⟩ = some (.int .i64 (cV s (cS s (a, false) 3))) := hw1.cellAt 3 (by omega)
      have hgl : g < u1.heap.size := (Array.getElem?_eq_some_iff.1 hg4).1
      have HNE : Hid (∀ j, (Value.slice a3 k c3).ownBlock = some j → j ≠ b ∧ w.heap.size ≤ j ∧ j < g) := fun j hj => ⟨fun e => HX.out.ne (by rw [hj, e]), (HR.out.lt j hj).1, Nat.lt_of_lt_of_le (HR.out.lt j hj).2 hgB⟩
      have hwb2 := cV_b s (cS s (a, false) 2)
      have HCE : Hid (evC4 s a = evW (cV s (cS s (a, false) 0)) (cV s (cS s (a, false) 1)) (cV s (cS s (a, false) 2)) (cV s (cS s (a, false) 3))) := (show evC4 s a = _ from rfl)
      have HYES : Hid (a + 16 ≤ s.size → evC4 s a = evE s a ∧ cS s (a, false) 4 = (a + 16, false)) := fun h => c4_yes h
      have HNO : Hid (s.size < a + 16 → (cS s (a, false) 4).2 = true) := fun h => c4_no h
      have HLE : Hid ((cS s (a, false) 4).1 ≤ s.size) := cS_le (st := (a, false)) ha 4
      generalize evC4 s a = ZZ at *
      generalize cV s (cS s (a, false) 0) = x0 at *
      generalize cV s (cS s (a, false) 1) = x1 at *
      generalize cV s (cS s (a, false) 2) = x2 at *
      generalize cV s (cS s (a, false) 3) = x3 at *
      generalize hA : (cS s (a, false) 4).1 = A at *
      generalize hSH : (cS s (a, false) 4).2 = SH at *
      obtain ⟨P1, hP⟩ : ∃ P1, wrap64 (x1 * 4294967296) = P1 := ⟨_, rfl⟩
      obtain ⟨TT, hT⟩ : ∃ TT, wrap64 (x0 + P1) = TT := ⟨_, rfl⟩
      obtain ⟨QQ, hQ⟩ : ∃ QQ, x2 / 65536 = QQ := ⟨_, rfl⟩
      obtain ⟨RR, hR⟩ : ∃ RR, x2 % 65536 = RR := ⟨_, rfl⟩
      have HZZ : Hid (ZZ = ⟨TT, QQ, RR, x3⟩) := (show ZZ = _ by rw [HCE.out]; unfold evW; rw [← tW_comm, hP, hT, hQ, hR])
      have hqt : x2.tdiv 65536 = QQ := by rw [Int.tdiv_eq_ediv_of_nonneg hwb2.1]; exact hQ
      have hrt : x2.tmod 65536 = RR := by rw [Int.tmod_eq_emod_of_nonneg hwb2.1]; exact hR
      have hqw : IntKind.i64.wrap QQ = QQ := by have := hwb2; rw [IntKind.wrap_i64]; omega
      have hPw : IntKind.i64.wrap (x1 * 4294967296) = P1 := by rw [IntKind.wrap_i64]; unfold wrap64 at hP; exact hP
      have hTw : IntKind.i64.wrap (x0 + P1) = TT := by rw [IntKind.wrap_i64]; unfold wrap64 at hT; exact hT
      have HG4 : Hid (∀ u : World, u.heap[g]? = some (.cells cur 2 (0, 0)) → u.cell? ⟨g, 0, none⟩ = some (.int .i64 x0) ∧ u.cell? ⟨g, 1, none⟩ = some (.int .i64 x1) ∧ u.cell? ⟨g, 2, none⟩ = some (.int .i64 x2) ∧ u.cell? ⟨g, 3, none⟩ = some (.int .i64 x3)) := fun u hu => ⟨(World.cell?_of_block (hu.trans hg4.symm)).trans k0, (World.cell?_of_block (hu.trans hg4.symm)).trans k1, (World.cell?_of_block (hu.trans hg4.symm)).trans k2, (World.cell?_of_block (hu.trans hg4.symm)).trans k3⟩
      have HSB : Hid ((fun w9 => CX w w9 b s A SH ∧ w9.heap[g]? = some (.cells cur 2 (0, 0)) ∧ g < w9.heap.size) u1.drew) := ⟨HXA.out.drewN 1, hg4, hgl⟩
      clear c0 c1 c2 hl k0 k1 k2 k3 hw1 hx1 hg4 HR HXA HCE hr4 hQ hR HWS HBW
      refine wp_region_held (S := fun w9 => CX w w9 b s A SH ∧ w9.heap[g]? = some (.cells cur 2 (0, 0)) ∧ g < w9.heap.size) (by kernel_rfl) ?_
      change wpAnyH _ _ _ _ _ _ _ _ (World.drew _)
      refine wpAnyH_take (i := 0) (v := .slice a3 k c3) rfl (by kernel_rfl) (by kernel_rfl) (by kernel_rfl) (fun _ _ _ h => h) (Or.inl ⟨by kernel_rfl, fun w9 h9 => ?_⟩) HSB.out ?_
      · go_simp
      refine wpAnyH_take (i := 1) (v := .slice (some ⟨g, 0, none⟩) 4 c4) rfl (by kernel_rfl) (by kernel_rfl) (by kernel_rfl) (fun _ _ _ h => h) (Or.inl ⟨by kernel_rfl, fun w9 h9 => ?_⟩) HSB.out ?_
      · go_simp
      refine wpAnyH_take (i := 2) (v := .pointer (some ⟨g, 0, none⟩)) rfl (by kernel_rfl) (by kernel_rfl) (by kernel_rfl) (fun _ _ _ h => h) (Or.inl ⟨by kernel_rfl, fun w9 h9 => ?_⟩) HSB.out ?_
      · go_simp
      refine wpAnyH_take (i := 3) (v := .int .i64 x0) rfl (by kernel_rfl) (by kernel_rfl) (by kernel_rfl) (fun _ _ _ h => h) (Or.inl ⟨by kernel_rfl, fun w9 h9 => ?_⟩) HSB.out ?_
      · obtain ⟨d0, d1, d2, d3⟩ := HG4.out w9 h9.2.1; have dl := h9.2.2; clear h9; go_simp
      refine wpAnyH_take (i := 4) (v := .slice (some ⟨g, 0, none⟩) 4 c4) rfl (by kernel_rfl) (by kernel_rfl) (by kernel_rfl) (fun _ _ _ h => h) (Or.inl ⟨by kernel_rfl, fun w9 h9 => ?_⟩) HSB.out ?_
      · go_simp
      refine wpAnyH_take (i := 5) (v := .pointer (some ⟨g, 1, none⟩)) rfl (by kernel_rfl) (by kernel_rfl) (by kernel_rfl) (fun _ _ _ h => h) (Or.inl ⟨by kernel_rfl, fun w9 h9 => ?_⟩) HSB.out ?_
      · go_simp
      refine wpAnyH_take (i := 6) (v := .int .i64 x1) rfl (by kernel_rfl) (by kernel_rfl) (by kernel_rfl) (fun _ _ _ h => h) (Or.inl ⟨by kernel_rfl, fun w9 h9 => ?_⟩) HSB.out ?_
      · obtain ⟨d0, d1, d2, d3⟩ := HG4.out w9 h9.2.1; have dl := h9.2.2; clear h9; go_simp
      refine wpAnyH_take (i := 7) (v := .int .i64 P1) rfl (by kernel_rfl) (by kernel_rfl) (by kernel_rfl) (fun _ _ _ h => h) (Or.inl ⟨by kernel_rfl, fun w9 h9 => ?_⟩) HSB.out ?_
      · go_simp
      refine wpAnyH_take (i := 8) (v := .int .i64 TT) rfl (by kernel_rfl) (by kernel_rfl) (by kernel_rfl) (fun _ _ _ h => h) (Or.inl ⟨by kernel_rfl, fun w9 h9 => ?_⟩) HSB.out ?_
      · go_simp
      refine wpAnyH_take (i := 9) (v := .slice (some ⟨g, 0, none⟩) 4 c4) rfl (by kernel_rfl) (by kernel_rfl) (by kernel_rfl) (fun _ _ _ h => h) (Or.inl ⟨by kernel_rfl, fun w9 h9 => ?_⟩) HSB.out ?_
      · go_simp
      refine wpAnyH_take (i := 10) (v := .pointer (some ⟨g, 2, none⟩)) rfl (by kernel_rfl) (by kernel_rfl) (by kernel_rfl) (fun _ _ _ h => h) (Or.inl ⟨by kernel_rfl, fun w9 h9 => ?_⟩) HSB.out ?_
      · go_simp
      refine wpAnyH_take (i := 11) (v := .int .i64 x2) rfl (by kernel_rfl) (by kernel_rfl) (by kernel_rfl) (fun _ _ _ h => h) (Or.inl ⟨by kernel_rfl, fun w9 h9 => ?_⟩) HSB.out ?_
      · obtain ⟨d0, d1, d2, d3⟩ := HG4.out w9 h9.2.1; have dl := h9.2.2; clear h9; go_simp
      refine wpAnyH_take (i := 12) (v := .int .i64 QQ) rfl (by kernel_rfl) (by kernel_rfl) (by kernel_rfl) (fun _ _ _ h => h) (Or.inl ⟨by kernel_rfl, fun w9 h9 => ?_⟩) HSB.out ?_
      · go_simp
      refine wpAnyH_take (i := 13) (v := .slice (some ⟨g, 0, none⟩) 4 c4) rfl (by kernel_rfl) (by kernel_rfl) (by kernel_rfl) (fun _ _ _ h => h) (Or.inl ⟨by kernel_rfl, fun w9 h9 => ?_⟩) HSB.out ?_
      · go_simp
      refine wpAnyH_take (i := 14) (v := .pointer (some ⟨g, 2, none⟩)) rfl (by kernel_rfl) (by kernel_rfl) (by kernel_rfl) (fun _ _ _ h => h) (Or.inl ⟨by kernel_rfl, fun w9 h9 => ?_⟩) HSB.out ?_
      · go_simp
      refine wpAnyH_take (i := 15) (v := .int .i64 x2) rfl (by kernel_rfl) (by kernel_rfl) (by kernel_rfl) (fun _ _ _ h => h) (Or.inl ⟨by kernel_rfl, fun w9 h9 => ?_⟩) HSB.out ?_
      · obtain ⟨d0, d1, d2, d3⟩ := HG4.out w9 h9.2.1; have dl := h9.2.2; clear h9; go_simp
      refine wpAnyH_take (i := 16) (v := .int .i64 RR) rfl (by kernel_rfl) (by kernel_rfl) (by kernel_rfl) (fun _ _ _ h => h) (Or.inl ⟨by kernel_rfl, fun w9 h9 => ?_⟩) HSB.out ?_
      · go_simp
      refine wpAnyH_take (i := 17) (v := .slice (some ⟨g, 0, none⟩) 4 c4) rfl (by kernel_rfl) (by kernel_rfl) (by kernel_rfl) (fun _ _ _ h => h) (Or.inl ⟨by kernel_rfl, fun w9 h9 => ?_⟩) HSB.out ?_
      · go_simp
      refine wpAnyH_take (i := 18) (v := .pointer (some ⟨g, 3, none⟩)) rfl (by kernel_rfl) (by kernel_rfl) (by kernel_rfl) (fun _ _ _ h => h) (Or.inl ⟨by kernel_rfl, fun w9 h9 => ?_⟩) HSB.out ?_
      · go_simp
      refine wpAnyH_take (i := 19) (v := .int .i64 x3) rfl (by kernel_rfl) (by kernel_rfl) (by kernel_rfl) (fun _ _ _ h => h) (Or.inl ⟨by kernel_rfl, fun w9 h9 => ?_⟩) HSB.out ?_
      · obtain ⟨d0, d1, d2, d3⟩ := HG4.out w9 h9.2.1; have dl := h9.2.2; clear h9; go_simp
      refine wpAnyH_take (i := 20) (v := .agg #[.int .i64 TT, .int .i64 QQ, .int .i64 RR, .int .i64 x3]) rfl (by kernel_rfl) (by kernel_rfl) (by kernel_rfl) (fun _ _ _ h => h) (Or.inl ⟨by kernel_rfl, fun w9 h9 => ?_⟩) HSB.out ?_
      · go_simp
      refine held_one 21 (by kernel_rfl) rfl (by kernel_rfl) fun K hK => ?_
      have HAP : Hid _ := appEV HO1.out (show w.heap.size ≤ u1.drew.heap.size from HSB.out.1.gr.size) (by omega) ⟨TT, QQ, RR, x3⟩
      have HS6 : Hid ((fun w9 => CX w w9 b s A SH ∧ w9.heap[g]? = some (.cells cur 2 (0, 0)) ∧ g < w9.heap.size) (u1.drew.alloc (.cells #[.int .i64 TT, .int .i64 QQ, .int .i64 RR, .int .i64 x3] 46))) := ⟨HSB.out.1.below (bx1 _ _), ((bx1 _ _).block g HSB.out.2.2).trans HSB.out.2.1, Nat.lt_of_lt_of_le HSB.out.2.2 (bx1 _ _).size⟩
      go_simp
      refine hK _ _ HS6.out ?_
      clear hK K
      refine held_one 22 (by kernel_rfl) rfl (by kernel_rfl) fun K hK => ?_
      refine wp_append_exB _ _ 25 rfl (.slice a3 k c3) (.slice (some ⟨u1.drew.heap.size, 0, none⟩) 1 1) rfl rfl HAP.out ?_
      rintro sv u5 ⟨ho, hg⟩
      obtain ⟨a5, c5, rfl⟩ := ev_sl ho
      have hne := HNE.out
      have HX5 : Hid (CX w u5 b s A SH) := ⟨(hg.block b HS6.out.1.lt (fun e9 => (hne _ e9.symm).1 rfl)).trans HS6.out.1.box, ⟨hg.os.trans HS6.out.1.gr.os, hg.tape.trans HS6.out.1.gr.tape, hg.output.trans HS6.out.1.gr.output, Nat.le_trans HS6.out.1.gr.size hg.size, fun j hj hn => (hg.block j (Nat.lt_of_lt_of_le hj HS6.out.1.gr.size) (fun e => by have := (hne _ e.symm).2.1; omega)).trans (HS6.out.1.gr.block j hj hn)⟩⟩
      have HS5 : Hid ((fun w9 => CX w w9 b s A SH ∧ w9.heap[g]? = some (.cells cur 2 (0, 0)) ∧ g < w9.heap.size) u5) := ⟨HX5.out, (hg.block g HS6.out.2.2 (fun e9 => by have := (hne _ e9.symm).2.2; omega)).trans HS6.out.2.1, Nat.lt_of_lt_of_le HS6.out.2.2 hg.size⟩
      have HO5 : Hid (u5.ownsRow w.heap.size 46 4 (.slice a5 (k + 1) c5) (k + 1) (evR (zs ++ [⟨TT, QQ, RR, x3⟩]))) := ho
      clear ho hg hne
      refine hK _ _ HS5.out ?_
      clear hK K
      refine wpAnyH_take (i := 23) (v := .slice a5 (k + 1) c5) rfl (by kernel_rfl) (by kernel_rfl) (by kernel_rfl) (fun _ _ _ h => h) (Or.inl ⟨by kernel_rfl, fun w9 h9 => ?_⟩) HS5.out ?_
      · go_simp
      refine wpAnyH_done (by kernel_rfl) ?_ _
      go_simp
      go_wp2
      go_roundw
      case rel =>
        refine ⟨A, SH, zs ++ [⟨TT, QQ, RR, x3⟩], ⟨HX5.out, ?_, own_neB HO5.out HX5.out.box (by decide), HLE.out, ?_, ?_, ?_⟩⟩
        · rw [List.length_append, hk]
          exact HO5.out
        · intro hsf
          have h16 : a + 16 ≤ s.size := by
            rcases Nat.lt_or_ge s.size (a + 16) with h9 | h9
            · have := HNO.out h9
              rw [hsf] at this
              cases this
            · exact h9
          obtain ⟨y1, y2⟩ := HYES.out h16
          have hA2 : A = a + 16 := by rw [← hA, y2]
          rw [List.length_append, hk]
          refine ⟨by simp only [List.length_singleton]; omega, ?_⟩
          show _ = evs s (k + 1)
          rw [evs_succ, HNX.out, ← HZZ.out, y1, ea]
        · intro hst
          have h16 : s.size < a + 16 := by
            rcases Nat.lt_or_ge s.size (a + 16) with h9 | h9
            · exact h9
            · have := (HYES.out h9).2
              rw [this] at hSH
              simp only at hSH
              rw [← hSH] at hst
              cases hst
          have hc : cntE s = k := by unfold cntE; omega
          constructor
          · intro e
            have e9 := congrArg ByteArray.size e
            rcases peV_size (zs ++ [⟨TT, QQ, RR, x3⟩]) with h9 | h9
            · omega
            · rw [List.length_append, hk] at h9
              simp only [List.length_singleton] at h9
              omega
          · have hne : peV (evs s (cntE s)) ≠ s := by
              intro e
              have e9 := congrArg ByteArray.size e
              rcases peV_size (evs s (cntE s)) with h9 | h9
              · omega
              · rw [evs_len, hc] at h9
                rw [hc] at e9
                omega
            unfold ueZ ueB
            rw [decide_eq_false hne]
            simp
        · rw [List.length_append, hk]
          simp only [List.length_singleton]
          omega
      case measure =>
        simp only [lenOf]
        omega
    · have HP : Hid (Calls Try.prog 12 #[.slice a3 zs.length c3] wr fun e w' => e = .returned (.string (peV zs)) ∧ Below wr.heap.size wr w') := specPE_any (EVrow.of HX.out.row)
      have HBX : Hid (Below w.heap.size w wr) := HBW.out wr HX.out.cx
      by_cases hp : peV zs = s
      · have hsh : sh = false := by
          cases sh
          · rfl
          · exact absurd hp (HX.out.no rfl).1
        subst hsh
        obtain ⟨e1, e2⟩ := HX.out.yes rfl
        have hge : ¬ a < s.size := fun h => hgo ⟨rfl, h⟩
        have hc : cntE s = zs.length := by unfold cntE; omega
        have hq : ¬ (a : Int) < (s.size : Int) := by omega
        have HZ : Hid (ueZ s = zs) := (show ueZ s = zs by
          have e3 : evs s (cntE s) = zs := by rw [hc]; exact e2.symm
          unfold ueZ ueB
          rw [e3, decide_eq_true hs, decide_eq_true hp]
          rfl)
        rw [hp] at HP
        clear hp e1 e2 hc hgo hge HBW
        go_wp2_with (go_at_call 12; refine Calls.mono HP.out ?_; rintro e u1 ⟨rfl, hu⟩; have HU : Hid (Below w.heap.size w u1) := HBX.out.trans (hu.mono HBX.out.size); have HO1 : Hid (u1.ownsRow w.heap.size 46 4 (.slice a3 zs.length c3) zs.length (evR zs)) := ev_below HX.out.row hu; clear hu)
        go_ret
        exact ⟨_, rfl, by rw [HZ.out]; exact HO1.out, HU.out⟩
      · have HZ : Hid (ueZ s = []) := (show ueZ s = [] by
          cases sh
          · obtain ⟨e1, e2⟩ := HX.out.yes rfl
            have hge : ¬ a < s.size := fun h => hgo ⟨rfl, h⟩
            have hc : cntE s = zs.length := by unfold cntE; omega
            have e3 : evs s (cntE s) = zs := by rw [hc]; exact e2.symm
            unfold ueZ ueB
            rw [e3, decide_eq_false hp]
            simp
          · exact (HX.out.no rfl).2)
        have hn : ((peV zs).toList == s.toList) = false := str_ne hp
        have HEM : Hid (∀ u : World, (u.alloc (.cells #[] 46)).ownsRow u.heap.size 46 4 (.slice (some ⟨u.heap.size, 0, none⟩) 0 0) 0 (evR [])) := fun u => World.ownsRow_lit u #[] 0 (by simp) (by decide) rfl
        generalize peV zs = p at *
        clear hp HBW
        by_cases hlt : a < s.size
        · have hq : decide ((a : Int) < (s.size : Int)) = true := decide_eq_true (by omega)
          have hsh : sh = true := by
            cases sh
            · exact absurd ⟨rfl, hlt⟩ hgo
            · rfl
          subst hsh
          go_wp2_with (go_at_call 12; refine Calls.mono HP.out ?_; rintro e u1 ⟨rfl, hu⟩; have HU : Hid (Below w.heap.size w u1) := HBX.out.trans (hu.mono HBX.out.size); clear hu)
          go_ret
          exact ⟨_, rfl, by rw [HZ.out]; exact World.ownsRow.mono (HEM.out _) HU.out.size, HU.out.trans ((bx1 _ _).mono HU.out.size)⟩
        · have hq : ¬ (a : Int) < (s.size : Int) := by omega
          go_wp2_with (go_at_call 12; refine Calls.mono HP.out ?_; rintro e u1 ⟨rfl, hu⟩; have HU : Hid (Below w.heap.size w u1) := HBX.out.trans (hu.mono HBX.out.size); clear hu)
          go_ret
          exact ⟨_, rfl, by rw [HZ.out]; exact World.ownsRow.mono (HEM.out _) HU.out.size, HU.out.trans ((bx1 _ _).mono HU.out.size)⟩
end Go.Proofs.Ytnbohdninedjdaa
