import Derived.Test.YtmmodmanfoipiaaDoorTrY
namespace Go.Proofs.YtmmodmanfoipiaaDoor
open Go.ChangeShapes Go.WideShapes Go.ChangeAt Go.RowKit

def putV (u : World) (p : Nat) (v0 v1 v2 v3 v4 v5 v6 v7 : Value) : World := (((((((u.setCell ⟨p, 0, none⟩ v0).setCell ⟨p, 1, none⟩ v1).setCell ⟨p, 2, none⟩ v2).setCell ⟨p, 3, none⟩ v3).setCell ⟨p, 4, none⟩ v4).setCell ⟨p, 5, none⟩ v5).setCell ⟨p, 6, none⟩ v6).setCell ⟨p, 7, none⟩ v7
theorem putV_box {u : World} {p t : Nat} {x0 x1 x2 x3 x4 x5 x6 x7 : Value} (h : u.heap[p]? = some (.cells #[x0, x1, x2, x3, x4, x5, x6, x7] t (0, 0))) (v0 v1 v2 v3 v4 v5 v6 v7 : Value) : (putV u p v0 v1 v2 v3 v4 v5 v6 v7).heap[p]? = some (.cells #[v0, v1, v2, v3, v4, v5, v6, v7] t (0, 0)) := by
  have s0 : (u.setCell ⟨p, 0, none⟩ v0).heap[p]? = some (.cells #[v0, x1, x2, x3, x4, x5, x6, x7] t (0, 0)) := blk9 h _
  have s1 : ((u.setCell ⟨p, 0, none⟩ v0).setCell ⟨p, 1, none⟩ v1).heap[p]? = some (.cells #[v0, v1, x2, x3, x4, x5, x6, x7] t (0, 0)) := blk9 s0 _
  have s2 : (((u.setCell ⟨p, 0, none⟩ v0).setCell ⟨p, 1, none⟩ v1).setCell ⟨p, 2, none⟩ v2).heap[p]? = some (.cells #[v0, v1, v2, x3, x4, x5, x6, x7] t (0, 0)) := blk9 s1 _
  have s3 : ((((u.setCell ⟨p, 0, none⟩ v0).setCell ⟨p, 1, none⟩ v1).setCell ⟨p, 2, none⟩ v2).setCell ⟨p, 3, none⟩ v3).heap[p]? = some (.cells #[v0, v1, v2, v3, x4, x5, x6, x7] t (0, 0)) := blk9 s2 _
  have s4 : (((((u.setCell ⟨p, 0, none⟩ v0).setCell ⟨p, 1, none⟩ v1).setCell ⟨p, 2, none⟩ v2).setCell ⟨p, 3, none⟩ v3).setCell ⟨p, 4, none⟩ v4).heap[p]? = some (.cells #[v0, v1, v2, v3, v4, x5, x6, x7] t (0, 0)) := blk9 s3 _
  have s5 : ((((((u.setCell ⟨p, 0, none⟩ v0).setCell ⟨p, 1, none⟩ v1).setCell ⟨p, 2, none⟩ v2).setCell ⟨p, 3, none⟩ v3).setCell ⟨p, 4, none⟩ v4).setCell ⟨p, 5, none⟩ v5).heap[p]? = some (.cells #[v0, v1, v2, v3, v4, v5, x6, x7] t (0, 0)) := blk9 s4 _
  have s6 : (((((((u.setCell ⟨p, 0, none⟩ v0).setCell ⟨p, 1, none⟩ v1).setCell ⟨p, 2, none⟩ v2).setCell ⟨p, 3, none⟩ v3).setCell ⟨p, 4, none⟩ v4).setCell ⟨p, 5, none⟩ v5).setCell ⟨p, 6, none⟩ v6).heap[p]? = some (.cells #[v0, v1, v2, v3, v4, v5, v6, x7] t (0, 0)) := blk9 s5 _
  have s7 : ((((((((u.setCell ⟨p, 0, none⟩ v0).setCell ⟨p, 1, none⟩ v1).setCell ⟨p, 2, none⟩ v2).setCell ⟨p, 3, none⟩ v3).setCell ⟨p, 4, none⟩ v4).setCell ⟨p, 5, none⟩ v5).setCell ⟨p, 6, none⟩ v6).setCell ⟨p, 7, none⟩ v7).heap[p]? = some (.cells #[v0, v1, v2, v3, v4, v5, v6, v7] t (0, 0)) := blk9 s6 _
  exact s7
theorem putV_bel {w u : World} {p : Nat} (h : Below w.heap.size w u) (hp : w.heap.size ≤ p) (v0 v1 v2 v3 v4 v5 v6 v7 : Value) : Below w.heap.size w (putV u p v0 v1 v2 v3 v4 v5 v6 v7) := by
  unfold putV
  exact (((((((h.setCell hp _).setCell hp _).setCell hp _).setCell hp _).setCell hp _).setCell hp _).setCell hp _).setCell hp _
theorem eightV {u : World} {p t : Nat} {v0 v1 v2 v3 v4 v5 v6 v7 : Value} (h : u.heap[p]? = some (.cells #[v0, v1, v2, v3, v4, v5, v6, v7] t (0, 0))) : u.cell? ⟨p, 0, none⟩ = some v0 ∧ u.cell? ⟨p, 1, none⟩ = some v1 ∧ u.cell? ⟨p, 2, none⟩ = some v2 ∧ u.cell? ⟨p, 3, none⟩ = some v3 ∧ u.cell? ⟨p, 4, none⟩ = some v4 ∧ u.cell? ⟨p, 5, none⟩ = some v5 ∧ u.cell? ⟨p, 6, none⟩ = some v6 ∧ u.cell? ⟨p, 7, none⟩ = some v7 := by
  simp [World.cell?, h]
/-- A code alone, as it is answered. -/
def frX (c : Int) : Array Value := #[.int .i64 c, .int .i64 0, .int .i64 0, .int .i64 0, .int .i64 0, .int .i64 0, .int .i64 0, .string ⟨#[]⟩]
/-- What the text is answered as. -/
def uwA (s : ByteArray) : Array Value := if 2000 < s.size then frX 2 else if rwE s = 0 then frD (uwH s) else frX (rwE s)
theorem rw_any {s : ByteArray} (w : World) (hs : s.size ≤ 2000) : Calls Tryd.prog 25 #[.string s] w fun e w' => (rwE s = 0 ∧ RWok s w e w') ∨ (rwE s ≠ 0 ∧ RWno (rwE s) w e w') := by
  cases hn : nvB s with
  | false =>
    have e : rwE s = 3 := by simp [rwE, hn]
    rw [e]
    exact (rw_a w hn).mono fun _ _ h => Or.inr ⟨by decide, h⟩
  | true =>
    cases hw : whOk s with
    | false =>
      have e : rwE s = 3 := by simp [rwE, hn, hw]
      rw [e]
      exact (rw_b w hs hn hw).mono fun _ _ h => Or.inr ⟨by decide, h⟩
    | true =>
      by_cases hf : s.size < 29 + uwN s
      · have e : rwE s = 3 := by simp [rwE, hn, hw, hf]
        rw [e]
        exact (rw_c w hs hn hw hf).mono fun _ _ h => Or.inr ⟨by decide, h⟩
      · have hf1 : 29 + uwN s ≤ s.size := by omega
        by_cases he : endC s (29 + uwN s) 51 = 0
        · cases hr : frB (uwF s) with
          | false =>
            have e : rwE s = 1 := by simp [rwE, hn, hw, hf, he, hr]
            rw [e]
            exact (rw_e w hs hn hw hf1 he hr).mono fun _ _ h => Or.inr ⟨by decide, h⟩
          | true =>
            have e : rwE s = 0 := by simp [rwE, hn, hw, hf, he, hr]
            rw [e]
            exact (rw_f w hs hn hw hf1 he hr).mono fun _ _ h => Or.inl ⟨rfl, h⟩
        · have e : rwE s = endC s (29 + uwN s) 51 := by simp [rwE, hn, hw, hf, he]
          rw [e]
          exact (rw_d w hs hn hw hf1 he).mono fun _ _ h => Or.inr ⟨he, h⟩
set_option maxRecDepth 100000 in
set_option maxHeartbeats 8000000 in
theorem uw_big {s : ByteArray} (w : World) (hs : 2000 < s.size) : Calls Tryd.prog 7 #[.string s] w fun e w' => e = .returned (.agg (frX 2)) ∧ Below w.heap.size w w' := by
  unfold frX
  have hq : (2000 : Int) < (s.size : Int) := by omega
  clear hs
  have H0 : Hid (Below w.heap.size w (w.alloc (.cells #[.int .i64 0, .int .i64 0, .int .i64 0, .int .i64 0, .int .i64 0, .int .i64 0, .int .i64 0, .string ⟨#[]⟩] 29))) := bx1 _ _
  have HR0 : Hid ((w.alloc (.cells #[.int .i64 0, .int .i64 0, .int .i64 0, .int .i64 0, .int .i64 0, .int .i64 0, .int .i64 0, .string ⟨#[]⟩] 29)).heap[w.heap.size]? = some (.cells #[.int .i64 0, .int .i64 0, .int .i64 0, .int .i64 0, .int .i64 0, .int .i64 0, .int .i64 0, .string ⟨#[]⟩] 29 (0, 0))) := heap_new _ _
  go_enter Tryd.func7, Tryd.ntmps7
  go_upto_region 1 with fail
  generalize (w.alloc (.cells #[.int .i64 0, .int .i64 0, .int .i64 0, .int .i64 0, .int .i64 0, .int .i64 0, .int .i64 0, .string ⟨#[]⟩] 29)) = u0 at *
  generalize hrb : w.heap.size = rb at HR0 ⊢
  have HRB : Hid (w.heap.size = rb) := hrb
  clear hrb
  obtain ⟨g0, g1, g2, g3, g4, g5, g6, g7⟩ := eightV HR0.out
  have gf := frz9 HR0.out
  have gl := (Array.getElem?_eq_some_iff.1 HR0.out).1
  go_wp2
  have hbx := putV_box HR0.out (.int .i64 2) (.int .i64 0) (.int .i64 0) (.int .i64 0) (.int .i64 0) (.int .i64 0) (.int .i64 0) (.string ⟨#[]⟩)
  have hbf := putV_bel (p := rb) H0.out (by have := HRB.out; omega) (.int .i64 2) (.int .i64 0) (.int .i64 0) (.int .i64 0) (.int .i64 0) (.int .i64 0) (.int .i64 0) (.string ⟨#[]⟩)
  refine bodyPost_ret (v := .agg #[.int .i64 2, .int .i64 0, .int .i64 0, .int .i64 0, .int .i64 0, .int .i64 0, .int .i64 0, .string ⟨#[]⟩]) ?_ rfl ⟨rfl, hbf⟩
  obtain ⟨f0, f1, f2, f3, f4, f5, f6, f7⟩ := eightV hbx
  simp only [putV] at f0 f1 f2 f3 f4 f5 f6 f7
  simp [results, Tryd.results7, go_sem, f0, f1, f2, f3, f4, f5, f6, f7]
set_option maxRecDepth 100000 in
set_option maxHeartbeats 8000000 in
theorem uw_no {s : ByteArray} {c : Int} (w : World) (hT : ErrT w) (hs : s.size ≤ 2000) (hw : ∀ u, Calls Tryd.prog 25 #[.string s] u fun e w' => RWno c u e w') : Calls Tryd.prog 7 #[.string s] w fun e w' => e = .returned (.agg (frX c)) ∧ Below w.heap.size w w' := by
  unfold frX
  have hq : ¬ (2000 : Int) < (s.size : Int) := by omega
  have HT : Hid (ErrT w) := hT
  have HW : Hid (∀ u, Calls Tryd.prog 25 #[.string s] u fun e w' => ∃ q, ∃ z : WH, e = .returned (.tuple #[.agg #[.int .i64 0, .int .i64 z.key, .int .i64 z.hfrom, .int .i64 z.hto, .int .i64 z.src, .int .i64 z.dst, .int .i64 z.net, .string z.text], .iface 53 (.pointer (some ⟨q, 0, none⟩))]) ∧ EX w' q c ∧ Below u.heap.size u w') := hw
  clear hs hT hw
  have H0 : Hid (Below w.heap.size w (w.alloc (.cells #[.int .i64 0, .int .i64 0, .int .i64 0, .int .i64 0, .int .i64 0, .int .i64 0, .int .i64 0, .string ⟨#[]⟩] 29))) := bx1 _ _
  have HR0 : Hid ((w.alloc (.cells #[.int .i64 0, .int .i64 0, .int .i64 0, .int .i64 0, .int .i64 0, .int .i64 0, .int .i64 0, .string ⟨#[]⟩] 29)).heap[w.heap.size]? = some (.cells #[.int .i64 0, .int .i64 0, .int .i64 0, .int .i64 0, .int .i64 0, .int .i64 0, .int .i64 0, .string ⟨#[]⟩] 29 (0, 0))) := heap_new _ _
  go_enter Tryd.func7, Tryd.ntmps7
  go_upto_region 1 with fail
  generalize (w.alloc (.cells #[.int .i64 0, .int .i64 0, .int .i64 0, .int .i64 0, .int .i64 0, .int .i64 0, .int .i64 0, .string ⟨#[]⟩] 29)) = u0 at *
  generalize hrb : w.heap.size = rb at HR0 ⊢
  have HRB : Hid (w.heap.size = rb) := hrb
  clear hrb
  go_upto_region 3 with fail
  clear hq
  go_upto_region 4 with (go_at_call 25; refine Calls.mono (HW.out _) ?_; rintro e u1 ⟨q, z, rfl, hx, hb⟩; have HE1 : Hid (EX u1 q c) := hx; have HB1 : Hid (Below u0.heap.size u0 u1) := hb; clear hx hb)
  have HB2 : Hid (Below w.heap.size w (u1.alloc (.cells #[.int .i64 0, .int .i64 z.key, .int .i64 z.hfrom, .int .i64 z.hto, .int .i64 z.src, .int .i64 z.dst, .int .i64 z.net, .string z.text] 29))) := H0.out.trans ((HB1.out.trans ((bx1 _ _).mono HB1.out.size)).mono H0.out.size)
  have HE2 : Hid (EX (u1.alloc (.cells #[.int .i64 0, .int .i64 z.key, .int .i64 z.hfrom, .int .i64 z.hto, .int .i64 z.src, .int .i64 z.dst, .int .i64 z.net, .string z.text] 29)) q c) := HE1.out.step (bx1 _ _)
  have HR2 : Hid ((u1.alloc (.cells #[.int .i64 0, .int .i64 z.key, .int .i64 z.hfrom, .int .i64 z.hto, .int .i64 z.src, .int .i64 z.dst, .int .i64 z.net, .string z.text] 29)).heap[rb]? = some (.cells #[.int .i64 0, .int .i64 0, .int .i64 0, .int .i64 0, .int .i64 0, .int .i64 0, .int .i64 0, .string ⟨#[]⟩] 29 (0, 0))) := ((HB1.out.trans ((bx1 _ _).mono HB1.out.size)).block _ (Array.getElem?_eq_some_iff.1 HR0.out).1).trans HR0.out
  generalize (u1.alloc (.cells #[.int .i64 0, .int .i64 z.key, .int .i64 z.hfrom, .int .i64 z.hto, .int .i64 z.src, .int .i64 z.dst, .int .i64 z.net, .string z.text] 29)) = u2 at *
  generalize u1.heap.size = rd at *
  go_upto_region 5 with fail
  have HB3 : Hid (Below w.heap.size w (u2.alloc (.cells #[.pointer none] 53))) := HB2.out.trans ((bx1 _ _).mono HB2.out.size)
  have HE3 : Hid (EX (u2.alloc (.cells #[.pointer none] 53)) q c) := HE2.out.step (bx1 _ _)
  have HR3 : Hid ((u2.alloc (.cells #[.pointer none] 53)).heap[rb]? = some (.cells #[.int .i64 0, .int .i64 0, .int .i64 0, .int .i64 0, .int .i64 0, .int .i64 0, .int .i64 0, .string ⟨#[]⟩] 29 (0, 0))) := ((bx1 _ _).block _ (Array.getElem?_eq_some_iff.1 HR2.out).1).trans HR2.out
  have HS3 : Hid ((u2.alloc (.cells #[.pointer none] 53)).heap[u2.heap.size]? = some (.cells #[.pointer none] 53 (0, 0))) := heap_new _ _
  have HN3 : Hid (rb ≠ u2.heap.size ∧ q ≠ u2.heap.size ∧ w.heap.size ≤ u2.heap.size) := ⟨by have := (Array.getElem?_eq_some_iff.1 HR2.out).1; omega, by obtain ⟨y, hy⟩ := HE2.out; have := (Array.getElem?_eq_some_iff.1 hy).1; omega, HB2.out.size⟩
  generalize (u2.alloc (.cells #[.pointer none] 53)) = u3 at *
  generalize u2.heap.size = sb at *
  have HA : Hid (Calls Tryd.prog 26 #[.iface 53 (.pointer (some ⟨q, 0, none⟩)), .iface 55 (.pointer (some ⟨sb, 0, none⟩))] u3 fun r w' => r = .returned (.bool true) ∧ w'.cell? ⟨sb, 0, none⟩ = some (.pointer (some ⟨q, 0, none⟩)) ∧ u3.grownBy w' (some sb)) := as_stop ⟨q, 0, none⟩ sb u3 ((World.cell?_of_block (HB3.out.block _ (World.block_lt_of_cell? w _ HT.out))).trans HT.out) (by simp [World.cell?, HS3.out]) (frz9 HS3.out 0)
  go_upto_region 6 with (go_at_call 26; refine Calls.mono HA.out ?_; rintro e u4 ⟨rfl, hc, hg⟩; have HC4 : Hid _ := hc; have HG4 : Hid (u3.grownBy u4 (some sb)) := hg; clear hc hg)
  have HR4 : Hid (u4.heap[rb]? = some (.cells #[.int .i64 0, .int .i64 0, .int .i64 0, .int .i64 0, .int .i64 0, .int .i64 0, .int .i64 0, .string ⟨#[]⟩] 29 (0, 0))) := (HG4.out.block rb (Array.getElem?_eq_some_iff.1 HR3.out).1 (by simpa using HN3.out.1)).trans HR3.out
  have HE4 : Hid (EX u4 q c) := by
    obtain ⟨y, hy⟩ := HE3.out
    exact ⟨y, (HG4.out.block q (Array.getElem?_eq_some_iff.1 hy).1 (by simpa using HN3.out.2.1)).trans hy⟩
  have HB4 : Hid (Below w.heap.size w u4) := HB3.out.grown HG4.out HB3.out.size (fun j hj => by injection hj with hj; have := HN3.out.2.2; omega)
  have hcs := HC4.out
  have hls := World.block_lt_of_cell? u4 _ hcs
  obtain ⟨y, hy⟩ := HE4.out
  have hcq : u4.cell? ⟨q, 0, none⟩ = some (.int .i64 c) := cel9 hy 0 _ rfl
  have hlq := (Array.getElem?_eq_some_iff.1 hy).1
  obtain ⟨g0, g1, g2, g3, g4, g5, g6, g7⟩ := eightV HR4.out
  have gf := frz9 HR4.out
  have gl := (Array.getElem?_eq_some_iff.1 HR4.out).1
  go_wp2
  have hbx := putV_box HR4.out (.int .i64 c) (.int .i64 0) (.int .i64 0) (.int .i64 0) (.int .i64 0) (.int .i64 0) (.int .i64 0) (.string ⟨#[]⟩)
  have hbf := putV_bel (p := rb) HB4.out (by have := HRB.out; omega) (.int .i64 c) (.int .i64 0) (.int .i64 0) (.int .i64 0) (.int .i64 0) (.int .i64 0) (.int .i64 0) (.string ⟨#[]⟩)
  refine bodyPost_ret (v := .agg #[.int .i64 c, .int .i64 0, .int .i64 0, .int .i64 0, .int .i64 0, .int .i64 0, .int .i64 0, .string ⟨#[]⟩]) ?_ rfl ⟨rfl, hbf⟩
  obtain ⟨f0, f1, f2, f3, f4, f5, f6, f7⟩ := eightV hbx
  simp only [putV] at f0 f1 f2 f3 f4 f5 f6 f7
  simp [results, Tryd.results7, go_sem, f0, f1, f2, f3, f4, f5, f6, f7]
set_option maxRecDepth 100000 in
set_option maxHeartbeats 8000000 in
theorem uw_ok {s : ByteArray} (w : World) (hs : s.size ≤ 2000) (hw : ∀ u, Calls Tryd.prog 25 #[.string s] u fun e w' => RWok s u e w') : Calls Tryd.prog 7 #[.string s] w fun e w' => e = .returned (.agg (frD (uwH s))) ∧ Below w.heap.size w w' := by
  have hq : ¬ (2000 : Int) < (s.size : Int) := by omega
  unfold RWok at hw
  generalize uwH s = z at hw ⊢
  unfold frD at hw ⊢
  have HW : Hid (∀ u, Calls Tryd.prog 25 #[.string s] u fun e w' => e = .returned (.tuple #[.agg #[.int .i64 0, .int .i64 z.key, .int .i64 z.hfrom, .int .i64 z.hto, .int .i64 z.src, .int .i64 z.dst, .int .i64 z.net, .string z.text], .nilIface]) ∧ Below u.heap.size u w') := hw
  clear hs hw
  have H0 : Hid (Below w.heap.size w (w.alloc (.cells #[.int .i64 0, .int .i64 0, .int .i64 0, .int .i64 0, .int .i64 0, .int .i64 0, .int .i64 0, .string ⟨#[]⟩] 29))) := bx1 _ _
  have HR0 : Hid ((w.alloc (.cells #[.int .i64 0, .int .i64 0, .int .i64 0, .int .i64 0, .int .i64 0, .int .i64 0, .int .i64 0, .string ⟨#[]⟩] 29)).heap[w.heap.size]? = some (.cells #[.int .i64 0, .int .i64 0, .int .i64 0, .int .i64 0, .int .i64 0, .int .i64 0, .int .i64 0, .string ⟨#[]⟩] 29 (0, 0))) := heap_new _ _
  go_enter Tryd.func7, Tryd.ntmps7
  go_upto_region 1 with fail
  generalize (w.alloc (.cells #[.int .i64 0, .int .i64 0, .int .i64 0, .int .i64 0, .int .i64 0, .int .i64 0, .int .i64 0, .string ⟨#[]⟩] 29)) = u0 at *
  generalize hrb : w.heap.size = rb at HR0 ⊢
  have HRB : Hid (w.heap.size = rb) := hrb
  clear hrb
  go_upto_region 3 with fail
  clear hq
  go_upto_region 4 with (go_at_call 25; refine Calls.mono (HW.out _) ?_; rintro e u1 ⟨rfl, hb⟩; have HB1 : Hid (Below u0.heap.size u0 u1) := hb; clear hb)
  have HB2 : Hid (Below w.heap.size w (u1.alloc (.cells #[.int .i64 0, .int .i64 z.key, .int .i64 z.hfrom, .int .i64 z.hto, .int .i64 z.src, .int .i64 z.dst, .int .i64 z.net, .string z.text] 29))) := H0.out.trans ((HB1.out.trans ((bx1 _ _).mono HB1.out.size)).mono H0.out.size)
  have HD2 : Hid ((u1.alloc (.cells #[.int .i64 0, .int .i64 z.key, .int .i64 z.hfrom, .int .i64 z.hto, .int .i64 z.src, .int .i64 z.dst, .int .i64 z.net, .string z.text] 29)).heap[u1.heap.size]? = some (.cells #[.int .i64 0, .int .i64 z.key, .int .i64 z.hfrom, .int .i64 z.hto, .int .i64 z.src, .int .i64 z.dst, .int .i64 z.net, .string z.text] 29 (0, 0))) := heap_new _ _
  have HR2 : Hid ((u1.alloc (.cells #[.int .i64 0, .int .i64 z.key, .int .i64 z.hfrom, .int .i64 z.hto, .int .i64 z.src, .int .i64 z.dst, .int .i64 z.net, .string z.text] 29)).heap[rb]? = some (.cells #[.int .i64 0, .int .i64 0, .int .i64 0, .int .i64 0, .int .i64 0, .int .i64 0, .int .i64 0, .string ⟨#[]⟩] 29 (0, 0))) := ((HB1.out.trans ((bx1 _ _).mono HB1.out.size)).block _ (Array.getElem?_eq_some_iff.1 HR0.out).1).trans HR0.out
  generalize (u1.alloc (.cells #[.int .i64 0, .int .i64 z.key, .int .i64 z.hfrom, .int .i64 z.hto, .int .i64 z.src, .int .i64 z.dst, .int .i64 z.net, .string z.text] 29)) = u2 at *
  generalize u1.heap.size = rd at *
  go_upto_region 5 with fail
  have HB3 : Hid (Below w.heap.size w (u2.alloc (.cells #[.pointer none] 53))) := HB2.out.trans ((bx1 _ _).mono HB2.out.size)
  have HD3 : Hid ((u2.alloc (.cells #[.pointer none] 53)).heap[rd]? = some (.cells #[.int .i64 0, .int .i64 z.key, .int .i64 z.hfrom, .int .i64 z.hto, .int .i64 z.src, .int .i64 z.dst, .int .i64 z.net, .string z.text] 29 (0, 0))) := ((bx1 _ _).block _ (Array.getElem?_eq_some_iff.1 HD2.out).1).trans HD2.out
  have HR3 : Hid ((u2.alloc (.cells #[.pointer none] 53)).heap[rb]? = some (.cells #[.int .i64 0, .int .i64 0, .int .i64 0, .int .i64 0, .int .i64 0, .int .i64 0, .int .i64 0, .string ⟨#[]⟩] 29 (0, 0))) := ((bx1 _ _).block _ (Array.getElem?_eq_some_iff.1 HR2.out).1).trans HR2.out
  generalize (u2.alloc (.cells #[.pointer none] 53)) = u3 at *
  generalize u2.heap.size = sb at *
  have HA : Hid (Calls Tryd.prog 26 #[.nilIface, .iface 55 (.pointer (some ⟨sb, 0, none⟩))] u3 fun r w' => r = .returned (.bool false) ∧ w' = u3) := as_nil sb u3
  go_upto_region 7 with (go_at_call 26; refine Calls.mono HA.out ?_; rintro e u4 ⟨rfl, rfl⟩)
  obtain ⟨d0, d1, d2, d3, d4, d5, d6, d7⟩ := eightV HD3.out
  have dl := (Array.getElem?_eq_some_iff.1 HD3.out).1
  obtain ⟨g0, g1, g2, g3, g4, g5, g6, g7⟩ := eightV HR3.out
  have gf := frz9 HR3.out
  have gl := (Array.getElem?_eq_some_iff.1 HR3.out).1
  go_wp2
  have hbx := putV_box HR3.out (.int .i64 0) (.int .i64 z.key) (.int .i64 z.hfrom) (.int .i64 z.hto) (.int .i64 z.src) (.int .i64 z.dst) (.int .i64 z.net) (.string z.text)
  have hbf := putV_bel (p := rb) HB3.out (by have := HRB.out; omega) (.int .i64 0) (.int .i64 z.key) (.int .i64 z.hfrom) (.int .i64 z.hto) (.int .i64 z.src) (.int .i64 z.dst) (.int .i64 z.net) (.string z.text)
  refine bodyPost_ret (v := .agg #[.int .i64 0, .int .i64 z.key, .int .i64 z.hfrom, .int .i64 z.hto, .int .i64 z.src, .int .i64 z.dst, .int .i64 z.net, .string z.text]) ?_ rfl ⟨rfl, hbf⟩
  obtain ⟨f0, f1, f2, f3, f4, f5, f6, f7⟩ := eightV hbx
  simp only [putV] at f0 f1 f2 f3 f4 f5 f6 f7
  simp [results, Tryd.results7, go_sem, f0, f1, f2, f3, f4, f5, f6, f7]
theorem unwrap_any (s : ByteArray) (w : World) (hT : ErrT w) : Calls Tryd.prog 7 #[.string s] w fun e w' => e = .returned (.agg (uwA s)) ∧ Below w.heap.size w w' := by
  unfold uwA
  by_cases hs : 2000 < s.size
  · rw [if_pos hs]
    exact uw_big w hs
  · rw [if_neg hs]
    have hs1 : s.size ≤ 2000 := by omega
    by_cases h0 : rwE s = 0
    · rw [if_pos h0]
      exact uw_ok w hs1 fun u => (rw_any u hs1).mono fun _ _ h => h.elim (fun h => h.2) (fun h => absurd h0 h.1)
    · rw [if_neg h0]
      exact uw_no w hT hs1 fun u => (rw_any u hs1).mono fun _ _ h => h.elim (fun h => absurd h.1 h0) (fun h => h.2)
end Go.Proofs.YtmmodmanfoipiaaDoor
