import Derived.Test.YtmmodmanfoipiaaDoorTr4
import Derived.Test.YtmmodmanfoipiaaDoorFr1
import Derived.Test.YtmmodmanfoipiaaDoorEaZ
namespace Go.Proofs.YtmmodmanfoipiaaDoor
open Go.ChangeShapes Go.WideShapes Go.ChangeAt Go.RowKit

/-- How long the text is told to be. -/
def uwN (s : ByteArray) : Nat := (hdV s 6).toNat
def uwF (s : ByteArray) : FR := ⟨hdV s 3, hdV s 4, hdV s 5, s.extract 29 (29 + uwN s)⟩
/-- The code of a wrapped text. -/
def rwE (s : ByteArray) : Int := if nvB s = false then 3 else if whOk s = false then 3 else if s.size < 29 + uwN s then 3 else if endC s (29 + uwN s) 51 ≠ 0 then endC s (29 + uwN s) 51 else if frB (uwF s) = false then 1 else 0
/-- What is read, as a head. -/
def uwH (s : ByteArray) : WH := ⟨hdV s 0, hdV s 1, hdV s 2, hdV s 3, hdV s 4, hdV s 5, s.extract 29 (29 + uwN s), hdV s 6⟩
def frD (h : WH) : Array Value := #[.int .i64 0, .int .i64 h.key, .int .i64 h.hfrom, .int .i64 h.hto, .int .i64 h.src, .int .i64 h.dst, .int .i64 h.net, .string h.text]
theorem hdV_b (s : ByteArray) (k : Nat) : 0 ≤ hdV s k ∧ hdV s k < 281474976710656 := pn_b _ _
def put8 (u : World) (p : Nat) (h : WH) : World := (((((((u.setCell ⟨p, 0, none⟩ (.int .i64 0)).setCell ⟨p, 1, none⟩ (.int .i64 h.key)).setCell ⟨p, 2, none⟩ (.int .i64 h.hfrom)).setCell ⟨p, 3, none⟩ (.int .i64 h.hto)).setCell ⟨p, 4, none⟩ (.int .i64 h.src)).setCell ⟨p, 5, none⟩ (.int .i64 h.dst)).setCell ⟨p, 6, none⟩ (.int .i64 h.net)).setCell ⟨p, 7, none⟩ (.string h.text)
theorem put8_box {u : World} {p t : Nat} {x0 x1 x2 x3 x4 x5 x6 x7 : Value} (h : u.heap[p]? = some (.cells #[x0, x1, x2, x3, x4, x5, x6, x7] t (0, 0))) (z : WH) : (put8 u p z).heap[p]? = some (.cells (frD z) t (0, 0)) := by
  have s0 : (u.setCell ⟨p, 0, none⟩ (.int .i64 0)).heap[p]? = some (.cells #[.int .i64 0, x1, x2, x3, x4, x5, x6, x7] t (0, 0)) := blk9 h _
  have s1 : ((u.setCell ⟨p, 0, none⟩ (.int .i64 0)).setCell ⟨p, 1, none⟩ (.int .i64 z.key)).heap[p]? = some (.cells #[.int .i64 0, .int .i64 z.key, x2, x3, x4, x5, x6, x7] t (0, 0)) := blk9 s0 _
  have s2 : (((u.setCell ⟨p, 0, none⟩ (.int .i64 0)).setCell ⟨p, 1, none⟩ (.int .i64 z.key)).setCell ⟨p, 2, none⟩ (.int .i64 z.hfrom)).heap[p]? = some (.cells #[.int .i64 0, .int .i64 z.key, .int .i64 z.hfrom, x3, x4, x5, x6, x7] t (0, 0)) := blk9 s1 _
  have s3 : ((((u.setCell ⟨p, 0, none⟩ (.int .i64 0)).setCell ⟨p, 1, none⟩ (.int .i64 z.key)).setCell ⟨p, 2, none⟩ (.int .i64 z.hfrom)).setCell ⟨p, 3, none⟩ (.int .i64 z.hto)).heap[p]? = some (.cells #[.int .i64 0, .int .i64 z.key, .int .i64 z.hfrom, .int .i64 z.hto, x4, x5, x6, x7] t (0, 0)) := blk9 s2 _
  have s4 : (((((u.setCell ⟨p, 0, none⟩ (.int .i64 0)).setCell ⟨p, 1, none⟩ (.int .i64 z.key)).setCell ⟨p, 2, none⟩ (.int .i64 z.hfrom)).setCell ⟨p, 3, none⟩ (.int .i64 z.hto)).setCell ⟨p, 4, none⟩ (.int .i64 z.src)).heap[p]? = some (.cells #[.int .i64 0, .int .i64 z.key, .int .i64 z.hfrom, .int .i64 z.hto, .int .i64 z.src, x5, x6, x7] t (0, 0)) := blk9 s3 _
  have s5 : ((((((u.setCell ⟨p, 0, none⟩ (.int .i64 0)).setCell ⟨p, 1, none⟩ (.int .i64 z.key)).setCell ⟨p, 2, none⟩ (.int .i64 z.hfrom)).setCell ⟨p, 3, none⟩ (.int .i64 z.hto)).setCell ⟨p, 4, none⟩ (.int .i64 z.src)).setCell ⟨p, 5, none⟩ (.int .i64 z.dst)).heap[p]? = some (.cells #[.int .i64 0, .int .i64 z.key, .int .i64 z.hfrom, .int .i64 z.hto, .int .i64 z.src, .int .i64 z.dst, x6, x7] t (0, 0)) := blk9 s4 _
  have s6 : (((((((u.setCell ⟨p, 0, none⟩ (.int .i64 0)).setCell ⟨p, 1, none⟩ (.int .i64 z.key)).setCell ⟨p, 2, none⟩ (.int .i64 z.hfrom)).setCell ⟨p, 3, none⟩ (.int .i64 z.hto)).setCell ⟨p, 4, none⟩ (.int .i64 z.src)).setCell ⟨p, 5, none⟩ (.int .i64 z.dst)).setCell ⟨p, 6, none⟩ (.int .i64 z.net)).heap[p]? = some (.cells #[.int .i64 0, .int .i64 z.key, .int .i64 z.hfrom, .int .i64 z.hto, .int .i64 z.src, .int .i64 z.dst, .int .i64 z.net, x7] t (0, 0)) := blk9 s5 _
  have s7 : ((((((((u.setCell ⟨p, 0, none⟩ (.int .i64 0)).setCell ⟨p, 1, none⟩ (.int .i64 z.key)).setCell ⟨p, 2, none⟩ (.int .i64 z.hfrom)).setCell ⟨p, 3, none⟩ (.int .i64 z.hto)).setCell ⟨p, 4, none⟩ (.int .i64 z.src)).setCell ⟨p, 5, none⟩ (.int .i64 z.dst)).setCell ⟨p, 6, none⟩ (.int .i64 z.net)).setCell ⟨p, 7, none⟩ (.string z.text)).heap[p]? = some (.cells #[.int .i64 0, .int .i64 z.key, .int .i64 z.hfrom, .int .i64 z.hto, .int .i64 z.src, .int .i64 z.dst, .int .i64 z.net, .string z.text] t (0, 0)) := blk9 s6 _
  exact s7
theorem put8_bel {w u : World} {p : Nat} (h : Below w.heap.size w u) (hp : w.heap.size ≤ p) (z : WH) : Below w.heap.size w (put8 u p z) := by
  unfold put8
  exact (((((((h.setCell hp _).setCell hp _).setCell hp _).setCell hp _).setCell hp _).setCell hp _).setCell hp _).setCell hp _
theorem put8_ex {u : World} {e p t : Nat} {c : Int} {x0 x1 x2 x3 x4 x5 x6 x7 : Value} (he : EX u e c) (h : u.heap[p]? = some (.cells #[x0, x1, x2, x3, x4, x5, x6, x7] t (0, 0))) (z : WH) : EX (put8 u p z) e c := by
  have hne : e ≠ p := by
    intro e9
    subst e9
    obtain ⟨y, hy⟩ := he
    rw [hy] at h
    injection h with h
    injection h with h1
    have := congrArg Array.size h1
    simp at this
  unfold put8
  repeat refine EX.ne ?_ hne _ _
  exact he
theorem eight {u : World} {p t : Nat} {z : WH} (h : u.heap[p]? = some (.cells (frD z) t (0, 0))) : u.cell? ⟨p, 0, none⟩ = some (.int .i64 0) ∧ u.cell? ⟨p, 1, none⟩ = some (.int .i64 z.key) ∧ u.cell? ⟨p, 2, none⟩ = some (.int .i64 z.hfrom) ∧ u.cell? ⟨p, 3, none⟩ = some (.int .i64 z.hto) ∧ u.cell? ⟨p, 4, none⟩ = some (.int .i64 z.src) ∧ u.cell? ⟨p, 5, none⟩ = some (.int .i64 z.dst) ∧ u.cell? ⟨p, 6, none⟩ = some (.int .i64 z.net) ∧ u.cell? ⟨p, 7, none⟩ = some (.string z.text) := by
  simp [World.cell?, h, frD]
theorem rbk {u0 u : World} {b rb a : Nat} {s : ByteArray} {x : Obj} (h : TR u0 u b s a) (hr : u0.heap[rb]? = some x) (hne : rb ≠ b) : u.heap[rb]? = some x := (h.gr.block rb (Array.getElem?_eq_some_iff.1 hr).1 (by simpa using hne)).trans hr
theorem belT {w u0 u : World} {b a : Nat} {s : ByteArray} (h : TR u0 u b s a) (h0 : Below w.heap.size w u0) (hlo : w.heap.size ≤ b) : Below w.heap.size w u := h0.grown h.gr h0.size (fun j hj => by injection hj with hj; omega)
def RWok (s : ByteArray) (w : World) (e : Ending) (w' : World) : Prop := e = .returned (.tuple #[.agg (frD (uwH s)), .nilIface]) ∧ Below w.heap.size w w'
def RWno (c : Int) (w : World) (e : Ending) (w' : World) : Prop := ∃ q z, e = .returned (.tuple #[.agg (frD z), sTop q]) ∧ EX w' q c ∧ Below w.heap.size w w'
theorem nv_sz {s : ByteArray} (h : nvB s = true) : 2 ≤ s.size := by
  unfold nvB at h
  rw [Bool.and_eq_true] at h
  exact of_decide_eq_true h.1
set_option maxRecDepth 100000 in
set_option maxHeartbeats 8000000 in
theorem rw_a {s : ByteArray} (w : World) (hn : nvB s = false) : Calls Tryd.prog 25 #[.string s] w fun e w' => RWno 3 w e w' := by
  have hnv : Hid (nvB s = false) := hn
  clear hn
  unfold RWno
  have H0 : Hid (Below w.heap.size w (w.alloc (.cells #[.int .i64 0, .int .i64 0, .int .i64 0, .int .i64 0, .int .i64 0, .int .i64 0, .int .i64 0, .string ⟨#[]⟩] 29))) := bx1 _ _
  have HR0 : Hid ((w.alloc (.cells #[.int .i64 0, .int .i64 0, .int .i64 0, .int .i64 0, .int .i64 0, .int .i64 0, .int .i64 0, .string ⟨#[]⟩] 29)).heap[w.heap.size]? = some (.cells #[.int .i64 0, .int .i64 0, .int .i64 0, .int .i64 0, .int .i64 0, .int .i64 0, .int .i64 0, .string ⟨#[]⟩] 29 (0, 0))) := heap_new _ _
  try unfold sTop
  go_enter Tryd.func25, Tryd.ntmps25
  go_upto_region 1 with fail
  generalize (w.alloc (.cells #[.int .i64 0, .int .i64 0, .int .i64 0, .int .i64 0, .int .i64 0, .int .i64 0, .int .i64 0, .string ⟨#[]⟩] 29)) = u0 at *
  generalize hrb : w.heap.size = rb at HR0 ⊢
  have HRB : Hid (w.heap.size = rb) := hrb
  clear hrb
  go_upto_region 2 with fail
  have HT0 : Hid (TR (u0.alloc (.cells #[.string s, .int .i64 0] 79)) (u0.alloc (.cells #[.string s, .int .i64 0] 79)) u0.heap.size s 0) := ⟨heap_new _ _, gb_rf _ _⟩
  have HB0 : Hid (Below w.heap.size w (u0.alloc (.cells #[.string s, .int .i64 0] 79))) := H0.out.trans ((bx1 _ _).mono H0.out.size)
  have HR1 : Hid ((u0.alloc (.cells #[.string s, .int .i64 0] 79)).heap[rb]? = some (.cells #[.int .i64 0, .int .i64 0, .int .i64 0, .int .i64 0, .int .i64 0, .int .i64 0, .int .i64 0, .string ⟨#[]⟩] 29 (0, 0))) := ((bx1 _ _).block _ (Array.getElem?_eq_some_iff.1 HR0.out).1).trans HR0.out
  have HBN : Hid (rb ≠ u0.heap.size ∧ w.heap.size ≤ u0.heap.size) := ⟨by have := (Array.getElem?_eq_some_iff.1 HR0.out).1; omega, H0.out.size⟩
  clear H0 HR0
  generalize (u0.alloc (.cells #[.string s, .int .i64 0] 79)) = u1 at *
  generalize u0.heap.size = b at *
  have HMK : Hid (Calls Tryd.prog 43 #[.pointer (some ⟨b, 0, none⟩), .string ⟨#[78, 86]⟩] u1 fun e w' => ∃ q, e = .returned (.iface 53 (.pointer (some ⟨q, 0, none⟩))) ∧ TR u1 w' b s 0 ∧ EX w' q 3) := (mark_any HT0.out).mono (by rintro e w' (⟨h9, _⟩ | ⟨_, q, rfl, ht, he⟩); exact absurd h9 (by rw [hnv.out]; decide); exact ⟨q, rfl, ht, he⟩)
  go_upto_region 4 with (go_at_call 43; refine Calls.mono HMK.out ?_; rintro e u2 ⟨q, rfl, ht, he⟩; have HT2 : Hid (TR u1 u2 b s 0) := ht; have HE2 : Hid (EX u2 q 3) := he; clear ht he)
  have HR2 : Hid _ := rbk HT2.out HR1.out HBN.out.1
  obtain ⟨g0, g1, g2, g3, g4, g5, g6, g7⟩ := eight (z := hd0) HR2.out
  simp only [hd0] at g0 g1 g2 g3 g4 g5 g6 g7
  have gf := frz9 HR2.out
  have gl := (Array.getElem?_eq_some_iff.1 HR2.out).1
  go_wp2
  have hbx := put8_box HR2.out hd0
  have hef := put8_ex HE2.out HR2.out hd0
  have hbf := put8_bel (p := rb) (belT HT2.out HB0.out HBN.out.2) (by have := HRB.out; omega) hd0
  refine bodyPost_ret (v := .tuple #[.agg (frD hd0), .iface 53 (.pointer (some ⟨q, 0, none⟩))]) ?_ rfl ⟨q, hd0, rfl, hef, hbf⟩
  obtain ⟨f0, f1, f2, f3, f4, f5, f6, f7⟩ := eight hbx
  simp only [put8, hd0] at f0 f1 f2 f3 f4 f5 f6 f7
  simp [results, Tryd.results25, go_sem, f0, f1, f2, f3, f4, f5, f6, f7, frD, hd0]
set_option maxRecDepth 100000 in
set_option maxHeartbeats 8000000 in
theorem rw_b {s : ByteArray} (w : World) (hs : s.size ≤ 2000) (hn : nvB s = true) (hw : whOk s = false) : Calls Tryd.prog 25 #[.string s] w fun e w' => RWno 3 w e w' := by
  have hnv : Hid (nvB s = true) := hn
  have hwo : Hid (whOk s = false) := hw
  have hsz : Hid (s.size ≤ 2000) := hs
  clear hn hw hs
  unfold RWno
  have H0 : Hid (Below w.heap.size w (w.alloc (.cells #[.int .i64 0, .int .i64 0, .int .i64 0, .int .i64 0, .int .i64 0, .int .i64 0, .int .i64 0, .string ⟨#[]⟩] 29))) := bx1 _ _
  have HR0 : Hid ((w.alloc (.cells #[.int .i64 0, .int .i64 0, .int .i64 0, .int .i64 0, .int .i64 0, .int .i64 0, .int .i64 0, .string ⟨#[]⟩] 29)).heap[w.heap.size]? = some (.cells #[.int .i64 0, .int .i64 0, .int .i64 0, .int .i64 0, .int .i64 0, .int .i64 0, .int .i64 0, .string ⟨#[]⟩] 29 (0, 0))) := heap_new _ _
  try unfold sTop
  go_enter Tryd.func25, Tryd.ntmps25
  go_upto_region 1 with fail
  generalize (w.alloc (.cells #[.int .i64 0, .int .i64 0, .int .i64 0, .int .i64 0, .int .i64 0, .int .i64 0, .int .i64 0, .string ⟨#[]⟩] 29)) = u0 at *
  generalize hrb : w.heap.size = rb at HR0 ⊢
  have HRB : Hid (w.heap.size = rb) := hrb
  clear hrb
  go_upto_region 2 with fail
  have HT0 : Hid (TR (u0.alloc (.cells #[.string s, .int .i64 0] 79)) (u0.alloc (.cells #[.string s, .int .i64 0] 79)) u0.heap.size s 0) := ⟨heap_new _ _, gb_rf _ _⟩
  have HB0 : Hid (Below w.heap.size w (u0.alloc (.cells #[.string s, .int .i64 0] 79))) := H0.out.trans ((bx1 _ _).mono H0.out.size)
  have HR1 : Hid ((u0.alloc (.cells #[.string s, .int .i64 0] 79)).heap[rb]? = some (.cells #[.int .i64 0, .int .i64 0, .int .i64 0, .int .i64 0, .int .i64 0, .int .i64 0, .int .i64 0, .string ⟨#[]⟩] 29 (0, 0))) := ((bx1 _ _).block _ (Array.getElem?_eq_some_iff.1 HR0.out).1).trans HR0.out
  have HBN : Hid (rb ≠ u0.heap.size ∧ w.heap.size ≤ u0.heap.size) := ⟨by have := (Array.getElem?_eq_some_iff.1 HR0.out).1; omega, H0.out.size⟩
  clear H0 HR0
  generalize (u0.alloc (.cells #[.string s, .int .i64 0] 79)) = u1 at *
  generalize u0.heap.size = b at *
  have HMK : Hid (Calls Tryd.prog 43 #[.pointer (some ⟨b, 0, none⟩), .string ⟨#[78, 86]⟩] u1 fun e w' => e = .returned .nilIface ∧ TR u1 w' b s 2) := (mark_any HT0.out).mono (by rintro e w' (⟨_, rfl, ht⟩ | ⟨h9, _⟩); exact ⟨rfl, ht⟩; exact absurd h9 (by rw [hnv.out]; decide))
  have HWH : Hid (∀ u, TR u1 u b s 2 → Calls Tryd.prog 44 #[.pointer (some ⟨b, 0, none⟩)] u fun e w' => ∃ q a', e = .returned (.tuple #[.agg #[.int .i64 0, .int .i64 0, .int .i64 0, .int .i64 0, .int .i64 0, .int .i64 0, .int .i64 0, .string ⟨#[]⟩, .int .i64 0], .iface 53 (.pointer (some ⟨q, 0, none⟩))]) ∧ TR u w' b s a' ∧ EX w' q 3) := fun u hu => (wrapHead_any hu.same hsz.out (nv_sz hnv.out)).mono (by rintro e w' (⟨h9, _⟩ | ⟨_, q, a', rfl, ht, he⟩); exact absurd h9 (by rw [hwo.out]; decide); exact ⟨q, a', rfl, ht, he⟩)
  go_upto_region 5 with (go_at_call 43; refine Calls.mono HMK.out ?_; rintro e u2 ⟨rfl, ht⟩; have HT2 : Hid (TR u1 u2 b s 2) := ht; clear ht)
  go_upto_region 6 with (go_at_call 44; refine Calls.mono (HWH.out _ HT2.out) ?_; rintro e u3 ⟨q, a3, rfl, ht, he⟩; have HT3 : Hid (TR u1 u3 b s a3) := HT2.out.trans ht; have HE3 : Hid (EX u3 q 3) := he; clear ht he)
  have HT4 : Hid (TR u1 (u3.alloc (.cells #[.int .i64 0, .int .i64 0, .int .i64 0, .int .i64 0, .int .i64 0, .int .i64 0, .int .i64 0, .string ⟨#[]⟩, .int .i64 0] 42)) b s a3) := HT3.out.step (bx1 _ _)
  have HE4 : Hid (EX (u3.alloc (.cells #[.int .i64 0, .int .i64 0, .int .i64 0, .int .i64 0, .int .i64 0, .int .i64 0, .int .i64 0, .string ⟨#[]⟩, .int .i64 0] 42)) q 3) := HE3.out.step (bx1 _ _)
  generalize (u3.alloc (.cells #[.int .i64 0, .int .i64 0, .int .i64 0, .int .i64 0, .int .i64 0, .int .i64 0, .int .i64 0, .string ⟨#[]⟩, .int .i64 0] 42)) = u4 at *
  have HR4 : Hid _ := rbk HT4.out HR1.out HBN.out.1
  obtain ⟨g0, g1, g2, g3, g4, g5, g6, g7⟩ := eight (z := hd0) HR4.out
  simp only [hd0] at g0 g1 g2 g3 g4 g5 g6 g7
  have gf := frz9 HR4.out
  have gl := (Array.getElem?_eq_some_iff.1 HR4.out).1
  go_wp2
  have hbx := put8_box HR4.out hd0
  have hef := put8_ex HE4.out HR4.out hd0
  have hbf := put8_bel (p := rb) (belT HT4.out HB0.out HBN.out.2) (by have := HRB.out; omega) hd0
  refine bodyPost_ret (v := .tuple #[.agg (frD hd0), .iface 53 (.pointer (some ⟨q, 0, none⟩))]) ?_ rfl ⟨q, hd0, rfl, hef, hbf⟩
  obtain ⟨f0, f1, f2, f3, f4, f5, f6, f7⟩ := eight hbx
  simp only [put8, hd0] at f0 f1 f2 f3 f4 f5 f6 f7
  simp [results, Tryd.results25, go_sem, f0, f1, f2, f3, f4, f5, f6, f7, frD, hd0]
set_option maxRecDepth 100000 in
set_option maxHeartbeats 8000000 in
theorem rw_c {s : ByteArray} (w : World) (hs : s.size ≤ 2000) (hn : nvB s = true) (hw : whOk s = true) (hf : s.size < 29 + uwN s) : Calls Tryd.prog 25 #[.string s] w fun e w' => RWno 3 w e w' := by
  have hnv : Hid (nvB s = true) := hn
  have hwo : Hid (whOk s = true) := hw
  have hsz : Hid (s.size ≤ 2000) := hs
  have hnN : Hid ((uwN s : Int) = hdV s 6) := (show (uwN s : Int) = hdV s 6 by have := hdV_b s 6; unfold uwN; omega)
  have hn15 : Hid (uwN s ≤ 1500) := (show uwN s ≤ 1500 by
    have h9 := hw
    unfold whOk at h9
    simp only [Bool.and_eq_true, decide_eq_true_eq] at h9
    have := hdV_b s 6
    unfold uwN
    omega)
  have h29 : Hid (29 ≤ s.size) := (show 29 ≤ s.size by
    have h9 := hw
    unfold whOk at h9
    simp only [Bool.and_eq_true, decide_eq_true_eq] at h9
    exact h9.1)
  have hfit : Hid (s.size < 29 + uwN s) := hf
  clear hf
  clear hn hw hs
  unfold RWno
  have H0 : Hid (Below w.heap.size w (w.alloc (.cells #[.int .i64 0, .int .i64 0, .int .i64 0, .int .i64 0, .int .i64 0, .int .i64 0, .int .i64 0, .string ⟨#[]⟩] 29))) := bx1 _ _
  have HR0 : Hid ((w.alloc (.cells #[.int .i64 0, .int .i64 0, .int .i64 0, .int .i64 0, .int .i64 0, .int .i64 0, .int .i64 0, .string ⟨#[]⟩] 29)).heap[w.heap.size]? = some (.cells #[.int .i64 0, .int .i64 0, .int .i64 0, .int .i64 0, .int .i64 0, .int .i64 0, .int .i64 0, .string ⟨#[]⟩] 29 (0, 0))) := heap_new _ _
  try unfold sTop
  go_enter Tryd.func25, Tryd.ntmps25
  go_upto_region 1 with fail
  generalize (w.alloc (.cells #[.int .i64 0, .int .i64 0, .int .i64 0, .int .i64 0, .int .i64 0, .int .i64 0, .int .i64 0, .string ⟨#[]⟩] 29)) = u0 at *
  generalize hrb : w.heap.size = rb at HR0 ⊢
  have HRB : Hid (w.heap.size = rb) := hrb
  clear hrb
  go_upto_region 2 with fail
  have HT0 : Hid (TR (u0.alloc (.cells #[.string s, .int .i64 0] 79)) (u0.alloc (.cells #[.string s, .int .i64 0] 79)) u0.heap.size s 0) := ⟨heap_new _ _, gb_rf _ _⟩
  have HB0 : Hid (Below w.heap.size w (u0.alloc (.cells #[.string s, .int .i64 0] 79))) := H0.out.trans ((bx1 _ _).mono H0.out.size)
  have HR1 : Hid ((u0.alloc (.cells #[.string s, .int .i64 0] 79)).heap[rb]? = some (.cells #[.int .i64 0, .int .i64 0, .int .i64 0, .int .i64 0, .int .i64 0, .int .i64 0, .int .i64 0, .string ⟨#[]⟩] 29 (0, 0))) := ((bx1 _ _).block _ (Array.getElem?_eq_some_iff.1 HR0.out).1).trans HR0.out
  have HBN : Hid (rb ≠ u0.heap.size ∧ w.heap.size ≤ u0.heap.size) := ⟨by have := (Array.getElem?_eq_some_iff.1 HR0.out).1; omega, H0.out.size⟩
  clear H0 HR0
  generalize (u0.alloc (.cells #[.string s, .int .i64 0] 79)) = u1 at *
  generalize u0.heap.size = b at *
  have HMK : Hid (Calls Tryd.prog 43 #[.pointer (some ⟨b, 0, none⟩), .string ⟨#[78, 86]⟩] u1 fun e w' => e = .returned .nilIface ∧ TR u1 w' b s 2) := (mark_any HT0.out).mono (by rintro e w' (⟨_, rfl, ht⟩ | ⟨h9, _⟩); exact ⟨rfl, ht⟩; exact absurd h9 (by rw [hnv.out]; decide))
  have HWH : Hid (∀ u, TR u1 u b s 2 → Calls Tryd.prog 44 #[.pointer (some ⟨b, 0, none⟩)] u fun e w' => e = .returned (.tuple #[.agg #[.int .i64 0, .int .i64 (hdV s 0), .int .i64 (hdV s 1), .int .i64 (hdV s 2), .int .i64 (hdV s 3), .int .i64 (hdV s 4), .int .i64 (hdV s 5), .string ⟨#[]⟩, .int .i64 (hdV s 6)], .nilIface]) ∧ TR u w' b s 29) := fun u hu => (wrapHead_any hu.same hsz.out (nv_sz hnv.out)).mono (by rintro e w' (⟨_, rfl, ht⟩ | ⟨h9, _⟩); exact ⟨rfl, ht⟩; exact absurd h9 (by rw [hwo.out]; decide))
  go_upto_region 5 with (go_at_call 43; refine Calls.mono HMK.out ?_; rintro e u2 ⟨rfl, ht⟩; have HT2 : Hid (TR u1 u2 b s 2) := ht; clear ht)
  go_upto_region 6 with (go_at_call 44; refine Calls.mono (HWH.out _ HT2.out) ?_; rintro e u3 ⟨rfl, ht⟩; have HT3 : Hid (TR u1 u3 b s 29) := HT2.out.trans ht; clear ht)
  have HT4 : Hid (TR u1 (u3.alloc (.cells #[.int .i64 0, .int .i64 (hdV s 0), .int .i64 (hdV s 1), .int .i64 (hdV s 2), .int .i64 (hdV s 3), .int .i64 (hdV s 4), .int .i64 (hdV s 5), .string ⟨#[]⟩, .int .i64 (hdV s 6)] 42)) b s 29) := HT3.out.step (bx1 _ _)
  have HH4 : Hid ((u3.alloc (.cells #[.int .i64 0, .int .i64 (hdV s 0), .int .i64 (hdV s 1), .int .i64 (hdV s 2), .int .i64 (hdV s 3), .int .i64 (hdV s 4), .int .i64 (hdV s 5), .string ⟨#[]⟩, .int .i64 (hdV s 6)] 42)).heap[u3.heap.size]? = some (.cells #[.int .i64 0, .int .i64 (hdV s 0), .int .i64 (hdV s 1), .int .i64 (hdV s 2), .int .i64 (hdV s 3), .int .i64 (hdV s 4), .int .i64 (hdV s 5), .string ⟨#[]⟩, .int .i64 (hdV s 6)] 42 (0, 0))) := heap_new _ _
  have HHN : Hid (u3.heap.size ≠ b ∧ u3.heap.size ≠ rb ∧ u1.heap.size ≤ u3.heap.size) := ⟨by have := HT3.out.lt; omega, by have := (Array.getElem?_eq_some_iff.1 (rbk HT3.out HR1.out HBN.out.1)).1; omega, HT3.out.gr.size⟩
  generalize (u3.alloc (.cells #[.int .i64 0, .int .i64 (hdV s 0), .int .i64 (hdV s 1), .int .i64 (hdV s 2), .int .i64 (hdV s 3), .int .i64 (hdV s 4), .int .i64 (hdV s 5), .string ⟨#[]⟩, .int .i64 (hdV s 6)] 42)) = u4 at *
  generalize u3.heap.size = hb at *
  have kh := HH4.out
  have k8 : u4.cell? ⟨hb, 8, none⟩ = some (.int .i64 (hdV s 6)) := cel9 kh 8 _ rfl
  have k7 : u4.cell? ⟨hb, 7, none⟩ = some (.string ⟨#[]⟩) := cel9 kh 7 _ rfl
  have kl := (Array.getElem?_eq_some_iff.1 kh).1
  have kf := frz9 kh
  clear kh
  have HBY : Hid (∀ u, TR u1 u b s 29 → Calls Tryd.prog 45 #[.pointer (some ⟨b, 0, none⟩), .int .i64 (hdV s 6)] u fun e w' => ∃ q, e = .returned (.tuple #[.string ⟨#[]⟩, .iface 53 (.pointer (some ⟨q, 0, none⟩))]) ∧ TR u w' b s 29 ∧ EX w' q 3) := fun u hu => bytes_no hu.same (by have := hsz.out; omega) (hdV_b s 6).1 (by have := hnN.out; have := hn15.out; omega) (by have := hnN.out; have := hfit.out; omega)
  go_upto_region 9 with (go_at_call 45; refine Calls.mono (HBY.out _ HT4.out) ?_; rintro e u5 ⟨q, rfl, ht, he⟩; have HT5 : Hid (TR u1 u5 b s 29) := HT4.out.trans ht; have HE5 : Hid (EX u5 q 3) := he; have HH5 : Hid (u5.heap[hb]? = some (.cells #[.int .i64 0, .int .i64 (hdV s 0), .int .i64 (hdV s 1), .int .i64 (hdV s 2), .int .i64 (hdV s 3), .int .i64 (hdV s 4), .int .i64 (hdV s 5), .string ⟨#[]⟩, .int .i64 (hdV s 6)] 42 (0, 0))) := (ht.gr.block hb (Array.getElem?_eq_some_iff.1 HH4.out).1 (by simpa using HHN.out.1)).trans HH4.out; clear ht he k8 k7 kl kf; have k7 : u5.cell? ⟨hb, 7, none⟩ = some (.string ⟨#[]⟩) := (cel9 HH5.out 7 _ rfl); have kl := (Array.getElem?_eq_some_iff.1 HH5.out).1; have kf := frz9 HH5.out)
  have HT6 : Hid (TR u1 (u5.setCell ⟨hb, 7, none⟩ (.string ⟨#[]⟩)) b s 29) := HT5.out.other HHN.out.1 HHN.out.2.2 _ _
  have HE6 : Hid (EX (u5.setCell ⟨hb, 7, none⟩ (.string ⟨#[]⟩)) q 3) := ex_other HE5.out HH5.out rfl _ _
  generalize (u5.setCell ⟨hb, 7, none⟩ (.string ⟨#[]⟩)) = u6 at *
  clear k7 kl kf
  have HR6 : Hid _ := rbk HT6.out HR1.out HBN.out.1
  obtain ⟨g0, g1, g2, g3, g4, g5, g6, g7⟩ := eight (z := hd0) HR6.out
  simp only [hd0] at g0 g1 g2 g3 g4 g5 g6 g7
  have gf := frz9 HR6.out
  have gl := (Array.getElem?_eq_some_iff.1 HR6.out).1
  go_wp2
  have hbx := put8_box HR6.out hd0
  have hef := put8_ex HE6.out HR6.out hd0
  have hbf := put8_bel (p := rb) (belT HT6.out HB0.out HBN.out.2) (by have := HRB.out; omega) hd0
  refine bodyPost_ret (v := .tuple #[.agg (frD hd0), .iface 53 (.pointer (some ⟨q, 0, none⟩))]) ?_ rfl ⟨q, hd0, rfl, hef, hbf⟩
  obtain ⟨f0, f1, f2, f3, f4, f5, f6, f7⟩ := eight hbx
  simp only [put8, hd0] at f0 f1 f2 f3 f4 f5 f6 f7
  simp [results, Tryd.results25, go_sem, f0, f1, f2, f3, f4, f5, f6, f7, frD, hd0]
set_option maxRecDepth 100000 in
set_option maxHeartbeats 8000000 in
theorem rw_d {s : ByteArray} (w : World) (hs : s.size ≤ 2000) (hn : nvB s = true) (hw : whOk s = true) (hf : 29 + uwN s ≤ s.size) (he0 : endC s (29 + uwN s) 51 ≠ 0) : Calls Tryd.prog 25 #[.string s] w fun e w' => RWno (endC s (29 + uwN s) 51) w e w' := by
  have hnv : Hid (nvB s = true) := hn
  have hwo : Hid (whOk s = true) := hw
  have hsz : Hid (s.size ≤ 2000) := hs
  have hnN : Hid ((uwN s : Int) = hdV s 6) := (show (uwN s : Int) = hdV s 6 by have := hdV_b s 6; unfold uwN; omega)
  have hn15 : Hid (uwN s ≤ 1500) := (show uwN s ≤ 1500 by
    have h9 := hw
    unfold whOk at h9
    simp only [Bool.and_eq_true, decide_eq_true_eq] at h9
    have := hdV_b s 6
    unfold uwN
    omega)
  have h29 : Hid (29 ≤ s.size) := (show 29 ≤ s.size by
    have h9 := hw
    unfold whOk at h9
    simp only [Bool.and_eq_true, decide_eq_true_eq] at h9
    exact h9.1)
  have hfit : Hid (29 + uwN s ≤ s.size) := hf
  have hend : Hid (endC s (29 + uwN s) 51 ≠ 0) := he0
  clear hf he0
  clear hn hw hs
  unfold RWno
  have H0 : Hid (Below w.heap.size w (w.alloc (.cells #[.int .i64 0, .int .i64 0, .int .i64 0, .int .i64 0, .int .i64 0, .int .i64 0, .int .i64 0, .string ⟨#[]⟩] 29))) := bx1 _ _
  have HR0 : Hid ((w.alloc (.cells #[.int .i64 0, .int .i64 0, .int .i64 0, .int .i64 0, .int .i64 0, .int .i64 0, .int .i64 0, .string ⟨#[]⟩] 29)).heap[w.heap.size]? = some (.cells #[.int .i64 0, .int .i64 0, .int .i64 0, .int .i64 0, .int .i64 0, .int .i64 0, .int .i64 0, .string ⟨#[]⟩] 29 (0, 0))) := heap_new _ _
  try unfold sTop
  go_enter Tryd.func25, Tryd.ntmps25
  go_upto_region 1 with fail
  generalize (w.alloc (.cells #[.int .i64 0, .int .i64 0, .int .i64 0, .int .i64 0, .int .i64 0, .int .i64 0, .int .i64 0, .string ⟨#[]⟩] 29)) = u0 at *
  generalize hrb : w.heap.size = rb at HR0 ⊢
  have HRB : Hid (w.heap.size = rb) := hrb
  clear hrb
  go_upto_region 2 with fail
  have HT0 : Hid (TR (u0.alloc (.cells #[.string s, .int .i64 0] 79)) (u0.alloc (.cells #[.string s, .int .i64 0] 79)) u0.heap.size s 0) := ⟨heap_new _ _, gb_rf _ _⟩
  have HB0 : Hid (Below w.heap.size w (u0.alloc (.cells #[.string s, .int .i64 0] 79))) := H0.out.trans ((bx1 _ _).mono H0.out.size)
  have HR1 : Hid ((u0.alloc (.cells #[.string s, .int .i64 0] 79)).heap[rb]? = some (.cells #[.int .i64 0, .int .i64 0, .int .i64 0, .int .i64 0, .int .i64 0, .int .i64 0, .int .i64 0, .string ⟨#[]⟩] 29 (0, 0))) := ((bx1 _ _).block _ (Array.getElem?_eq_some_iff.1 HR0.out).1).trans HR0.out
  have HBN : Hid (rb ≠ u0.heap.size ∧ w.heap.size ≤ u0.heap.size) := ⟨by have := (Array.getElem?_eq_some_iff.1 HR0.out).1; omega, H0.out.size⟩
  clear H0 HR0
  generalize (u0.alloc (.cells #[.string s, .int .i64 0] 79)) = u1 at *
  generalize u0.heap.size = b at *
  have HMK : Hid (Calls Tryd.prog 43 #[.pointer (some ⟨b, 0, none⟩), .string ⟨#[78, 86]⟩] u1 fun e w' => e = .returned .nilIface ∧ TR u1 w' b s 2) := (mark_any HT0.out).mono (by rintro e w' (⟨_, rfl, ht⟩ | ⟨h9, _⟩); exact ⟨rfl, ht⟩; exact absurd h9 (by rw [hnv.out]; decide))
  have HWH : Hid (∀ u, TR u1 u b s 2 → Calls Tryd.prog 44 #[.pointer (some ⟨b, 0, none⟩)] u fun e w' => e = .returned (.tuple #[.agg #[.int .i64 0, .int .i64 (hdV s 0), .int .i64 (hdV s 1), .int .i64 (hdV s 2), .int .i64 (hdV s 3), .int .i64 (hdV s 4), .int .i64 (hdV s 5), .string ⟨#[]⟩, .int .i64 (hdV s 6)], .nilIface]) ∧ TR u w' b s 29) := fun u hu => (wrapHead_any hu.same hsz.out (nv_sz hnv.out)).mono (by rintro e w' (⟨_, rfl, ht⟩ | ⟨h9, _⟩); exact ⟨rfl, ht⟩; exact absurd h9 (by rw [hwo.out]; decide))
  go_upto_region 5 with (go_at_call 43; refine Calls.mono HMK.out ?_; rintro e u2 ⟨rfl, ht⟩; have HT2 : Hid (TR u1 u2 b s 2) := ht; clear ht)
  go_upto_region 6 with (go_at_call 44; refine Calls.mono (HWH.out _ HT2.out) ?_; rintro e u3 ⟨rfl, ht⟩; have HT3 : Hid (TR u1 u3 b s 29) := HT2.out.trans ht; clear ht)
  have HT4 : Hid (TR u1 (u3.alloc (.cells #[.int .i64 0, .int .i64 (hdV s 0), .int .i64 (hdV s 1), .int .i64 (hdV s 2), .int .i64 (hdV s 3), .int .i64 (hdV s 4), .int .i64 (hdV s 5), .string ⟨#[]⟩, .int .i64 (hdV s 6)] 42)) b s 29) := HT3.out.step (bx1 _ _)
  have HH4 : Hid ((u3.alloc (.cells #[.int .i64 0, .int .i64 (hdV s 0), .int .i64 (hdV s 1), .int .i64 (hdV s 2), .int .i64 (hdV s 3), .int .i64 (hdV s 4), .int .i64 (hdV s 5), .string ⟨#[]⟩, .int .i64 (hdV s 6)] 42)).heap[u3.heap.size]? = some (.cells #[.int .i64 0, .int .i64 (hdV s 0), .int .i64 (hdV s 1), .int .i64 (hdV s 2), .int .i64 (hdV s 3), .int .i64 (hdV s 4), .int .i64 (hdV s 5), .string ⟨#[]⟩, .int .i64 (hdV s 6)] 42 (0, 0))) := heap_new _ _
  have HHN : Hid (u3.heap.size ≠ b ∧ u3.heap.size ≠ rb ∧ u1.heap.size ≤ u3.heap.size) := ⟨by have := HT3.out.lt; omega, by have := (Array.getElem?_eq_some_iff.1 (rbk HT3.out HR1.out HBN.out.1)).1; omega, HT3.out.gr.size⟩
  generalize (u3.alloc (.cells #[.int .i64 0, .int .i64 (hdV s 0), .int .i64 (hdV s 1), .int .i64 (hdV s 2), .int .i64 (hdV s 3), .int .i64 (hdV s 4), .int .i64 (hdV s 5), .string ⟨#[]⟩, .int .i64 (hdV s 6)] 42)) = u4 at *
  generalize u3.heap.size = hb at *
  have kh := HH4.out
  have k8 : u4.cell? ⟨hb, 8, none⟩ = some (.int .i64 (hdV s 6)) := cel9 kh 8 _ rfl
  have k7 : u4.cell? ⟨hb, 7, none⟩ = some (.string ⟨#[]⟩) := cel9 kh 7 _ rfl
  have kl := (Array.getElem?_eq_some_iff.1 kh).1
  have kf := frz9 kh
  clear kh
  have HBY : Hid (∀ u, TR u1 u b s 29 → Calls Tryd.prog 45 #[.pointer (some ⟨b, 0, none⟩), .int .i64 (hdV s 6)] u fun e w' => e = .returned (.tuple #[.string (s.extract 29 (29 + uwN s)), .nilIface]) ∧ TR u w' b s (29 + uwN s)) := fun u hu => by rw [← hnN.out]; exact bytes_yes hu.same (by have := hsz.out; omega) hfit.out
  go_upto_region 9 with (go_at_call 45; refine Calls.mono (HBY.out _ HT4.out) ?_; rintro e u5 ⟨rfl, ht⟩; have HT5 : Hid (TR u1 u5 b s (29 + uwN s)) := HT4.out.trans ht; have HH5 : Hid (u5.heap[hb]? = some (.cells #[.int .i64 0, .int .i64 (hdV s 0), .int .i64 (hdV s 1), .int .i64 (hdV s 2), .int .i64 (hdV s 3), .int .i64 (hdV s 4), .int .i64 (hdV s 5), .string ⟨#[]⟩, .int .i64 (hdV s 6)] 42 (0, 0))) := (ht.gr.block hb (Array.getElem?_eq_some_iff.1 HH4.out).1 (by simpa using HHN.out.1)).trans HH4.out; clear ht k8 k7 kl kf; have k7 : u5.cell? ⟨hb, 7, none⟩ = some (.string ⟨#[]⟩) := (cel9 HH5.out 7 _ rfl); have kl := (Array.getElem?_eq_some_iff.1 HH5.out).1; have kf := frz9 HH5.out)
  have HT6 : Hid (TR u1 (u5.setCell ⟨hb, 7, none⟩ (.string (s.extract 29 (29 + uwN s)))) b s (29 + uwN s)) := HT5.out.other HHN.out.1 HHN.out.2.2 _ _
  have HH6 : Hid ((u5.setCell ⟨hb, 7, none⟩ (.string (s.extract 29 (29 + uwN s)))).heap[hb]? = some (.cells #[.int .i64 0, .int .i64 (hdV s 0), .int .i64 (hdV s 1), .int .i64 (hdV s 2), .int .i64 (hdV s 3), .int .i64 (hdV s 4), .int .i64 (hdV s 5), .string (s.extract 29 (29 + uwN s)), .int .i64 (hdV s 6)] 42 (0, 0))) := blk9 HH5.out _
  generalize (u5.setCell ⟨hb, 7, none⟩ (.string (s.extract 29 (29 + uwN s)))) = u6 at *
  clear k7 kl kf HH5 HT5
  have HEN : Hid (∀ u, TR u1 u b s (29 + uwN s) → Calls Tryd.prog 46 #[.pointer (some ⟨b, 0, none⟩), .int .i64 51] u fun e w' => ∃ a', TR u w' b s a' ∧ ∃ q, e = .returned (.iface 53 (.pointer (some ⟨q, 0, none⟩))) ∧ EX w' q (endC s (29 + uwN s) 51)) := fun u hu => (end_any hu.same (by have := hsz.out; omega) hfit.out 51).mono (by rintro e w' ⟨a', ht, (⟨h9, rfl⟩ | ⟨h9, q, rfl, he⟩)⟩ <;> first | exact ⟨a', ht, q, rfl, he⟩ | exact absurd h9 (by first | exact hend.out | (rw [hend.out]; decide) | (intro h8; exact h8 hend.out)))
  go_upto_region 12 with (go_at_call 46; refine Calls.mono (HEN.out _ HT6.out) ?_; rintro e u7 ⟨a7, ht, q, rfl, he⟩; have HT7 : Hid (TR u1 u7 b s a7) := HT6.out.trans ht; have HE7 : Hid (EX u7 q (endC s (29 + uwN s) 51)) := he; have HH7 : Hid (u7.heap[hb]? = some (.cells #[.int .i64 0, .int .i64 (hdV s 0), .int .i64 (hdV s 1), .int .i64 (hdV s 2), .int .i64 (hdV s 3), .int .i64 (hdV s 4), .int .i64 (hdV s 5), .string (s.extract 29 (29 + uwN s)), .int .i64 (hdV s 6)] 42 (0, 0))) := (ht.gr.block hb (Array.getElem?_eq_some_iff.1 HH6.out).1 (by simpa using HHN.out.1)).trans HH6.out; clear ht he)
  have kh := HH7.out
  have k0 : u7.cell? ⟨hb, 0, none⟩ = some (.int .i64 0) := cel9 kh 0 _ rfl
  have k1 : u7.cell? ⟨hb, 1, none⟩ = some (.int .i64 (hdV s 0)) := cel9 kh 1 _ rfl
  have k2 : u7.cell? ⟨hb, 2, none⟩ = some (.int .i64 (hdV s 1)) := cel9 kh 2 _ rfl
  have k3 : u7.cell? ⟨hb, 3, none⟩ = some (.int .i64 (hdV s 2)) := cel9 kh 3 _ rfl
  have k4 : u7.cell? ⟨hb, 4, none⟩ = some (.int .i64 (hdV s 3)) := cel9 kh 4 _ rfl
  have k5 : u7.cell? ⟨hb, 5, none⟩ = some (.int .i64 (hdV s 4)) := cel9 kh 5 _ rfl
  have k6 : u7.cell? ⟨hb, 6, none⟩ = some (.int .i64 (hdV s 5)) := cel9 kh 6 _ rfl
  have k7 : u7.cell? ⟨hb, 7, none⟩ = some (.string (s.extract 29 (29 + uwN s))) := cel9 kh 7 _ rfl
  have kl := (Array.getElem?_eq_some_iff.1 kh).1
  have kf := frz9 kh
  clear kh
  have HR7 : Hid _ := rbk HT7.out HR1.out HBN.out.1
  obtain ⟨g0, g1, g2, g3, g4, g5, g6, g7⟩ := eight (z := hd0) HR7.out
  simp only [hd0] at g0 g1 g2 g3 g4 g5 g6 g7
  have gf := frz9 HR7.out
  have gl := (Array.getElem?_eq_some_iff.1 HR7.out).1
  go_wp2
  have hbx := put8_box HR7.out (uwH s)
  have hef := put8_ex HE7.out HR7.out (uwH s)
  have hbf := put8_bel (p := rb) (belT HT7.out HB0.out HBN.out.2) (by have := HRB.out; omega) (uwH s)
  refine bodyPost_ret (v := .tuple #[.agg (frD (uwH s)), .iface 53 (.pointer (some ⟨q, 0, none⟩))]) ?_ rfl ⟨q, (uwH s), rfl, hef, hbf⟩
  obtain ⟨f0, f1, f2, f3, f4, f5, f6, f7⟩ := eight hbx
  simp only [put8, uwH] at f0 f1 f2 f3 f4 f5 f6 f7
  simp [results, Tryd.results25, go_sem, f0, f1, f2, f3, f4, f5, f6, f7, frD, uwH]
set_option maxRecDepth 100000 in
set_option maxHeartbeats 8000000 in
theorem rw_e {s : ByteArray} (w : World) (hs : s.size ≤ 2000) (hn : nvB s = true) (hw : whOk s = true) (hf : 29 + uwN s ≤ s.size) (he0 : endC s (29 + uwN s) 51 = 0) (hr0 : frB (uwF s) = false) : Calls Tryd.prog 25 #[.string s] w fun e w' => RWno 1 w e w' := by
  have hnv : Hid (nvB s = true) := hn
  have hwo : Hid (whOk s = true) := hw
  have hsz : Hid (s.size ≤ 2000) := hs
  have hnN : Hid ((uwN s : Int) = hdV s 6) := (show (uwN s : Int) = hdV s 6 by have := hdV_b s 6; unfold uwN; omega)
  have hn15 : Hid (uwN s ≤ 1500) := (show uwN s ≤ 1500 by
    have h9 := hw
    unfold whOk at h9
    simp only [Bool.and_eq_true, decide_eq_true_eq] at h9
    have := hdV_b s 6
    unfold uwN
    omega)
  have h29 : Hid (29 ≤ s.size) := (show 29 ≤ s.size by
    have h9 := hw
    unfold whOk at h9
    simp only [Bool.and_eq_true, decide_eq_true_eq] at h9
    exact h9.1)
  have hfit : Hid (29 + uwN s ≤ s.size) := hf
  have hend : Hid (endC s (29 + uwN s) 51 = 0) := he0
  have hfr : Hid (frB (uwF s) = false) := hr0
  clear hf he0 hr0
  clear hn hw hs
  unfold RWno
  have H0 : Hid (Below w.heap.size w (w.alloc (.cells #[.int .i64 0, .int .i64 0, .int .i64 0, .int .i64 0, .int .i64 0, .int .i64 0, .int .i64 0, .string ⟨#[]⟩] 29))) := bx1 _ _
  have HR0 : Hid ((w.alloc (.cells #[.int .i64 0, .int .i64 0, .int .i64 0, .int .i64 0, .int .i64 0, .int .i64 0, .int .i64 0, .string ⟨#[]⟩] 29)).heap[w.heap.size]? = some (.cells #[.int .i64 0, .int .i64 0, .int .i64 0, .int .i64 0, .int .i64 0, .int .i64 0, .int .i64 0, .string ⟨#[]⟩] 29 (0, 0))) := heap_new _ _
  try unfold sTop
  go_enter Tryd.func25, Tryd.ntmps25
  go_upto_region 1 with fail
  generalize (w.alloc (.cells #[.int .i64 0, .int .i64 0, .int .i64 0, .int .i64 0, .int .i64 0, .int .i64 0, .int .i64 0, .string ⟨#[]⟩] 29)) = u0 at *
  generalize hrb : w.heap.size = rb at HR0 ⊢
  have HRB : Hid (w.heap.size = rb) := hrb
  clear hrb
  go_upto_region 2 with fail
  have HT0 : Hid (TR (u0.alloc (.cells #[.string s, .int .i64 0] 79)) (u0.alloc (.cells #[.string s, .int .i64 0] 79)) u0.heap.size s 0) := ⟨heap_new _ _, gb_rf _ _⟩
  have HB0 : Hid (Below w.heap.size w (u0.alloc (.cells #[.string s, .int .i64 0] 79))) := H0.out.trans ((bx1 _ _).mono H0.out.size)
  have HR1 : Hid ((u0.alloc (.cells #[.string s, .int .i64 0] 79)).heap[rb]? = some (.cells #[.int .i64 0, .int .i64 0, .int .i64 0, .int .i64 0, .int .i64 0, .int .i64 0, .int .i64 0, .string ⟨#[]⟩] 29 (0, 0))) := ((bx1 _ _).block _ (Array.getElem?_eq_some_iff.1 HR0.out).1).trans HR0.out
  have HBN : Hid (rb ≠ u0.heap.size ∧ w.heap.size ≤ u0.heap.size) := ⟨by have := (Array.getElem?_eq_some_iff.1 HR0.out).1; omega, H0.out.size⟩
  clear H0 HR0
  generalize (u0.alloc (.cells #[.string s, .int .i64 0] 79)) = u1 at *
  generalize u0.heap.size = b at *
  have HMK : Hid (Calls Tryd.prog 43 #[.pointer (some ⟨b, 0, none⟩), .string ⟨#[78, 86]⟩] u1 fun e w' => e = .returned .nilIface ∧ TR u1 w' b s 2) := (mark_any HT0.out).mono (by rintro e w' (⟨_, rfl, ht⟩ | ⟨h9, _⟩); exact ⟨rfl, ht⟩; exact absurd h9 (by rw [hnv.out]; decide))
  have HWH : Hid (∀ u, TR u1 u b s 2 → Calls Tryd.prog 44 #[.pointer (some ⟨b, 0, none⟩)] u fun e w' => e = .returned (.tuple #[.agg #[.int .i64 0, .int .i64 (hdV s 0), .int .i64 (hdV s 1), .int .i64 (hdV s 2), .int .i64 (hdV s 3), .int .i64 (hdV s 4), .int .i64 (hdV s 5), .string ⟨#[]⟩, .int .i64 (hdV s 6)], .nilIface]) ∧ TR u w' b s 29) := fun u hu => (wrapHead_any hu.same hsz.out (nv_sz hnv.out)).mono (by rintro e w' (⟨_, rfl, ht⟩ | ⟨h9, _⟩); exact ⟨rfl, ht⟩; exact absurd h9 (by rw [hwo.out]; decide))
  go_upto_region 5 with (go_at_call 43; refine Calls.mono HMK.out ?_; rintro e u2 ⟨rfl, ht⟩; have HT2 : Hid (TR u1 u2 b s 2) := ht; clear ht)
  go_upto_region 6 with (go_at_call 44; refine Calls.mono (HWH.out _ HT2.out) ?_; rintro e u3 ⟨rfl, ht⟩; have HT3 : Hid (TR u1 u3 b s 29) := HT2.out.trans ht; clear ht)
  have HT4 : Hid (TR u1 (u3.alloc (.cells #[.int .i64 0, .int .i64 (hdV s 0), .int .i64 (hdV s 1), .int .i64 (hdV s 2), .int .i64 (hdV s 3), .int .i64 (hdV s 4), .int .i64 (hdV s 5), .string ⟨#[]⟩, .int .i64 (hdV s 6)] 42)) b s 29) := HT3.out.step (bx1 _ _)
  have HH4 : Hid ((u3.alloc (.cells #[.int .i64 0, .int .i64 (hdV s 0), .int .i64 (hdV s 1), .int .i64 (hdV s 2), .int .i64 (hdV s 3), .int .i64 (hdV s 4), .int .i64 (hdV s 5), .string ⟨#[]⟩, .int .i64 (hdV s 6)] 42)).heap[u3.heap.size]? = some (.cells #[.int .i64 0, .int .i64 (hdV s 0), .int .i64 (hdV s 1), .int .i64 (hdV s 2), .int .i64 (hdV s 3), .int .i64 (hdV s 4), .int .i64 (hdV s 5), .string ⟨#[]⟩, .int .i64 (hdV s 6)] 42 (0, 0))) := heap_new _ _
  have HHN : Hid (u3.heap.size ≠ b ∧ u3.heap.size ≠ rb ∧ u1.heap.size ≤ u3.heap.size) := ⟨by have := HT3.out.lt; omega, by have := (Array.getElem?_eq_some_iff.1 (rbk HT3.out HR1.out HBN.out.1)).1; omega, HT3.out.gr.size⟩
  generalize (u3.alloc (.cells #[.int .i64 0, .int .i64 (hdV s 0), .int .i64 (hdV s 1), .int .i64 (hdV s 2), .int .i64 (hdV s 3), .int .i64 (hdV s 4), .int .i64 (hdV s 5), .string ⟨#[]⟩, .int .i64 (hdV s 6)] 42)) = u4 at *
  generalize u3.heap.size = hb at *
  have kh := HH4.out
  have k8 : u4.cell? ⟨hb, 8, none⟩ = some (.int .i64 (hdV s 6)) := cel9 kh 8 _ rfl
  have k7 : u4.cell? ⟨hb, 7, none⟩ = some (.string ⟨#[]⟩) := cel9 kh 7 _ rfl
  have kl := (Array.getElem?_eq_some_iff.1 kh).1
  have kf := frz9 kh
  clear kh
  have HBY : Hid (∀ u, TR u1 u b s 29 → Calls Tryd.prog 45 #[.pointer (some ⟨b, 0, none⟩), .int .i64 (hdV s 6)] u fun e w' => e = .returned (.tuple #[.string (s.extract 29 (29 + uwN s)), .nilIface]) ∧ TR u w' b s (29 + uwN s)) := fun u hu => by rw [← hnN.out]; exact bytes_yes hu.same (by have := hsz.out; omega) hfit.out
  go_upto_region 9 with (go_at_call 45; refine Calls.mono (HBY.out _ HT4.out) ?_; rintro e u5 ⟨rfl, ht⟩; have HT5 : Hid (TR u1 u5 b s (29 + uwN s)) := HT4.out.trans ht; have HH5 : Hid (u5.heap[hb]? = some (.cells #[.int .i64 0, .int .i64 (hdV s 0), .int .i64 (hdV s 1), .int .i64 (hdV s 2), .int .i64 (hdV s 3), .int .i64 (hdV s 4), .int .i64 (hdV s 5), .string ⟨#[]⟩, .int .i64 (hdV s 6)] 42 (0, 0))) := (ht.gr.block hb (Array.getElem?_eq_some_iff.1 HH4.out).1 (by simpa using HHN.out.1)).trans HH4.out; clear ht k8 k7 kl kf; have k7 : u5.cell? ⟨hb, 7, none⟩ = some (.string ⟨#[]⟩) := (cel9 HH5.out 7 _ rfl); have kl := (Array.getElem?_eq_some_iff.1 HH5.out).1; have kf := frz9 HH5.out)
  have HT6 : Hid (TR u1 (u5.setCell ⟨hb, 7, none⟩ (.string (s.extract 29 (29 + uwN s)))) b s (29 + uwN s)) := HT5.out.other HHN.out.1 HHN.out.2.2 _ _
  have HH6 : Hid ((u5.setCell ⟨hb, 7, none⟩ (.string (s.extract 29 (29 + uwN s)))).heap[hb]? = some (.cells #[.int .i64 0, .int .i64 (hdV s 0), .int .i64 (hdV s 1), .int .i64 (hdV s 2), .int .i64 (hdV s 3), .int .i64 (hdV s 4), .int .i64 (hdV s 5), .string (s.extract 29 (29 + uwN s)), .int .i64 (hdV s 6)] 42 (0, 0))) := blk9 HH5.out _
  generalize (u5.setCell ⟨hb, 7, none⟩ (.string (s.extract 29 (29 + uwN s)))) = u6 at *
  clear k7 kl kf HH5 HT5
  have HEN : Hid (∀ u, TR u1 u b s (29 + uwN s) → Calls Tryd.prog 46 #[.pointer (some ⟨b, 0, none⟩), .int .i64 51] u fun e w' => ∃ a', TR u w' b s a' ∧ e = .returned .nilIface) := fun u hu => (end_any hu.same (by have := hsz.out; omega) hfit.out 51).mono (by rintro e w' ⟨a', ht, (⟨h9, rfl⟩ | ⟨h9, q, rfl, he⟩)⟩ <;> first | exact ⟨a', ht, rfl⟩ | exact absurd h9 (by first | exact hend.out | (rw [hend.out]; decide) | (intro h8; exact h8 hend.out)))
  go_upto_region 12 with (go_at_call 46; refine Calls.mono (HEN.out _ HT6.out) ?_; rintro e u7 ⟨a7, ht, rfl⟩; have HT7 : Hid (TR u1 u7 b s a7) := HT6.out.trans ht; have HH7 : Hid (u7.heap[hb]? = some (.cells #[.int .i64 0, .int .i64 (hdV s 0), .int .i64 (hdV s 1), .int .i64 (hdV s 2), .int .i64 (hdV s 3), .int .i64 (hdV s 4), .int .i64 (hdV s 5), .string (s.extract 29 (29 + uwN s)), .int .i64 (hdV s 6)] 42 (0, 0))) := (ht.gr.block hb (Array.getElem?_eq_some_iff.1 HH6.out).1 (by simpa using HHN.out.1)).trans HH6.out; clear ht)
  have kh := HH7.out
  have k0 : u7.cell? ⟨hb, 0, none⟩ = some (.int .i64 0) := cel9 kh 0 _ rfl
  have k1 : u7.cell? ⟨hb, 1, none⟩ = some (.int .i64 (hdV s 0)) := cel9 kh 1 _ rfl
  have k2 : u7.cell? ⟨hb, 2, none⟩ = some (.int .i64 (hdV s 1)) := cel9 kh 2 _ rfl
  have k3 : u7.cell? ⟨hb, 3, none⟩ = some (.int .i64 (hdV s 2)) := cel9 kh 3 _ rfl
  have k4 : u7.cell? ⟨hb, 4, none⟩ = some (.int .i64 (hdV s 3)) := cel9 kh 4 _ rfl
  have k5 : u7.cell? ⟨hb, 5, none⟩ = some (.int .i64 (hdV s 4)) := cel9 kh 5 _ rfl
  have k6 : u7.cell? ⟨hb, 6, none⟩ = some (.int .i64 (hdV s 5)) := cel9 kh 6 _ rfl
  have k7 : u7.cell? ⟨hb, 7, none⟩ = some (.string (s.extract 29 (29 + uwN s))) := cel9 kh 7 _ rfl
  have kl := (Array.getElem?_eq_some_iff.1 kh).1
  have kf := frz9 kh
  clear kh
  have HFR : Hid (∀ u, Calls Tryd.prog 14 #[.agg #[.int .i64 (hdV s 3), .int .i64 (hdV s 4), .int .i64 (hdV s 5), .string (s.extract 29 (29 + uwN s))]] u fun e w' => e = .returned (.bool false) ∧ Below u.heap.size u w') := fun u => by have h9 := frRight_any (uwF s) u; rw [hfr.out] at h9; exact h9
  go_upto_region 13 with (go_at_call 14; refine Calls.mono (HFR.out _) ?_; rintro e u8 ⟨rfl, hb8⟩; have HT8 : Hid (TR u1 u8 b s a7) := HT7.out.step hb8; have HH8 : Hid (u8.heap[hb]? = some (.cells #[.int .i64 0, .int .i64 (hdV s 0), .int .i64 (hdV s 1), .int .i64 (hdV s 2), .int .i64 (hdV s 3), .int .i64 (hdV s 4), .int .i64 (hdV s 5), .string (s.extract 29 (29 + uwN s)), .int .i64 (hdV s 6)] 42 (0, 0))) := (hb8.block _ (Array.getElem?_eq_some_iff.1 HH7.out).1).trans HH7.out; clear hb8 k0 k1 k2 k3 k4 k5 k6 k7 kl kf)
  have kh := HH8.out
  have k0 : u8.cell? ⟨hb, 0, none⟩ = some (.int .i64 0) := cel9 kh 0 _ rfl
  have k1 : u8.cell? ⟨hb, 1, none⟩ = some (.int .i64 (hdV s 0)) := cel9 kh 1 _ rfl
  have k2 : u8.cell? ⟨hb, 2, none⟩ = some (.int .i64 (hdV s 1)) := cel9 kh 2 _ rfl
  have k3 : u8.cell? ⟨hb, 3, none⟩ = some (.int .i64 (hdV s 2)) := cel9 kh 3 _ rfl
  have k4 : u8.cell? ⟨hb, 4, none⟩ = some (.int .i64 (hdV s 3)) := cel9 kh 4 _ rfl
  have k5 : u8.cell? ⟨hb, 5, none⟩ = some (.int .i64 (hdV s 4)) := cel9 kh 5 _ rfl
  have k6 : u8.cell? ⟨hb, 6, none⟩ = some (.int .i64 (hdV s 5)) := cel9 kh 6 _ rfl
  have k7 : u8.cell? ⟨hb, 7, none⟩ = some (.string (s.extract 29 (29 + uwN s))) := cel9 kh 7 _ rfl
  have kl := (Array.getElem?_eq_some_iff.1 kh).1
  have kf := frz9 kh
  clear kh
  go_upto_region 14 with fail
  have HT9 : Hid (TR u1 (u8.alloc (.cells #[.int .i64 1, .int .i64 0] 57)) b s a7) := HT8.out.step (bx1 _ _)
  have HE9 : Hid (EX (u8.alloc (.cells #[.int .i64 1, .int .i64 0] 57)) u8.heap.size 1) := EX.new _ _ _
  have HH9 : Hid ((u8.alloc (.cells #[.int .i64 1, .int .i64 0] 57)).heap[hb]? = some (.cells #[.int .i64 0, .int .i64 (hdV s 0), .int .i64 (hdV s 1), .int .i64 (hdV s 2), .int .i64 (hdV s 3), .int .i64 (hdV s 4), .int .i64 (hdV s 5), .string (s.extract 29 (29 + uwN s)), .int .i64 (hdV s 6)] 42 (0, 0))) := ((bx1 _ _).block _ (Array.getElem?_eq_some_iff.1 HH8.out).1).trans HH8.out
  generalize (u8.alloc (.cells #[.int .i64 1, .int .i64 0] 57)) = u9 at *
  generalize u8.heap.size = q at *
  clear k0 k1 k2 k3 k4 k5 k6 k7 kl kf
  have kh := HH9.out
  have k0 : u9.cell? ⟨hb, 0, none⟩ = some (.int .i64 0) := cel9 kh 0 _ rfl
  have k1 : u9.cell? ⟨hb, 1, none⟩ = some (.int .i64 (hdV s 0)) := cel9 kh 1 _ rfl
  have k2 : u9.cell? ⟨hb, 2, none⟩ = some (.int .i64 (hdV s 1)) := cel9 kh 2 _ rfl
  have k3 : u9.cell? ⟨hb, 3, none⟩ = some (.int .i64 (hdV s 2)) := cel9 kh 3 _ rfl
  have k4 : u9.cell? ⟨hb, 4, none⟩ = some (.int .i64 (hdV s 3)) := cel9 kh 4 _ rfl
  have k5 : u9.cell? ⟨hb, 5, none⟩ = some (.int .i64 (hdV s 4)) := cel9 kh 5 _ rfl
  have k6 : u9.cell? ⟨hb, 6, none⟩ = some (.int .i64 (hdV s 5)) := cel9 kh 6 _ rfl
  have k7 : u9.cell? ⟨hb, 7, none⟩ = some (.string (s.extract 29 (29 + uwN s))) := cel9 kh 7 _ rfl
  have kl := (Array.getElem?_eq_some_iff.1 kh).1
  have kf := frz9 kh
  clear kh
  have HR9 : Hid _ := rbk HT9.out HR1.out HBN.out.1
  obtain ⟨g0, g1, g2, g3, g4, g5, g6, g7⟩ := eight (z := hd0) HR9.out
  simp only [hd0] at g0 g1 g2 g3 g4 g5 g6 g7
  have gf := frz9 HR9.out
  have gl := (Array.getElem?_eq_some_iff.1 HR9.out).1
  go_wp2
  have hbx := put8_box HR9.out (uwH s)
  have hef := put8_ex HE9.out HR9.out (uwH s)
  have hbf := put8_bel (p := rb) (belT HT9.out HB0.out HBN.out.2) (by have := HRB.out; omega) (uwH s)
  refine bodyPost_ret (v := .tuple #[.agg (frD (uwH s)), .iface 53 (.pointer (some ⟨q, 0, none⟩))]) ?_ rfl ⟨q, (uwH s), rfl, hef, hbf⟩
  obtain ⟨f0, f1, f2, f3, f4, f5, f6, f7⟩ := eight hbx
  simp only [put8, uwH] at f0 f1 f2 f3 f4 f5 f6 f7
  simp [results, Tryd.results25, go_sem, f0, f1, f2, f3, f4, f5, f6, f7, frD, uwH]
set_option maxRecDepth 100000 in
set_option maxHeartbeats 8000000 in
theorem rw_f {s : ByteArray} (w : World) (hs : s.size ≤ 2000) (hn : nvB s = true) (hw : whOk s = true) (hf : 29 + uwN s ≤ s.size) (he0 : endC s (29 + uwN s) 51 = 0) (hr0 : frB (uwF s) = true) : Calls Tryd.prog 25 #[.string s] w fun e w' => RWok s w e w' := by
  have hnv : Hid (nvB s = true) := hn
  have hwo : Hid (whOk s = true) := hw
  have hsz : Hid (s.size ≤ 2000) := hs
  have hnN : Hid ((uwN s : Int) = hdV s 6) := (show (uwN s : Int) = hdV s 6 by have := hdV_b s 6; unfold uwN; omega)
  have hn15 : Hid (uwN s ≤ 1500) := (show uwN s ≤ 1500 by
    have h9 := hw
    unfold whOk at h9
    simp only [Bool.and_eq_true, decide_eq_true_eq] at h9
    have := hdV_b s 6
    unfold uwN
    omega)
  have h29 : Hid (29 ≤ s.size) := (show 29 ≤ s.size by
    have h9 := hw
    unfold whOk at h9
    simp only [Bool.and_eq_true, decide_eq_true_eq] at h9
    exact h9.1)
  have hfit : Hid (29 + uwN s ≤ s.size) := hf
  have hend : Hid (endC s (29 + uwN s) 51 = 0) := he0
  have hfr : Hid (frB (uwF s) = true) := hr0
  clear hf he0 hr0
  clear hn hw hs
  unfold RWok
  have H0 : Hid (Below w.heap.size w (w.alloc (.cells #[.int .i64 0, .int .i64 0, .int .i64 0, .int .i64 0, .int .i64 0, .int .i64 0, .int .i64 0, .string ⟨#[]⟩] 29))) := bx1 _ _
  have HR0 : Hid ((w.alloc (.cells #[.int .i64 0, .int .i64 0, .int .i64 0, .int .i64 0, .int .i64 0, .int .i64 0, .int .i64 0, .string ⟨#[]⟩] 29)).heap[w.heap.size]? = some (.cells #[.int .i64 0, .int .i64 0, .int .i64 0, .int .i64 0, .int .i64 0, .int .i64 0, .int .i64 0, .string ⟨#[]⟩] 29 (0, 0))) := heap_new _ _
  try unfold sTop
  go_enter Tryd.func25, Tryd.ntmps25
  go_upto_region 1 with fail
  generalize (w.alloc (.cells #[.int .i64 0, .int .i64 0, .int .i64 0, .int .i64 0, .int .i64 0, .int .i64 0, .int .i64 0, .string ⟨#[]⟩] 29)) = u0 at *
  generalize hrb : w.heap.size = rb at HR0 ⊢
  have HRB : Hid (w.heap.size = rb) := hrb
  clear hrb
  go_upto_region 2 with fail
  have HT0 : Hid (TR (u0.alloc (.cells #[.string s, .int .i64 0] 79)) (u0.alloc (.cells #[.string s, .int .i64 0] 79)) u0.heap.size s 0) := ⟨heap_new _ _, gb_rf _ _⟩
  have HB0 : Hid (Below w.heap.size w (u0.alloc (.cells #[.string s, .int .i64 0] 79))) := H0.out.trans ((bx1 _ _).mono H0.out.size)
  have HR1 : Hid ((u0.alloc (.cells #[.string s, .int .i64 0] 79)).heap[rb]? = some (.cells #[.int .i64 0, .int .i64 0, .int .i64 0, .int .i64 0, .int .i64 0, .int .i64 0, .int .i64 0, .string ⟨#[]⟩] 29 (0, 0))) := ((bx1 _ _).block _ (Array.getElem?_eq_some_iff.1 HR0.out).1).trans HR0.out
  have HBN : Hid (rb ≠ u0.heap.size ∧ w.heap.size ≤ u0.heap.size) := ⟨by have := (Array.getElem?_eq_some_iff.1 HR0.out).1; omega, H0.out.size⟩
  clear H0 HR0
  generalize (u0.alloc (.cells #[.string s, .int .i64 0] 79)) = u1 at *
  generalize u0.heap.size = b at *
  have HMK : Hid (Calls Tryd.prog 43 #[.pointer (some ⟨b, 0, none⟩), .string ⟨#[78, 86]⟩] u1 fun e w' => e = .returned .nilIface ∧ TR u1 w' b s 2) := (mark_any HT0.out).mono (by rintro e w' (⟨_, rfl, ht⟩ | ⟨h9, _⟩); exact ⟨rfl, ht⟩; exact absurd h9 (by rw [hnv.out]; decide))
  have HWH : Hid (∀ u, TR u1 u b s 2 → Calls Tryd.prog 44 #[.pointer (some ⟨b, 0, none⟩)] u fun e w' => e = .returned (.tuple #[.agg #[.int .i64 0, .int .i64 (hdV s 0), .int .i64 (hdV s 1), .int .i64 (hdV s 2), .int .i64 (hdV s 3), .int .i64 (hdV s 4), .int .i64 (hdV s 5), .string ⟨#[]⟩, .int .i64 (hdV s 6)], .nilIface]) ∧ TR u w' b s 29) := fun u hu => (wrapHead_any hu.same hsz.out (nv_sz hnv.out)).mono (by rintro e w' (⟨_, rfl, ht⟩ | ⟨h9, _⟩); exact ⟨rfl, ht⟩; exact absurd h9 (by rw [hwo.out]; decide))
  go_upto_region 5 with (go_at_call 43; refine Calls.mono HMK.out ?_; rintro e u2 ⟨rfl, ht⟩; have HT2 : Hid (TR u1 u2 b s 2) := ht; clear ht)
  go_upto_region 6 with (go_at_call 44; refine Calls.mono (HWH.out _ HT2.out) ?_; rintro e u3 ⟨rfl, ht⟩; have HT3 : Hid (TR u1 u3 b s 29) := HT2.out.trans ht; clear ht)
  have HT4 : Hid (TR u1 (u3.alloc (.cells #[.int .i64 0, .int .i64 (hdV s 0), .int .i64 (hdV s 1), .int .i64 (hdV s 2), .int .i64 (hdV s 3), .int .i64 (hdV s 4), .int .i64 (hdV s 5), .string ⟨#[]⟩, .int .i64 (hdV s 6)] 42)) b s 29) := HT3.out.step (bx1 _ _)
  have HH4 : Hid ((u3.alloc (.cells #[.int .i64 0, .int .i64 (hdV s 0), .int .i64 (hdV s 1), .int .i64 (hdV s 2), .int .i64 (hdV s 3), .int .i64 (hdV s 4), .int .i64 (hdV s 5), .string ⟨#[]⟩, .int .i64 (hdV s 6)] 42)).heap[u3.heap.size]? = some (.cells #[.int .i64 0, .int .i64 (hdV s 0), .int .i64 (hdV s 1), .int .i64 (hdV s 2), .int .i64 (hdV s 3), .int .i64 (hdV s 4), .int .i64 (hdV s 5), .string ⟨#[]⟩, .int .i64 (hdV s 6)] 42 (0, 0))) := heap_new _ _
  have HHN : Hid (u3.heap.size ≠ b ∧ u3.heap.size ≠ rb ∧ u1.heap.size ≤ u3.heap.size) := ⟨by have := HT3.out.lt; omega, by have := (Array.getElem?_eq_some_iff.1 (rbk HT3.out HR1.out HBN.out.1)).1; omega, HT3.out.gr.size⟩
  generalize (u3.alloc (.cells #[.int .i64 0, .int .i64 (hdV s 0), .int .i64 (hdV s 1), .int .i64 (hdV s 2), .int .i64 (hdV s 3), .int .i64 (hdV s 4), .int .i64 (hdV s 5), .string ⟨#[]⟩, .int .i64 (hdV s 6)] 42)) = u4 at *
  generalize u3.heap.size = hb at *
  have kh := HH4.out
  have k8 : u4.cell? ⟨hb, 8, none⟩ = some (.int .i64 (hdV s 6)) := cel9 kh 8 _ rfl
  have k7 : u4.cell? ⟨hb, 7, none⟩ = some (.string ⟨#[]⟩) := cel9 kh 7 _ rfl
  have kl := (Array.getElem?_eq_some_iff.1 kh).1
  have kf := frz9 kh
  clear kh
  have HBY : Hid (∀ u, TR u1 u b s 29 → Calls Tryd.prog 45 #[.pointer (some ⟨b, 0, none⟩), .int .i64 (hdV s 6)] u fun e w' => e = .returned (.tuple #[.string (s.extract 29 (29 + uwN s)), .nilIface]) ∧ TR u w' b s (29 + uwN s)) := fun u hu => by rw [← hnN.out]; exact bytes_yes hu.same (by have := hsz.out; omega) hfit.out
  go_upto_region 9 with (go_at_call 45; refine Calls.mono (HBY.out _ HT4.out) ?_; rintro e u5 ⟨rfl, ht⟩; have HT5 : Hid (TR u1 u5 b s (29 + uwN s)) := HT4.out.trans ht; have HH5 : Hid (u5.heap[hb]? = some (.cells #[.int .i64 0, .int .i64 (hdV s 0), .int .i64 (hdV s 1), .int .i64 (hdV s 2), .int .i64 (hdV s 3), .int .i64 (hdV s 4), .int .i64 (hdV s 5), .string ⟨#[]⟩, .int .i64 (hdV s 6)] 42 (0, 0))) := (ht.gr.block hb (Array.getElem?_eq_some_iff.1 HH4.out).1 (by simpa using HHN.out.1)).trans HH4.out; clear ht k8 k7 kl kf; have k7 : u5.cell? ⟨hb, 7, none⟩ = some (.string ⟨#[]⟩) := (cel9 HH5.out 7 _ rfl); have kl := (Array.getElem?_eq_some_iff.1 HH5.out).1; have kf := frz9 HH5.out)
  have HT6 : Hid (TR u1 (u5.setCell ⟨hb, 7, none⟩ (.string (s.extract 29 (29 + uwN s)))) b s (29 + uwN s)) := HT5.out.other HHN.out.1 HHN.out.2.2 _ _
  have HH6 : Hid ((u5.setCell ⟨hb, 7, none⟩ (.string (s.extract 29 (29 + uwN s)))).heap[hb]? = some (.cells #[.int .i64 0, .int .i64 (hdV s 0), .int .i64 (hdV s 1), .int .i64 (hdV s 2), .int .i64 (hdV s 3), .int .i64 (hdV s 4), .int .i64 (hdV s 5), .string (s.extract 29 (29 + uwN s)), .int .i64 (hdV s 6)] 42 (0, 0))) := blk9 HH5.out _
  generalize (u5.setCell ⟨hb, 7, none⟩ (.string (s.extract 29 (29 + uwN s)))) = u6 at *
  clear k7 kl kf HH5 HT5
  have HEN : Hid (∀ u, TR u1 u b s (29 + uwN s) → Calls Tryd.prog 46 #[.pointer (some ⟨b, 0, none⟩), .int .i64 51] u fun e w' => ∃ a', TR u w' b s a' ∧ e = .returned .nilIface) := fun u hu => (end_any hu.same (by have := hsz.out; omega) hfit.out 51).mono (by rintro e w' ⟨a', ht, (⟨h9, rfl⟩ | ⟨h9, q, rfl, he⟩)⟩ <;> first | exact ⟨a', ht, rfl⟩ | exact absurd h9 (by first | exact hend.out | (rw [hend.out]; decide) | (intro h8; exact h8 hend.out)))
  go_upto_region 12 with (go_at_call 46; refine Calls.mono (HEN.out _ HT6.out) ?_; rintro e u7 ⟨a7, ht, rfl⟩; have HT7 : Hid (TR u1 u7 b s a7) := HT6.out.trans ht; have HH7 : Hid (u7.heap[hb]? = some (.cells #[.int .i64 0, .int .i64 (hdV s 0), .int .i64 (hdV s 1), .int .i64 (hdV s 2), .int .i64 (hdV s 3), .int .i64 (hdV s 4), .int .i64 (hdV s 5), .string (s.extract 29 (29 + uwN s)), .int .i64 (hdV s 6)] 42 (0, 0))) := (ht.gr.block hb (Array.getElem?_eq_some_iff.1 HH6.out).1 (by simpa using HHN.out.1)).trans HH6.out; clear ht)
  have kh := HH7.out
  have k0 : u7.cell? ⟨hb, 0, none⟩ = some (.int .i64 0) := cel9 kh 0 _ rfl
  have k1 : u7.cell? ⟨hb, 1, none⟩ = some (.int .i64 (hdV s 0)) := cel9 kh 1 _ rfl
  have k2 : u7.cell? ⟨hb, 2, none⟩ = some (.int .i64 (hdV s 1)) := cel9 kh 2 _ rfl
  have k3 : u7.cell? ⟨hb, 3, none⟩ = some (.int .i64 (hdV s 2)) := cel9 kh 3 _ rfl
  have k4 : u7.cell? ⟨hb, 4, none⟩ = some (.int .i64 (hdV s 3)) := cel9 kh 4 _ rfl
  have k5 : u7.cell? ⟨hb, 5, none⟩ = some (.int .i64 (hdV s 4)) := cel9 kh 5 _ rfl
  have k6 : u7.cell? ⟨hb, 6, none⟩ = some (.int .i64 (hdV s 5)) := cel9 kh 6 _ rfl
  have k7 : u7.cell? ⟨hb, 7, none⟩ = some (.string (s.extract 29 (29 + uwN s))) := cel9 kh 7 _ rfl
  have kl := (Array.getElem?_eq_some_iff.1 kh).1
  have kf := frz9 kh
  clear kh
  have HFR : Hid (∀ u, Calls Tryd.prog 14 #[.agg #[.int .i64 (hdV s 3), .int .i64 (hdV s 4), .int .i64 (hdV s 5), .string (s.extract 29 (29 + uwN s))]] u fun e w' => e = .returned (.bool true) ∧ Below u.heap.size u w') := fun u => by have h9 := frRight_any (uwF s) u; rw [hfr.out] at h9; exact h9
  go_upto_region 14 with (go_at_call 14; refine Calls.mono (HFR.out _) ?_; rintro e u8 ⟨rfl, hb8⟩; have HT8 : Hid (TR u1 u8 b s a7) := HT7.out.step hb8; have HH8 : Hid (u8.heap[hb]? = some (.cells #[.int .i64 0, .int .i64 (hdV s 0), .int .i64 (hdV s 1), .int .i64 (hdV s 2), .int .i64 (hdV s 3), .int .i64 (hdV s 4), .int .i64 (hdV s 5), .string (s.extract 29 (29 + uwN s)), .int .i64 (hdV s 6)] 42 (0, 0))) := (hb8.block _ (Array.getElem?_eq_some_iff.1 HH7.out).1).trans HH7.out; clear hb8 k0 k1 k2 k3 k4 k5 k6 k7 kl kf)
  have kh := HH8.out
  have k0 : u8.cell? ⟨hb, 0, none⟩ = some (.int .i64 0) := cel9 kh 0 _ rfl
  have k1 : u8.cell? ⟨hb, 1, none⟩ = some (.int .i64 (hdV s 0)) := cel9 kh 1 _ rfl
  have k2 : u8.cell? ⟨hb, 2, none⟩ = some (.int .i64 (hdV s 1)) := cel9 kh 2 _ rfl
  have k3 : u8.cell? ⟨hb, 3, none⟩ = some (.int .i64 (hdV s 2)) := cel9 kh 3 _ rfl
  have k4 : u8.cell? ⟨hb, 4, none⟩ = some (.int .i64 (hdV s 3)) := cel9 kh 4 _ rfl
  have k5 : u8.cell? ⟨hb, 5, none⟩ = some (.int .i64 (hdV s 4)) := cel9 kh 5 _ rfl
  have k6 : u8.cell? ⟨hb, 6, none⟩ = some (.int .i64 (hdV s 5)) := cel9 kh 6 _ rfl
  have k7 : u8.cell? ⟨hb, 7, none⟩ = some (.string (s.extract 29 (29 + uwN s))) := cel9 kh 7 _ rfl
  have kl := (Array.getElem?_eq_some_iff.1 kh).1
  have kf := frz9 kh
  clear kh
  have HR8 : Hid _ := rbk HT8.out HR1.out HBN.out.1
  obtain ⟨g0, g1, g2, g3, g4, g5, g6, g7⟩ := eight (z := hd0) HR8.out
  simp only [hd0] at g0 g1 g2 g3 g4 g5 g6 g7
  have gf := frz9 HR8.out
  have gl := (Array.getElem?_eq_some_iff.1 HR8.out).1
  go_wp2
  have hbx := put8_box HR8.out (uwH s)
  have hbf := put8_bel (p := rb) (belT HT8.out HB0.out HBN.out.2) (by have := HRB.out; omega) (uwH s)
  refine bodyPost_ret (v := .tuple #[.agg (frD (uwH s)), .nilIface]) ?_ rfl ⟨rfl, hbf⟩
  obtain ⟨f0, f1, f2, f3, f4, f5, f6, f7⟩ := eight hbx
  simp only [put8, uwH] at f0 f1 f2 f3 f4 f5 f6 f7
  simp [results, Tryd.results25, go_sem, f0, f1, f2, f3, f4, f5, f6, f7, frD, uwH]
end Go.Proofs.YtmmodmanfoipiaaDoor
