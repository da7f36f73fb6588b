import Derived.Test.YtegcbghhcidcaaaDoorDt1b
namespace Go.Proofs.YtegcbghhcidcaaaDoor
open Go.ChangeShapes Go.WideShapes Go.ChangeAt Go.RowKit

def KBool (v : Value) : Prop := ∃ b : Bool, v = .bool b
def KCk (v : Value) : Prop := ∃ (h g n d : Int) (f : Bool), d ≤ 7 ∧ v = .agg #[.int .i64 h, .int .i64 g, .int .i64 n, .int .i64 d, .int .i64 0, .bool f, .slice none 0 0]
def KBoxC (B : Nat) (v : Value) (u : World) : Prop := ∃ p, v = .pointer (some ⟨p, 0, none⟩) ∧ B ≤ p ∧ u.heap[p]? = some (.cells #[.int .i64 0, .int .i64 0, .int .i64 0, .int .i64 0, .int .i64 0, .bool false, .slice none 0 0] 25 (0, 0))
theorem KBoxC.grow {B b : Nat} {v : Value} {u u' : World} (h : KBoxC B v u) (hb : b < B) (hg : u.grownBy u' (some b)) : KBoxC B v u' := by
  obtain ⟨p, h1, h2, h3⟩ := h
  exact ⟨p, h1, h2, (hg.block p (Array.getElem?_eq_some_iff.1 h3).1 (by simp; omega)).trans h3⟩
structure CkR (B0 B : Nat) (w : World) (a : Option Addr) (len cap : Nat) (b0 b1 b2 b3 b4 b5 b6 b7 b8 b9 b10 b11 b12 b13 b14 b15 b16 b17 b18 : Bool) (v5 v6 v7 v8 v9 v10 v11 v12 v13 v14 v15 v16 v17 v18 v19 v20 v21 v3 : Value) (u : World) : Prop where
  lt : B0 < B
  le : B ≤ w.heap.size
  src : SrcOk u B0 a len cap
  gr : w.grownBy u (some B0)
  c0 : b0 = true → KSrc B0 v5
  c1 : b1 = true → KNum 0 49 v6
  c2 : b2 = true → KSrc B0 v7
  c3 : b3 = true → KNum 0 49 v8
  c4 : b4 = true → KLit B [1, 1, 2, 3, 0] v9 u
  c5 : b5 = true → KSrc B0 v10
  c6 : b6 = true → KNum 0 4 v11
  c7 : b7 = true → KPtr B [1, 1, 2, 3, 0] v12 u
  c8 : b8 = true → KNum 0 3 v13
  c9 : b9 = true → KLit B [1, 1, 2, 7] v14 u
  c10 : b10 = true → KSrc B0 v15
  c11 : b11 = true → KNum 0 3 v16
  c12 : b12 = true → KPtr B [1, 1, 2, 7] v17 u
  c13 : b13 = true → KNum 1 7 v18
  c14 : b14 = true → KSrc B0 v19
  c15 : b15 = true → KBool v20
  c16 : b16 = true → KCk v21
  c17 : b17 = true → KBoxC B v3 u
set_option maxRecDepth 100000 in
set_option maxHeartbeats 16000000 in
theorem src_clock (B0 : Nat) (a : Option Addr) (len cap : Nat) (w : World) (h : SrcOk w B0 a len cap) :
    Calls Tryd.prog 18 #[.pointer (some ⟨B0, 0, none⟩)] w fun e w' => ∃ (c : CK) (ax : Option Addr) (n kx : Nat), e = .returned (ckA c (.slice ax n kx)) ∧ n ≤ 10 ∧ (∃ ys, w'.ownsRow (w.heap.size + 1) 34 3 (.slice ax n kx) n ys) ∧ SrcOk w' B0 a len cap ∧ w.grownBy w' (some B0) := by
  have hlt := h.lt
  have HS : Hid (SrcOk (w.alloc (.cells #[.int .i64 0, .int .i64 0, .int .i64 0, .int .i64 0, .int .i64 0, .bool false, .slice none 0 0] 25)) B0 a len cap) := h.far (World.grownBy_alloc _ _ none)
  have HGW : Hid (w.grownBy (w.alloc (.cells #[.int .i64 0, .int .i64 0, .int .i64 0, .int .i64 0, .int .i64 0, .bool false, .slice none 0 0] 25)) (some B0)) := gAl
  have HR0 : Hid ((w.alloc (.cells #[.int .i64 0, .int .i64 0, .int .i64 0, .int .i64 0, .int .i64 0, .bool false, .slice none 0 0] 25)).heap[w.heap.size]? = some (.cells #[.int .i64 0, .int .i64 0, .int .i64 0, .int .i64 0, .int .i64 0, .bool false, .slice none 0 0] 25 (0, 0))) := (MapKept.heap_alloc w _).1
  have HSZ : Hid ((w.alloc (.cells #[.int .i64 0, .int .i64 0, .int .i64 0, .int .i64 0, .int .i64 0, .bool false, .slice none 0 0] 25)).heap.size = w.heap.size + 1) := (show _ = _ by simp)
  clear h
  go_enter Tryd.func18, Tryd.ntmps18
  go_wp2_with fail
  generalize w.alloc (.cells #[.int .i64 0, .int .i64 0, .int .i64 0, .int .i64 0, .int .i64 0, .bool false, .slice none 0 0] 25) = W at *
  refine wp_region_any (by kernel_rfl) ?_
  refine wpAny_inv (fun L a9 u => ∃ (b0 b1 b2 b3 b4 b5 b6 b7 b8 b9 b10 b11 b12 b13 b14 b15 b16 b17 b18 : Bool) (v5 v6 v7 v8 v9 v10 v11 v12 v13 v14 v15 v16 v17 v18 v19 v20 v21 v3 : Value), L = #[b0, b1, b2, b3, b4, b5, b6, b7, b8, b9, b10, b11, b12, b13, b14, b15, b16, b17, b18] ∧ a9 = { tmps := ((.pointer (some ⟨B0, 0, none⟩)) :: (undef) :: (.pointer (some ⟨w.heap.size, 0, none⟩)) :: (v3) :: (undef) :: (v5) :: (v6) :: (v7) :: (v8) :: (v9) :: (v10) :: (v11) :: (v12) :: (v13) :: (v14) :: (v15) :: (v16) :: (v17) :: (v18) :: (v19) :: (v20) :: (v21) :: (undef) :: (undef) :: (undef) :: (undef) :: (undef) :: (undef) :: (undef) :: (undef) :: (undef) :: (undef) :: (undef) :: (undef) :: (undef) :: (undef) :: (undef) :: (undef) :: (undef) :: (undef) :: (undef) :: []).toArray, defers := [] } ∧ ((b18 = false ∧ CkR B0 W.heap.size W a len cap b0 b1 b2 b3 b4 b5 b6 b7 b8 b9 b10 b11 b12 b13 b14 b15 b16 b17 b18 v5 v6 v7 v8 v9 v10 v11 v12 v13 v14 v15 v16 v17 v18 v19 v20 v21 v3 u) ∨ (b0 = true ∧ b1 = true ∧ b2 = true ∧ b3 = true ∧ b4 = true ∧ b5 = true ∧ b6 = true ∧ b7 = true ∧ b8 = true ∧ b9 = true ∧ b10 = true ∧ b11 = true ∧ b12 = true ∧ b13 = true ∧ b14 = true ∧ b15 = true ∧ b16 = true ∧ b17 = true ∧ b18 = true ∧ ∃ (p : Nat) (c : CK), v3 = .pointer (some ⟨p, 0, none⟩) ∧ c.den ≤ 7 ∧ CB B0 a len cap w p c (.slice none 0 0) 0 u))) ?hs ?hd _ _ _ _ (by decide) ?st
  case st => exact ⟨false, false, false, false, false, false, false, false, false, false, false, false, false, false, false, false, false, false, false, undef, undef, undef, undef, undef, undef, undef, undef, undef, undef, undef, undef, undef, undef, undef, undef, undef, undef, rfl, rfl, .inl ⟨rfl, ⟨by have := HSZ.out; omega, Nat.le_refl _, HS.out.bel (Below.refl _ _).drew, ⟨rfl, rfl, rfl, Nat.le_refl _, fun _ _ _ => rfl⟩, (fun e => by cases e), (fun e => by cases e), (fun e => by cases e), (fun e => by cases e), (fun e => by cases e), (fun e => by cases e), (fun e => by cases e), (fun e => by cases e), (fun e => by cases e), (fun e => by cases e), (fun e => by cases e), (fun e => by cases e), (fun e => by cases e), (fun e => by cases e), (fun e => by cases e), (fun e => by cases e), (fun e => by cases e), (fun e => by cases e)⟩⟩⟩
  case hd =>
    rintro L a9 u ⟨b0, b1, b2, b3, b4, b5, b6, b7, b8, b9, b10, b11, b12, b13, b14, b15, b16, b17, b18, v5, v6, v7, v8, v9, v10, v11, v12, v13, v14, v15, v16, v17, v18, v19, v20, v21, v3, rfl, rfl, hI⟩ hr
    have hall := fun he hL => all_up (md := _) he hL hr
    have hall2 := hall (by kernel_rfl) rfl
    rcases hI with ⟨rfl, hI⟩ | ⟨rfl, rfl, rfl, rfl, rfl, rfl, rfl, rfl, rfl, rfl, rfl, rfl, rfl, rfl, rfl, rfl, rfl, rfl, rfl, p, c, rfl, hd7, hM⟩
    · exact Bool.noConfusion (show false = true from hall2 18 (by decide))
    have HM1 : Hid (CB B0 a len cap w p c (.slice none 0 0) 0 u) := hM
    clear hM hr hall hall2 HS
    obtain ⟨k0, k1, k2, k3, k4, k5, k6, kf⟩ := HM1.out.box.cel
    have kl := HM1.out.box.lt
    have HTM : Hid (∀ u9, SrcOk u9 B0 a len cap → Calls Tryd.prog 21 #[.pointer (some ⟨B0, 0, none⟩)] u9 fun e w' => ∃ m0 m1 m2 : Int, e = .returned (.agg #[.int .i64 m0, .int .i64 m1, .int .i64 m2]) ∧ SrcOk w' B0 a len cap ∧ u9.grownBy w' (some B0)) := fun u9 h9 => (src_timer B0 a len cap u9 h9).mono (by rintro e w' ⟨m, rfl, hs, hg⟩; exact ⟨m.due, m.period, m.policy, rfl, hs, hg⟩)
    go_upto_region 3 with (go_at_call 20; refine (src_n B0 a len cap c.den u HM1.out.src (by omega)).mono ?_; rintro e u2 ⟨r2, rfl, _, _, hs2, hg2⟩; have HM2 : Hid (CB B0 a len cap w p c (.slice none 0 0) 0 u2) := HM1.out.step hs2 hg2; clear hs2 hg2 HM1 k0 k1 k2 k3 k4 k5 k6 kf kl; obtain ⟨k0, k1, k2, k3, k4, k5, k6, kf⟩ := HM2.out.box.cel; have kl := HM2.out.box.lt)
    have HM3 : Hid (CB B0 a len cap w p { c with part := r2 } (.slice none 0 0) 0 (u2.setCell ⟨p, 4, none⟩ (.int .i64 r2))) := HM2.out.put4 r2
    generalize (u2.setCell ⟨p, 4, none⟩ (.int .i64 r2)) = u3 at *
    generalize ({ c with part := r2 } : CK) = c3 at *
    clear HM2 k0 k1 k2 k3 k4 k5 k6 kf kl hd7
    go_wp2_with (go_at_call 20; refine (src_n B0 a len cap 4 u3 HM3.out.src (by omega)).mono ?_; rintro e u4 ⟨r4, rfl, r40, r41, hs4, hg4⟩; have HM4 : Hid (CB B0 a len cap w p c3 (.slice none 0 0) 0 u4) := HM3.out.step hs4 hg4; clear hs4 hg4 HM3)
    have r42 : r4 ≤ 3 := by omega
    go_loopw [4] (fun k wr => ∃ (j n : Nat) (ao : Option Addr) (cp : Nat), k = .int .i64 j ∧ n + j ≤ 3 ∧ CB B0 a len cap w p c3 (.slice ao n cp) n wr) (fun k _ => (intOf k).toNat)
    case atStart => exact ⟨r4.toNat, 0, none, 0, by rw [Int.toNat_of_nonneg r40], by omega, HM4.out⟩
    case round =>
      obtain ⟨j, n, ao, cp, rfl, hj, ht⟩ := hrel
      have HT : Hid (CB B0 a len cap w p c3 (.slice ao n cp) n wr) := ht
      clear ht HM4
      by_cases hj0 : j = 0
      · subst hj0
        obtain ⟨k0, k1, k2, k3, k4, k5, k6, kf⟩ := HT.out.box.cel
        have kl := HT.out.box.lt
        obtain ⟨t0, t1, t2, t3, t4, t5, t6, tf⟩ := cel7 HT.out.res
        have tl := (Array.getElem?_eq_some_iff.1 HT.out.res).1
        go_wp2
        obtain ⟨hb, hrow, hsr, hgr⟩ := HT.out.fin rfl
        obtain ⟨f0, f1, f2, f3, f4, f5, f6, ff⟩ := cel7 hb
        exact bodyPost_ret (v := ckA c3 (.slice ao n cp)) (by simp [results, Tryd.results18, go_sem, ckA, f0, f1, f2, f3, f4, f5, f6]) rfl ⟨c3, ao, n, cp, rfl, by omega, hrow, hsr, hgr⟩
      · have j1 : (0 : Int) < (j : Int) := by omega
        have hj9 : (j : Int) ≤ 3 := by omega
        go_upto_region 6 with fail
        have HD : Hid (CB B0 a len cap w p c3 (.slice ao n cp) n wr.drew) := HT.out.drew
        refine AnyE.start (fun w9 => CW B0 a len cap w p c3 (.slice ao n cp) w9) [7] (by kernel_rfl) ?_
        generalize wr.drew = wd at *
        refine AnyE.take (i := 0) (v := .pointer (some ⟨p, 6, none⟩)) rfl (by kernel_rfl) (by kernel_rfl) (by kernel_rfl) (by kernel_rfl) (by kernel_rfl) (fun _ _ _ h => h) (Or.inl ⟨by kernel_rfl, fun w9 h9 => ?_⟩) HD.out.weak ?_
        · go_simp
        refine AnyE.take (i := 1) (v := .slice ao n cp) rfl (by kernel_rfl) (by kernel_rfl) (by kernel_rfl) (by kernel_rfl) (by kernel_rfl) (fun _ _ _ h => h) (Or.inl ⟨by kernel_rfl, fun w9 h9 => ?_⟩) HD.out.weak ?_
        · obtain ⟨y0, y1, y2, y3, y4, y5, y6, yf⟩ := h9.box.cel; have yl := h9.box.lt; go_simp
        refine AnyE.take (i := 2) (v := .pointer (some ⟨B0, 0, none⟩)) rfl (by kernel_rfl) (by kernel_rfl) (by kernel_rfl) (by kernel_rfl) (by kernel_rfl) (fun _ _ _ h => h) (Or.inl ⟨by kernel_rfl, fun w9 h9 => ?_⟩) HD.out.weak ?_
        · go_simp
        refine AnyE.one 3 (by kernel_rfl) rfl (by kernel_rfl) fun K hK => ?_
        go_simp
        go_wp2_with (go_at_call 21; refine Calls.mono (HTM.out _ HD.out.src) ?_; rintro e u1 ⟨m0, m1, m2, rfl, hs1, hg1⟩; have HD1 : Hid (CB B0 a len cap w p c3 (.slice ao n cp) n u1) := HD.out.step hs1 hg1; clear hs1 hg1)
        refine hK _ _ (fun _ => HD1.out.weak) ?_
        clear hK K
        refine AnyE.one 4 (by kernel_rfl) rfl (by kernel_rfl) fun K hK => ?_
        have HD2 : Hid (CB B0 a len cap w p c3 (.slice ao n cp) n (u1.alloc (.cells #[.int .i64 m0, .int .i64 m1, .int .i64 m2] 34))) := HD1.out.al _
        go_simp
        refine hK _ _ (fun _ => HD2.out.weak) ?_
        clear hK K
        refine AnyE.one 5 (by kernel_rfl) rfl (by kernel_rfl) fun K hK => ?_
        obtain ⟨ys, hown⟩ := HD1.out.own
        have HAP : Hid _ := appTM hown (by omega) (by have := HD1.out.gr.size; have := HD1.out.lo; have := HD1.out.box.lt; omega) m0 m1 m2
        refine wp_append_ex _ _ 23 rfl (.slice ao n cp) (.slice (some ⟨u1.heap.size, 0, none⟩) 1 1) rfl rfl HAP.out ?_
        rintro sv u5 ⟨⟨zs, ho⟩, hg, hbk⟩
        obtain ⟨a5, c5, rfl⟩ := ti_sl ho
        have HA5 : Hid (CW B0 a len cap w p c3 (.slice ao n cp) u5 ∧ CB B0 a len cap w p c3 (.slice a5 (n + 1) c5) (n + 1) (u5.setCell ⟨p, 6, none⟩ (.slice a5 (n + 1) c5))) := HD2.out.app hg ⟨zs, ho⟩ (by simpa using hbk)
        clear ho hg hbk
        refine hK _ _ (fun _ => HA5.out.1) ?_
        clear hK K hown HAP
        refine AnyE.take (i := 6) (v := .pointer (some ⟨p, 6, none⟩)) rfl (by kernel_rfl) (by kernel_rfl) (by kernel_rfl) (by kernel_rfl) (by kernel_rfl) (fun _ _ _ h => h) (Or.inl ⟨by kernel_rfl, fun w9 h9 => ?_⟩) HA5.out.1 ?_
        · go_simp
        obtain ⟨x0, x1, x2, x3, x4, x5, x6, xf⟩ := HA5.out.1.box.cel
        have xl := HA5.out.1.box.lt
        refine AnyE.one 7 (by kernel_rfl) rfl (by kernel_rfl) fun K hK => ?_
        go_simp
        skip
        refine hK _ _ (fun h => absurd (by decide) h) ?_
        clear hK K
        refine AnyE.done (by kernel_rfl) ?_ _
        go_simp
        clear x0 x1 x2 x3 x4 x5 x6 xf xl
        go_wp2
        exact ⟨⟨j - 1, n + 1, _, _, by go_num, by omega, HA5.out.2⟩, by simp [intOf]; omega⟩
  case hs =>
    rintro L a9 u i ⟨b0, b1, b2, b3, b4, b5, b6, b7, b8, b9, b10, b11, b12, b13, b14, b15, b16, b17, b18, v5, v6, v7, v8, v9, v10, v11, v12, v13, v14, v15, v16, v17, v18, v19, v20, v21, v3, rfl, rfl, hI⟩ hi
    obtain ⟨hf, o, ho, hall⟩ := mem_ready.1 hi
    have hi8 : i < 19 := (Array.getElem?_eq_some_iff.1 ho).1
    rcases hI with ⟨rfl, hI⟩ | ⟨rfl, rfl, rfl, rfl, rfl, rfl, rfl, rfl, rfl, rfl, rfl, rfl, rfl, rfl, rfl, rfl, rfl, rfl, rfl, _⟩
    · obtain rfl | rfl | rfl | rfl | rfl | rfl | rfl | rfl | rfl | rfl | rfl | rfl | rfl | rfl | rfl | rfl | rfl | rfl | rfl : i = 0 ∨ i = 1 ∨ i = 2 ∨ i = 3 ∨ i = 4 ∨ i = 5 ∨ i = 6 ∨ i = 7 ∨ i = 8 ∨ i = 9 ∨ i = 10 ∨ i = 11 ∨ i = 12 ∨ i = 13 ∨ i = 14 ∨ i = 15 ∨ i = 16 ∨ i = 17 ∨ i = 18 := by omega
      · obtain rfl : b0 = false := hf
        have HI : Hid _ := hI
        clear hI hall hi
        refine wpOp_step rfl (fun K hK => ?_)
        go_simp
        have h := HI.out
        exact hK _ _ ⟨true, b1, b2, b3, b4, b5, b6, b7, b8, b9, b10, b11, b12, b13, b14, b15, b16, b17, false, _, v6, v7, v8, v9, v10, v11, v12, v13, v14, v15, v16, v17, v18, v19, v20, v21, v3, rfl, rfl, .inl ⟨rfl, ⟨h.lt, h.le, h.src, h.gr, fun _ => rfl, h.c1, h.c2, h.c3, h.c4, h.c5, h.c6, h.c7, h.c8, h.c9, h.c10, h.c11, h.c12, h.c13, h.c14, h.c15, h.c16, h.c17⟩⟩⟩
      · obtain rfl : b1 = false := hf
        cases ho
        have hb0 : b0 = true := hall { on := 0, ground := .data } (by simp) rfl
        have e0 : v5 = .pointer (some ⟨B0, 0, none⟩) := hI.c0 hb0
        subst e0
        have HN : Hid _ := src_n B0 a len cap 50 u hI.src (by omega)
        have HI : Hid _ := hI
        clear hI hall hi
        refine wpOp_step rfl (fun K hK => ?_)
        go_simp
        refine Calls.mono HN.out ?_
        rintro e9 u5 ⟨r, rfl, r0, r1, hs5, hg5⟩
        have h := HI.out
        exact hK _ _ ⟨b0, true, b2, b3, b4, b5, b6, b7, b8, b9, b10, b11, b12, b13, b14, b15, b16, b17, false, _, _, v7, v8, v9, v10, v11, v12, v13, v14, v15, v16, v17, v18, v19, v20, v21, v3, rfl, rfl, .inl ⟨rfl, ⟨h.lt, h.le, hs5, Lib.grownBy_trans h.gr hg5, h.c0, fun _ => ⟨r, rfl, r0, by omega⟩, h.c2, h.c3, fun e => (h.c4 e).grow h.lt hg5, h.c5, h.c6, fun e => (h.c7 e).grow h.lt hg5, h.c8, fun e => (h.c9 e).grow h.lt hg5, h.c10, h.c11, fun e => (h.c12 e).grow h.lt hg5, h.c13, h.c14, h.c15, h.c16, fun e => (h.c17 e).grow h.lt hg5⟩⟩⟩
      · obtain rfl : b2 = false := hf
        have HI : Hid _ := hI
        clear hI hall hi
        refine wpOp_step rfl (fun K hK => ?_)
        go_simp
        have h := HI.out
        exact hK _ _ ⟨b0, b1, true, b3, b4, b5, b6, b7, b8, b9, b10, b11, b12, b13, b14, b15, b16, b17, false, v5, v6, _, v8, v9, v10, v11, v12, v13, v14, v15, v16, v17, v18, v19, v20, v21, v3, rfl, rfl, .inl ⟨rfl, ⟨h.lt, h.le, h.src, h.gr, h.c0, h.c1, fun _ => rfl, h.c3, h.c4, h.c5, h.c6, h.c7, h.c8, h.c9, h.c10, h.c11, h.c12, h.c13, h.c14, h.c15, h.c16, h.c17⟩⟩⟩
      · obtain rfl : b3 = false := hf
        cases ho
        have hb2 : b2 = true := hall { on := 2, ground := .data } (by simp) rfl
        have e2 : v7 = .pointer (some ⟨B0, 0, none⟩) := hI.c2 hb2
        subst e2
        have HN : Hid _ := src_n B0 a len cap 50 u hI.src (by omega)
        have HI : Hid _ := hI
        clear hI hall hi
        refine wpOp_step rfl (fun K hK => ?_)
        go_simp
        refine Calls.mono HN.out ?_
        rintro e9 u5 ⟨r, rfl, r0, r1, hs5, hg5⟩
        have h := HI.out
        exact hK _ _ ⟨b0, b1, b2, true, b4, b5, b6, b7, b8, b9, b10, b11, b12, b13, b14, b15, b16, b17, false, v5, v6, _, _, v9, v10, v11, v12, v13, v14, v15, v16, v17, v18, v19, v20, v21, v3, rfl, rfl, .inl ⟨rfl, ⟨h.lt, h.le, hs5, Lib.grownBy_trans h.gr hg5, h.c0, h.c1, h.c2, fun _ => ⟨r, rfl, r0, by omega⟩, fun e => (h.c4 e).grow h.lt hg5, h.c5, h.c6, fun e => (h.c7 e).grow h.lt hg5, h.c8, fun e => (h.c9 e).grow h.lt hg5, h.c10, h.c11, fun e => (h.c12 e).grow h.lt hg5, h.c13, h.c14, h.c15, h.c16, fun e => (h.c17 e).grow h.lt hg5⟩⟩⟩
      · obtain rfl : b4 = false := hf
        have HI : Hid _ := hI
        clear hI hall hi
        refine wpOp_step rfl (fun K hK => ?_)
        go_simp
        have h := HI.out
        exact hK _ _ ⟨b0, b1, b2, b3, true, b5, b6, b7, b8, b9, b10, b11, b12, b13, b14, b15, b16, b17, false, v5, v6, v7, v8, _, v10, v11, v12, v13, v14, v15, v16, v17, v18, v19, v20, v21, v3, rfl, rfl, .inl ⟨rfl, ⟨h.lt, h.le, h.src.far (World.grownBy_alloc _ _ none), Lib.grownBy_trans h.gr gAl, h.c0, h.c1, h.c2, h.c3, fun _ => ⟨u.heap.size, rfl, Nat.le_trans h.le h.gr.size, (MapKept.heap_alloc u _).1⟩, h.c5, h.c6, fun e => (h.c7 e).grow h.lt gAl, h.c8, fun e => (h.c9 e).grow h.lt gAl, h.c10, h.c11, fun e => (h.c12 e).grow h.lt gAl, h.c13, h.c14, h.c15, h.c16, fun e => (h.c17 e).grow h.lt gAl⟩⟩⟩
      · obtain rfl : b5 = false := hf
        have HI : Hid _ := hI
        clear hI hall hi
        refine wpOp_step rfl (fun K hK => ?_)
        go_simp
        have h := HI.out
        exact hK _ _ ⟨b0, b1, b2, b3, b4, true, b6, b7, b8, b9, b10, b11, b12, b13, b14, b15, b16, b17, false, v5, v6, v7, v8, v9, _, v11, v12, v13, v14, v15, v16, v17, v18, v19, v20, v21, v3, rfl, rfl, .inl ⟨rfl, ⟨h.lt, h.le, h.src, h.gr, h.c0, h.c1, h.c2, h.c3, h.c4, fun _ => rfl, h.c6, h.c7, h.c8, h.c9, h.c10, h.c11, h.c12, h.c13, h.c14, h.c15, h.c16, h.c17⟩⟩⟩
      · obtain rfl : b6 = false := hf
        cases ho
        have hb5 : b5 = true := hall { on := 5, ground := .data } (by simp) rfl
        have e5 : v10 = .pointer (some ⟨B0, 0, none⟩) := hI.c5 hb5
        subst e5
        have HN : Hid _ := src_n B0 a len cap 5 u hI.src (by omega)
        have HI : Hid _ := hI
        clear hI hall hi
        refine wpOp_step rfl (fun K hK => ?_)
        go_simp
        refine Calls.mono HN.out ?_
        rintro e9 u5 ⟨r, rfl, r0, r1, hs5, hg5⟩
        have h := HI.out
        exact hK _ _ ⟨b0, b1, b2, b3, b4, b5, true, b7, b8, b9, b10, b11, b12, b13, b14, b15, b16, b17, false, v5, v6, v7, v8, v9, _, _, v12, v13, v14, v15, v16, v17, v18, v19, v20, v21, v3, rfl, rfl, .inl ⟨rfl, ⟨h.lt, h.le, hs5, Lib.grownBy_trans h.gr hg5, h.c0, h.c1, h.c2, h.c3, fun e => (h.c4 e).grow h.lt hg5, h.c5, fun _ => ⟨r, rfl, r0, by omega⟩, fun e => (h.c7 e).grow h.lt hg5, h.c8, fun e => (h.c9 e).grow h.lt hg5, h.c10, h.c11, fun e => (h.c12 e).grow h.lt hg5, h.c13, h.c14, h.c15, h.c16, fun e => (h.c17 e).grow h.lt hg5⟩⟩⟩
      · obtain rfl : b7 = false := hf
        cases ho
        have hb4 : b4 = true := hall { on := 4, ground := .data } (by simp) rfl
        have hb6 : b6 = true := hall { on := 6, ground := .data } (by simp) rfl
        obtain ⟨p4, e4, p4b, p4c⟩ := hI.c4 hb4
        replace e4 : v9 = .slice (some ⟨p4, 0, none⟩) 5 5 := e4
        subst e4
        obtain ⟨y6, rfl, y6b, y6c⟩ := hI.c6 hb6
        obtain ⟨R, rfl⟩ := Int.eq_ofNat_of_zero_le y6b
        have R1 : (R : Int) < 5 := by omega
        have R0 : R < 5 := by omega
        have HI : Hid _ := hI
        clear hI hall hi
        refine wpOp_step rfl (fun K hK => ?_)
        go_simp
        have h := HI.out
        exact hK _ _ ⟨b0, b1, b2, b3, b4, b5, b6, true, b8, b9, b10, b11, b12, b13, b14, b15, b16, b17, false, v5, v6, v7, v8, _, v10, _, _, v13, v14, v15, v16, v17, v18, v19, v20, v21, v3, rfl, rfl, .inl ⟨rfl, ⟨h.lt, h.le, h.src, h.gr, h.c0, h.c1, h.c2, h.c3, h.c4, h.c5, h.c6, fun _ => ⟨p4, R, rfl, R0, p4b, p4c⟩, h.c8, h.c9, h.c10, h.c11, h.c12, h.c13, h.c14, h.c15, h.c16, h.c17⟩⟩⟩
      · obtain rfl : b8 = false := hf
        cases ho
        have hb7 : b7 = true := hall { on := 7, ground := .data } (by simp) rfl
        obtain ⟨p7, r7, rfl, r7b, p7b, p7c⟩ := hI.c7 hb7
        have hcl := lit_cell p7c r7b
        have hbd := inB.at (lo := 0) (hi := 3) (by unfold inB; decide) r7b
        generalize ([1, 1, 2, 3, 0] : List Int)[r7] = y at hcl hbd
        have HI : Hid _ := hI
        clear hI hall hi
        refine wpOp_step rfl (fun K hK => ?_)
        go_simp
        have h := HI.out
        exact hK _ _ ⟨b0, b1, b2, b3, b4, b5, b6, b7, true, b9, b10, b11, b12, b13, b14, b15, b16, b17, false, v5, v6, v7, v8, v9, v10, v11, _, _, v14, v15, v16, v17, v18, v19, v20, v21, v3, rfl, rfl, .inl ⟨rfl, ⟨h.lt, h.le, h.src, h.gr, h.c0, h.c1, h.c2, h.c3, h.c4, h.c5, h.c6, h.c7, fun _ => ⟨y, rfl, hbd.1, hbd.2⟩, h.c9, h.c10, h.c11, h.c12, h.c13, h.c14, h.c15, h.c16, h.c17⟩⟩⟩
      · obtain rfl : b9 = false := hf
        have HI : Hid _ := hI
        clear hI hall hi
        refine wpOp_step rfl (fun K hK => ?_)
        go_simp
        have h := HI.out
        exact hK _ _ ⟨b0, b1, b2, b3, b4, b5, b6, b7, b8, true, b10, b11, b12, b13, b14, b15, b16, b17, false, v5, v6, v7, v8, v9, v10, v11, v12, v13, _, v15, v16, v17, v18, v19, v20, v21, v3, rfl, rfl, .inl ⟨rfl, ⟨h.lt, h.le, h.src.far (World.grownBy_alloc _ _ none), Lib.grownBy_trans h.gr gAl, h.c0, h.c1, h.c2, h.c3, fun e => (h.c4 e).grow h.lt gAl, h.c5, h.c6, fun e => (h.c7 e).grow h.lt gAl, h.c8, fun _ => ⟨u.heap.size, rfl, Nat.le_trans h.le h.gr.size, (MapKept.heap_alloc u _).1⟩, h.c10, h.c11, fun e => (h.c12 e).grow h.lt gAl, h.c13, h.c14, h.c15, h.c16, fun e => (h.c17 e).grow h.lt gAl⟩⟩⟩
      · obtain rfl : b10 = false := hf
        have HI : Hid _ := hI
        clear hI hall hi
        refine wpOp_step rfl (fun K hK => ?_)
        go_simp
        have h := HI.out
        exact hK _ _ ⟨b0, b1, b2, b3, b4, b5, b6, b7, b8, b9, true, b11, b12, b13, b14, b15, b16, b17, false, v5, v6, v7, v8, v9, v10, v11, v12, v13, v14, _, v16, v17, v18, v19, v20, v21, v3, rfl, rfl, .inl ⟨rfl, ⟨h.lt, h.le, h.src, h.gr, h.c0, h.c1, h.c2, h.c3, h.c4, h.c5, h.c6, h.c7, h.c8, h.c9, fun _ => rfl, h.c11, h.c12, h.c13, h.c14, h.c15, h.c16, h.c17⟩⟩⟩
      · obtain rfl : b11 = false := hf
        cases ho
        have hb10 : b10 = true := hall { on := 10, ground := .data } (by simp) rfl
        have e10 : v15 = .pointer (some ⟨B0, 0, none⟩) := hI.c10 hb10
        subst e10
        have HN : Hid _ := src_n B0 a len cap 4 u hI.src (by omega)
        have HI : Hid _ := hI
        clear hI hall hi
        refine wpOp_step rfl (fun K hK => ?_)
        go_simp
        refine Calls.mono HN.out ?_
        rintro e9 u5 ⟨r, rfl, r0, r1, hs5, hg5⟩
        have h := HI.out
        exact hK _ _ ⟨b0, b1, b2, b3, b4, b5, b6, b7, b8, b9, b10, true, b12, b13, b14, b15, b16, b17, false, v5, v6, v7, v8, v9, v10, v11, v12, v13, v14, _, _, v17, v18, v19, v20, v21, v3, rfl, rfl, .inl ⟨rfl, ⟨h.lt, h.le, hs5, Lib.grownBy_trans h.gr hg5, h.c0, h.c1, h.c2, h.c3, fun e => (h.c4 e).grow h.lt hg5, h.c5, h.c6, fun e => (h.c7 e).grow h.lt hg5, h.c8, fun e => (h.c9 e).grow h.lt hg5, h.c10, fun _ => ⟨r, rfl, r0, by omega⟩, fun e => (h.c12 e).grow h.lt hg5, h.c13, h.c14, h.c15, h.c16, fun e => (h.c17 e).grow h.lt hg5⟩⟩⟩
      · obtain rfl : b12 = false := hf
        cases ho
        have hb9 : b9 = true := hall { on := 9, ground := .data } (by simp) rfl
        have hb11 : b11 = true := hall { on := 11, ground := .data } (by simp) rfl
        obtain ⟨p9, e9, p9b, p9c⟩ := hI.c9 hb9
        replace e9 : v14 = .slice (some ⟨p9, 0, none⟩) 4 4 := e9
        subst e9
        obtain ⟨y11, rfl, y11b, y11c⟩ := hI.c11 hb11
        obtain ⟨R, rfl⟩ := Int.eq_ofNat_of_zero_le y11b
        have R1 : (R : Int) < 4 := by omega
        have R0 : R < 4 := by omega
        have HI : Hid _ := hI
        clear hI hall hi
        refine wpOp_step rfl (fun K hK => ?_)
        go_simp
        have h := HI.out
        exact hK _ _ ⟨b0, b1, b2, b3, b4, b5, b6, b7, b8, b9, b10, b11, true, b13, b14, b15, b16, b17, false, v5, v6, v7, v8, v9, v10, v11, v12, v13, _, v15, _, _, v18, v19, v20, v21, v3, rfl, rfl, .inl ⟨rfl, ⟨h.lt, h.le, h.src, h.gr, h.c0, h.c1, h.c2, h.c3, h.c4, h.c5, h.c6, h.c7, h.c8, h.c9, h.c10, h.c11, fun _ => ⟨p9, R, rfl, R0, p9b, p9c⟩, h.c13, h.c14, h.c15, h.c16, h.c17⟩⟩⟩
      · obtain rfl : b13 = false := hf
        cases ho
        have hb12 : b12 = true := hall { on := 12, ground := .data } (by simp) rfl
        obtain ⟨p12, r12, rfl, r12b, p12b, p12c⟩ := hI.c12 hb12
        have hcl := lit_cell p12c r12b
        have hbd := inB.at (lo := 1) (hi := 7) (by unfold inB; decide) r12b
        generalize ([1, 1, 2, 7] : List Int)[r12] = y at hcl hbd
        have HI : Hid _ := hI
        clear hI hall hi
        refine wpOp_step rfl (fun K hK => ?_)
        go_simp
        have h := HI.out
        exact hK _ _ ⟨b0, b1, b2, b3, b4, b5, b6, b7, b8, b9, b10, b11, b12, true, b14, b15, b16, b17, false, v5, v6, v7, v8, v9, v10, v11, v12, v13, v14, v15, v16, _, _, v19, v20, v21, v3, rfl, rfl, .inl ⟨rfl, ⟨h.lt, h.le, h.src, h.gr, h.c0, h.c1, h.c2, h.c3, h.c4, h.c5, h.c6, h.c7, h.c8, h.c9, h.c10, h.c11, h.c12, fun _ => ⟨y, rfl, hbd.1, hbd.2⟩, h.c14, h.c15, h.c16, h.c17⟩⟩⟩
      · obtain rfl : b14 = false := hf
        have HI : Hid _ := hI
        clear hI hall hi
        refine wpOp_step rfl (fun K hK => ?_)
        go_simp
        have h := HI.out
        exact hK _ _ ⟨b0, b1, b2, b3, b4, b5, b6, b7, b8, b9, b10, b11, b12, b13, true, b15, b16, b17, false, v5, v6, v7, v8, v9, v10, v11, v12, v13, v14, v15, v16, v17, v18, _, v20, v21, v3, rfl, rfl, .inl ⟨rfl, ⟨h.lt, h.le, h.src, h.gr, h.c0, h.c1, h.c2, h.c3, h.c4, h.c5, h.c6, h.c7, h.c8, h.c9, h.c10, h.c11, h.c12, h.c13, fun _ => rfl, h.c15, h.c16, h.c17⟩⟩⟩
      · obtain rfl : b15 = false := hf
        cases ho
        have hb14 : b14 = true := hall { on := 14, ground := .data } (by simp) rfl
        have e14 : v19 = .pointer (some ⟨B0, 0, none⟩) := hI.c14 hb14
        subst e14
        have HI : Hid _ := hI
        have HN : Hid _ := src_one B0 a len cap 6 u hI.src (by omega)
        clear hI hall hi
        refine wpOp_step rfl (fun K hK => ?_)
        go_simp
        refine Calls.mono HN.out ?_
        rintro e9 u5 ⟨bb, rfl, hs5, hg5⟩
        have h := HI.out
        exact hK _ _ ⟨b0, b1, b2, b3, b4, b5, b6, b7, b8, b9, b10, b11, b12, b13, b14, true, b16, b17, false, v5, v6, v7, v8, v9, v10, v11, v12, v13, v14, v15, v16, v17, v18, _, _, v21, v3, rfl, rfl, .inl ⟨rfl, ⟨h.lt, h.le, hs5, Lib.grownBy_trans h.gr hg5, h.c0, h.c1, h.c2, h.c3, fun e => (h.c4 e).grow h.lt hg5, h.c5, h.c6, fun e => (h.c7 e).grow h.lt hg5, h.c8, fun e => (h.c9 e).grow h.lt hg5, h.c10, h.c11, fun e => (h.c12 e).grow h.lt hg5, h.c13, h.c14, fun _ => ⟨bb, rfl⟩, h.c16, fun e => (h.c17 e).grow h.lt hg5⟩⟩⟩
      · obtain rfl : b16 = false := hf
        cases ho
        have hb1 : b1 = true := hall { on := 1, ground := .data } (by simp) rfl
        have hb3 : b3 = true := hall { on := 3, ground := .data } (by simp) rfl
        have hb8 : b8 = true := hall { on := 8, ground := .data } (by simp) rfl
        have hb13 : b13 = true := hall { on := 13, ground := .data } (by simp) rfl
        have hb15 : b15 = true := hall { on := 15, ground := .data } (by simp) rfl
        obtain ⟨y1, rfl, y1b, y1c⟩ := hI.c1 hb1
        obtain ⟨y3, rfl, y3b, y3c⟩ := hI.c3 hb3
        obtain ⟨y8, rfl, y8b, y8c⟩ := hI.c8 hb8
        obtain ⟨y13, rfl, y13b, y13c⟩ := hI.c13 hb13
        obtain ⟨bb15, e15⟩ := hI.c15 hb15
        subst e15
        have HI : Hid _ := hI
        clear hI hall hi
        refine wpOp_step rfl (fun K hK => ?_)
        go_simp
        have h := HI.out
        exact hK _ _ ⟨b0, b1, b2, b3, b4, b5, b6, b7, b8, b9, b10, b11, b12, b13, b14, b15, true, b17, false, v5, _, v7, _, v9, v10, v11, v12, _, v14, v15, v16, v17, _, v19, _, _, v3, rfl, rfl, .inl ⟨rfl, ⟨h.lt, h.le, h.src, h.gr, h.c0, h.c1, h.c2, h.c3, h.c4, h.c5, h.c6, h.c7, h.c8, h.c9, h.c10, h.c11, h.c12, h.c13, h.c14, h.c15, fun _ => ⟨y1, y3, y8, y13, bb15, y13c, rfl⟩, h.c17⟩⟩⟩
      · obtain rfl : b17 = false := hf
        have HI : Hid _ := hI
        clear hI hall hi
        refine wpOp_step rfl (fun K hK => ?_)
        go_simp
        have h := HI.out
        exact hK _ _ ⟨b0, b1, b2, b3, b4, b5, b6, b7, b8, b9, b10, b11, b12, b13, b14, b15, b16, true, false, v5, v6, v7, v8, v9, v10, v11, v12, v13, v14, v15, v16, v17, v18, v19, v20, v21, _, rfl, rfl, .inl ⟨rfl, ⟨h.lt, h.le, h.src.far (World.grownBy_alloc _ _ none), Lib.grownBy_trans h.gr gAl, h.c0, h.c1, h.c2, h.c3, fun e => (h.c4 e).grow h.lt gAl, h.c5, h.c6, fun e => (h.c7 e).grow h.lt gAl, h.c8, fun e => (h.c9 e).grow h.lt gAl, h.c10, h.c11, fun e => (h.c12 e).grow h.lt gAl, h.c13, h.c14, h.c15, h.c16, fun _ => ⟨u.heap.size, rfl, Nat.le_trans h.le h.gr.size, (MapKept.heap_alloc u _).1⟩⟩⟩⟩
      · cases ho
        obtain rfl : b0 = true := hall { on := 0, ground := .phase } (by simp) rfl
        obtain rfl : b1 = true := hall { on := 1, ground := .phase } (by simp) rfl
        obtain rfl : b2 = true := hall { on := 2, ground := .phase } (by simp) rfl
        obtain rfl : b3 = true := hall { on := 3, ground := .phase } (by simp) rfl
        obtain rfl : b4 = true := hall { on := 4, ground := .phase } (by simp) rfl
        obtain rfl : b5 = true := hall { on := 5, ground := .phase } (by simp) rfl
        obtain rfl : b6 = true := hall { on := 6, ground := .phase } (by simp) rfl
        obtain rfl : b7 = true := hall { on := 7, ground := .phase } (by simp) rfl
        obtain rfl : b8 = true := hall { on := 8, ground := .phase } (by simp) rfl
        obtain rfl : b9 = true := hall { on := 9, ground := .phase } (by simp) rfl
        obtain rfl : b10 = true := hall { on := 10, ground := .phase } (by simp) rfl
        obtain rfl : b11 = true := hall { on := 11, ground := .phase } (by simp) rfl
        obtain rfl : b12 = true := hall { on := 12, ground := .phase } (by simp) rfl
        obtain rfl : b13 = true := hall { on := 13, ground := .phase } (by simp) rfl
        obtain rfl : b14 = true := hall { on := 14, ground := .phase } (by simp) rfl
        obtain rfl : b15 = true := hall { on := 15, ground := .phase } (by simp) rfl
        obtain rfl : b16 = true := hall { on := 16, ground := .phase } (by simp) rfl
        obtain rfl : b17 = true := hall { on := 17, ground := .phase } (by simp) rfl
        have hb17 : true = true := rfl
        have hb16 : true = true := rfl
        obtain ⟨p17, rfl, p17b, p17c⟩ := hI.c17 hb17
        obtain ⟨m0, m1, m2, m3, m4, hd7, hm9⟩ := hI.c16 hb16
        subst hm9
        have h := hI
        have hbr : u.heap[w.heap.size]? = some (.cells #[.int .i64 0, .int .i64 0, .int .i64 0, .int .i64 0, .int .i64 0, .bool false, .slice none 0 0] 25 (0, 0)) := (h.gr.block _ (Array.getElem?_eq_some_iff.1 HR0.out).1 (by simp; omega)).trans HR0.out
        obtain ⟨c0, c1, c2, c3, c4, c5, c6, cf⟩ := cel7 p17c
        have hlb := (Array.getElem?_eq_some_iff.1 p17c).1
        have HF : Hid (CB B0 a len cap w p17 ⟨m0, m1, m2, m3, 0, m4, []⟩ (.slice none 0 0) 0 (((((((u.setCell ⟨p17, 0, none⟩ (.int .i64 m0)).setCell ⟨p17, 1, none⟩ (.int .i64 m1)).setCell ⟨p17, 2, none⟩ (.int .i64 m2)).setCell ⟨p17, 3, none⟩ (.int .i64 m3)).setCell ⟨p17, 4, none⟩ (.int .i64 0)).setCell ⟨p17, 5, none⟩ (.bool m4)).setCell ⟨p17, 6, none⟩ (.slice none 0 0))) := cb_put hlt h.src (Lib.grownBy_trans HGW.out h.gr) (by have := HSZ.out; omega) hbr p17c ⟨m0, m1, m2, m3, 0, m4, []⟩ rfl
        clear hI h hall hi hbr p17c
        refine wpOp_step rfl (fun K hK => ?_)
        go_simp
        exact hK _ _ ⟨true, true, true, true, true, true, true, true, true, true, true, true, true, true, true, true, true, true, true, v5, v6, v7, v8, v9, v10, v11, v12, v13, v14, v15, v16, v17, v18, v19, v20, _, _, rfl, rfl, .inr ⟨rfl, rfl, rfl, rfl, rfl, rfl, rfl, rfl, rfl, rfl, rfl, rfl, rfl, rfl, rfl, rfl, rfl, rfl, rfl, p17, ⟨m0, m1, m2, m3, 0, m4, []⟩, rfl, hd7, HF.out⟩⟩
    · exfalso
      obtain rfl | rfl | rfl | rfl | rfl | rfl | rfl | rfl | rfl | rfl | rfl | rfl | rfl | rfl | rfl | rfl | rfl | rfl | rfl : i = 0 ∨ i = 1 ∨ i = 2 ∨ i = 3 ∨ i = 4 ∨ i = 5 ∨ i = 6 ∨ i = 7 ∨ i = 8 ∨ i = 9 ∨ i = 10 ∨ i = 11 ∨ i = 12 ∨ i = 13 ∨ i = 14 ∨ i = 15 ∨ i = 16 ∨ i = 17 ∨ i = 18 := by omega
      all_goals exact absurd hf (by decide)
end Go.Proofs.YtegcbghhcidcaaaDoor
