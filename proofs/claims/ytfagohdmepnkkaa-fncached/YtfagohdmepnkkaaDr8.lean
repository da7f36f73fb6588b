import Derived.Test.YtfagohdmepnkkaaDr7
namespace Go.Proofs.Ytfagohdmepnkkaa
open Go.ChangeShapes Go.WideShapes Go.ChangeAt Go.RowKit

theorem putL_len (zs : List TE) (nx : Int) (e : TE) (h : zs.length ≤ 16) : (putL zs nx e).length ≤ 16 := by
  unfold putL
  split
  · exact h
  · split
    · rw [List.length_set]
      exact h
    · split
      · rw [List.length_append, List.length_singleton]
        omega
      · rw [List.length_set]
        exact h
theorem tlbC_or (zs : List TE) (nx : Int) : tlbC zs nx = 0 ∨ tlbC zs nx = 1 := by
  unfold tlbC
  split <;> simp
theorem tlbC_z {zs : List TE} {nx : Int} (h : tlbC zs nx = 0) : zs.length ≤ 16 ∧ 0 ≤ nx ∧ nx ≤ 15 := by
  unfold tlbC at h
  split at h
  · rename_i q
    exact ⟨q.1, q.2.1, q.2.2.1⟩
  · cases h
/-- What putting an entry answers: a cache of its own. -/
def PutT (u : World) (r : Ending) (w' : World) : Prop := ∃ (ao2 : Option Addr) (zs2 : List TE) (cp2 : Nat) (nx2 : Int), r = .returned (.agg #[.slice ao2 zs2.length cp2, .int .i64 nx2]) ∧ zs2.length ≤ 16 ∧ w'.ownsRow u.heap.size 66 5 (.slice ao2 zs2.length cp2) zs2.length (teR zs2) ∧ Below u.heap.size u w'
theorem putT_any {u : World} {B : Nat} {ao : Option Addr} {cp : Nat} {zs : List TE} (h : u.ownsRow B 66 5 (.slice ao zs.length cp) zs.length (teR zs)) (nx : Int) (e : TE) (hl : zs.length ≤ 16) : Calls Try.prog 125 #[.agg #[.slice ao zs.length cp, .int .i64 nx], teA e] u fun r w' => PutT u r w' := by
  rcases tlbC_or zs nx with hc | hc
  · obtain ⟨_, x0, x1⟩ := tlbC_z hc
    refine (specPut_good h nx e hl hc x0 x1).mono ?_
    rintro r w' ⟨ao2, cap2, rfl, ho, hb⟩
    exact ⟨ao2, putL zs nx e, cap2, putN zs nx e, rfl, putL_len zs nx e hl, ho, hb⟩
  · refine (specPut_bad (TErow.of h) nx e (by omega) hc).mono ?_
    rintro r w' ⟨rfl, hb⟩
    exact ⟨none, [], 0, 0, rfl, by decide, World.ownsRow_nil _ _ _ _, hb⟩
def KTl (B : Nat) (v : Value) (u : World) : Prop := ∃ (ao : Option Addr) (zs : List TE) (cp : Nat) (nx : Int), v = .agg #[.slice ao zs.length cp, .int .i64 nx] ∧ zs.length ≤ 16 ∧ u.ownsRow B 66 5 (.slice ao zs.length cp) zs.length (teR zs)
theorem row_g {u u' : World} {B b n : Nat} {v : Value} {xs : List Value} (h : u.ownsRow B 66 5 v n xs) (hb : b < B) (hg : u.grownBy u' (some b)) : u'.ownsRow B 66 5 v n xs := by
  refine h.kept hg ?_
  cases ho : v.ownBlock with
  | none => exact .inl rfl
  | some q => exact .inr (by have := h.lt q ho; simp; omega)
theorem KTl.grow {B b : Nat} {v : Value} {u u' : World} (h : KTl B v u) (hb : b < B) (hg : u.grownBy u' (some b)) : KTl B v u' := by
  obtain ⟨ao, zs, cp, nx, h1, h2, h3⟩ := h
  exact ⟨ao, zs, cp, nx, h1, h2, row_g h3 hb hg⟩
/-- A cache under way, in its box. -/
structure TLs (B0 : Nat) (a : Option Addr) (len cap : Nat) (w : World) (ao : Option Addr) (zs : List TE) (cp : Nat) (nx : Int) (u : World) : Prop where
  lt : B0 < w.heap.size
  src : SrcOk u B0 a len cap
  gr : w.grownBy u (some B0)
  rbox : u.heap[w.heap.size]? = some (.cells #[.slice none 0 0, .int .i64 0] 61 (0, 0))
  box : u.heap[w.heap.size + 1]? = some (.cells #[.slice ao zs.length cp, .int .i64 nx] 61 (0, 0))
  row : u.ownsRow (w.heap.size + 2) 66 5 (.slice ao zs.length cp) zs.length (teR zs)
  l16 : zs.length ≤ 16
theorem TLs.put {B0 : Nat} {a : Option Addr} {len cap : Nat} {w W : World} {ao ao2 : Option Addr} {zs zs2 : List TE} {cp cp2 : Nat} {nx nx2 : Int} {u U : World} (h : TLs B0 a len cap w ao zs cp nx W) (src : SrcOk u B0 a len cap) (gr : W.grownBy u (some B0)) (row : u.ownsRow W.heap.size 66 5 (.slice ao2 zs2.length cp2) zs2.length (teR zs2)) (l : zs2.length ≤ 16) (hU : (u.setCell ⟨w.heap.size + 1, 0, none⟩ (.slice ao2 zs2.length cp2)).setCell ⟨w.heap.size + 1, 1, none⟩ (.int .i64 nx2) = U) : TLs B0 a len cap w ao2 zs2 cp2 nx2 U := by
  subst hU
  have h1 := h.lt
  have hW : w.heap.size + 1 < W.heap.size := (Array.getElem?_eq_some_iff.1 h.box).1
  have hb : u.heap[w.heap.size + 1]? = some (.cells #[.slice ao zs.length cp, .int .i64 nx] 61 (0, 0)) := (gr.block _ hW (by simp; omega)).trans h.box
  have hr : u.heap[w.heap.size]? = some (.cells #[.slice none 0 0, .int .i64 0] 61 (0, 0)) := (gr.block _ (by omega) (by simp; omega)).trans h.rbox
  have q0 := heap_setCell_same u (w.heap.size + 1) 0 _ _ (.slice ao2 zs2.length cp2) hb
  have q1 := heap_setCell_same _ (w.heap.size + 1) 1 _ _ (.int .i64 nx2) q0
  refine ⟨h.lt, ?_, g_set (g_set (Lib.grownBy_trans h.gr gr) (by omega)) (by omega), ?_, by simpa using q1, ?_, l⟩
  · exact (src.keep (fun j hj => (Below.heap_setCell _ _ _ _ (by simp only; omega)).trans (Below.heap_setCell _ _ _ _ (by simp only; omega))))
  · exact ((Below.heap_setCell _ _ _ _ (by simp only; omega)).trans (Below.heap_setCell _ _ _ _ (by simp only; omega))).trans hr
  · have hne : (Value.slice ao2 zs2.length cp2).ownBlock ≠ some (w.heap.size + 1) := fun q => by have := (row.lt _ q).1; omega
    exact te_weak (own_set (own_set row hne) hne) (by omega)
structure TlR (B0 B : Nat) (w : World) (a : Option Addr) (len cap : Nat) (ao : Option Addr) (zs : List TE) (cp : Nat) (nx : Int) (b0 b1 b2 b3 b4 : Bool) (v12 v13 v14 v15 : Value) (u : World) : Prop where
  lt : B0 < B
  le : B ≤ w.heap.size
  src : SrcOk u B0 a len cap
  gr : w.grownBy u (some B0)
  c0 : b0 = true → v12 = .agg #[.slice ao zs.length cp, .int .i64 nx]
  c1 : b1 = true → KSrc B0 v13
  c2 : b2 = true → KTE v14
  c3 : b3 = true → KTl B v15 u
set_option maxRecDepth 100000 in
set_option maxHeartbeats 8000000 in
theorem src_tlb (B0 : Nat) (a : Option Addr) (len cap : Nat) (w : World) (h : SrcOk w B0 a len cap) :
    Calls Try.prog 114 #[.pointer (some ⟨B0, 0, none⟩)] w fun e w' => ∃ (ao : Option Addr) (zs : List TE) (cp : Nat) (nx : Int), e = .returned (.agg #[.slice ao zs.length cp, .int .i64 nx]) ∧ zs.length ≤ 16 ∧ w'.ownsRow (w.heap.size + 2) 66 5 (.slice ao zs.length cp) zs.length (teR zs) ∧ SrcOk w' B0 a len cap ∧ w.grownBy w' (some B0) := by
  have hlt := h.lt
  have hb1 := (Below.refl w.heap.size w).alloc (Nat.le_refl _) (.cells #[.slice none 0 0, .int .i64 0] 61)
  have hb2 := hb1.alloc (by simp) (.cells #[.slice none 0 0, .int .i64 0] 61)
  have HT0 : Hid (TLs B0 a len cap w none [] 0 0 ((w.alloc (.cells #[.slice none 0 0, .int .i64 0] 61)).alloc (.cells #[.slice none 0 0, .int .i64 0] 61))) := ⟨hlt, h.bel hb2, gbel (World.grownBy.refl _ _) hb2, (Below.heap_alloc _ _ _ (by simp)).trans (MapKept.heap_alloc w _).1, by simpa using (MapKept.heap_alloc (w.alloc (.cells #[.slice none 0 0, .int .i64 0] 61)) (.cells #[.slice none 0 0, .int .i64 0] 61)).1, World.ownsRow_nil _ _ _ _, by decide⟩
  clear h hb1 hb2
  go_enter Try.func114, Try.ntmps114
  go_wp2_with fail
  generalize (w.alloc (.cells #[.slice none 0 0, .int .i64 0] 61)).alloc (.cells #[.slice none 0 0, .int .i64 0] 61) = W at *
  refine (src_n B0 a len cap 20 W HT0.out.src (by omega)).mono ?_
  rintro e w1 ⟨r, rfl, r0, r1, hs1, hg1⟩
  have HT1 : Hid (TLs B0 a len cap w none [] 0 0 w1) := ⟨hlt, hs1, Lib.grownBy_trans HT0.out.gr hg1, (hg1.block _ (Array.getElem?_eq_some_iff.1 HT0.out.rbox).1 (by simp; omega)).trans HT0.out.rbox, (hg1.block _ (Array.getElem?_eq_some_iff.1 HT0.out.box).1 (by simp; omega)).trans HT0.out.box, World.ownsRow_nil _ _ _ _, by decide⟩
  have r2 : r ≤ 19 := by omega
  clear hs1 hg1 HT0 r1
  go_wp2
  go_loopw [4] (fun k wr => ∃ (j : Nat) (ao : Option Addr) (zs : List TE) (cp : Nat) (nx : Int), k = .int .i64 j ∧ j ≤ 20 ∧ TLs B0 a len cap w ao zs cp nx wr) (fun k _ => (intOf k).toNat)
  case atStart => exact ⟨r.toNat, none, [], 0, 0, by rw [Int.toNat_of_nonneg r0], by omega, HT1.out⟩
  case round =>
    clear HT1
    obtain ⟨j, ao, zs, cp, nx, rfl, hj, ht⟩ := hrel
    have HT : Hid (TLs B0 a len cap w ao zs cp nx wr) := ht
    clear ht
    by_cases hj0 : j = 0
    · subst hj0
      obtain ⟨q0, q1⟩ := cel2 HT.out.box
      obtain ⟨t0, t1⟩ := cel2 HT.out.rbox
      have tf : ∀ x, wr.frozen? ⟨w.heap.size, x, none⟩ = false := fun x => by simp [World.frozen?, HT.out.rbox]
      have hlr := (Array.getElem?_eq_some_iff.1 HT.out.rbox).1
      have hlb := (Array.getElem?_eq_some_iff.1 HT.out.box).1
      go_wp2
      have hfin : ((wr.setCell ⟨w.heap.size, 0, none⟩ (.slice ao zs.length cp)).setCell ⟨w.heap.size, 1, none⟩ (.int .i64 nx)).heap[w.heap.size]? = some (.cells #[.slice ao zs.length cp, .int .i64 nx] 61 (0, 0)) := by
        have z0 := heap_setCell_same wr w.heap.size 0 _ _ (.slice ao zs.length cp) HT.out.rbox
        have z1 := heap_setCell_same _ w.heap.size 1 _ _ (.int .i64 nx) z0
        simpa using z1
      obtain ⟨f0, f1⟩ := cel2 hfin
      have hne : (Value.slice ao zs.length cp).ownBlock ≠ some w.heap.size := fun q => by have := (HT.out.row.lt _ q).1; omega
      exact bodyPost_ret (v := .agg #[.slice ao zs.length cp, .int .i64 nx]) (by simp [results, Try.results114, go_sem, f0, f1]) rfl ⟨ao, zs, cp, nx, rfl, HT.out.l16, own_set (own_set HT.out.row hne) hne, HT.out.src.keep (fun i hi => (Below.heap_setCell _ _ _ _ (by simp only; omega)).trans (Below.heap_setCell _ _ _ _ (by simp only; omega))), g_set (g_set HT.out.gr (Nat.le_refl _)) (Nat.le_refl _)⟩
    · have j1 : (0 : Int) < (j : Int) := by omega
      have hj8 : (0 < j) = True := by simp; omega
      have hj9 : (j : Int) ≤ 20 := by omega
      go_wp2_with fail
      refine wp_region_any (by kernel_rfl) ?_
      refine wpAny_inv (fun L a9 u => ∃ (b0 b1 b2 b3 b4 : Bool) (v12 v13 v14 v15 : Value), L = #[b0, b1, b2, b3, b4] ∧ a9 = { tmps := #[.pointer (some ⟨B0, 0, none⟩), undef, .pointer (some ⟨w.heap.size, 0, none⟩), .pointer (some ⟨w.heap.size + 1, 0, none⟩), .int .i64 (j : Int), .agg #[.slice none 0 0, .int .i64 0], .pointer (some ⟨B0, 0, none⟩), .int .i64 r, .int .i64 (j : Int), .bool true, u10, u11, v12, v13, v14, v15, undef], defers := [] } ∧ ((b4 = false ∧ TlR B0 wr.heap.size wr a len cap ao zs cp nx b0 b1 b2 b3 b4 v12 v13 v14 v15 u) ∨ (b0 = true ∧ b1 = true ∧ b2 = true ∧ b3 = true ∧ b4 = true ∧ ∃ (ao2 : Option Addr) (zs2 : List TE) (cp2 : Nat) (nx2 : Int), TLs B0 a len cap w ao2 zs2 cp2 nx2 u))) ?hs ?hd _ _ _ _ (by decide) ?st
      case st => exact ⟨false, false, false, false, false, u12, u13, u14, u15, rfl, rfl, .inl ⟨rfl, ⟨Nat.lt_of_lt_of_le hlt HT.out.gr.size, Nat.le_refl _, HT.out.src.bel (Below.refl _ _).drew, ⟨rfl, rfl, rfl, Nat.le_refl _, fun _ _ _ => rfl⟩, (fun e => by cases e), (fun e => by cases e), (fun e => by cases e), (fun e => by cases e)⟩⟩⟩
      case hd =>
        rintro L a9 u ⟨b0, b1, b2, b3, b4, v12, v13, v14, v15, rfl, rfl, hI⟩ hr
        have hall := fun he hL => all_up (md := _) he hL hr
        have hall2 := hall (by kernel_rfl) rfl
        rcases hI with ⟨rfl, hI⟩ | ⟨rfl, rfl, rfl, rfl, rfl, ao2, zs2, cp2, nx2, hM⟩
        · exact Bool.noConfusion (show false = true from hall2 4 (by decide))
        have HM1 : Hid (TLs B0 a len cap w ao2 zs2 cp2 nx2 u) := hM
        clear hM hr hall hall2
        go_wp2
        refine ⟨⟨j - 1, ao2, zs2, cp2, nx2, by go_num, by omega, HM1.out⟩, by simp [intOf]; omega⟩
      case hs =>
        rintro L a9 u i ⟨b0, b1, b2, b3, b4, v12, v13, v14, v15, rfl, rfl, hI⟩ hi
        obtain ⟨hf, o, ho, hall⟩ := mem_ready.1 hi
        have hi8 : i < 5 := (Array.getElem?_eq_some_iff.1 ho).1
        rcases hI with ⟨rfl, hI⟩ | ⟨rfl, rfl, rfl, rfl, rfl, _⟩
        · obtain rfl | rfl | rfl | rfl | rfl : i = 0 ∨ i = 1 ∨ i = 2 ∨ i = 3 ∨ i = 4 := by omega
          · obtain rfl : b0 = false := hf
            have HI : Hid _ := hI
            have hbx : u.heap[w.heap.size + 1]? = some (.cells #[.slice ao zs.length cp, .int .i64 nx] 61 (0, 0)) := (hI.gr.block _ (Array.getElem?_eq_some_iff.1 HT.out.box).1 (by simp; omega)).trans HT.out.box
            obtain ⟨q0, q1⟩ := cel2 hbx
            have hlx := (Array.getElem?_eq_some_iff.1 hbx).1
            clear hbx
            clear hI hall hi
            refine wpOp_step rfl (fun K hK => ?_)
            go_simp
            have h := HI.out
            exact hK _ _ ⟨true, b1, b2, b3, false, _, v13, v14, v15, rfl, rfl, .inl ⟨rfl, ⟨h.lt, h.le, h.src, h.gr, fun _ => rfl, h.c1, h.c2, h.c3⟩⟩⟩
          · obtain rfl : b1 = false := hf
            have HI : Hid _ := hI
            clear hI hall hi
            refine wpOp_step rfl (fun K hK => ?_)
            go_simp
            have h := HI.out
            exact hK _ _ ⟨b0, true, b2, b3, false, v12, _, v14, v15, rfl, rfl, .inl ⟨rfl, ⟨h.lt, h.le, h.src, h.gr, h.c0, fun _ => rfl, h.c2, h.c3⟩⟩⟩
          · obtain rfl : b2 = false := hf
            cases ho
            have hb1 : b1 = true := hall { on := 1, ground := .data } (by simp) rfl
            have e1 : v13 = .pointer (some ⟨B0, 0, none⟩) := hI.c1 hb1
            subst e1
            have HI : Hid _ := hI
            have HN : Hid _ := src_tlbEntry B0 a len cap u hI.src
            clear hI hall hi
            refine wpOp_step rfl (fun K hK => ?_)
            go_simp
            refine Calls.mono HN.out ?_
            rintro e9 u5 ⟨me, rfl, hs5, hg5⟩
            have h := HI.out
            exact hK _ _ ⟨b0, b1, true, b3, false, v12, _, _, v15, rfl, rfl, .inl ⟨rfl, ⟨h.lt, h.le, hs5, Lib.grownBy_trans h.gr hg5, h.c0, h.c1, fun _ => ⟨me, rfl⟩, fun e => (h.c3 e).grow h.lt hg5⟩⟩⟩
          · obtain rfl : b3 = false := hf
            cases ho
            have hb0 : b0 = true := hall { on := 0, ground := .data } (by simp) rfl
            have hb2 : b2 = true := hall { on := 2, ground := .data } (by simp) rfl
            have e0 : v12 = .agg #[.slice ao zs.length cp, .int .i64 nx] := hI.c0 hb0
            subst e0
            obtain ⟨me, e2⟩ := hI.c2 hb2
            subst e2
            have HI : Hid _ := hI
            have HN : Hid _ := putT_any (row_g HT.out.row (by have := HT.out.lt; omega) hI.gr) nx me HT.out.l16
            clear hI hall hi
            refine wpOp_step rfl (fun K hK => ?_)
            go_simp
            refine Calls.mono HN.out ?_
            rintro e9 u5 ⟨ao2, zs2, cp2, nx2, rfl, hl2, ho2, hb2⟩
            have hg5 : u.grownBy u5 (some B0) := gbel (World.grownBy.refl _ _) hb2
            have h := HI.out
            exact hK _ _ ⟨b0, b1, b2, true, false, _, v13, _, _, rfl, rfl, .inl ⟨rfl, ⟨h.lt, h.le, h.src.bel hb2, Lib.grownBy_trans h.gr hg5, h.c0, h.c1, h.c2, fun _ => ⟨ao2, zs2, cp2, nx2, rfl, hl2, te_weak ho2 (Nat.le_trans h.le h.gr.size)⟩⟩⟩⟩
          · cases ho
            obtain rfl : b0 = true := hall { on := 0, ground := .phase } (by simp) rfl
            obtain rfl : b1 = true := hall { on := 1, ground := .phase } (by simp) rfl
            obtain rfl : b2 = true := hall { on := 2, ground := .phase } (by simp) rfl
            obtain rfl : b3 = true := hall { on := 3, ground := .phase } (by simp) rfl
            have hb3 : true = true := rfl
            obtain ⟨ao9, zs9, cp9, nx9, e3, l3, r3⟩ := hI.c3 hb3
            subst e3
            have h := hI
            have hbx : u.heap[w.heap.size + 1]? = some (.cells #[.slice ao zs.length cp, .int .i64 nx] 61 (0, 0)) := (h.gr.block _ (Array.getElem?_eq_some_iff.1 HT.out.box).1 (by simp; omega)).trans HT.out.box
            obtain ⟨q0, q1⟩ := cel2 hbx
            have qf : ∀ x, u.frozen? ⟨w.heap.size + 1, x, none⟩ = false := fun x => by simp [World.frozen?, hbx]
            have hlx := (Array.getElem?_eq_some_iff.1 hbx).1
            have HF : Hid (TLs B0 a len cap w ao9 zs9 cp9 nx9 ((u.setCell ⟨w.heap.size + 1, 0, none⟩ (.slice ao9 zs9.length cp9)).setCell ⟨w.heap.size + 1, 1, none⟩ (.int .i64 nx9))) := HT.out.put h.src h.gr r3 l3 rfl
            clear hI h hall hi hbx
            refine wpOp_step rfl (fun K hK => ?_)
            go_simp
            exact hK _ _ ⟨true, true, true, true, true, v12, v13, v14, _, rfl, rfl, .inr ⟨rfl, rfl, rfl, rfl, rfl, ao9, zs9, cp9, nx9, HF.out⟩⟩
        · exfalso
          obtain rfl | rfl | rfl | rfl | rfl : i = 0 ∨ i = 1 ∨ i = 2 ∨ i = 3 ∨ i = 4 := by omega
          all_goals exact absurd hf (by decide)
end Go.Proofs.Ytfagohdmepnkkaa
