import Derived.Test.YtmmodmanfoipiaaDoorWr2
import Derived.Test.YtmmodmanfoipiaaDoorRowS
import Derived.Laws.AppendOwn
import Derived.Deep.QuietTactic
namespace Go.Proofs.YtmmodmanfoipiaaDoor
open Go.ChangeShapes Go.WideShapes Go.ChangeAt Go.RowKit

set_option maxRecDepth 100000 in
theorem joined_nilW (w : World) : Calls Tryd.prog 16 #[.slice none 0 0] w fun e w' => e = .returned (.string ⟨#[]⟩) ∧ Below w.heap.size w w' := by
  go_enter Tryd.func16, Tryd.ntmps16
  go_wp2
  go_loopw [3, 8] (fun v i wr => v = .slice none 0 0 ∧ i = .int .i64 0 ∧ wr = w) (fun _ _ _ => 0)
  case atStart => exact ⟨rfl, rfl, rfl⟩
  case round =>
    obtain ⟨rfl, rfl, rfl⟩ := hrel
    have hcv := conv_own wr 0 _ 0 [] (World.ownsRow_nil _ _ _ _)
    go_wp2
    go_ret
    exact ⟨rfl, Below.refl _ _⟩
theorem joined_rowW {w : World} {v : Value} {B : Nat} {ps : List ByteArray} (h : w.ownsRow B 9 1 v ps.length (sR ps)) (hn : ps.length ≤ 1000) (hsz : (catB ps).length ≤ 1099511627776) :
    Calls Tryd.prog 16 #[v] w fun e w' => e = .returned (.string (⟨(catB ps).toArray⟩)) ∧ Below w.heap.size w w' := by
  rcases h.2 with ⟨hv, e⟩ | ⟨g, cap, cur, hv, h1, h2, _⟩
  · subst hv
    have : ps = [] := List.eq_nil_of_length_eq_zero e
    subst this
    exact joined_nilW w
  · subst hv
    refine joined_any g ps.length cap ps w rfl (Array.getElem?_eq_some_iff.1 h2).1 (fun i hi => ?_) hn hsz
    rw [h.cellAt i (by omega)]
    simp [sR, List.getElem?_eq_getElem hi]
def NV : ByteArray := ⟨#[78, 86]⟩
def whP (h : WH) : List (Int × Nat) := [(h.key, 3), (h.hfrom, 4), (h.hto, 4), (h.src, 6), (h.dst, 6), (h.net, 2), (h.len, 2)]
def whPc (h : WH) : List ByteArray := NV :: (whP h).map fun x => lb x.1 x.2
theorem whPc_len (h : WH) : (whPc h).length = 8 := rfl
theorem nm_at (h : WH) (b k : Nat) (hk : k < 7) : ∃ (P Z : Nat) (V : Int), (nmC b)[k * 2]? = some (.pointer (some ⟨b, P, none⟩)) ∧ (nmC b)[k * 2 + 1]? = some (.int .i64 (Z : Int)) ∧ (whC h)[P]? = some (.int .i64 V) ∧ Z ≤ 6 ∧ (whPc h).take (k + 2) = (whPc h).take (k + 1) ++ [lb V Z] := by
  obtain rfl | rfl | rfl | rfl | rfl | rfl | rfl : k = 0 ∨ k = 1 ∨ k = 2 ∨ k = 3 ∨ k = 4 ∨ k = 5 ∨ k = 6 := by omega
  · exact ⟨1, 3, h.key, rfl, rfl, rfl, by omega, rfl⟩
  · exact ⟨2, 4, h.hfrom, rfl, rfl, rfl, by omega, rfl⟩
  · exact ⟨3, 4, h.hto, rfl, rfl, rfl, by omega, rfl⟩
  · exact ⟨4, 6, h.src, rfl, rfl, rfl, by omega, rfl⟩
  · exact ⟨5, 6, h.dst, rfl, rfl, rfl, by omega, rfl⟩
  · exact ⟨6, 2, h.net, rfl, rfl, rfl, by omega, rfl⟩
  · exact ⟨8, 2, h.len, rfl, rfl, rfl, by omega, rfl⟩
/-- One text more. -/
theorem app1SW {w : World} {B n : Nat} {v : Value} {xs : List Value} (H0 : w.ownsRow B 9 1 v n xs) (x : ByteArray) (hn : n ≤ 1048576) (hB : B ≤ w.heap.size) :
    ∃ v' u', (Builtin.append_ #[67, 67] 67 #[v, .slice (some ⟨w.heap.size, 0, none⟩) 1 1]).run Tryd.prog (w.alloc (.cells #[.string x] 9)) = .ok v' u' ∧ (u'.ownsRow B 9 1 v' (n + 1) (xs ++ [.string x]) ∧ (w.alloc (.cells #[.string x] 9)).grownBy u' v.ownBlock) := by
  obtain ⟨i0, hi0, hz0, hz1, hz2⟩ := info_parts Tryd.info9
  obtain ⟨v', w', hr, h2, h3, _, _⟩ := run_append_own_at (P := Tryd.prog) (w.alloc (.cells #[.string x] 9)) B 67 67 9 i0 (.string ⟨#[]⟩) 1 16 Tryd.underlying67 hi0 hz0 hz1 hz2 rfl (by decide) v n xs (World.ownsRow.alloc H0 _) ⟨w.heap.size, 0, none⟩ 1 1 [.string x] rfl (by
    intro j u hj
    match j, hj with
    | 0, hj =>
      simp at hj
      subst hj
      simp [Addr.add_lit]) (by intro u hu; simp at hu; subst hu; rfl) (by unfold maxLen; omega) (by omega) (by simp; omega)
  exact ⟨v', w', hr, h2, h3⟩
theorem wp_append_exBW {P : Program} {o : Oper} {a : Act} {w : World} {K : Act → World → Prop} {Q : Exit → Act → World → Prop} (s x : Operand) (t : TypeId)
    (ho : o.op = .call { callee := .builtin .append, args := #[s, x], argTypes := #[t, t] }) (v v2 : Value) (hs : a.eval s = v) (hx : a.eval x = v2) {R : Value → World → Prop}
    (hr : ∃ v' w', (Builtin.append_ #[t, t] o.type #[v, v2]).run P w = .ok v' w' ∧ R v' w') (h : ∀ v' w', R v' w' → K (a.put o.dst v') w') : o.wp P a w K Q := by
  obtain ⟨v', w', hr, hR⟩ := hr
  unfold Oper.wp execOp
  simp only [ho, resolve, invoke, builtin, Sem.run_bind, Sem.run_pure, Result.andThen_ok, List.map_toArray, List.map_cons, List.map_nil, hs, hx, hr]
  exact h v' w' hR
theorem NV_size : NV.size = 2 := rfl
def whT (h : WH) : ByteArray := ⟨(catB (whPc h)).toArray⟩
theorem put_celX {u : World} {p t : Nat} {cs : Array Value} (h : u.heap[p]? = some (.cells cs t (0, 0))) (k : Nat) (v : Value) (hv : cs[k]? = some v) : u.cell? ⟨p, k, none⟩ = some v := by
  simp [World.cell?, h, hv]
theorem own_ne {w : World} {B T T2 sz n g : Nat} {v : Value} {xs : List Value} {cs : Array Value} (h : w.ownsRow B T sz v n xs) (hg : w.heap[g]? = some (.cells cs T2 (0, 0))) (hT : T ≠ T2) : v.ownBlock ≠ some g := by
  rcases h.2 with ⟨rfl, _⟩ | ⟨g', cap, cur, rfl, _, h2, _⟩
  · simp [Value.ownBlock]
  · intro e
    simp [Value.ownBlock] at e
    subst e
    rw [h2] at hg
    injection hg with e1
    injection e1 with _ e2
    exact hT e2
/-- What a round keeps: the head in its box, the numbers' row, and all is behind w. -/
structure TX (w u : World) (b g : Nat) (h : WH) : Prop where
  bel : Below w.heap.size w u
  box : ∃ t, u.heap[b]? = some (.cells (whC h) t (0, 0))
  row : u.heap[g]? = some (.cells (nmC b) 72 (0, 0))
theorem TX.ltg {w u : World} {b g : Nat} {h : WH} (x : TX w u b g h) : g < u.heap.size := (Array.getElem?_eq_some_iff.1 x.row).1
theorem TX.ltb {w u : World} {b g : Nat} {h : WH} (x : TX w u b g h) : b < u.heap.size := by
  obtain ⟨t, ht⟩ := x.box
  exact (Array.getElem?_eq_some_iff.1 ht).1
theorem TX.step {w u u' : World} {b g : Nat} {h : WH} (x : TX w u b g h) (hb : Below u.heap.size u u') : TX w u' b g h := by
  obtain ⟨t, ht⟩ := x.box
  exact ⟨x.bel.trans (hb.mono x.bel.size), ⟨t, (hb.block _ x.ltb).trans ht⟩, (hb.block _ x.ltg).trans x.row⟩
theorem TX.cb {w u : World} {b g : Nat} {h : WH} (x : TX w u b g h) (k : Nat) (v : Value) (hv : (whC h)[k]? = some v) : u.cell? ⟨b, k, none⟩ = some v := by
  obtain ⟨t, ht⟩ := x.box
  simp [World.cell?, ht, hv]
theorem TX.cg {w u : World} {b g : Nat} {h : WH} (x : TX w u b g h) (k : Nat) (v : Value) (hv : (nmC b)[k]? = some v) : u.cell? ⟨g, k, none⟩ = some v := by simp [World.cell?, x.row, hv]
theorem TX.drew {w u : World} {b g : Nat} {h : WH} (x : TX w u b g h) : TX w u.drew b g h := ⟨bdn x.bel 1, x.box, x.row⟩
theorem TX.grow {w u u' : World} {b g : Nat} {h : WH} {r : Option Nat} (x : TX w u b g h) (hg : u.grownBy u' r) (n1 : r ≠ some b) (n2 : r ≠ some g) (hr : ∀ k, r = some k → w.heap.size ≤ k) : TX w u' b g h := by
  obtain ⟨t, ht⟩ := x.box
  exact ⟨x.bel.grown hg x.bel.size hr, ⟨t, (hg.block b x.ltb (fun e => n1 e.symm)).trans ht⟩, (hg.block g x.ltg (fun e => n2 e.symm)).trans x.row⟩
set_option maxRecDepth 100000 in
set_option maxHeartbeats 4000000 in
theorem headText_any (b : Nat) (h : WH) (w : World) {t : Nat} (hbx : w.heap[b]? = some (.cells (whC h) t (0, 0))) : Calls Tryd.prog 17 #[.pointer (some ⟨b, 0, none⟩)] w fun e w' => e = .returned (.string (whT h)) ∧ Below w.heap.size w w' := by
  have hb : b < w.heap.size := (Array.getElem?_eq_some_iff.1 hbx).1
  have HBX : Hid (∃ t, w.heap[b]? = some (.cells (whC h) t (0, 0))) := ⟨t, hbx⟩
  have HNU : Hid (∀ u, Calls Tryd.prog 35 #[.pointer (some ⟨b, 0, none⟩)] u fun e w' => ∃ g, e = .returned (.slice (some ⟨g, 0, none⟩) 7 7) ∧ LG u w' g (nmC b) 72) := fun u => numbers_any b u
  have HO0 : Hid ((w.alloc (.cells #[.string NV] 9)).ownsRow w.heap.size 9 1 (.slice (some ⟨w.heap.size, 0, none⟩) 1 1) 1 (sR ((whPc h).take 1))) := World.ownsRow_lit w #[.string NV] 1 (by simp) (by decide) rfl
  have HB0 : Hid (Below w.heap.size w (w.alloc (.cells #[.string NV] 9))) := bx1 _ _
  clear hbx
  unfold NV at HO0 HB0
  go_enter Tryd.func17, Tryd.ntmps17
  go_upto_region 2 with fail
  have HN0 : Hid (w.heap.size < (w.alloc (.cells #[.string ⟨#[78, 86]⟩] 9)).heap.size) := (show _ < _ by simp)
  generalize (w.alloc (.cells #[.string ⟨#[78, 86]⟩] 9)) = u1 at *
  go_wp2_with (go_at_call 35; refine Calls.mono (HNU.out _) ?_; rintro e u2 ⟨g, rfl, hg⟩; have HG : Hid (LG u1 u2 g (nmC b) 72) := hg; clear hg)
  have HTX : Hid (TX w u2 b g h) := (show TX w u2 b g h by
    obtain ⟨t2, ht2⟩ := HBX.out
    have hbl : Below w.heap.size w u2 := HB0.out.trans (HG.out.bel.mono HB0.out.size)
    exact ⟨hbl, ⟨t2, (hbl.block _ hb).trans ht2⟩, HG.out.box⟩)
  have HO2 : Hid (u2.ownsRow w.heap.size 9 1 (.slice (some ⟨w.heap.size, 0, none⟩) 1 1) 1 (sR ((whPc h).take 1))) := own_below HO0.out HG.out.bel
  have HGE : Hid (w.heap.size < g) := (show w.heap.size < g by have := HG.out.ge; have := HN0.out; omega)
  clear HO0 HB0 HN0 HG HBX HNU
  go_loopw [3, 10] (fun v i wr => ∃ k : Nat, k ≤ 7 ∧ i = .int .i64 k ∧ TX w wr b g h ∧ wr.ownsRow w.heap.size 9 1 v (k + 1) (sR ((whPc h).take (k + 1))) ∧ v.ownBlock ≠ some g) (fun _ i _ => 7 - (intOf i).toNat)
  case atStart => exact ⟨0, by omega, rfl, HTX.out, HO2.out, by intro e; simp [Value.ownBlock] at e; have := HGE.out; omega⟩
  case round =>
    obtain ⟨k, hk, rfl, htx, hown, hne⟩ := hrel
    obtain ⟨a3, c3, rfl⟩ := s_sl hown
    clear HTX HO2
    by_cases hlt : k < 7
    · obtain ⟨P, Z, V, e1, e2, e3, hZ, hT⟩ := nm_at h b k hlt
      have r1 := htx.cg _ _ e1
      have r2 := htx.cg _ _ e2
      have rl := htx.ltg
      have HTX : Hid (TX w wr b g h) := htx
      have HE3 : Hid ((whC h)[P]? = some (.int .i64 V)) := e3
      have HOW : Hid (wr.ownsRow w.heap.size 9 1 (.slice a3 (k + 1) c3) (k + 1) (sR ((whPc h).take (k + 1)))) := hown
      have HNE : Hid ((Value.slice a3 (k + 1) c3).ownBlock ≠ some g) := hne
      have HT : Hid ((whPc h).take (k + 2) = (whPc h).take (k + 1) ++ [lb V Z]) := hT
      have HLB : Hid (∀ u, Calls Tryd.prog 36 #[.int .i64 V, .int .i64 Z] u fun e w' => e = .returned (.string (lb V Z)) ∧ Below u.heap.size u w') := fun u => lowBytes_any V Z hZ u
      have hk0 : (k : Int) < 7 := by omega
      have HLT : Hid (∀ j, (Value.slice a3 (k + 1) c3).ownBlock = some j → w.heap.size ≤ j ∧ j < wr.heap.size) := fun j hj => HOW.out.lt j hj
      clear htx e1 e2 e3 hown hne hT
      have HX1 : Hid (TX w (wr.alloc (.cells #[.pointer (some ⟨b, P, none⟩), .int .i64 (Z : Int)] 72)) b g h) := HTX.out.step (bx1 _ _)
      have HN1 : Hid ((wr.alloc (.cells #[.pointer (some ⟨b, P, none⟩), .int .i64 (Z : Int)] 72)).heap[wr.heap.size]? = some (.cells #[.pointer (some ⟨b, P, none⟩), .int .i64 (Z : Int)] 72 (0, 0))) := heap_new _ _
      have HO1 : Hid ((wr.alloc (.cells #[.pointer (some ⟨b, P, none⟩), .int .i64 (Z : Int)] 72)).ownsRow w.heap.size 9 1 (.slice a3 (k + 1) c3) (k + 1) (sR ((whPc h).take (k + 1)))) := World.ownsRow.alloc HOW.out _
      go_upto_region 5 with fail
      clear r1 r2 rl
      generalize (wr.alloc (.cells #[.pointer (some ⟨b, P, none⟩), .int .i64 (Z : Int)] 72)) = v1 at *
      generalize wr.heap.size = bn at *
      refine wp_region_held (S := fun w9 => TX w w9 b g h ∧ w9.heap[bn]? = some (.cells #[.pointer (some ⟨b, P, none⟩), .int .i64 (Z : Int)] 72 (0, 0))) (by kernel_rfl) ?_
      change wpAnyH _ _ _ _ _ _ _ _ (World.drew _)
      have HS0 : Hid (TX w v1.drew b g h ∧ v1.drew.heap[bn]? = some (.cells #[.pointer (some ⟨b, P, none⟩), .int .i64 (Z : Int)] 72 (0, 0))) := ⟨HX1.out.drew, HN1.out⟩
      have HO2 : Hid (v1.drew.ownsRow w.heap.size 9 1 (.slice a3 (k + 1) c3) (k + 1) (sR ((whPc h).take (k + 1)))) := HO1.out
      generalize v1.drew = v2 at *
      clear HX1 HN1 HO1 HTX HOW
      refine wpAnyH_take (i := 0) (v := .slice a3 (k + 1) c3) rfl (by kernel_rfl) (by kernel_rfl) (by kernel_rfl) (fun _ _ _ h => h) (Or.inl ⟨by kernel_rfl, fun w9 h9 => ?_⟩) HS0.out ?_
      · clear h9; go_simp
      refine wpAnyH_take (i := 1) (v := .pointer (some ⟨bn, 0, none⟩)) rfl (by kernel_rfl) (by kernel_rfl) (by kernel_rfl) (fun _ _ _ h => h) (Or.inl ⟨by kernel_rfl, fun w9 h9 => ?_⟩) HS0.out ?_
      · clear h9; go_simp
      refine wpAnyH_take (i := 2) (v := .pointer (some ⟨b, P, none⟩)) rfl (by kernel_rfl) (by kernel_rfl) (by kernel_rfl) (fun _ _ _ h => h) (Or.inl ⟨by kernel_rfl, fun w9 h9 => ?_⟩) HS0.out ?_
      · have d0 := put_celX h9.2 0 _ rfl; have dl := (Array.getElem?_eq_some_iff.1 h9.2).1; clear h9; go_simp
      refine wpAnyH_take (i := 3) (v := .pointer (some ⟨b, P, none⟩)) rfl (by kernel_rfl) (by kernel_rfl) (by kernel_rfl) (fun _ _ _ h => h) (Or.inl ⟨by kernel_rfl, fun w9 h9 => ?_⟩) HS0.out ?_
      · have dl := h9.1.ltb; clear h9; go_simp
      refine wpAnyH_take (i := 4) (v := .int .i64 V) rfl (by kernel_rfl) (by kernel_rfl) (by kernel_rfl) (fun _ _ _ h => h) (Or.inl ⟨by kernel_rfl, fun w9 h9 => ?_⟩) HS0.out ?_
      · have d0 := h9.1.cb _ _ HE3.out; have dl := h9.1.ltb; clear h9; go_simp
      refine wpAnyH_take (i := 5) (v := .pointer (some ⟨bn, 1, none⟩)) rfl (by kernel_rfl) (by kernel_rfl) (by kernel_rfl) (fun _ _ _ h => h) (Or.inl ⟨by kernel_rfl, fun w9 h9 => ?_⟩) HS0.out ?_
      · clear h9; go_simp
      refine wpAnyH_take (i := 6) (v := .int .i64 (Z : Int)) rfl (by kernel_rfl) (by kernel_rfl) (by kernel_rfl) (fun _ _ _ h => h) (Or.inl ⟨by kernel_rfl, fun w9 h9 => ?_⟩) HS0.out ?_
      · have d0 := put_celX h9.2 1 _ rfl; have dl := (Array.getElem?_eq_some_iff.1 h9.2).1; clear h9; go_simp
      refine held_one 7 (by kernel_rfl) rfl (by kernel_rfl) fun K hK => ?_
      go_simp
      go_wp2_with (go_at_call 36; refine Calls.mono (HLB.out _) ?_; rintro e9 v3 ⟨rfl, hu⟩; have HS3 : Hid (TX w v3 b g h ∧ v3.heap[bn]? = some (.cells #[.pointer (some ⟨b, P, none⟩), .int .i64 (Z : Int)] 72 (0, 0))) := ⟨HS0.out.1.step hu, (hu.block _ (Array.getElem?_eq_some_iff.1 HS0.out.2).1).trans HS0.out.2⟩; have HO3 : Hid (v3.ownsRow w.heap.size 9 1 (.slice a3 (k + 1) c3) (k + 1) (sR ((whPc h).take (k + 1)))) := own_below HO2.out hu; clear hu HS0 HO2)
      refine hK _ _ HS3.out ?_
      clear hK K
      refine held_one 8 (by kernel_rfl) rfl (by kernel_rfl) fun K hK => ?_
      have HS4 : Hid (TX w (v3.alloc (.cells #[.string (lb V Z)] 9)) b g h ∧ (v3.alloc (.cells #[.string (lb V Z)] 9)).heap[bn]? = some (.cells #[.pointer (some ⟨b, P, none⟩), .int .i64 (Z : Int)] 72 (0, 0))) := ⟨HS3.out.1.step (bx1 _ _), ((bx1 _ _).block _ (Array.getElem?_eq_some_iff.1 HS3.out.2).1).trans HS3.out.2⟩
      have HAP : Hid _ := app1SW HO3.out (lb V Z) (by omega) HS3.out.1.bel.size
      have HOB : Hid (∀ j, (Value.slice a3 (k + 1) c3).ownBlock = some j → w.heap.size ≤ j) := fun j hj => (HO3.out.lt j hj).1
      go_simp
      refine hK _ _ HS4.out ?_
      clear hK K HS3 HO3
      refine held_one 9 (by kernel_rfl) rfl (by kernel_rfl) fun K hK => ?_
      refine wp_append_exBW _ _ 67 rfl (.slice a3 (k + 1) c3) (.slice (some ⟨v3.heap.size, 0, none⟩) 1 1) rfl rfl HAP.out ?_
      rintro sv v5 ⟨ho, hg⟩
      obtain ⟨a5, c5, rfl⟩ := s_sl ho
      have hlt9 := HLT.out
      have HS5 : Hid (TX w v5 b g h ∧ v5.heap[bn]? = some (.cells #[.pointer (some ⟨b, P, none⟩), .int .i64 (Z : Int)] 72 (0, 0))) := ⟨HS4.out.1.grow hg (fun e9 => by have := hlt9 _ e9; omega) HNE.out (fun j hj => (hlt9 j hj).1), (hg.block bn (Array.getElem?_eq_some_iff.1 HS4.out.2).1 (fun e9 => by have := hlt9 _ e9.symm; omega)).trans HS4.out.2⟩
      have HO5 : Hid (v5.ownsRow w.heap.size 9 1 (.slice a5 (k + 1 + 1) c5) (k + 1 + 1) (sR ((whPc h).take (k + 2)))) := (by rw [HT.out]; unfold sR at ho ⊢; rw [List.map_append]; exact ho)
      have HGN : Hid ((Value.slice a5 (k + 1 + 1) c5).ownBlock ≠ some g) := own_ne HO5.out HS5.out.1.row (by decide)
      clear ho hg hlt9
      refine hK _ _ HS5.out ?_
      clear hK K
      refine wpAnyH_take (i := 10) (v := .slice a5 (k + 1 + 1) c5) rfl (by kernel_rfl) (by kernel_rfl) (by kernel_rfl) (fun _ _ _ h => h) (Or.inl ⟨by kernel_rfl, fun w9 h9 => ?_⟩) HS5.out ?_
      · clear h9; go_simp
      refine wpAnyH_done (by kernel_rfl) ?_ _
      go_simp
      go_wp2
      exact ⟨⟨k + 1, by omega, by go_num, HS5.out.1, HO5.out, HGN.out⟩, by simp [intOf]; omega⟩
    · obtain rfl : k = 7 := by omega
      have HJ : Hid (Calls Tryd.prog 16 #[.slice a3 (7 + 1) c3] wr fun e w' => e = .returned (.string (whT h)) ∧ Below wr.heap.size wr w') := joined_rowW (ps := whPc h) hown (by rw [whPc_len]; omega) (by
        have e : (catB (whPc h)).length = 29 := by
          simp [catB, whPc, whP, lb_size, NV_size]
        omega)
      have HTX : Hid _ := htx
      clear htx hown
      go_wp2_with (go_at_call 16; refine Calls.mono HJ.out ?_; rintro e u5 ⟨rfl, hu5⟩; have HB5 : Hid (Below w.heap.size w u5) := HTX.out.bel.trans (hu5.mono HTX.out.bel.size); clear hu5)
      go_ret
      exact ⟨rfl, HB5.out⟩
end Go.Proofs.YtmmodmanfoipiaaDoor
