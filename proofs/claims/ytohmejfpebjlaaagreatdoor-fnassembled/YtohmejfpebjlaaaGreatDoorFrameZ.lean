import Derived.Test.YtohmejfpebjlaaaGreatDoorTie
import Derived.Test.YtohmejfpebjlaaaGreatDoorCards
import Derived.Test.YtohmejfpebjlaaaGreatDoorLaid
import Derived.Test.YtohmejfpebjlaaaGreatDoorInstrsW
import Derived.SevenTiedAt
import Derived.Lay
import Derived.Shelf.Vars
import Derived.HandedShaped
import Derived.Lib.LaidTab
import Derived.Handed
namespace Go.Proofs.YtohmejfpebjlaaaGreatDoor
open Go.ChangeShapes Go.WideShapes Go.ChangeAt Go.WideMaps Go.WideElems Go.RowKit

/-- The wrap: what is laid and the world's shape, both. -/
theorem wrapLS {H : Type} {enc : TypeId × Value → H} {a : Assume} {C : Checked} {os : Os} {f : FuncId} {fn : Func} {s : ChangeSpec} {conds : List PathCond} {apart fresh handsOn again : Bool} {X : World → Array Value → Prop}
    (hX : ∀ (w w' : World) (args : Array Value), w.heap = w'.heap → X w args → X w' args)
    (own : ownKnob C.prog.godebug = none) (started : os.Started) (noInit : C.prog.inits.idxOf? f = none) (hfn : C.prog.funcs[f]? = some fn)
    (witness : ∃ (w : World) (tape : Tape) (i : Input), w.os = os ∧ (w.forCall tape i).Shaped C.prog ∧ i.vars = [] ∧ Input.okWide C.prog (w.forCall tape i) .any w.heap.size f i ∧
      ((s.pre enc C.prog fn conds apart (w.forCall tape i).memory i.args ∧ X (w.forCall tape i).memory i.args) ∧ sizedMet enc C.prog fn (OpenSpec.ofChange s) apart (w.forCall tape i).memory i.args) ∧ a.holds C.prog (lone (Frame.enter C.prog f i.args .normal) [] (w.forCall tape i)))
    (contract : ∀ (W : World) (base : Nat) (args : Array Value) (ds gs : List (DataW H)) (before : List MemPlace),
      (∀ (j : Nat) t v, fn.params[j]? = some t → args[j]? = some v → Value.okWide C.prog W .any base t v) →
      DataW.Whole enc C.prog fn.params.toList s.vars apart W args.toList ds gs before → X W args → W.ShapedOpen C.prog →
      Calls C.prog f args W fun e W' => ∃ v, e = .returned v ∧ s.post enc C.prog fn apart fresh handsOn again W args v W') :
    ReturnsInHanded a C os f .any (fun w args => (s.pre enc C.prog fn conds apart w args ∧ X w args) ∧ sizedMet enc C.prog fn (OpenSpec.ofChange s) apart w args) (s.post enc C.prog fn apart fresh handsOn again) := by
  refine returnsInHanded_of_calls own started noInit witness ?_
  intro w tape i _ hsh _ hok hpre _
  obtain ⟨_, _, _, fn', hfn', _, _, _, _, hval⟩ := hok
  have e : fn' = fn := Option.some.inj (hfn'.symm.trans hfn)
  subst e
  obtain ⟨⟨⟨ds, gs, before, hw, _⟩, hx⟩, _⟩ := hpre
  have hw' := DataW.Whole.of_heap (w' := w.forCall tape i) (by rfl) hw
  refine (contract (w.forCall tape i) w.heap.size i.args ds gs before hval hw' (hX _ _ _ (by rfl) hx) hsh).mono fun e W' ⟨v, he, hp⟩ => ?_
  subst he
  exact ChangeSpec.post_blind hp

theorem own : ownKnob Tryz.prog.godebug = none := by kernel_rfl
theorem laidOut : laidOutB Tryz.prog = true := by kernel_rfl
theorem tPow : (Tryz.prog.globals[1]?).map (·.type) = some 146 := by kernel_rfl
theorem pow_is {H : Type} : (Rows.laid_internal_strconv_uint64pow10 : DataW H) = Lib.tabData .u64 Lib.pow10Tab := by kernel_rfl
theorem c94 : Tryz.prog.cellsOf 146 = 20 := by kernel_rfl
theorem arr_at (k : Nat) (hk : k < 55) : opArr[k]? = some (.string (nm k)) := by
  unfold opArr
  simp [hk]
theorem var_block {P : Program} {w : World} {n : String} {g : Nat} {cs : Array Value} (hg : P.globalNamed n = some g) (h : w.var? P n = some cs) : ∃ t fr, w.heap[g]? = some (.cells cs t fr) := by
  unfold World.var? at h
  rw [hg] at h
  simp only [Option.bind_some] at h
  split at h
  · next c t fr hh => exact ⟨t, fr, by rw [hh, Option.some.inj h]⟩
  · cases h
theorem env_of_laid {W : World} (h : laidMetH Tryz.prog Rows.fnInstrsRow.laid W) (hs : W.ShapedOpen Tryz.prog) : Env W ∧ 2 < W.heap.size := by
  change laidMetH Tryz.prog [("math/bits.deBruijn32tab", Rows.laid_math_bits_deBruijn32tab), ("math/bits.deBruijn64tab", Rows.laid_math_bits_deBruijn64tab), ("internal/strconv.uint64pow10", Rows.laid_internal_strconv_uint64pow10), ("unicode/utf8.acceptRanges", Rows.laid_unicode_utf8_acceptRanges), ("strconv.ErrRange", Rows.laid_strconv_ErrRange), ("strconv.ErrSyntax", Rows.laid_strconv_ErrSyntax), ("loop.example/g00038/impl.opNames", Rows.laid_loop_example_g00038_impl_opNames), ("unicode/utf8.first", Rows.laid_unicode_utf8_first)] W at h
  rw [MakeChecks.laidMetH_plain _ _ _ (by kernel_rfl)] at h
  obtain ⟨ps, ⟨_, _, _, _, _, _, _, _, _, _, ⟨_, _, _, _, _, _, _, _, _, _, ⟨g2, t2, cs2, f2, p2, q2, hg2, ht2, hv2, hd2, ⟨_, _, _, _, _, _, _, _, _, _, ⟨_, _, _, _, _, _, _, _, _, _, ⟨_, _, _, _, _, _, _, _, _, _, ⟨g0, t0, cs0, f0, p0, q0, hg0, ht0, hv0, hd0, _, _⟩, _⟩, _⟩, _⟩, _⟩, _⟩, _⟩, _, _⟩ := h
  obtain rfl := Option.some.inj (gNames.symm.trans hg0)
  obtain rfl := Option.some.inj (tNames.symm.trans ht0)
  obtain rfl := Option.some.inj (gPow.symm.trans hg2)
  obtain rfl := Option.some.inj (tPow.symm.trans ht2)
  have ht : Tab W := by
    rw [pow_is] at hd2
    unfold Tab Lib.TabIs
    rw [hv2, ← Lib.cells_of_tab Tryz.underlying146 Tryz.underlying80 (by kernel_rfl) c94 hd2]
  have hn := names_of hv0 hd0
  have hmax : MaxAt W := cell_of_shapedOpen_int (t := 3) (zero := #[.int .i64 0]) hs (by decide) (by kernel_rfl) rfl (by kernel_rfl) (by kernel_rfl) Tryz.underlying3
  have hm2 : 2 < W.heap.size := by
    obtain ⟨m, hm⟩ := hmax
    exact World.block_lt_of_cell? W _ hm
  have hp2 : 1 < W.heap.size := World.block_lt_of_cell? W _ (Lib.TabIs.cell ht gPow 0 (by decide))
  have hB : NamesB W := by
    have hsz : cs0.toList.length = 55 := by
      obtain ⟨xs, m1, e1, hx1, hlen, hn3, hel⟩ := DataW.trod_array Tryz.underlying91 hd0
      rw [hlen]
      exact c60
    have hcs : cs0 = opArr := by
      refine Array.ext ?_ fun i h1 h2 => ?_
      · rw [← Array.length_toList, hsz]
        simp [opArr]
      · have hi : i < 55 := by rw [← Array.length_toList, hsz] at h1; exact h1
        have e1 := hn i hi
        rw [World.var?_cell gNames hv0 i] at e1
        have e2 := arr_at i hi
        rw [Array.getElem?_eq_getElem h1] at e1
        rw [Array.getElem?_eq_getElem h2] at e2
        exact Option.some.inj (e1.trans e2.symm)
    subst hcs
    exact var_block gNames hv0
  exact ⟨⟨hn, hB, ht, hmax⟩, hm2⟩
end Go.Proofs.YtohmejfpebjlaaaGreatDoor
