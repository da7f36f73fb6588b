import Derived.Test.YtlpkkclmcgnapaaDoorPTextP
import Derived.Test.YtlpkkclmcgnapaaDoorPEnc
import Derived.Test.YtlpkkclmcgnapaaDoorShelf
import Derived.Lib.AppendIntMem
namespace Go.Proofs.YtlpkkclmcgnapaaDoor
open Go.ChangeShapes Go.WideShapes Go.ChangeAt Go.RowKit

def Tab (w : World) : Prop := Lib.TabIs Tryd.prog w "internal/strconv.uint64pow10" .u64 Lib.pow10Tab
theorem gPow : Tryd.prog.globalNamed "internal/strconv.uint64pow10" = some 1 := by kernel_rfl
theorem Tab.below {B : Nat} {w w' : World} (h : Tab w) (hb : Below B w w') (hB : 1 < B) : Tab w' := by
  unfold Tab Lib.TabIs World.var? at h ⊢
  rw [gPow] at h ⊢
  simp only [Option.bind_some] at h ⊢
  rw [hb.block _ hB]
  exact h
theorem fmt_any (n : Int) (h0 : -9223372036854775808 ≤ n) (h1 : n ≤ 9223372036854775807) (w : World) (ht : Tab w) :
    Calls Tryd.prog 19 #[.int .i64 n, .int .i64 10] w fun e w' => e = .returned (.string (decB n)) ∧ Below w.heap.size w w' := by
  refine (Tryd.strconv_FormatInt_10 n h0 h1 w ht).mono ?_
  rintro e u ⟨rfl, k, os, rfl⟩
  exact ⟨ret_str (by rw [itoa_decL]; rfl), Lib.below_grow _ w (Nat.le_refl _) k os⟩
theorem decB_sz (n : Int) (h0 : -9223372036854775808 ≤ n) (h1 : n ≤ 9223372036854775807) : (decB n).data.toList.length ≤ 30 := by
  have := decB_size n h0 h1
  simpa using this
theorem joined2 (b : Nat) (x y : ByteArray) (w : World) (hb : b < w.heap.size) (h0 : w.cell? ⟨b, 0, none⟩ = some (.string x)) (h1 : w.cell? ⟨b, 1, none⟩ = some (.string y)) (hx : x.size ≤ 1000) (hy : y.size ≤ 1000) :
    Calls Tryd.prog 9 #[.slice (some ⟨b, 0, none⟩) 2 2] w fun e w' => e = .returned (.string (x ++ y)) ∧ Below w.heap.size w w' := by
  refine (joined_any b 2 2 [x, y] w rfl hb ?_ (by decide) ?_).mono ?_
  · intro i hi
    obtain rfl | rfl : i = 0 ∨ i = 1 := by omega
    · simpa using h0
    · simpa using h1
  · simp [catB]; omega
  · rintro e u ⟨rfl, hu⟩
    exact ⟨ret_str (ext_list (by simp [catB])), hu⟩
set_option maxRecDepth 100000 in
theorem taR (s n : Int) (l : ByteArray) (w : World) : (Instr.typeAssert (.iface 48 (.agg #[.int .i64 s, .string l, .int .i64 n])) 36 48 true).run Tryd.prog w = .ok (.tuple #[.agg #[.int .i64 s, .string l, .int .i64 n], .bool true]) w := by kernel_rfl
set_option maxRecDepth 100000 in
theorem taI (a b : Int) (w : World) : (Instr.typeAssert (.iface 45 (.agg #[.int .i64 a, .int .i64 b])) 36 48 true).run Tryd.prog w = .ok (.tuple #[.agg #[.int .i64 0, .string ⟨#[]⟩, .int .i64 0], .bool false]) w := by kernel_rfl
set_option maxRecDepth 100000 in
set_option maxHeartbeats 2000000 in
theorem opdText_any (o : Opd) (hl : ∀ s l n, o = .reg s l n → l.size ≤ 10) (f : Int × Int × Int × Int) (w : World) (ht : Tab w) (h0 : -9223372036854775808 ≤ fld o.plc f) (h1 : fld o.plc f ≤ 9223372036854775807) :
    Calls Tryd.prog 12 #[o.val, .int .i64 (fld o.plc f)] w fun e w' => e = .returned (.string (opdT o f)) ∧ Below w.heap.size w w' := by
  unfold opdT
  generalize hv : fld o.plc f = v at *
  clear hv
  have hd := decB_size v h0 h1
  have hfm := fmt_any v h0 h1 w ht
  generalize decB v = d at *
  clear ht h0 h1
  cases o with
  | reg s l n =>
    have hls := hl s l n rfl
    have hta := taR s n l
    simp only [Opd.val]
    clear hl
    go_enter Tryd.func12, Tryd.ntmps12
    go_wp2_with (first | (go_at_call 19; refine Calls.mono hfm ?_; rintro e u1 ⟨rfl, hu1⟩) | (go_at_call 9; refine (joined2 _ l d _ (by simp) (by simp [go_sem]) (by simp [go_sem]) (by omega) (by omega)).mono ?_; rintro e u2 ⟨rfl, hu2⟩))
    go_ret
    exact ⟨rfl, ((hu1.alloc hu1.size _).alloc (by have := hu1.size; simp; omega) _).trans (hu2.mono (by have := hu1.size; simp; omega))⟩
  | imm a b =>
    have hta := taI a b
    simp only [Opd.val]
    clear hl
    go_enter Tryd.func12, Tryd.ntmps12
    go_wp2_with (first | (go_at_call 19; refine Calls.mono hfm ?_; rintro e u1 ⟨rfl, hu1⟩))
    go_ret
    exact ⟨rfl, hu1⟩
end Go.Proofs.YtlpkkclmcgnapaaDoor
