import Derived.Test.YthhbfghbpapklabGv1
import Derived.Test.YthhbfghbpapklabGEx
import Derived.Deep.RegionHeld3
namespace Go.Proofs.Ythhbfghbpapklab
open Go.ChangeShapes Go.WideShapes Go.ChangeAt Go.RowKit

theorem PT.setq {u : World} {b mb n t : Nat} {q : QV} {sg : Bool} {rest : Array Value} {s : ByteArray} (h : PT u b mb n t q sg rest s) (S D A U T G : Int) : PT ((((((u.setCell ⟨b, 1, none⟩ (.int .i64 S)).setCell ⟨b, 2, none⟩ (.int .i64 D)).setCell ⟨b, 3, none⟩ (.int .i64 A)).setCell ⟨b, 4, none⟩ (.int .i64 U)).setCell ⟨b, 5, none⟩ (.int .i64 T)).setCell ⟨b, 6, none⟩ (.int .i64 G)) b mb n t ⟨S, D, A, U, T, G⟩ sg rest s := by
  obtain ⟨q1, q2, q3, q4, q5, q6⟩ := q
  have h1 := h.set (q' := ⟨S, q2, q3, q4, q5, q6⟩) (sg' := sg) 1 (.int .i64 S) (by omega) rfl
  have h2 := h1.set (q' := ⟨S, D, q3, q4, q5, q6⟩) (sg' := sg) 2 (.int .i64 D) (by omega) rfl
  have h3 := h2.set (q' := ⟨S, D, A, q4, q5, q6⟩) (sg' := sg) 3 (.int .i64 A) (by omega) rfl
  have h4 := h3.set (q' := ⟨S, D, A, U, q5, q6⟩) (sg' := sg) 4 (.int .i64 U) (by omega) rfl
  have h5 := h4.set (q' := ⟨S, D, A, U, T, q6⟩) (sg' := sg) 5 (.int .i64 T) (by omega) rfl
  exact h5.set 6 (.int .i64 G) (by omega) rfl
theorem Fr2.set {w u : World} {b m : Nat} (h : Fr2 w u b m) (o : Nat) (v : Value) : Fr2 w (u.setCell ⟨b, o, none⟩ v) b m := h.growB gb_set1
theorem Fr2.trans2 {w u v : World} {b m : Nat} (h : Fr2 w u b m) (h2 : Fr2 u v b m) : Fr2 w v b m :=
  ⟨h2.os.trans h.os, h2.tape.trans h.tape, h2.output.trans h.output, Nat.le_trans h.size h2.size, fun k hk h3 h4 => (h2.block k (Nat.lt_of_lt_of_le hk h.size) h3 h4).trans (h.block k hk h3 h4)⟩
set_option maxRecDepth 100000 in
set_option maxHeartbeats 4000000 in
theorem giveBack_any {w : World} {b mb n t : Nat} {s : ByteArray} {sg : Bool} {rest : Array Value} {q : QV} (S A U G : Nat) (D T : Int) (c hd size : Int) (v : Value) (hv : ∃ ao L cap, v = .slice ao L cap) (h : PT w b mb n t q sg rest s) (hn : s.size = n * 256) (hs : s.size ≤ 65536) (hS : 1 ≤ S) (hS2 : S ≤ 16) (hG : G ≤ 65535) (hA4 : A % 4 = 0) (hA : A + (8 + S * 4) ≤ s.size) (hU4 : U % 4 = 0) (hU : U + (8 + S * 8) ≤ s.size) :
    Calls Try.prog 212 #[.pointer (some ⟨b, 0, none⟩), tcA c hd v ⟨S, D, A, U, T, G⟩, .int .i64 size] w fun e w' => e = .returned (.tuple #[]) ∧ PT w' b mb n t ⟨S, D, A, U, T, (((G + 1) % 65536 : Nat) : Int)⟩ (sg || (wv (gcM s S U G hd size) A % 2 == 0)) rest (gcM s S U G hd size) ∧ Fr2 w w' b mb := by
  obtain ⟨ao, L, cap, rfl⟩ := hv
  have HGC : Hid _ := fun (u : World) (sg : Bool) (hp : PT u b mb n t ⟨S, D, A, U, T, G⟩ sg rest s) => givePort_any S A U G D T hd size hp hn hs hS hS2 hG hA4 hA hU4 hU
  generalize (wv (gcM s S U G hd size) A % 2 == 0) = BIT at *
  generalize gcM s S U G hd size = M2 at *
  generalize (((G + 1) % 65536 : Nat) : Int) = G2 at *
  have HP0 : Hid (PT (w.alloc (.cells #[.int .i64 c, .int .i64 hd, .slice ao L cap, .int .i64 S, .int .i64 D, .int .i64 A, .int .i64 U, .int .i64 T, .int .i64 G] 76)) b mb n t q sg rest s) := h.below (bx1 _ _)
  have HF0 : Hid (Fr2 w (w.alloc (.cells #[.int .i64 c, .int .i64 hd, .slice ao L cap, .int .i64 S, .int .i64 D, .int .i64 A, .int .i64 U, .int .i64 T, .int .i64 G] 76)) b mb) := (Fr2.refl w b mb).below (bx1 _ _)
  have HX0 : Hid ((w.alloc (.cells #[.int .i64 c, .int .i64 hd, .slice ao L cap, .int .i64 S, .int .i64 D, .int .i64 A, .int .i64 U, .int .i64 T, .int .i64 G] 76)).heap[w.heap.size]? = some (.cells #[.int .i64 c, .int .i64 hd, .slice ao L cap, .int .i64 S, .int .i64 D, .int .i64 A, .int .i64 U, .int .i64 T, .int .i64 G] 76 (0, 0))) := heap_new _ _
  have hblt := h.lt
  have HML : Hid (mb < w.heap.size) := h.mem.lt
  clear h hn hs hS hS2 hG hA4 hA hU4 hU
  unfold tcA
  unfold mv at HGC
  simp only
  go_enter Try.func212, Try.ntmps212
  go_upto_region 1 with fail
  generalize (w.alloc (.cells #[.int .i64 c, .int .i64 hd, .slice ao L cap, .int .i64 S, .int .i64 D, .int .i64 A, .int .i64 U, .int .i64 T, .int .i64 G] 76)) = y0 at *
  have x1 := bC HX0.out 1 (.int .i64 hd) rfl
  have x3 := bC HX0.out 3 (.int .i64 S) rfl
  have x4 := bC HX0.out 4 (.int .i64 D) rfl
  have x5 := bC HX0.out 5 (.int .i64 A) rfl
  have x6 := bC HX0.out 6 (.int .i64 U) rfl
  have x7 := bC HX0.out 7 (.int .i64 T) rfl
  have x8 := bC HX0.out 8 (.int .i64 G) rfl
  have xl : w.heap.size < y0.heap.size := (Array.getElem?_eq_some_iff.1 HX0.out).1
  obtain ⟨qq1, qq2, qq3, qq4, qq5, qq6⟩ := q
  obtain ⟨c1, c2, c3, c4, c5, c6⟩ := HP0.out.cs
  have cf := fun k => HP0.out.fz k
  have cl := HP0.out.lt
  have HP1 : Hid _ := HP0.out.setq S D A U T G
  have HF1 : Hid _ := (((((HF0.out.set 1 (.int .i64 S)).set 2 (.int .i64 D)).set 3 (.int .i64 A)).set 4 (.int .i64 U)).set 5 (.int .i64 T)).set 6 (.int .i64 G)
  have hbx : b ≠ w.heap.size := by omega
  have HX1 : Hid (((((((y0.setCell ⟨b, 1, none⟩ (.int .i64 S)).setCell ⟨b, 2, none⟩ (.int .i64 D)).setCell ⟨b, 3, none⟩ (.int .i64 A)).setCell ⟨b, 4, none⟩ (.int .i64 U)).setCell ⟨b, 5, none⟩ (.int .i64 T)).setCell ⟨b, 6, none⟩ (.int .i64 G)).cell? ⟨w.heap.size, 1, none⟩ = some (.int .i64 hd)) := by
    have e : ((((((y0.setCell ⟨b, 1, none⟩ (.int .i64 S)).setCell ⟨b, 2, none⟩ (.int .i64 D)).setCell ⟨b, 3, none⟩ (.int .i64 A)).setCell ⟨b, 4, none⟩ (.int .i64 U)).setCell ⟨b, 5, none⟩ (.int .i64 T)).setCell ⟨b, 6, none⟩ (.int .i64 G)).heap[w.heap.size]? = y0.heap[w.heap.size]? := by
      have hs : ∀ (u : World) (o : Nat) (v : Value), (u.setCell ⟨b, o, none⟩ v).heap[w.heap.size]? = u.heap[w.heap.size]? := fun u o v => Below.heap_setCell _ _ _ _ (by simp; omega)
      rw [hs, hs, hs, hs, hs, hs]
    exact bC (e.trans HX0.out) 1 _ rfl
  go_upto_region 2 with fail
  generalize ((((((y0.setCell ⟨b, 1, none⟩ (.int .i64 S)).setCell ⟨b, 2, none⟩ (.int .i64 D)).setCell ⟨b, 3, none⟩ (.int .i64 A)).setCell ⟨b, 4, none⟩ (.int .i64 U)).setCell ⟨b, 5, none⟩ (.int .i64 T)).setCell ⟨b, 6, none⟩ (.int .i64 G)) = y1 at *
  clear x1 x3 x4 x5 x6 x7 x8 xl c1 c2 c3 c4 c5 c6 cf cl HP0 HF0 HX0
  go_cut [21] (fun s21 wc => s21 = .bool BIT ∧ PT wc b mb n t ⟨S, D, A, U, T, G2⟩ sg rest M2 ∧ Fr2 w wc b mb)
  case first =>
    have x1 := HX1.out
    have c0 := HP1.out.cel 0 (.slice (some ⟨mb, 0, none⟩) n n) rfl
    have cl := HP1.out.lt
    have xl : w.heap.size < y1.heap.size := by
      have := World.cell?
      obtain ⟨ob, hob⟩ : ∃ ob, y1.heap[w.heap.size]? = some ob := by
        cases hq : y1.heap[w.heap.size]? with
        | none => simp [World.cell?, hq] at x1
        | some ob => exact ⟨ob, rfl⟩
      exact (Array.getElem?_eq_some_iff.1 hob).1
    go_region_held3 (fun w' => w'.cell? ⟨b, 0, none⟩ = some (.slice (some ⟨mb, 0, none⟩) n n) ∧ w'.cell? ⟨w.heap.size, 1, none⟩ = some (.int .i64 hd)) (go_keep) ((go_at_call 215; refine Calls.mono (HGC.out _ _ (HP1.out.below ((Below.refl _ _).drew))) ?_; rintro e y2 ⟨rfl, hP, hF⟩; have hF2 : Fr2 y1 y2 b mb := ⟨hF.os, hF.tape, hF.output, hF.size, hF.block⟩; have HP2 : Hid _ := hP; have HF2 : Hid _ := HF1.out.trans2 hF2; have c0' := hP.cel 0 (.slice (some ⟨mb, 0, none⟩) n n) rfl; have x1' : y2.cell? ⟨w.heap.size, 1, none⟩ = some (.int .i64 hd) := (World.cell?_of_block (hF2.block w.heap.size xl (by omega) (by have := HML.out; omega))).trans x1; clear hP hF hF2))
    all_goals
      go_wp2_with fail
      go_meet
      case rel => exact ⟨rfl, HP2.out, HF2.out⟩
  case rest =>
    obtain ⟨rfl, hP, hF⟩ := hcut
    have HP2 : Hid _ := hP
    have HF2 : Hid _ := hF
    have c7 := hP.cel 7 (.bool sg) rfl
    have cf := hP.fz 7
    have cl := hP.lt
    clear hP hF HP1 HF1 HX1 HGC
    cases BIT
    · go_wp2_with fail
      refine bodyPost_end (v := .tuple #[]) (by simp [results, Try.results212, go_sem]) rfl ⟨rfl, ?_, HF2.out⟩
      simpa using HP2.out
    · go_wp2_with fail
      refine bodyPost_end (v := .tuple #[]) (by simp [results, Try.results212, go_sem]) rfl ⟨rfl, ?_, HF2.out.set 7 _⟩
      rw [Bool.or_true]
      exact HP2.out.set 7 (.bool true) (by omega) rfl
end Go.Proofs.Ythhbfghbpapklab
