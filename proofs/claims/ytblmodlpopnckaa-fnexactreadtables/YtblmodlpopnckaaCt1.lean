import Derived.Test.YtblmodlpopnckaaRowS
import Derived.Laws.BytesArg
import Derived.Test.YtblmodlpopnckaaHl
import Derived.Test.YtblmodlpopnckaaBytesC
import Derived.Laws.Concat
namespace Go.Proofs.Ytblmodlpopnckaa
open Go.ChangeShapes Go.WideShapes Go.ChangeAt Go.RowKit

set_option maxRecDepth 100000
/-- The digits of a number ahead of a text. -/
def mtD : Nat → Nat → ByteArray → ByteArray
  | 0, _, t => t
  | f + 1, k, t => if k = 0 then t else mtD f (k / 10) (strOfNums [48 + ((k % 10 : Nat) : Int)] ++ t)
theorem mtD_zero (f : Nat) (t : ByteArray) : mtD f 0 t = t := by cases f <;> simp [mtD]
theorem mtD_more : ∀ (f k : Nat) (t : ByteArray), k < 10 ^ f → mtD (f + 1) k t = mtD f k t := by
  intro f
  induction f with
  | zero =>
    intro k t hk
    have : k = 0 := by simpa using hk
    subst this
    rfl
  | succ f ih =>
    intro k t hk
    by_cases hz : k = 0
    · subst hz; rw [mtD_zero, mtD_zero]
    · have hk2 : k / 10 < 10 ^ f := by
        rw [Nat.div_lt_iff_lt_mul (by omega)]
        rw [Nat.pow_succ] at hk
        exact hk
      show (if k = 0 then t else mtD (f + 1) (k / 10) _) = (if k = 0 then t else mtD f (k / 10) _)
      rw [if_neg hz, if_neg hz, ih _ _ hk2]
theorem mtD_step {k : Nat} {t : ByteArray} (hz : ¬ k = 0) (hk : k < 10 ^ 20) : mtD 20 k t = mtD 20 (k / 10) (strOfNums [48 + ((k % 10 : Nat) : Int)] ++ t) := by
  have h1 : mtD 20 k t = mtD 19 (k / 10) (strOfNums [48 + ((k % 10 : Nat) : Int)] ++ t) := by
    show (if k = 0 then t else mtD 19 (k / 10) _) = _
    rw [if_neg hz]
  rw [h1]
  refine (mtD_more 19 _ _ ?_).symm
  rw [Nat.div_lt_iff_lt_mul (by omega)]
  omega
/-- The text of a mark. -/
def mtx (k : Int) : ByteArray := (⟨#[109]⟩ : ByteArray) ++ mtD 20 k.toNat ⟨#[]⟩
theorem strOfNums_size (l : List Int) : (strOfNums l).size = l.length := by simp [strOfNums, ByteArray.size]
theorem conv1 (w : World) (a : Int) :
    Sem.run Try.prog (convert 71 9 (.slice (some ⟨w.heap.size, 0, none⟩) 1 1)) (w.alloc (.cells #[.int .u8 a] 5)) = .ok (.string (strOfNums [a])) (w.alloc (.cells #[.int .u8 a] 5)) := by
  refine run_convert_bytes_arg _ 71 5 Try.underlying71 Try.underlying5 w.heap.size 0 1 1 [a] rfl ?_ 9 Try.underlying9
  intro i hi
  match i, hi with
  | 0, _ => simp
set_option maxHeartbeats 4000000 in
theorem markText_any (k : Nat) (hk1 : 1 ≤ k) (hk2 : k ≤ 281474976710656) (w : World) : Calls Try.prog 48 #[.int .i64 (k : Nat)] w fun e w' => e = .returned (.string (mtx (k : Int))) ∧ Below w.heap.size w w' := by
  have h0 : ¬ (k : Int) ≤ 0 := by omega
  obtain ⟨G, hG⟩ : ∃ G, mtD 20 k ⟨#[]⟩ = G := ⟨_, rfl⟩
  have hM : mtx (k : Int) = (⟨#[109]⟩ : ByteArray) ++ G := by unfold mtx; rw [Int.toNat_natCast, hG]
  rw [hM]
  have HG : Hid (mtD 20 k ⟨#[]⟩ = G) := hG
  have HCV : Hid _ := fun (u : World) (a : Int) => conv1 u a
  clear hG hM
  go_enter Try.func48, Try.ntmps48
  go_wp2
  go_loopw [0, 3] (fun x o wr => ∃ (n : Nat) (t : ByteArray), t.size + n ≤ 281474976710656 ∧ x = .int .i64 (n : Nat) ∧ o = .string t ∧ mtD 20 n t = G ∧ Below w.heap.size w wr) (fun x _ _ => (intOf x).toNat)
  case atStart => exact ⟨k, ⟨#[]⟩, by simpa [ByteArray.size] using hk2, rfl, rfl, HG.out, Below.refl _ _⟩
  case round =>
    obtain ⟨n, t, hs, rfl, rfl, hg, hb⟩ := hrel
    by_cases hz : n = 0
    · subst hz
      rw [mtD_zero] at hg
      have hG2 : t = G := hg
      subst hG2
      have hadd := fun w => run_string_add_sum (P := Try.prog) w ⟨#[109]⟩ t (by rw [show (⟨#[109]⟩ : ByteArray).size = 1 from rfl]; omega)
      clear hg
      go_wp2
      go_ret
      exact ⟨rfl, hb⟩
    · have hn0 : (0 : Int) < (n : Int) := by omega
      have hstep := mtD_step (t := t) hz (by omega)
      rw [hg] at hstep
      obtain ⟨d, hd⟩ : ∃ d : Nat, n % 10 = d := ⟨_, rfl⟩
      obtain ⟨q, hq⟩ : ∃ q : Nat, n / 10 = q := ⟨_, rfl⟩
      rw [hd, hq] at hstep
      have h1 : ((n : Nat) : Int).tmod 10 = (d : Int) := by rw [Int.tmod_eq_emod_of_nonneg (by omega)]; omega
      have h2 : ((n : Nat) : Int).tdiv 10 = (q : Int) := by rw [Int.tdiv_eq_ediv_of_nonneg (by omega)]; omega
      have h1b : ((n : Nat) : Int) % 10 = (d : Int) := by omega
      have h2b : ((n : Nat) : Int) / 10 = (q : Int) := by omega
      have hd9 : d ≤ 9 := by omega
      obtain ⟨c, hc⟩ : ∃ c : Int, 48 + (d : Int) = c := ⟨_, rfl⟩
      rw [hc] at hstep
      have hcb : 48 ≤ c ∧ c ≤ 57 := by omega
      obtain ⟨hc0, hc1⟩ := hcb
      have hcw : IntKind.u8.wrap c = c := by simp [IntKind.wrap, IntKind.bits, IntKind.signed]; omega
      have hq9 : q ≤ 281474976710656 := by omega
      have hqs : t.size + 1 + q ≤ 281474976710656 := by omega
      have hsz : (strOfNums [c] ++ t).size = t.size + 1 := by rw [ByteArray.size_append, strOfNums_size]; simp; omega
      have hadd := fun w => run_string_add_sum (P := Try.prog) w (strOfNums [c]) t (by rw [strOfNums_size]; simp; omega)
      have hcv := HCV.out wr c
      have HST : Hid (mtD 20 q (strOfNums [c] ++ t) = G) := hstep.symm
      have HB2 : Hid (Below w.heap.size w (wr.alloc (.cells #[.int .u8 c] 5))) := hb.alloc hb.size _
      have HSZ : Hid ((strOfNums [c] ++ t).size + q ≤ 281474976710656) := (show _ ≤ _ by rw [hsz]; exact hqs)
      have HQN : Hid (q < n) := (show q < n by omega)
      clear hstep hg hd hq hb hsz hs hqs
      go_wp2
      exact ⟨⟨q, _, HSZ.out, rfl, rfl, HST.out, HB2.out⟩, by have := HQN.out; simp [intOf]; omega⟩
/-- Only blocks of one interval are others. -/
structure GI (lo hi : Nat) (w u : World) : Prop where
  os : u.os = w.os
  tape : u.tape = w.tape
  output : u.output = w.output
  size : w.heap.size ≤ u.heap.size
  block : ∀ k, k < w.heap.size → (k < lo ∨ hi ≤ k) → u.heap[k]? = w.heap[k]?
theorem GI.refl (lo hi : Nat) (w : World) : GI lo hi w w := ⟨rfl, rfl, rfl, Nat.le_refl _, fun _ _ _ => rfl⟩
theorem GI.trans {lo hi : Nat} {w u v : World} (h : GI lo hi w u) (h2 : GI lo hi u v) : GI lo hi w v := ⟨h2.os.trans h.os, h2.tape.trans h.tape, h2.output.trans h.output, Nat.le_trans h.size h2.size, fun k hk h3 => (h2.block k (Nat.lt_of_lt_of_le hk h.size) h3).trans (h.block k hk h3)⟩
theorem GI.of_below {lo hi : Nat} {w u : World} (h : Below w.heap.size w u) : GI lo hi w u := ⟨h.os, h.tape, h.output, h.size, fun k hk _ => h.block k hk⟩
theorem GI.set {lo hi g o : Nat} {w : World} {x : Value} (h0 : lo ≤ g) (h1 : g < hi) : GI lo hi w (w.setCell ⟨g, o, none⟩ x) := ⟨rfl, rfl, rfl, by simp [World.setCell], fun k _ h => Below.heap_setCell _ _ _ _ (by simp only; omega)⟩
theorem GI.below {lo hi B : Nat} {w u : World} (h : GI lo hi w u) (hB : B ≤ lo) (hw : B ≤ w.heap.size) : Below B w u := ⟨h.os, h.tape, h.output, h.size, fun k hk => h.block k (by omega) (.inl (by omega))⟩
/-- What a mark over rows of one type leaves: blocks of other types as they were, those of this type in their shape. -/
structure MK (t : TypeId) (lo hi : Nat) (w u : World) : Prop where
  gi : GI lo hi w u
  oth : ∀ (k : Nat) (o : Obj), w.heap[k]? = some o → (∀ arr : Array Value, o ≠ .cells arr t (0, 0)) → u.heap[k]? = some o
  shp : ∀ (k : Nat) (arr : Array Value), w.heap[k]? = some (.cells arr t (0, 0)) → ∃ arr' : Array Value, u.heap[k]? = some (.cells arr' t (0, 0)) ∧ arr'.size = arr.size
theorem MK.refl (t : TypeId) (lo hi : Nat) (w : World) : MK t lo hi w w := ⟨GI.refl _ _ _, fun _ _ h _ => h, fun _ arr h => ⟨arr, h, rfl⟩⟩
theorem MK.trans {t : TypeId} {lo hi : Nat} {w u v : World} (h : MK t lo hi w u) (h2 : MK t lo hi u v) : MK t lo hi w v :=
  ⟨h.gi.trans h2.gi, fun k o hk ho => h2.oth k o (h.oth k o hk ho) ho, fun k arr hk => by
    obtain ⟨a1, e1, s1⟩ := h.shp k arr hk
    obtain ⟨a2, e2, s2⟩ := h2.shp k a1 e1
    exact ⟨a2, e2, s2.trans s1⟩⟩
theorem MK.of_below {t : TypeId} {lo hi : Nat} {w u : World} (h : Below w.heap.size w u) : MK t lo hi w u :=
  ⟨GI.of_below h, fun k _ hk _ => (h.block k (Array.getElem?_eq_some_iff.1 hk).1).trans hk, fun k arr hk => ⟨arr, (h.block k (Array.getElem?_eq_some_iff.1 hk).1).trans hk, rfl⟩⟩
theorem set_blk {u : World} {b : Nat} {cs : Array Value} {t : TypeId} {z : Nat × Nat} (h : u.heap[b]? = some (.cells cs t z)) (o : Nat) (v : Value) : (u.setCell ⟨b, o, none⟩ v).heap[b]? = some (.cells (cs.setIfInBounds o v) t z) := by
  simp [World.setCell, Array.getElem?_modify, h]
theorem MK.set {t : TypeId} {lo hi g o : Nat} {w : World} {cur : Array Value} {x : Value} (h0 : lo ≤ g) (h1 : g < hi) (hg : w.heap[g]? = some (.cells cur t (0, 0))) : MK t lo hi w (w.setCell ⟨g, o, none⟩ x) :=
  ⟨GI.set h0 h1, fun k ob hk ho => by
    by_cases e : k = g
    · subst e
      rw [hg] at hk
      injection hk with hk
      exact absurd hk.symm (ho cur)
    · exact (Below.heap_setCell _ _ _ _ (by simpa using e)).trans hk, fun k arr hk => by
    by_cases e : k = g
    · subst e
      exact ⟨_, set_blk hk o x, by simp⟩
    · exact ⟨arr, (Below.heap_setCell _ _ _ _ (by simpa using e)).trans hk, rfl⟩⟩
/-- A row that may be written, in an interval of blocks. -/
def WS (t : TypeId) (w : World) (lo hi : Nat) (v : Value) (n size : Nat) : Prop := (n = 0 ∧ ∃ ao cap, v = .slice ao 0 cap) ∨ ∃ g o cap cur, v = .slice (some ⟨g, o, none⟩) n cap ∧ lo ≤ g ∧ g < hi ∧ w.heap[g]? = some (.cells cur t (0, 0)) ∧ o + n * size ≤ cur.size
theorem WS.of {t : TypeId} {w : World} {lo : Nat} {v : Value} {n size : Nat} {xs : List Value} (h : w.ownsRow lo t size v n xs) {hi : Nat} (hh : w.heap.size ≤ hi) : WS t w lo hi v n size := by
  obtain ⟨_, ⟨e, hn⟩ | ⟨g, cap, cur, hv, hg, hc, hnc, _, hsz, _⟩⟩ := h
  · exact .inl ⟨hn, none, 0, e⟩
  · have := (Array.getElem?_eq_some_iff.1 hc).1
    refine .inr ⟨g, 0, cap, cur, hv, hg, by omega, hc, ?_⟩
    rw [hsz, Nat.zero_add]
    exact Nat.mul_le_mul_right _ hnc
theorem WS.sl {t : TypeId} {w : World} {lo hi : Nat} {v : Value} {n size : Nat} (h : WS t w lo hi v n size) : ∃ ao cap, v = .slice ao n cap := by
  rcases h with ⟨rfl, ao, cap, rfl⟩ | ⟨g, o, cap, cur, rfl, _⟩
  · exact ⟨_, _, rfl⟩
  · exact ⟨_, _, rfl⟩
theorem WS.mk {t t2 : TypeId} {w u : World} {lo hi lo2 hi2 : Nat} {v : Value} {n size : Nat} (h : WS t w lo hi v n size) (m : MK t2 lo2 hi2 w u) : WS t u lo hi v n size := by
  rcases h with h | ⟨g, o, cap, cur, hv, h1, h2, h3, h4⟩
  · exact .inl h
  · by_cases e : t = t2
    · subst e
      obtain ⟨a, e1, e2⟩ := m.shp g cur h3
      exact .inr ⟨g, o, cap, a, hv, h1, h2, e1, by omega⟩
    · exact .inr ⟨g, o, cap, cur, hv, h1, h2, m.oth g _ h3 (fun arr q => by injection q with q1 q2; exact e q2), h4⟩
theorem WS.cell {t : TypeId} {w : World} {g o cap n size lo hi : Nat} (h : WS t w lo hi (.slice (some ⟨g, o, none⟩) n cap) n size) (i : Nat) (hi2 : i < n * size) : (∃ x, w.cell? ⟨g, o + i, none⟩ = some x) ∧ w.frozen? ⟨g, o + i, none⟩ = false ∧ lo ≤ g ∧ g < hi ∧ ∃ cur, w.heap[g]? = some (.cells cur t (0, 0)) := by
  rcases h with ⟨hn, _⟩ | ⟨g2, o2, cap2, cur, hv, h1, h2, h3, h4⟩
  · rw [hn] at hi2; simp at hi2
  · injection hv with e1 e2 e3
    injection e1 with e4
    injection e4 with e5 e6
    subst e5 e6
    have hlt : o + i < cur.size := by omega
    exact ⟨⟨cur[o + i], by simp [World.cell?, h3, hlt]⟩, by simp [World.frozen?, h3], h1, h2, cur, h3⟩
end Go.Proofs.Ytblmodlpopnckaa
