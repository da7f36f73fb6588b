import Derived.Test.YthhbfghbpapklabGc2
import Derived.Test.YthhbfghbpapklabRc1
namespace Go.Proofs.Ythhbfghbpapklab
open Go.ChangeShapes Go.WideShapes Go.ChangeAt Go.RowKit

/-- The first cells of a device that has a port. -/
def ptC (mb n : Nat) (q : QV) (sg : Bool) : List Value := [mv mb n, .int .i64 q.size, .int .i64 q.desc, .int .i64 q.avail, .int .i64 q.used, .int .i64 q.taken, .int .i64 q.given, .bool sg]
/-- A device with a port in its box, beside a memory. -/
structure PT (u : World) (b mb n t : Nat) (q : QV) (sg : Bool) (rest : Array Value) (s : ByteArray) : Prop where
  box : u.heap[b]? = some (.cells (ptC mb n q sg ++ rest.toList).toArray t (0, 0))
  mem : MemAt u mb s
  ne : b ≠ mb
theorem PT.lt {u : World} {b mb n t : Nat} {q : QV} {sg : Bool} {rest : Array Value} {s : ByteArray} (h : PT u b mb n t q sg rest s) : b < u.heap.size := (Array.getElem?_eq_some_iff.1 h.box).1
theorem PT.cel {u : World} {b mb n t : Nat} {q : QV} {sg : Bool} {rest : Array Value} {s : ByteArray} (h : PT u b mb n t q sg rest s) (k : Nat) (v : Value) (hv : (ptC mb n q sg)[k]? = some v) : u.cell? ⟨b, k, none⟩ = some v := by
  have hk : k < (ptC mb n q sg).length := (List.getElem?_eq_some_iff.1 hv).1
  have e : (ptC mb n q sg ++ rest.toList)[k]? = some v := by rw [List.getElem?_append_left hk]; exact hv
  simp only [World.cell?, h.box]
  rw [List.getElem?_toArray, e]
  rfl
theorem PT.rest {u : World} {b mb n t : Nat} {q : QV} {sg : Bool} {rest : Array Value} {s : ByteArray} (h : PT u b mb n t q sg rest s) (k : Nat) (v : Value) (hv : rest[k]? = some v) : u.cell? ⟨b, 8 + k, none⟩ = some v := by
  have e : (ptC mb n q sg ++ rest.toList)[8 + k]? = some v := by
    rw [List.getElem?_append_right (by simp [ptC])]
    simp [ptC, hv]
  simp only [World.cell?, h.box]
  rw [List.getElem?_toArray, e]
  rfl
theorem PT.cs {u : World} {b mb n t : Nat} {S D A U T G : Int} {sg : Bool} {rest : Array Value} {s : ByteArray} (h : PT u b mb n t ⟨S, D, A, U, T, G⟩ sg rest s) : u.cell? ⟨b, 1, none⟩ = some (.int .i64 S) ∧ u.cell? ⟨b, 2, none⟩ = some (.int .i64 D) ∧ u.cell? ⟨b, 3, none⟩ = some (.int .i64 A) ∧ u.cell? ⟨b, 4, none⟩ = some (.int .i64 U) ∧ u.cell? ⟨b, 5, none⟩ = some (.int .i64 T) ∧ u.cell? ⟨b, 6, none⟩ = some (.int .i64 G) := ⟨h.cel 1 _ rfl, h.cel 2 _ rfl, h.cel 3 _ rfl, h.cel 4 _ rfl, h.cel 5 _ rfl, h.cel 6 _ rfl⟩
theorem PT.fz {u : World} {b mb n t : Nat} {q : QV} {sg : Bool} {rest : Array Value} {s : ByteArray} (h : PT u b mb n t q sg rest s) (k : Nat) : u.frozen? ⟨b, k, none⟩ = false := by simp [World.frozen?, h.box]
theorem PT.below {u u' : World} {b mb n t : Nat} {q : QV} {sg : Bool} {rest : Array Value} {s : ByteArray} (h : PT u b mb n t q sg rest s) (hb : Below u.heap.size u u') : PT u' b mb n t q sg rest s := ⟨(hb.block _ h.lt).trans h.box, h.mem.below hb h.mem.lt, h.ne⟩
theorem PT.put {u u' : World} {b mb n t : Nat} {q : QV} {sg : Bool} {rest : Array Value} {s s' : ByteArray} (h : PT u b mb n t q sg rest s) (hg : u.grownBy u' (some mb)) (hm : MemAt u' mb s') : PT u' b mb n t q sg rest s' := ⟨(hg.block _ h.lt (by have := h.ne; simp; omega)).trans h.box, hm, h.ne⟩
/-- A cell of it put. -/
theorem PT.set {u : World} {b mb n t : Nat} {q q' : QV} {sg sg' : Bool} {rest : Array Value} {s : ByteArray} (h : PT u b mb n t q sg rest s) (k : Nat) (v : Value) (hk : k < 8) (he : (ptC mb n q sg).set k v = ptC mb n q' sg') : PT (u.setCell ⟨b, k, none⟩ v) b mb n t q' sg' rest s := by
  refine ⟨?_, (Below.heap_setCell _ _ _ _ (by have := h.ne; simp; omega)).trans h.mem, h.ne⟩
  simp only [World.setCell, Array.getElem?_modify, h.box]
  simp only [if_true, Option.map_some]
  congr 2
  simp only [List.setIfInBounds_toArray]
  rw [List.set_append_left _ _ (by simpa [ptC] using hk), he]
  rfl
theorem PT.give {u : World} {b mb n t : Nat} {S D A U T G X : Int} {sg : Bool} {rest : Array Value} {s : ByteArray} (h : PT u b mb n t ⟨S, D, A, U, T, G⟩ sg rest s) : PT (u.setCell ⟨b, 6, none⟩ (.int .i64 X)) b mb n t ⟨S, D, A, U, T, X⟩ sg rest s := h.set 6 _ (by omega) rfl
set_option maxRecDepth 100000 in
set_option maxHeartbeats 4000000 in
theorem givePort_any {w : World} {b mb n t : Nat} {s : ByteArray} {sg : Bool} {rest : Array Value} (S A U G : Nat) (D T head size : Int) (h : PT w b mb n t ⟨S, D, A, U, T, G⟩ sg rest s) (hn : s.size = n * 256) (hs : s.size ≤ 65536) (hS : 1 ≤ S) (hS2 : S ≤ 16) (hG : G ≤ 65535) (hA4 : A % 4 = 0) (hA : A + (8 + S * 4) ≤ s.size) (hU4 : U % 4 = 0) (hU : U + (8 + S * 8) ≤ s.size) :
    Calls Try.prog 215 #[mv mb n, .pointer (some ⟨b, 1, none⟩), .int .i64 head, .int .i64 size] w fun e w' => e = .returned (.bool (wv (gcM s S U G head size) A % 2 == 0)) ∧ PT w' b mb n t ⟨S, D, A, U, T, (((G + 1) % 65536 : Nat) : Int)⟩ sg rest (gcM s S U G head size) ∧ Fr2 w w' b mb := by
  have hm : G % S < S := Nat.mod_lt _ hS
  have gs := gcM_size s S U G head size hU hS
  have HUP : Hid _ := fun u => usedPlace_any S U G D A T G u (by omega) hS hS2 (by omega)
  have h1 := setv_size s (U + 8 + G % S * 8) head (by omega)
  have h2 := setv_size (setv s (U + 8 + G % S * 8) head) (U + 8 + G % S * 8 + 4) size (by omega)
  have HP1 : Hid _ := fun (u : World) (hM : MemAt u mb s) => memPut_any mb n s (U + 8 + G % S * 8) head u hM hn hs (by omega) (by omega)
  have HP2 : Hid _ := fun (u : World) (hM : MemAt u mb (setv s (U + 8 + G % S * 8) head)) => memPut_any mb n _ (U + 8 + G % S * 8 + 4) size u hM (by omega) (by omega) (by omega) (by omega)
  rw [show ((U + 8 + G % S * 8 + 4 : Nat) : Int) = ((U + 8 + G % S * 8 : Nat) : Int) + 4 by omega] at HP2
  have HP3 : Hid (∀ (u : World), MemAt u mb (setv (setv s (U + 8 + G % S * 8) head) (U + 8 + G % S * 8 + 4) size) → Calls Try.prog 220 #[mv mb n, .int .i64 ((U : Int) + 4), .int .i64 (((G + 1) % 65536 : Nat) : Int)] u fun e w' => e = .returned (.tuple #[]) ∧ MemAt w' mb (gcM s S U G head size) ∧ u.grownBy w' (some mb)) := fun (u : World) hM => memPut_any mb n _ (U + 4) (((G + 1) % 65536 : Nat) : Int) u hM (by omega) (by omega) (by omega) (by omega)
  have HNC : Hid _ := fun u => nextCount_any G u (by omega)
  have HWD : Hid _ := fun (u : World) (hM : MemAt u mb (gcM s S U G head size)) => memWord_any mb n _ A u hM (by omega) (by omega) (by omega) hA4
  have HB : Hid _ := and1 (wv (gcM s S U G head size) A) (by have := wv_b (gcM s S U G head size) A; omega) (by have := wv_b (gcM s S U G head size) A; omega)
  have hpb : ((U + 8 + G % S * 8 : Nat) : Int) ≤ 65536 := by omega
  have hub : (U : Int) ≤ 65536 := by omega
  have HWR : Hid (IntKind.i64.wrap ((U : Int) + 4) = (U : Int) + 4) := (show IntKind.i64.wrap ((U : Int) + 4) = (U : Int) + 4 by rw [IntKind.wrap_i64]; omega)
  clear h1 h2 gs hm
  generalize hM3 : gcM s S U G head size = M3 at *
  generalize wv M3 A = X at *
  generalize (G + 1) % 65536 = G2 at *
  generalize setv (setv s (U + 8 + G % S * 8) head) (U + 8 + G % S * 8 + 4) size = M2 at *
  generalize setv s (U + 8 + G % S * 8) head = M1 at *
  generalize U + 8 + G % S * 8 = P at *
  clear hM3 hn hs hS hS2 hG hA4 hA hU4 hU
  unfold mv at HP1 HP2 HP3 HWD ⊢
  have HQ0 : Hid _ := h
  clear h
  obtain ⟨c0, c1, c2, c3, c4, c5⟩ := HQ0.out.cs
  have lt := HQ0.out.lt
  go_enter Try.func215, Try.ntmps215
  go_wp2_with fail
  go_region_held3 (fun w' => w'.cell? ⟨b, 1, none⟩ = some (.int .i64 S) ∧ w'.cell? ⟨b, 2, none⟩ = some (.int .i64 D) ∧ w'.cell? ⟨b, 3, none⟩ = some (.int .i64 A) ∧ w'.cell? ⟨b, 4, none⟩ = some (.int .i64 U) ∧ w'.cell? ⟨b, 5, none⟩ = some (.int .i64 T) ∧ w'.cell? ⟨b, 6, none⟩ = some (.int .i64 G)) (go_keep) ((go_at_call 219; refine Calls.mono (HUP.out _) ?_; rintro e u1 ⟨rfl, hu⟩; have hb : Below w.heap.size w u1 := ⟨hu.os, hu.tape, hu.output, hu.size, hu.block⟩; have HQ1 : Hid _ := HQ0.out.below hb; have HF1 : Hid (Fr2 w u1 b mb) := (Fr2.refl w b mb).below hb; clear hu hb c0 c1 c2 c3 c4 c5 lt; obtain ⟨c0, c1, c2, c3, c4, c5⟩ := HQ1.out.cs))
  go_wp2_with fail
  refine Calls.mono (HP1.out _ HQ1.out.mem) ?_
  rintro e u2 ⟨rfl, hM, hg⟩
  have HQ2 : Hid _ := HQ1.out.put hg hM
  have HF2 : Hid _ := HF1.out.growM hg
  clear hg hM HQ1 HF1 c0 c1 c2 c3 c4 c5
  go_wp2_with fail
  refine Calls.mono (HP2.out _ HQ2.out.mem) ?_
  rintro e u3 ⟨rfl, hM, hg⟩
  have HQ3 : Hid _ := HQ2.out.put hg hM
  have HF3 : Hid _ := HF2.out.growM hg
  clear hg hM HQ2 HF2
  have c5 := HQ3.out.cs.2.2.2.2.2
  have lt := HQ3.out.lt
  have f5 := HQ3.out.fz 6
  go_wp2_with (go_at_call 218; refine Calls.mono (HNC.out _) ?_; rintro e u4 ⟨rfl, hu⟩; rw [hu]; clear hu)
  have HQ4 : Hid _ := HQ3.out.give (X := (G2 : Int))
  have HF4 : Hid _ := HF3.out.growB (gb_set1 (w := u3) (b := b) (o := 6) (v := .int .i64 (G2 : Int)))
  clear c5 lt f5 HQ3 HF3
  generalize (u3.setCell ⟨b, 6, none⟩ (.int .i64 (G2 : Int))) = u5 at *
  obtain ⟨c0, c1, c2, c3, c4, c5⟩ := HQ4.out.cs
  go_wp2_with fail
  go_region_held3 (fun w' => w'.cell? ⟨b, 1, none⟩ = some (.int .i64 S) ∧ w'.cell? ⟨b, 2, none⟩ = some (.int .i64 D) ∧ w'.cell? ⟨b, 3, none⟩ = some (.int .i64 A) ∧ w'.cell? ⟨b, 4, none⟩ = some (.int .i64 U) ∧ w'.cell? ⟨b, 5, none⟩ = some (.int .i64 T) ∧ w'.cell? ⟨b, 6, none⟩ = some (.int .i64 G2)) (go_keep) ((go_at_call 220; rw [HWR.out]; refine Calls.mono (HP3.out u5.drew (show MemAt u5.drew mb M2 from HQ4.out.mem)) ?_; rintro e u6 ⟨rfl, hM, hg⟩; have hg6 : u5.grownBy u6 (some mb) := ⟨hg.os, hg.tape, hg.output, hg.size, hg.block⟩; have HQ6 : Hid _ := HQ4.out.put hg6 hM; have HF6 : Hid _ := HF4.out.growM hg6; clear hg hg6 hM c0 c1 c2 c3 c4 c5; obtain ⟨c0, c1, c2, c3, c4, c5⟩ := HQ6.out.cs))
  go_wp2_with (go_at_call 216; refine Calls.mono (HWD.out _ HQ6.out.mem) ?_; rintro e u7 ⟨rfl, q, hu⟩; have hb : Below u6.heap.size u6 u7 := (hu ▸ bdn (Below.refl _ _) q); have HQ7 : Hid _ := HQ6.out.below hb; have HF7 : Hid _ := HF6.out.below hb; clear hb hu c0 c1 c2 c3 c4 c5)
  go_ret
  exact ⟨ret_bool (by rw [HB.out]), HQ7.out, HF7.out⟩
end Go.Proofs.Ythhbfghbpapklab
