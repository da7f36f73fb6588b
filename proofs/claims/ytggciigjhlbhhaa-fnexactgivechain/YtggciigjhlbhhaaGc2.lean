import Derived.Test.YtggciigjhlbhhaaGc1
namespace Go.Proofs.Ytggciigjhlbhhaa
open Go.ChangeShapes Go.WideShapes Go.ChangeAt Go.RowKit

theorem wv_b (s : ByteArray) (k : Nat) : 0 ≤ wv s k ∧ wv s k ≤ 4294967295 := by
  have h0 := bt_b s k
  have h1 := bt_b s (k + 1)
  have h2 := bt_b s (k + 2)
  have h3 := bt_b s (k + 3)
  unfold wv
  omega
/-- A queue in its box beside a memory. -/
structure QM (u : World) (b mb : Nat) (q : QV) (s : ByteArray) : Prop where
  box : u.heap[b]? = some (.cells (qC q) 24 (0, 0))
  mem : MemAt u mb s
  ne : b ≠ mb
theorem QM.lt {u : World} {b mb : Nat} {q : QV} {s : ByteArray} (h : QM u b mb q s) : b < u.heap.size := (Array.getElem?_eq_some_iff.1 h.box).1
theorem QM.cel {u : World} {b mb : Nat} {q : QV} {s : ByteArray} (h : QM u b mb q s) (k : Nat) (v : Value) (hv : (qC q)[k]? = some v) : u.cell? ⟨b, k, none⟩ = some v := by simp [World.cell?, h.box, hv]
theorem QM.cs {u : World} {b mb : Nat} {S D A U T G : Int} {s : ByteArray} (h : QM u b mb ⟨S, D, A, U, T, G⟩ s) : u.cell? ⟨b, 0, none⟩ = some (.int .i64 S) ∧ u.cell? ⟨b, 1, none⟩ = some (.int .i64 D) ∧ u.cell? ⟨b, 2, none⟩ = some (.int .i64 A) ∧ u.cell? ⟨b, 3, none⟩ = some (.int .i64 U) ∧ u.cell? ⟨b, 4, none⟩ = some (.int .i64 T) ∧ u.cell? ⟨b, 5, none⟩ = some (.int .i64 G) := ⟨h.cel 0 _ rfl, h.cel 1 _ rfl, h.cel 2 _ rfl, h.cel 3 _ rfl, h.cel 4 _ rfl, h.cel 5 _ rfl⟩
theorem QM.fz {u : World} {b mb : Nat} {q : QV} {s : ByteArray} (h : QM u b mb q s) (k : Nat) : u.frozen? ⟨b, k, none⟩ = false := by simp [World.frozen?, h.box]
theorem QM.below {u u' : World} {b mb : Nat} {q : QV} {s : ByteArray} (h : QM u b mb q s) (hb : Below u.heap.size u u') : QM u' b mb q s := ⟨(hb.block _ h.lt).trans h.box, h.mem.below hb h.mem.lt, h.ne⟩
theorem QM.put {u u' : World} {b mb : Nat} {q : QV} {s s' : ByteArray} (h : QM u b mb q s) (hg : u.grownBy u' (some mb)) (hm : MemAt u' mb s') : QM u' b mb q s' := ⟨(hg.block _ h.lt (by have := h.ne; simp; omega)).trans h.box, hm, h.ne⟩
theorem QM.give {u : World} {b mb : Nat} {S D A U T G X : Int} {s : ByteArray} (h : QM u b mb ⟨S, D, A, U, T, G⟩ s) : QM (u.setCell ⟨b, 5, none⟩ (.int .i64 X)) b mb ⟨S, D, A, U, T, X⟩ s := by
  have hb := h.box
  unfold qC at hb
  refine ⟨?_, ?_, h.ne⟩
  · unfold qC
    simp [World.setCell, Array.getElem?_modify, hb]
  · exact (Below.heap_setCell _ _ _ _ (by have := h.ne; simp; omega)).trans h.mem
theorem gb_set1 {w : World} {b o : Nat} {v : Value} : w.grownBy (w.setCell ⟨b, o, none⟩ v) (some b) := ⟨rfl, rfl, rfl, by simp [World.setCell], fun k _ hn => Below.heap_setCell _ _ _ _ (fun e => hn (congrArg some e))⟩
/-- The memory behind a chain's going back. -/
def gcM (s : ByteArray) (S U G : Nat) (head size : Int) : ByteArray := setv (setv (setv s (U + 8 + G % S * 8) head) (U + 8 + G % S * 8 + 4) size) (U + 4) (((G + 1) % 65536 : Nat) : Int)
theorem gcM_size (s : ByteArray) (S U G : Nat) (head size : Int) (h : U + (8 + S * 8) ≤ s.size) (hS : 1 ≤ S) : (gcM s S U G head size).size = s.size := by
  have hm : G % S < S := Nat.mod_lt _ hS
  unfold gcM
  have h1 := setv_size s (U + 8 + G % S * 8) head (by omega)
  have h2 := setv_size (setv s (U + 8 + G % S * 8) head) (U + 8 + G % S * 8 + 4) size (by omega)
  have h3 := setv_size (setv (setv s (U + 8 + G % S * 8) head) (U + 8 + G % S * 8 + 4) size) (U + 4) (((G + 1) % 65536 : Nat) : Int) (by omega)
  omega
set_option maxRecDepth 100000 in
set_option maxHeartbeats 4000000 in
theorem giveChain_any {w : World} {b mb n : Nat} {s : ByteArray} (S A U G : Nat) (D T head size : Int) (h : QM w b mb ⟨S, D, A, U, T, G⟩ s) (hn : s.size = n * 256) (hs : s.size ≤ 65536) (hS : 1 ≤ S) (hS2 : S ≤ 16) (hG : G ≤ 65535) (hA4 : A % 4 = 0) (hA : A + (8 + S * 4) ≤ s.size) (hU4 : U % 4 = 0) (hU : U + (8 + S * 8) ≤ s.size) :
    Calls Try.prog 27 #[mv mb n, .pointer (some ⟨b, 0, none⟩), .int .i64 head, .int .i64 size] w fun e w' => e = .returned (.bool (wv (gcM s S U G head size) A % 2 == 0)) ∧ QM w' b mb ⟨S, D, A, U, T, (((G + 1) % 65536 : Nat) : Int)⟩ (gcM s S U G head size) ∧ Fr2 w w' b mb := by
  have hm : G % S < S := Nat.mod_lt _ hS
  have gs := gcM_size s S U G head size hU hS
  have HUP : Hid _ := fun u => usedPlace_any S U G D A T G u (by omega) hS hS2 (by omega)
  have h1 := setv_size s (U + 8 + G % S * 8) head (by omega)
  have h2 := setv_size (setv s (U + 8 + G % S * 8) head) (U + 8 + G % S * 8 + 4) size (by omega)
  have HP1 : Hid _ := fun (u : World) (hM : MemAt u mb s) => memPut_any mb n s (U + 8 + G % S * 8) head u hM hn hs (by omega) (by omega)
  have HP2 : Hid _ := fun (u : World) (hM : MemAt u mb (setv s (U + 8 + G % S * 8) head)) => memPut_any mb n _ (U + 8 + G % S * 8 + 4) size u hM (by omega) (by omega) (by omega) (by omega)
  rw [show ((U + 8 + G % S * 8 + 4 : Nat) : Int) = ((U + 8 + G % S * 8 : Nat) : Int) + 4 by omega] at HP2
  have HP3 : Hid (∀ (u : World), MemAt u mb (setv (setv s (U + 8 + G % S * 8) head) (U + 8 + G % S * 8 + 4) size) → Calls Try.prog 51 #[mv mb n, .int .i64 ((U : Int) + 4), .int .i64 (((G + 1) % 65536 : Nat) : Int)] u fun e w' => e = .returned (.tuple #[]) ∧ MemAt w' mb (gcM s S U G head size) ∧ u.grownBy w' (some mb)) := fun (u : World) hM => memPut_any mb n _ (U + 4) (((G + 1) % 65536 : Nat) : Int) u hM (by omega) (by omega) (by omega) (by omega)
  have HNC : Hid _ := fun u => nextCount_any G u (by omega)
  have HWD : Hid _ := fun (u : World) (hM : MemAt u mb (gcM s S U G head size)) => memWord_any mb n _ A u hM (by omega) (by omega) (by omega) hA4
  have HB : Hid _ := and1 (wv (gcM s S U G head size) A) (by have := wv_b (gcM s S U G head size) A; omega) (by have := wv_b (gcM s S U G head size) A; omega)
  have hpb : ((U + 8 + G % S * 8 : Nat) : Int) ≤ 65536 := by omega
  have hub : (U : Int) ≤ 65536 := by omega
  have HWR : Hid (IntKind.i64.wrap ((U : Int) + 4) = (U : Int) + 4) := (show IntKind.i64.wrap ((U : Int) + 4) = (U : Int) + 4 by rw [IntKind.wrap_i64]; omega)
  clear h1 h2 gs hm
  generalize hM3 : gcM s S U G head size = M3 at *
  generalize wv M3 A = X at *
  generalize (G + 1) % 65536 = G2 at *
  generalize setv (setv s (U + 8 + G % S * 8) head) (U + 8 + G % S * 8 + 4) size = M2 at *
  generalize setv s (U + 8 + G % S * 8) head = M1 at *
  generalize U + 8 + G % S * 8 = P at *
  clear hM3 hn hs hS hS2 hG hA4 hA hU4 hU
  unfold mv at HP1 HP2 HP3 HWD ⊢
  have HQ0 : Hid _ := h
  clear h
  obtain ⟨c0, c1, c2, c3, c4, c5⟩ := HQ0.out.cs
  have lt := HQ0.out.lt
  go_enter Try.func27, Try.ntmps27
  go_wp2_with fail
  go_region_held3 (fun w' => w'.cell? ⟨b, 0, none⟩ = some (.int .i64 S) ∧ w'.cell? ⟨b, 1, none⟩ = some (.int .i64 D) ∧ w'.cell? ⟨b, 2, none⟩ = some (.int .i64 A) ∧ w'.cell? ⟨b, 3, none⟩ = some (.int .i64 U) ∧ w'.cell? ⟨b, 4, none⟩ = some (.int .i64 T) ∧ w'.cell? ⟨b, 5, none⟩ = some (.int .i64 G)) (go_keep) ((go_at_call 50; refine Calls.mono (HUP.out _) ?_; rintro e u1 ⟨rfl, hu⟩; have hb : Below w.heap.size w u1 := ⟨hu.os, hu.tape, hu.output, hu.size, hu.block⟩; have HQ1 : Hid _ := HQ0.out.below hb; have HF1 : Hid (Fr2 w u1 b mb) := (Fr2.refl w b mb).below hb; clear hu hb c0 c1 c2 c3 c4 c5 lt; obtain ⟨c0, c1, c2, c3, c4, c5⟩ := HQ1.out.cs))
  go_wp2_with fail
  refine Calls.mono (HP1.out _ HQ1.out.mem) ?_
  rintro e u2 ⟨rfl, hM, hg⟩
  have HQ2 : Hid _ := HQ1.out.put hg hM
  have HF2 : Hid _ := HF1.out.growM hg
  clear hg hM HQ1 HF1 c0 c1 c2 c3 c4 c5
  go_wp2_with fail
  refine Calls.mono (HP2.out _ HQ2.out.mem) ?_
  rintro e u3 ⟨rfl, hM, hg⟩
  have HQ3 : Hid _ := HQ2.out.put hg hM
  have HF3 : Hid _ := HF2.out.growM hg
  clear hg hM HQ2 HF2
  have c5 := HQ3.out.cs.2.2.2.2.2
  have lt := HQ3.out.lt
  have f5 := HQ3.out.fz 5
  go_wp2_with (go_at_call 52; refine Calls.mono (HNC.out _) ?_; rintro e u4 ⟨rfl, hu⟩; rw [hu]; clear hu)
  have HQ4 : Hid _ := HQ3.out.give (X := (G2 : Int))
  have HF4 : Hid _ := HF3.out.growB (gb_set1 (w := u3) (b := b) (o := 5) (v := .int .i64 (G2 : Int)))
  clear c5 lt f5 HQ3 HF3
  generalize (u3.setCell ⟨b, 5, none⟩ (.int .i64 (G2 : Int))) = u5 at *
  obtain ⟨c0, c1, c2, c3, c4, c5⟩ := HQ4.out.cs
  go_wp2_with fail
  go_region_held3 (fun w' => w'.cell? ⟨b, 0, none⟩ = some (.int .i64 S) ∧ w'.cell? ⟨b, 1, none⟩ = some (.int .i64 D) ∧ w'.cell? ⟨b, 2, none⟩ = some (.int .i64 A) ∧ w'.cell? ⟨b, 3, none⟩ = some (.int .i64 U) ∧ w'.cell? ⟨b, 4, none⟩ = some (.int .i64 T) ∧ w'.cell? ⟨b, 5, none⟩ = some (.int .i64 G2)) (go_keep) ((go_at_call 51; rw [HWR.out]; refine Calls.mono (HP3.out u5.drew (show MemAt u5.drew mb M2 from HQ4.out.mem)) ?_; rintro e u6 ⟨rfl, hM, hg⟩; have hg6 : u5.grownBy u6 (some mb) := ⟨hg.os, hg.tape, hg.output, hg.size, hg.block⟩; have HQ6 : Hid _ := HQ4.out.put hg6 hM; have HF6 : Hid _ := HF4.out.growM hg6; clear hg hg6 hM c0 c1 c2 c3 c4 c5; obtain ⟨c0, c1, c2, c3, c4, c5⟩ := HQ6.out.cs))
  go_wp2_with (go_at_call 53; refine Calls.mono (HWD.out _ HQ6.out.mem) ?_; rintro e u7 ⟨rfl, q, hu⟩; have hb : Below u6.heap.size u6 u7 := (hu ▸ bdn (Below.refl _ _) q); have HQ7 : Hid _ := HQ6.out.below hb; have HF7 : Hid _ := HF6.out.below hb; clear hb hu c0 c1 c2 c3 c4 c5)
  go_ret
  exact ⟨ret_bool (by rw [HB.out]), HQ7.out, HF7.out⟩
end Go.Proofs.Ytggciigjhlbhhaa
