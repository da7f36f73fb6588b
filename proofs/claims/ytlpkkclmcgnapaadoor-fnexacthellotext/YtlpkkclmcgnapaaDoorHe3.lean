import Derived.Test.YtlpkkclmcgnapaaDoorHe2
namespace Go.Proofs.YtlpkkclmcgnapaaDoor
open Go.ChangeShapes Go.WideShapes Go.ChangeAt Go.RowKit

theorem heP_spec (t : ByteArray) (k : Nat) : (⟨(catB (heP t k)).toArray⟩ : ByteArray) ++ heA ++ decB (bt t k) ++ ⟨#[10, 111, 117, 116, 32, 114, 49, 44, 32, 49, 10]⟩ = ⟨(catB (heP t (k + 1))).toArray⟩ := by
  apply ByteArray.ext
  apply Array.ext'
  rw [heP, cat_app, cat_app]
  simp [catB, heN, heO]
theorem heT_spec (t : ByteArray) : (⟨(catB (heP t t.size)).toArray⟩ : ByteArray) ++ ⟨#[104, 97, 108, 116, 10]⟩ = heT t := by
  apply ByteArray.ext
  apply Array.ext'
  unfold heT heL
  rw [cat_app]
  simp [catB, heN, heH]
set_option maxRecDepth 100000 in
set_option maxHeartbeats 4000000 in
theorem specHT_any (t : ByteArray) (w : World) : Calls Tryd.prog 4 #[.string t] w fun e w' => e = .returned (.string (heV t)) ∧ Below w.heap.size w w' := by
  cases h1 : decide (100 < (t.size : Int))
  rotate_left
  · have E : Hid (heV t = ⟨#[]⟩) := if_pos (by have := of_decide_eq_true h1; omega)
    go_enter Tryd.func4, Tryd.ntmps4
    go_wp2
    go_ret
    exact ⟨by rw [E.out]; rfl, Below.refl _ _⟩
  have hs : t.size ≤ 100 := by have := of_decide_eq_false h1; omega
  have E : Hid (heV t = heT t) := if_neg (by omega)
  go_enter Tryd.func4, Tryd.ntmps4
  go_wp2
  go_loopw [3, 4] (fun out i wr => ∃ k : Nat, k ≤ t.size ∧ i = .int .i64 k ∧ out = .string ⟨(catB (heP t k)).toArray⟩ ∧ Below w.heap.size w wr) (fun _ i _ => t.size - (intOf i).toNat)
  case atStart => exact ⟨0, Nat.zero_le _, rfl, rfl, Below.refl _ _⟩
  case round =>
    obtain ⟨k, hk, rfl, rfl, hb⟩ := hrel
    have HB : Hid (Below w.heap.size w wr) := hb
    clear hb
    have hsz : (⟨(catB (heP t k)).toArray⟩ : ByteArray).size ≤ 6000 := by
      have := heP_size t k
      show (catB (heP t k)).toArray.size ≤ 6000
      rw [List.size_toArray]
      omega
    by_cases hlt : k < t.size
    · have hb2 := bt_255 t k
      have hix := fun u => idx_str t k hlt u k rfl
      have HX : Hid ((⟨(catB (heP t k)).toArray⟩ : ByteArray) ++ heA ++ decB (bt t k) ++ ⟨#[10, 111, 117, 116, 32, 114, 49, 44, 32, 49, 10]⟩ = ⟨(catB (heP t (k + 1))).toArray⟩) := heP_spec t k
      have HD : Hid (∀ u, Calls Tryd.prog 6 #[.int .i64 (bt t k)] u fun e w' => e = .returned (.string (decB (bt t k))) ∧ Below u.heap.size u w') := fun u => l01Dec_any _ u (by omega) (by omega)
      have hds := decB_size (bt t k) (by omega) (by omega)
      generalize bt t k = n at *
      generalize (⟨(catB (heP t k)).toArray⟩ : ByteArray) = x at *
      generalize decB n = d at *
      have ha : heA.size = 13 := rfl
      have a1 := fun u => run_string_add_sum (P := Tryd.prog) u x heA (by omega)
      unfold heA at a1 HX
      have y1 : (x ++ (⟨#[97, 100, 100, 105, 32, 114, 49, 44, 32, 114, 48, 44, 32]⟩ : ByteArray)).size ≤ 6013 := by rw [ByteArray.size_append]; show x.size + 13 ≤ _; omega
      generalize x ++ (⟨#[97, 100, 100, 105, 32, 114, 49, 44, 32, 114, 48, 44, 32]⟩ : ByteArray) = y at *
      have a2 := fun u => run_string_add_sum (P := Tryd.prog) u y d (by omega)
      have y2 : (y ++ d).size ≤ 7000 := by rw [ByteArray.size_append]; omega
      generalize y ++ d = z at *
      have a3 := fun u => run_string_add_sum (P := Tryd.prog) u z ⟨#[10, 111, 117, 116, 32, 114, 49, 44, 32, 49, 10]⟩ (by show z.size + 11 ≤ _; omega)
      obtain ⟨hn0, hn1⟩ := hb2
      have hk0 : (0 : Int) ≤ (k : Int) := by omega
      have hk1 : (k : Int) < (t.size : Int) := by omega
      clear hds ha y1 y2 hsz
      go_wp2_with fail
      refine Calls.mono (HD.out _) ?_
      rintro e u1 ⟨rfl, hb⟩
      have HU : Hid (Below w.heap.size w u1) := HB.out.trans (hb.mono HB.out.size)
      clear hb
      go_wp2
      exact ⟨⟨k + 1, hlt, by go_num, by rw [HX.out], HU.out⟩, by simp [intOf]; omega⟩
    · have hke : k = t.size := by omega
      rw [hke] at hsz ⊢
      have HX : Hid ((⟨(catB (heP t t.size)).toArray⟩ : ByteArray) ++ ⟨#[104, 97, 108, 116, 10]⟩ = heT t) := heT_spec t
      have hnl : ¬ ((t.size : Nat) : Int) < (t.size : Int) := by omega
      generalize (⟨(catB (heP t t.size)).toArray⟩ : ByteArray) = x at *
      have a1 := fun u => run_string_add_sum (P := Tryd.prog) u x ⟨#[104, 97, 108, 116, 10]⟩ (by show x.size + 5 ≤ _; omega)
      clear hke hk hlt hsz
      go_wp2
      go_ret
      exact ⟨by rw [E.out, ← HX.out]; rfl, HB.out⟩
set_option maxRecDepth 100000 in
set_option maxHeartbeats 4000000 in
theorem walkHT (t : ByteArray) (w : World) (hn : Names w) (htb : Tab w) (hw : 1 < w.heap.size) (hw0 : 0 < w.heap.size) : Calls Tryd.prog 3 #[.string t] w fun e w' => e = .returned (.bool true) ∧ Below w.heap.size w w' := by
  cases h1 : decide (1048576 < (t.size : Int))
  rotate_left
  · go_enter Tryd.func3, Tryd.ntmps3
    go_wp2
    go_ret
    exact ⟨rfl, Below.refl _ _⟩
  have HSP : Hid (Calls Tryd.prog 4 #[.string t] w fun e w' => e = .returned (.string (heV t)) ∧ Below w.heap.size w w') := specHT_any t w
  have HIM : Hid (∀ u, Below w.heap.size w u → Calls Tryd.prog 5 #[.string t] u fun e w' => e = .returned (.string (heV t)) ∧ Below u.heap.size u w') := (fun u hu => implHT_any t (by have := of_decide_eq_false h1; omega) u (hn.below hu hw0) (htb.below hu hw) (by have := hu.size; omega) (by have := hu.size; omega))
  generalize heV t = V at *
  clear hn htb
  go_enter Tryd.func3, Tryd.ntmps3
  go_wp2_with fail
  refine Calls.mono HSP.out ?_
  rintro e u1 ⟨rfl, hb⟩
  have HB : Hid (Below w.heap.size w u1) := hb
  clear hb
  go_wp2_with fail
  refine Calls.mono (HIM.out _ HB.out) ?_
  rintro e u2 ⟨rfl, hb⟩
  have HB2 : Hid (Below w.heap.size w u2) := HB.out.trans (hb.mono HB.out.size)
  clear hb
  go_wp2
  go_ret
  exact ⟨rfl, HB2.out⟩
end Go.Proofs.YtlpkkclmcgnapaaDoor
