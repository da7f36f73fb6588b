import Derived.Test.YtdlodflinibaoaaDe2
import Derived.Test.YtdlodflinibaoaaFlg
import Derived.Test.YtdlodflinibaoaaHl
namespace Go.Proofs.Ytdlodflinibaoaa
open Go.ChangeShapes Go.WideShapes Go.ChangeAt Go.RowKit

theorem wv_b (s : ByteArray) (k : Nat) : 0 ≤ wv s k ∧ wv s k ≤ 4294967295 := by
  have h0 := bt_b s k
  have h1 := bt_b s (k + 1)
  have h2 := bt_b s (k + 2)
  have h3 := bt_b s (k + 3)
  unfold wv
  omega
/-- A flag of a word is on. -/
def fgB (x f : Int) : Bool := bits .and .i64 x f != 0
/-- What four words say. -/
def dOf (a b c d : Int) : DV := ⟨a, b, fgB c 2, fgB c 1, fgB c 4, fgB c 128, fgB c 32768, d⟩
set_option maxRecDepth 100000 in
set_option maxHeartbeats 4000000 in
theorem hasFlag_any {w : World} {B : Nat} (a b c d f : Int) (h : w.heap[B]? = some (.cells #[.int .i64 a, .int .i64 b, .int .i64 c, .int .i64 d] 156 (0, 0))) :
    Calls Try.prog 142 #[.int .i64 f, .pointer (some ⟨B, 0, none⟩)] w fun e w' => e = .returned (.bool (fgB c f)) ∧ w' = w := by
  have c2 : w.cell? ⟨B, 2, none⟩ = some (.int .i64 c) := by simp [World.cell?, h]
  have hlt : B < w.heap.size := (Array.getElem?_eq_some_iff.1 h).1
  clear h
  go_enter Try.func142, Try.ntmps142
  go_wp2_with fail
  go_ret
  exact ⟨rfl, rfl⟩
theorem TwoBx.dn {w u : World} {cs ds : Array Value} {t t2 : Nat} (h : TwoBx w u cs t ds t2) (n : Nat) : TwoBx w (u.drewN n) cs t ds t2 := ⟨bdn h.bel n, h.b1, h.b2⟩
theorem hcfD (xs : Array Value) (w' : World) : (callFunc 142 xs).run Try.prog w' = .ok (.enter 142 xs) w' := by kernel_rfl
set_option maxRecDepth 100000 in
set_option maxHeartbeats 4000000 in
theorem descOf_any (a b c d : Int) (w : World) : Calls Try.prog 140 #[wA a b c d] w fun e w' => e = .returned (dA (dOf a b c d)) ∧ Below w.heap.size w w' := by
  unfold wA dA dOf
  have hcf := hcfD
  have HX : Hid (∀ u, Below ((w.alloc (.cells #[.int .i64 a, .int .i64 b, .int .i64 c, .int .i64 d] 156)).alloc (.cells #[.int .i64 0, .int .i64 0, .bool false, .bool false, .bool false, .bool false, .bool false, .int .i64 0] 154)).heap.size ((w.alloc (.cells #[.int .i64 a, .int .i64 b, .int .i64 c, .int .i64 d] 156)).alloc (.cells #[.int .i64 0, .int .i64 0, .bool false, .bool false, .bool false, .bool false, .bool false, .int .i64 0] 154)) u → TwoBx w u #[.int .i64 a, .int .i64 b, .int .i64 c, .int .i64 d] 156 #[.int .i64 0, .int .i64 0, .bool false, .bool false, .bool false, .bool false, .bool false, .int .i64 0] 154) := fun u h => TwoBx.of _ _ _ _ _ h
  go_enter Try.func140, Try.ntmps140
  go_wp2_with fail
  have HX0 : Hid _ := HX.out _ (Below.refl _ _)
  clear HX
  generalize ((w.alloc (.cells #[.int .i64 a, .int .i64 b, .int .i64 c, .int .i64 d] 156)).alloc (.cells #[.int .i64 0, .int .i64 0, .bool false, .bool false, .bool false, .bool false, .bool false, .int .i64 0] 154)) = W0 at *
  have HF : Hid (∀ f, Calls Try.prog 142 #[.int .i64 f, .pointer (some ⟨w.heap.size, 0, none⟩)] W0.drew fun e w' => e = .returned (.bool (fgB c f)) ∧ w' = W0.drew) := fun f => hasFlag_any a b c d f (show W0.drew.heap[w.heap.size]? = _ from HX0.out.b1)
  have k0 := HX0.out.c1 0 (.int .i64 a) rfl
  have k1 := HX0.out.c1 1 (.int .i64 b) rfl
  have k3 := HX0.out.c1 3 (.int .i64 d) rfl
  have r0 := HX0.out.c2 0 _ rfl
  have r1 := HX0.out.c2 1 _ rfl
  have r2 := HX0.out.c2 2 _ rfl
  have r3 := HX0.out.c2 3 _ rfl
  have r4 := HX0.out.c2 4 _ rfl
  have r5 := HX0.out.c2 5 _ rfl
  have r6 := HX0.out.c2 6 _ rfl
  have r7 := HX0.out.c2 7 _ rfl
  have rf := fun k => HX0.out.f2 k
  have glt := HX0.out.lt
  have HK : Hid (W0.drew.cell? ⟨w.heap.size, 0, none⟩ = some (.int .i64 a) ∧ W0.drew.cell? ⟨w.heap.size, 1, none⟩ = some (.int .i64 b) ∧ W0.drew.cell? ⟨w.heap.size, 3, none⟩ = some (.int .i64 d)) := ⟨k0, k1, k3⟩
  have HB1 : Hid (Below w.heap.size w W0.drew) := HX0.out.bel.drew
  have HX1 : Hid _ := HX0.out.dn 1
  clear k0 k1 k3 r0 r1 r2 r3 r4 r5 r6 r7 rf glt HX0
  refine wp_region_held (S := fun w' => w'.cell? ⟨w.heap.size, 0, none⟩ = some (.int .i64 a) ∧ w'.cell? ⟨w.heap.size, 1, none⟩ = some (.int .i64 b) ∧ w'.cell? ⟨w.heap.size, 3, none⟩ = some (.int .i64 d)) (by kernel_rfl) ?_
  change wpAnyH _ _ _ _ _ _ _ _ (World.drew _)
  change Hid (TwoBx w W0.drew _ _ _ _) at HX1
  generalize W0.drew = X at *
  have r0 := HX1.out.c2 0 _ rfl
  have r1 := HX1.out.c2 1 _ rfl
  have r2 := HX1.out.c2 2 _ rfl
  have r3 := HX1.out.c2 3 _ rfl
  have r4 := HX1.out.c2 4 _ rfl
  have r5 := HX1.out.c2 5 _ rfl
  have r6 := HX1.out.c2 6 _ rfl
  have r7 := HX1.out.c2 7 _ rfl
  have rf := fun k => HX1.out.f2 k
  have glt := HX1.out.lt
  refine wpAnyH_take (i := 0) (v := .pointer (some ⟨w.heap.size, 0, none⟩)) rfl (by kernel_rfl) (by kernel_rfl) (by kernel_rfl) (fun _ _ _ h => h) (Or.inl ⟨by kernel_rfl, fun w9 h9 => ?_⟩) HK.out ?_
  · clear h9
    go_simp
  refine wpAnyH_take (i := 1) (v := .int .i64 a) rfl (by kernel_rfl) (by kernel_rfl) (by kernel_rfl) (fun _ _ _ h => h) (Or.inl ⟨by kernel_rfl, fun w9 h9 => ?_⟩) HK.out ?_
  · obtain ⟨d0, d1, d3⟩ := h9
    go_simp
  refine wpAnyH_take (i := 2) (v := .pointer (some ⟨w.heap.size, 1, none⟩)) rfl (by kernel_rfl) (by kernel_rfl) (by kernel_rfl) (fun _ _ _ h => h) (Or.inl ⟨by kernel_rfl, fun w9 h9 => ?_⟩) HK.out ?_
  · clear h9
    go_simp
  refine wpAnyH_take (i := 3) (v := .int .i64 b) rfl (by kernel_rfl) (by kernel_rfl) (by kernel_rfl) (fun _ _ _ h => h) (Or.inl ⟨by kernel_rfl, fun w9 h9 => ?_⟩) HK.out ?_
  · obtain ⟨d0, d1, d3⟩ := h9
    go_simp
  refine wpAnyH_take (i := 4) (v := .func (.func 142) #[] #[.pointer (some ⟨w.heap.size, 0, none⟩)]) rfl (by kernel_rfl) (by kernel_rfl) (by kernel_rfl) (fun _ _ _ h => h) (Or.inl ⟨by kernel_rfl, fun w9 h9 => ?_⟩) HK.out ?_
  · clear h9
    go_simp
  refine wpAnyH_take (i := 7) (v := .func (.func 142) #[] #[.pointer (some ⟨w.heap.size, 0, none⟩)]) rfl (by kernel_rfl) (by kernel_rfl) (by kernel_rfl) (fun _ _ _ h => h) (Or.inl ⟨by kernel_rfl, fun w9 h9 => ?_⟩) HK.out ?_
  · clear h9
    go_simp
  refine wpAnyH_take (i := 9) (v := .func (.func 142) #[] #[.pointer (some ⟨w.heap.size, 0, none⟩)]) rfl (by kernel_rfl) (by kernel_rfl) (by kernel_rfl) (fun _ _ _ h => h) (Or.inl ⟨by kernel_rfl, fun w9 h9 => ?_⟩) HK.out ?_
  · clear h9
    go_simp
  refine wpAnyH_take (i := 11) (v := .func (.func 142) #[] #[.pointer (some ⟨w.heap.size, 0, none⟩)]) rfl (by kernel_rfl) (by kernel_rfl) (by kernel_rfl) (fun _ _ _ h => h) (Or.inl ⟨by kernel_rfl, fun w9 h9 => ?_⟩) HK.out ?_
  · clear h9
    go_simp
  refine wpAnyH_take (i := 13) (v := .func (.func 142) #[] #[.pointer (some ⟨w.heap.size, 0, none⟩)]) rfl (by kernel_rfl) (by kernel_rfl) (by kernel_rfl) (fun _ _ _ h => h) (Or.inl ⟨by kernel_rfl, fun w9 h9 => ?_⟩) HK.out ?_
  · clear h9
    go_simp
  refine wpAnyH_take (i := 16) (v := .pointer (some ⟨w.heap.size, 3, none⟩)) rfl (by kernel_rfl) (by kernel_rfl) (by kernel_rfl) (fun _ _ _ h => h) (Or.inl ⟨by kernel_rfl, fun w9 h9 => ?_⟩) HK.out ?_
  · clear h9
    go_simp
  refine wpAnyH_take (i := 17) (v := .int .i64 d) rfl (by kernel_rfl) (by kernel_rfl) (by kernel_rfl) (fun _ _ _ h => h) (Or.inl ⟨by kernel_rfl, fun w9 h9 => ?_⟩) HK.out ?_
  · obtain ⟨d0, d1, d3⟩ := h9
    go_simp
  refine held_one 5 (by kernel_rfl) rfl (by kernel_rfl) fun K hK => ?_
  go_simp
  refine Calls.mono (HF.out _) ?_
  rintro e u1 ⟨rfl, hu⟩
  rw [hu]
  clear hu
  go_simp
  refine hK _ _ HK.out ?_
  clear hK K
  refine wpAnyH_take (i := 6) (v := .agg #[.int .i64 a, .int .i64 b, .bool (fgB c 2)]) rfl (by kernel_rfl) (by kernel_rfl) (by kernel_rfl) (fun _ _ _ h => h) (Or.inl ⟨by kernel_rfl, fun w9 h9 => ?_⟩) HK.out ?_
  · clear h9
    go_simp
  refine held_one 8 (by kernel_rfl) rfl (by kernel_rfl) fun K hK => ?_
  go_simp
  refine Calls.mono (HF.out _) ?_
  rintro e u1 ⟨rfl, hu⟩
  rw [hu]
  clear hu
  go_simp
  refine hK _ _ HK.out ?_
  clear hK K
  refine held_one 10 (by kernel_rfl) rfl (by kernel_rfl) fun K hK => ?_
  go_simp
  refine Calls.mono (HF.out _) ?_
  rintro e u1 ⟨rfl, hu⟩
  rw [hu]
  clear hu
  go_simp
  refine hK _ _ HK.out ?_
  clear hK K
  refine held_one 12 (by kernel_rfl) rfl (by kernel_rfl) fun K hK => ?_
  go_simp
  refine Calls.mono (HF.out _) ?_
  rintro e u1 ⟨rfl, hu⟩
  rw [hu]
  clear hu
  go_simp
  refine hK _ _ HK.out ?_
  clear hK K
  refine held_one 14 (by kernel_rfl) rfl (by kernel_rfl) fun K hK => ?_
  go_simp
  refine Calls.mono (HF.out _) ?_
  rintro e u1 ⟨rfl, hu⟩
  rw [hu]
  clear hu
  go_simp
  refine hK _ _ HK.out ?_
  clear hK K
  refine wpAnyH_take (i := 15) (v := .agg #[.bool (fgB c 128), .bool (fgB c 32768)]) rfl (by kernel_rfl) (by kernel_rfl) (by kernel_rfl) (fun _ _ _ h => h) (Or.inl ⟨by kernel_rfl, fun w9 h9 => ?_⟩) HK.out ?_
  · clear h9
    go_simp
  refine wpAnyH_take (i := 18) (v := .agg #[.int .i64 a, .int .i64 b, .bool (fgB c 2), .bool (fgB c 1), .bool (fgB c 4), .bool (fgB c 128), .bool (fgB c 32768), .int .i64 d]) rfl (by kernel_rfl) (by kernel_rfl) (by kernel_rfl) (fun _ _ _ h => h) (Or.inl ⟨by kernel_rfl, fun w9 h9 => ?_⟩) HK.out ?_
  · clear h9
    go_simp
  refine held_one 19 (by kernel_rfl) rfl (by kernel_rfl) fun K hK => ?_
  go_simp
  obtain ⟨k0, k1, k3⟩ := HK.out
  refine hK _ _ ⟨by go_keep, by go_keep, by go_keep⟩ ?_
  clear hK K
  refine wpAnyH_done (by kernel_rfl) ?_ _
  go_simp
  go_wp2_with fail
  refine bodyPost_ret (v := .agg #[.int .i64 a, .int .i64 b, .bool (fgB c 2), .bool (fgB c 1), .bool (fgB c 4), .bool (fgB c 128), .bool (fgB c 32768), .int .i64 d]) ?_ rfl ⟨rfl, ?_⟩
  · simp [results, Try.results140, go_sem, r0, r1, r2, r3, r4, r5, r6, r7]
  · exact (((((((HB1.out.setCell (by simp) _).setCell (by simp) _).setCell (by simp) _).setCell (by simp) _).setCell (by simp) _).setCell (by simp) _).setCell (by simp) _).setCell (by simp) _
end Go.Proofs.Ytdlodflinibaoaa
