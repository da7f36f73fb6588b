import Derived.Test.YthhbfghbpapklaaPo2
import Derived.Test.YthhbfghbpapklaaHl
namespace Go.Proofs.Ythhbfghbpapklaa
open Go.ChangeShapes Go.WideShapes Go.ChangeAt Go.RowKit

set_option maxRecDepth 100000
/-- Memory behind the first k descriptors. -/
def pcM (s : ByteArray) (S D F : Nat) (ds : List DD) : Nat → ByteArray
  | 0 => s
  | k + 1 => setd (pcM s S D F ds k) (D + (F + k) % S * 16) (ds.getD k dd0).pos (ds.getD k dd0).len (dF (dv (ds.getD k dd0))) (ds.getD k dd0).num
theorem pcM_size (s : ByteArray) (S D F : Nat) (ds : List DD) (hS : 1 ≤ S) (h : D + S * 16 ≤ s.size) : ∀ k, (pcM s S D F ds k).size = s.size
  | 0 => rfl
  | k + 1 => by
    have h1 := pcM_size s S D F ds hS h k
    have h2 : (F + k) % S < S := Nat.mod_lt _ hS
    unfold pcM
    rw [setd_size _ _ _ _ _ _ (by omega), h1]
/-- Memory behind a chain that was posted. -/
def pcF (m : ByteArray) (S A F : Nat) : ByteArray := setv (setv m (A + 8 + (wv m (A + 4)).toNat % S * 4) F) (A + 4) ((((wv m (A + 4)).toNat + 1) % 65536 : Nat) : Int)
theorem pcF_size (m : ByteArray) (S A F : Nat) (hS : 1 ≤ S) (h : A + (8 + S * 4) ≤ m.size) : (pcF m S A F).size = m.size := by
  have h2 : (wv m (A + 4)).toNat % S < S := Nat.mod_lt _ hS
  unfold pcF
  have h3 := setv_size m (A + 8 + (wv m (A + 4)).toNat % S * 4) F (by omega)
  rw [setv_size _ _ _ (by omega), h3]
set_option maxHeartbeats 4000000 in
theorem postChain_any {w : World} {mb n : Nat} {v : Value} {ds : List DD} {s : ByteArray} (S D A F : Nat) (U T G : Int) (h : ∀ u, w.grownBy u (some mb) → DDrow u v ds) (hm : MemAt w mb s) (hl : ds.length ≤ 1000) (hn : s.size = n * 256) (hs : s.size ≤ 65536) (hS : 1 ≤ S) (hS2 : S ≤ 16) (hF : F < S) (hD4 : D % 4 = 0) (hD : D + S * 16 ≤ s.size) (hA4 : A % 4 = 0) (hA : A + (8 + S * 4) ≤ s.size) :
    Calls Try.prog 32 #[mv mb n, qA ⟨S, D, A, U, T, G⟩, .int .i64 F, v] w fun e w' => e = .returned (.tuple #[]) ∧ MemAt w' mb (pcF (pcM s S D F ds ds.length) S A F) ∧ w.grownBy w' (some mb) := by
  obtain ⟨a1, c1, rfl⟩ := (h w (gb_refl _ _)).sl
  have HR : Hid (∀ u, w.grownBy u (some mb) → DDrow u (.slice a1 ds.length c1) ds) := h
  have HQ0 : Hid (QM (w.alloc (.cells (qC ⟨S, D, A, U, T, G⟩) 26)) w.heap.size mb ⟨S, D, A, U, T, G⟩ s) := ⟨heap_new _ _, hm.below (bx1 _ _) hm.lt, by have := hm.lt; omega⟩
  have HG0 : Hid (w.grownBy (w.alloc (.cells (qC ⟨S, D, A, U, T, G⟩) 26)) (some mb)) := World.grownBy_alloc _ _ _
  have HSZ : Hid _ := pcM_size s S D F ds hS hD
  have HPD : Hid (∀ (k : Nat) (d : DV) (u : World) (M : ByteArray), M.size = s.size → MemAt u mb M → Calls Try.prog 58 #[mv mb n, .int .i64 ((D + (F + k) % S * 16 : Nat) : Int), dA d] u fun e w' => e = .returned (.tuple #[]) ∧ MemAt w' mb (setd M (D + (F + k) % S * 16) d.pos d.len (dF d) d.number) ∧ u.grownBy w' (some mb)) := fun k d u M h1 h2 => putDesc_any mb n M (D + (F + k) % S * 16) d u h2 (by omega) (by omega) (by have h5 : (F + k) % S < S := Nat.mod_lt _ hS; omega) (by omega)
  have hMs := pcM_size s S D F ds hS hD ds.length
  have hcb := wv_b (pcM s S D F ds ds.length) (A + 4)
  have hcm : (wv (pcM s S D F ds ds.length) (A + 4)).toNat % S < S := Nat.mod_lt _ hS
  have HWD : Hid _ := fun (u : World) (hM : MemAt u mb (pcM s S D F ds ds.length)) => memWord_any mb n _ (A + 4) u hM (by omega) (by omega) (by omega) (by omega)
  rw [show ((A + 4 : Nat) : Int) = (A : Int) + 4 by omega] at HWD
  obtain ⟨C, hC⟩ : ∃ C : Nat, wv (pcM s S D F ds ds.length) (A + 4) = C := ⟨(wv (pcM s S D F ds ds.length) (A + 4)).toNat, by omega⟩
  have HAP : Hid _ := fun u => availPlace_any S A C D U T G u (by omega) hS hS2 (by omega)
  have HNC : Hid _ := fun u => nextCount_any C u (by omega)
  have HE : Hid (pcF (pcM s S D F ds ds.length) S A F = setv (setv (pcM s S D F ds ds.length) (A + 8 + C % S * 4) F) (A + 4) (((C + 1) % 65536 : Nat) : Int)) := by
    show _ = _
    unfold pcF
    rw [hC, Int.toNat_natCast]
  rw [hC, Int.toNat_natCast] at hcm
  rw [hC] at HWD
  have h3 := setv_size (pcM s S D F ds ds.length) (A + 8 + C % S * 4) F (by omega)
  have HP1 : Hid _ := fun (u : World) (hM : MemAt u mb (pcM s S D F ds ds.length)) => memPut_any mb n _ (A + 8 + C % S * 4) F u hM (by omega) (by omega) (by omega) (by omega)
  have HP2 : Hid _ := fun (u : World) (hM : MemAt u mb (setv (pcM s S D F ds ds.length) (A + 8 + C % S * 4) F)) => memPut_any mb n _ (A + 4) (((C + 1) % 65536 : Nat) : Int) u hM (by omega) (by omega) (by omega) (by omega)
  rw [← HE.out, show ((A + 4 : Nat) : Int) = (A : Int) + 4 by omega] at HP2
  have hAb : (A : Int) ≤ 65536 := by omega
  have hDb : (D : Int) ≤ 65536 := by omega
  have HC : Hid (1 ≤ S ∧ S ≤ 16 ∧ F < S ∧ ds.length ≤ 1000) := ⟨hS, hS2, hF, hl⟩
  have HWR : Hid (IntKind.i64.wrap ((A : Int) + 4) = (A : Int) + 4) := (show IntKind.i64.wrap ((A : Int) + 4) = (A : Int) + 4 by rw [IntKind.wrap_i64]; omega)
  clear h hm hn hs hS hS2 hF hD4 hD hA4 hA hMs hcb hcm hC h3 HE
  generalize pcF (pcM s S D F ds ds.length) S A F = MF at *
  generalize setv (pcM s S D F ds ds.length) (A + 8 + C % S * 4) F = M1 at *
  generalize A + 8 + C % S * 4 = PA at *
  generalize (C + 1) % 65536 = C2 at *
  unfold qA qC at *
  unfold mv at HPD HWD HP1 HP2 ⊢
  simp only at HQ0 HG0 ⊢
  go_enter Try.func32, Try.ntmps32
  go_upto_region 1 with fail
  generalize (w.alloc (.cells #[.int .i64 S, .int .i64 D, .int .i64 A, .int .i64 U, .int .i64 T, .int .i64 G] 26)) = u0 at *
  generalize w.heap.size = bq at *
  go_wp2_with fail
  go_loopw [14] (fun i wr => ∃ k : Nat, k ≤ ds.length ∧ i = .int .i64 k ∧ Hid (QM wr bq mb ⟨S, D, A, U, T, G⟩ (pcM s S D F ds k)) ∧ Hid (w.grownBy wr (some mb))) (fun i _ => ds.length - (intOf i).toNat)
  case atStart => exact ⟨0, Nat.zero_le _, rfl, HQ0, HG0⟩
  case round =>
    obtain ⟨k, hk, rfl, HQ, HG⟩ := hrel
    clear HQ0 HG0
    by_cases hlt : k < ds.length
    · obtain ⟨g, o, cap2, hv, _, hg, hc⟩ := (HR.out _ HG.out).resolve_left (fun h => by rw [h.1] at hlt; simp at hlt)
      injection hv with hv1 hv2 hv3
      subst hv1 hv3
      obtain ⟨d0, d1, d2, d3, d4, d5, d6, d7⟩ := hc k hlt
      have HN : Hid (pcM s S D F ds (k + 1) = setd (pcM s S D F ds k) (D + (F + k) % S * 16) ds[k].pos ds[k].len (dF (dv ds[k])) ds[k].num) := by
        show _ = _
        have e : ds.getD k dd0 = ds[k] := by simp [List.getD, List.getElem?_eq_getElem hlt]
        show setd _ _ _ _ _ _ = _
        rw [e]
      clear hc
      generalize ds[k] = z at *
      have hMk := HSZ.out k
      obtain ⟨z0, z1, z2, z3, z4, z5, z6, z7⟩ := z
      simp only at d0 d1 d2 d3 d4 d5 d6 d7 HN
      have HP0 : Hid _ := fun (u : World) (hM : MemAt u mb (pcM s S D F ds k)) => HPD.out k (dv ⟨z0, z1, z2, z3, z4, z5, z6, z7⟩) u _ hMk hM
      have HP0b : Hid (∀ (u : World), MemAt u mb (pcM s S D F ds k) → Calls Try.prog 58 #[.slice (some ⟨mb, 0, none⟩) n n, .int .i64 ((D + (F + k) % S * 16 : Nat) : Int), .agg #[.int .i64 z0, .int .i64 z1, .bool z2, .bool z3, .bool z4, .bool z5, .bool z6, .int .i64 z7]] u fun e w' => e = .returned (.tuple #[]) ∧ MemAt w' mb (pcM s S D F ds (k + 1)) ∧ u.grownBy w' (some mb)) := fun u hM => by
        rw [HN.out]
        exact HP0.out u hM
      have hk0 : (0 : Int) ≤ (k : Int) := by omega
      have hk1 : (k : Int) < (ds.length : Int) := by omega
      have hFb := HC.out
      have e1 : ((F : Int) + k).tmod (S : Int) = (((F + k) % S : Nat) : Int) := by
        rw [Int.tmod_eq_emod_of_nonneg (by omega)]
        simp
      have h0 : ¬ (S : Int) = 0 := by omega
      have hMb : (((F + k) % S : Nat) : Int) < 16 := by have h5 : (F + k) % S < S := Nat.mod_lt _ hFb.1; omega
      rw [show ((D + (F + k) % S * 16 : Nat) : Int) = (D : Int) + (((F + k) % S : Nat) : Int) * 16 by omega] at HP0b
      have hMM : 0 ≤ (((F + k) % S : Nat) : Int) := by omega
      generalize (((F + k) % S : Nat) : Int) = MM at *
      have HQ3 : Hid _ := HQ.out.below (bx1 wr (.cells #[.int .i64 z0, .int .i64 z1, .bool z2, .bool z3, .bool z4, .bool z5, .bool z6, .int .i64 z7] 99))
      have HG3 : Hid _ := gb_below HG.out (bx1 wr (.cells #[.int .i64 z0, .int .i64 z1, .bool z2, .bool z3, .bool z4, .bool z5, .bool z6, .int .i64 z7] 99))
      have HX3 : Hid ((wr.alloc (.cells #[.int .i64 z0, .int .i64 z1, .bool z2, .bool z3, .bool z4, .bool z5, .bool z6, .int .i64 z7] 99)).heap[wr.heap.size]? = some (.cells #[.int .i64 z0, .int .i64 z1, .bool z2, .bool z3, .bool z4, .bool z5, .bool z6, .int .i64 z7] 99 (0, 0))) := heap_new _ _
      clear HP0 HN HPD
      go_upto_region 4 with fail
      generalize (wr.alloc (.cells #[.int .i64 z0, .int .i64 z1, .bool z2, .bool z3, .bool z4, .bool z5, .bool z6, .int .i64 z7] 99)) = y3 at *
      generalize wr.heap.size = B3 at *
      clear d0 d1 d2 d3 d4 d5 d6 d7 HQ HG
      obtain ⟨c0, c1, c2, c3, c4, c5⟩ := HQ3.out.cs
      have ql := HQ3.out.lt
      have x0 := bC HX3.out 0 (.int .i64 z0) rfl
      have x1 := bC HX3.out 1 (.int .i64 z1) rfl
      have x2 := bC HX3.out 2 (.bool z2) rfl
      have x3 := bC HX3.out 3 (.bool z3) rfl
      have x4 := bC HX3.out 4 (.bool z4) rfl
      have x5 := bC HX3.out 5 (.bool z5) rfl
      have x6 := bC HX3.out 6 (.bool z6) rfl
      have x7 := bC HX3.out 7 (.int .i64 z7) rfl
      have xl : B3 < y3.heap.size := (Array.getElem?_eq_some_iff.1 HX3.out).1
      go_wp2_with (go_at_call 58; refine Calls.mono (HP0b.out _ HQ3.out.mem) ?_; rintro e y4 ⟨rfl, hM, hg4⟩; have HQ4 : Hid _ := HQ3.out.put hg4 hM; have HG4 : Hid _ := gb_grow HG3.out hg4; clear hM hg4)
      go_roundw
      case rel => exact ⟨k + 1, hlt, by go_num, HQ4, HG4⟩
      case measure => simp [intOf]; omega
    · obtain rfl : k = ds.length := by omega
      clear HPD HR
      obtain ⟨c0, c1, c2, c3, c4, c5⟩ := HQ.out.cs
      have ql := HQ.out.lt
      go_wp2_with (first
        | (go_at_call 59; refine Calls.mono (HWD.out _ HQ.out.mem) ?_; rintro e u1 ⟨rfl, q, hu⟩; have hb : Below wr.heap.size wr u1 := (hu ▸ bdn (Below.refl _ _) q); have HQ1 : Hid _ := HQ.out.below hb; have HG1 : Hid _ := gb_below HG.out hb; clear hb hu c0 c1 c2 c3 c4 c5; obtain ⟨c0, c1, c2, c3, c4, c5⟩ := HQ1.out.cs; have ql1 := HQ1.out.lt)
        | (go_at_call 61; refine Calls.mono (HAP.out _) ?_; rintro e u2 ⟨rfl, hb⟩; have HQ2 : Hid _ := HQ1.out.below hb; have HG2 : Hid _ := gb_below HG1.out hb; clear hb)
        | (go_at_call 60; refine Calls.mono (HP1.out _ HQ2.out.mem) ?_; rintro e u3 ⟨rfl, hM, hg3⟩; have HQ3 : Hid _ := HQ2.out.put hg3 hM; have HG3 : Hid _ := gb_grow HG2.out hg3; clear hM hg3))
      clear c0 c1 c2 c3 c4 c5
      obtain ⟨c0, c1, c2, c3, c4, c5⟩ := HQ3.out.cs
      have ql3 := HQ3.out.lt
      have HQX : Hid _ := HQ3.out.below ((Below.refl _ _).drew)
      have HGX : Hid _ := gb_below HG3.out ((Below.refl _ _).drew)
      refine wp_region_held (S := fun w' => w'.cell? ⟨bq, 0, none⟩ = some (.int .i64 S) ∧ w'.cell? ⟨bq, 1, none⟩ = some (.int .i64 D) ∧ w'.cell? ⟨bq, 2, none⟩ = some (.int .i64 A) ∧ w'.cell? ⟨bq, 3, none⟩ = some (.int .i64 U) ∧ w'.cell? ⟨bq, 4, none⟩ = some (.int .i64 T) ∧ w'.cell? ⟨bq, 5, none⟩ = some (.int .i64 G)) (by kernel_rfl) ?_
      change wpAnyH _ _ _ _ _ _ _ _ (World.drew _)
      generalize u3.drew = X at *
      have HK : Hid _ := HQX.out.cs
      clear c0 c1 c2 c3 c4 c5
      refine wpAnyH_take (i := 0) (v := .slice (some ⟨mb, 0, none⟩) n n) rfl (by kernel_rfl) (by kernel_rfl) (by kernel_rfl) (fun _ _ _ h => h) (Or.inl ⟨by kernel_rfl, fun w9 h9 => ?_⟩) HK.out ?_
      · clear h9
        go_simp
      refine wpAnyH_take (i := 1) (v := .pointer (some ⟨bq, 2, none⟩)) rfl (by kernel_rfl) (by kernel_rfl) (by kernel_rfl) (fun _ _ _ h => h) (Or.inl ⟨by kernel_rfl, fun w9 h9 => ?_⟩) HK.out ?_
      · clear h9
        go_simp
      refine wpAnyH_take (i := 2) (v := .int .i64 A) rfl (by kernel_rfl) (by kernel_rfl) (by kernel_rfl) (fun _ _ _ h => h) (Or.inl ⟨by kernel_rfl, fun w9 h9 => ?_⟩) HK.out ?_
      · obtain ⟨d0, d1, d2, d3, d4, d5⟩ := h9
        go_simp
      refine wpAnyH_take (i := 3) (v := .int .i64 ((A : Int) + 4)) rfl (by kernel_rfl) (by kernel_rfl) (by kernel_rfl) (fun _ _ _ h => h) (Or.inl ⟨by kernel_rfl, fun w9 h9 => ?_⟩) HK.out ?_
      · clear h9
        first | (go_simp; done) | (go_simp; rw [HWR.out]; done) | (go_simp; exact HWR.out)
      refine wpAnyH_take (i := 4) (v := .int .i64 C) rfl (by kernel_rfl) (by kernel_rfl) (by kernel_rfl) (fun _ _ _ h => h) (Or.inl ⟨by kernel_rfl, fun w9 h9 => ?_⟩) HK.out ?_
      · clear h9
        go_simp
      refine held_one 5 (by kernel_rfl) rfl (by kernel_rfl) fun K hK => ?_
      go_simp
      refine Calls.mono (HNC.out _) ?_
      rintro e u4 ⟨rfl, hu⟩
      rw [hu]
      clear hu
      go_simp
      refine hK _ _ HK.out ?_
      clear hK K
      refine held_one 6 (by kernel_rfl) rfl (by kernel_rfl) fun K hK => ?_
      go_simp
      refine Calls.mono (HP2.out _ HQX.out.mem) ?_
      rintro e u6 ⟨rfl, hM, hg6⟩
      have HQ6 : Hid _ := HQX.out.put hg6 hM
      have HG6 : Hid _ := gb_grow HGX.out hg6
      clear hM hg6
      go_simp
      refine hK _ _ HQ6.out.cs ?_
      clear hK K
      refine wpAnyH_done (by kernel_rfl) ?_ _
      go_simp
      go_wp2_with fail
      refine bodyPost_end (v := .tuple #[]) (by simp [results, Try.results32, go_sem]) rfl ⟨rfl, HQ6.out.mem, HG6.out⟩
end Go.Proofs.Ythhbfghbpapklaa
