import Derived.Test.YtdlodflinibaoaaPb3
import Derived.Deep.RegionHeld3
import Derived.Deep.DeepCutAuto
namespace Go.Proofs.Ytdlodflinibaoaa
open Go.ChangeShapes Go.WideShapes Go.ChangeAt Go.RowKit

theorem rowNe {u : World} {B n b t : Nat} {v : Value} {xs : List Value} {cs : Array Value} (h : u.ownsRow B 53 3 v n xs) (hb : u.heap[b]? = some (.cells cs t (0, 0))) (ht : t ≠ 53) : v.ownBlock ≠ some b := fun e => by
  obtain ⟨_, hr | ⟨g, cap, cur, hv, _, hgg, _⟩⟩ := h
  · rw [hr.1] at e; cases e
  · rw [hv] at e
    have e2 : g = b := by simpa [Value.ownBlock] using e
    subst e2
    rw [hb] at hgg
    injection hgg with hgg
    injection hgg with _ hgg
    exact ht hgg
theorem row_gb {u u' : World} {B n mb : Nat} {v : Value} {xs : List Value} {s : ByteArray} (h : u.ownsRow B 53 3 v n xs) (hm : MemAt u mb s) (hg : u.grownBy u' (some mb)) : u'.ownsRow B 53 3 v n xs := h.kept hg (.inr (rowNe h hm (by decide)))
set_option maxRecDepth 100000 in
set_option maxHeartbeats 4000000 in
theorem spread_rd {w : World} {mb n g o cap : Nat} {v : Value} {zs : List BU} {s d : ByteArray} (h : ∀ u, w.grownBy u (some mb) → BUrow u v zs) (hm : MemAt w mb s) (hd : DA w g o d) (hg : g ≠ mb) (hc : d.size ≤ cap) (hn : s.size = n * 256) (hs : s.size ≤ 65536) (hz : ∀ j (hj : j < zs.length), inW s.size zs[j].pos zs[j].len = true) (hl : zs.length ≤ 1000) (hds : d.size ≤ 65536) :
    Calls Try.prog 54 #[mv mb n, v, .slice (some ⟨g, o, none⟩) d.size cap] w fun e w' => e = .returned (.tuple #[]) ∧ MemAt w' mb (spK s d zs zs.length).1 ∧ w.grownBy w' (some mb) := by
  obtain ⟨a1, c1, rfl⟩ := (h w ⟨rfl, rfl, rfl, Nat.le_refl _, fun _ _ _ => rfl⟩).sl
  have HR : Hid (∀ u, w.grownBy u (some mb) → BUrow u (.slice a1 zs.length c1) zs) := h
  have HPB : Hid (∀ (u : World) (p o cap : Nat) (s d : ByteArray), MemAt u mb s → DA u g o d → d.size ≤ cap → s.size = n * 256 → s.size ≤ 65536 → p + d.size ≤ s.size → Calls Try.prog 89 #[mv mb n, .int .i64 p, .slice (some ⟨g, o, none⟩) d.size cap] u fun e w' => e = .returned (.tuple #[]) ∧ MemAt w' mb (put s p d) ∧ u.grownBy w' (some mb)) := fun u p o cap s d h1 h2 h3 h4 h5 h6 => putBytes_any p h1 h2 hg h3 h4 h5 h6
  have HSZ : Hid _ := spK_size s d zs s.size rfl hz
  have HZ : Hid (∀ j (hj : j < zs.length), inW s.size zs[j].pos zs[j].len = true) := hz
  have HC0 : Hid (s.size = n * 256 ∧ s.size ≤ 65536 ∧ d.size ≤ 65536 ∧ g ≠ mb) := ⟨hn, hs, hds, hg⟩
  have HM0 : Hid _ := hm
  have HD0 : Hid _ := hd
  have HCP : Hid (d.size ≤ cap) := hc
  clear h hm hd hg hc hn hs hz hds
  unfold mv at HPB ⊢
  go_enter Try.func54, Try.ntmps54
  go_wp2_with fail
  go_loopw [2, 11] (fun x i wr => ∃ (k o' cap' : Nat), k ≤ zs.length ∧ x = .slice (some ⟨g, o', none⟩) (spK s d zs k).2.size cap' ∧ i = .int .i64 k ∧ Hid (MemAt wr mb (spK s d zs k).1) ∧ Hid (DA wr g o' (spK s d zs k).2) ∧ Hid ((spK s d zs k).2.size ≤ cap') ∧ Hid (w.grownBy wr (some mb))) (fun _ i _ => zs.length - (intOf i).toNat)
  case atStart => exact ⟨0, o, cap, Nat.zero_le _, rfl, rfl, HM0, HD0, HCP, ⟨rfl, rfl, rfl, Nat.le_refl _, fun _ _ _ => rfl⟩⟩
  case round =>
    obtain ⟨k, o', cap', hk, rfl, rfl, HM, HD, HC, HG⟩ := hrel
    clear HM0 HD0 HCP
    by_cases hlt : k < zs.length
    · obtain ⟨g1, o1, cap2, hv, _, hg1, hc⟩ := (HR.out wr HG.out).resolve_left (fun h => by rw [h.1] at hlt; simp at hlt)
      injection hv with hv1 hv2 hv3
      subst hv1 hv3
      obtain ⟨d0, d1, d2⟩ := hc k hlt
      obtain ⟨q1, q2⟩ := HSZ.out k hk
      have hw := inW_iff.1 (HZ.out k hlt)
      have HN : Hid _ := spK_next s d zs k hlt
      obtain ⟨hn, hm2, hd2, hgm⟩ := HC0.out
      clear hc
      generalize zs[k] = z at *
      generalize spK s d zs k = M at *
      obtain ⟨zp, zl, zw⟩ := z
      obtain ⟨m, y⟩ := M
      simp only at d0 d1 d2 q1 q2 hw HM HD HC
      obtain ⟨hw1, hw2, hw3⟩ := hw
      obtain ⟨P, rfl⟩ := Int.eq_ofNat_of_zero_le hw1
      obtain ⟨L, rfl⟩ := Int.eq_ofNat_of_zero_le hw2
      have hk0 : (0 : Int) ≤ (k : Int) := by omega
      have hk1 : (k : Int) < (zs.length : Int) := by omega
      have HB3 : Hid (Below wr.heap.size wr (wr.alloc (.cells #[.int .i64 P, .int .i64 L, .bool zw] 53))) := bx1 _ _
      have HX3 : Hid ((wr.alloc (.cells #[.int .i64 P, .int .i64 L, .bool zw] 53)).heap[wr.heap.size]? = some (.cells #[.int .i64 P, .int .i64 L, .bool zw] 53 (0, 0))) := heap_new _ _
      have HM3 : Hid (MemAt (wr.alloc (.cells #[.int .i64 P, .int .i64 L, .bool zw] 53)) mb m) := HM.out.below HB3.out HM.out.lt
      have HD3 : Hid _ := HD.out.below HB3.out
      have HG3 : Hid _ := gb_trans HG.out (gb_bel2 HB3.out)
      clear HM HD HG
      cases zw
      · have hN2 : Hid (spK s d zs (k + 1) = (m, y)) := HN.out
        clear HN q1 q2 hw1 hw2 hw3 hm2 hd2
        go_wp2_with fail
        go_roundw
        case rel => exact ⟨k + 1, o', cap', hlt, by rw [hN2.out], by go_num, by rw [hN2.out]; exact HM3, by rw [hN2.out]; exact HD3, by rw [hN2.out]; exact HC, HG3⟩
        case measure => simp [intOf]; omega
      · have hmn : Nat.min y.size L ≤ y.size := Nat.min_le_left _ _
        have hmn2 : Nat.min y.size L ≤ L := Nat.min_le_right _ _
        have hN2 : Hid (spK s d zs (k + 1) = (put m P (y.extract 0 (Nat.min y.size L)), y.extract (Nat.min y.size L) y.size)) := (HN.out.trans (by unfold spS mn; simp))
        have HCM : Hid ((y.size < L → Nat.min y.size L = y.size) ∧ (¬ y.size < L → Nat.min y.size L = L)) := ⟨fun h => Nat.min_eq_left (by omega), fun h => Nat.min_eq_right (by omega)⟩
        have hPb : (P : Int) ≤ 65536 := by omega
        have hLb : (L : Int) ≤ 65536 := by omega
        generalize Nat.min y.size L = c at *
        have hs1 : (y.extract 0 c).size = c := by rw [ex_size _ _ _ hmn]; omega
        have hs2 : (y.extract c y.size).size = y.size - c := by rw [ex_size _ _ _ (Nat.le_refl _)]
        have HP1 : Hid (∀ u, MemAt u mb m → DA u g o' (y.extract 0 c) → Calls Try.prog 89 #[.slice (some ⟨mb, 0, none⟩) n n, .int .i64 P, .slice (some ⟨g, o', none⟩) c cap'] u fun e w' => e = .returned (.tuple #[]) ∧ MemAt w' mb (put m P (y.extract 0 c)) ∧ u.grownBy w' (some mb)) := fun u h1 h2 => by
          have h9 := HPB.out u P o' cap' m (y.extract 0 c) h1 h2 (by have := HC.out; omega) (by omega) (by omega) (by omega)
          rw [hs1] at h9
          exact h9
        have hslh := fun w => slBh w g o' y.size cap' c (by have := HC.out; omega)
        obtain ⟨o2, ho2⟩ : ∃ o2, (if cap' = c then o' else o' + c) = o2 := ⟨_, rfl⟩
        have hsl := fun w => slBt w g o' y.size cap' c hmn
        rw [ho2] at hsl
        have HO2 : Hid _ := ho2
        clear ho2 HPB HN
        go_upto_region 3 with fail
        generalize (wr.alloc (.cells #[.int .i64 P, .int .i64 L, .bool true] 53)) = y3 at *
        generalize wr.heap.size = B3 at *
        have x0 := bC HX3.out 0 (.int .i64 P) rfl
        have x1 := bC HX3.out 1 (.int .i64 L) rfl
        have x2 := bC HX3.out 2 (.bool true) rfl
        have xl : B3 < y3.heap.size := (Array.getElem?_eq_some_iff.1 HX3.out).1
        have HBM : Hid (B3 ≠ mb) := fun e => by
          have h1 := HM3.out
          unfold MemAt at h1
          rw [← e, HX3.out] at h1
          injection h1 with h1
          injection h1 with _ h1
          exact absurd h1 (by decide)
        go_upto_region 4 with fail
        go_cut [8] (fun s8 wc => s8 = .int .i64 c ∧ wc = y3)
        case first =>
          by_cases hcm : y.size < L
          · have hcc : Hid (c = y.size) := HCM.out.1 hcm
            go_wp2_with fail
            go_meet
            case rel => exact ⟨by rw [hcc.out], rfl⟩
          · have hcc : Hid (c = L) := HCM.out.2 hcm
            go_wp2_with fail
            go_meet
            case rel => exact ⟨by rw [hcc.out], rfl⟩
        case rest =>
          obtain ⟨rfl, hwc⟩ := hcut
          rw [hwc]
          clear hwc HCM
          have hcb : (c : Int) ≤ 65536 := by omega
          go_upto_region 5 with fail
          go_cut [] (fun wc => MemAt wc mb (put m P (y.extract 0 c)) ∧ DA wc g o' y ∧ w.grownBy wc (some mb))
          case first =>
            go_region_held3 (fun w' => w'.cell? ⟨B3, 0, none⟩ = some (.int .i64 P)) (go_keep) ((go_at_call 89; refine Calls.mono (HP1.out _ (HM3.out.below ((Below.refl _ _).drew) HM3.out.lt) ((HD3.out.to c).below ((Below.refl _ _).drew))) ?_; rintro e y4 ⟨rfl, hM, hg⟩; have hg2 : y3.grownBy y4 (some mb) := ⟨hg.os, hg.tape, hg.output, hg.size, hg.block⟩; have HM4 : Hid _ := hM; have HG4 : Hid _ := gb_trans HG3.out hg2; have HD4 : Hid _ := HD3.out.grown hg2 hgm; have x0' : y4.cell? ⟨B3, 0, none⟩ = some (.int .i64 P) := (World.cell?_of_block (hg2.block B3 xl (fun e => HBM.out (Option.some.inj e)))).trans x0; clear hM hg hg2))
            all_goals
              go_wp2_with fail
              go_meet
              case rel => exact ⟨HM4.out, HD4.out, HG4.out⟩
          case rest =>
            obtain ⟨hM, hD, hG⟩ := hcut
            have HM4 : Hid _ := hM
            have HD4 : Hid _ := hD
            have HG4 : Hid _ := hG
            clear hM hD hG HM3 HD3 HG3 HX3 x0 x1 x2 xl
            go_wp2_with fail
            go_roundw
            case rel =>
              refine ⟨k + 1, o2, cap' - c, hlt, by rw [hN2.out, hs2], by go_num, by rw [hN2.out]; exact HM4, ?_, by rw [hN2.out]; show _ ≤ _; simp only; rw [hs2]; have := HC.out; omega, HG4⟩
              rw [hN2.out]
              show DA _ g o2 (y.extract c y.size)
              rw [← HO2.out]
              split
              · exact DA.nil HD4.out.lt (by rw [hs2]; have := HC.out; omega)
              · exact HD4.out.from c
            case measure => simp [intOf]; omega
    · obtain rfl : k = zs.length := by omega
      go_wp2_with fail
      refine bodyPost_end (v := .tuple #[]) (by simp [results, Try.results54, go_sem]) rfl ⟨rfl, HM.out, HG.out⟩
theorem spread_any {w : World} {mb n g o cap B : Nat} {v : Value} {zs : List BU} {s d : ByteArray} (h : w.ownsRow B 53 3 v zs.length (buR zs)) (hm : MemAt w mb s) (hd : DA w g o d) (hg : g ≠ mb) (hc : d.size ≤ cap) (hn : s.size = n * 256) (hs : s.size ≤ 65536) (hz : ∀ j (hj : j < zs.length), inW s.size zs[j].pos zs[j].len = true) (hl : zs.length ≤ 1000) (hds : d.size ≤ 65536) :
    Calls Try.prog 54 #[mv mb n, v, .slice (some ⟨g, o, none⟩) d.size cap] w fun e w' => e = .returned (.tuple #[]) ∧ MemAt w' mb (spK s d zs zs.length).1 ∧ w.grownBy w' (some mb) :=
  spread_rd (fun _ hu => BUrow.of (row_gb h hm hu)) hm hd hg hc hn hs hz hl hds
end Go.Proofs.Ytdlodflinibaoaa
