import Derived.Test.YtdlodflinibaoaaSp2
import Derived.Test.YtdlodflinibaoaaPb4
import Derived.Test.YtdlodflinibaoaaPMem4
namespace Go.Proofs.Ytdlodflinibaoaa
open Go.ChangeShapes Go.WideShapes Go.ChangeAt Go.RowKit

theorem rb_conv (u : World) (S : ByteArray) : RB (Lib.bytesWorld u 5 S) u.heap.size S := by
  refine ⟨fun j v hv => ?_, fun j hj => bw_frozen u S j hj, by rw [Lib.bytesWorld_size]; omega⟩
  have hj : j < S.size := by
    have := (List.getElem?_eq_some_iff.1 hv).1
    rw [c8len] at this
    exact this
  rw [bw_cell u S j hj]
  have hj' : j < S.data.toList.length := by simpa using hj
  simp [cells8, List.getElem?_eq_getElem hj'] at hv
  rw [← bt_list S j hj, ← hv]
  simp [List.getD, List.getElem?_eq_getElem hj']
theorem rb_back {w : World} {g : Nat} {m : ByteArray} (h : RB w g m) (cap : Nat) : Sem.run Try.prog (convert 47 9 (.slice (some ⟨g, 0, none⟩) m.size cap)) w = .ok (.string m) w := by
  have hl : m.data.toList.length = m.size := bsize m
  have hr := run_convert_bytes_back (P := Try.prog) w 47 9 5 ⟨g, 0, none⟩ cap m.data.toList Try.underlying47 Try.underlying5 Try.underlying9 (fun j hj => by
    have hadd : (⟨g, 0, none⟩ : Addr).add j = ⟨g, j, none⟩ := by unfold Addr.add; split <;> simp_all
    rw [hadd]
    exact h.cel j _ (by simp [cells8, List.getElem?_eq_getElem hj]))
  rw [hl] at hr
  rw [hr]
theorem da_conv (u : World) (S : ByteArray) : DA (Lib.bytesWorld u 5 S) u.heap.size 0 S :=
  ⟨fun j v hv => by rw [Nat.zero_add]; exact (rb_conv u S).cel j v hv, (rb_conv u S).lt⟩
set_option maxRecDepth 100000 in
set_option maxHeartbeats 4000000 in
theorem implSpread_any {w : World} {v : Value} {zs : List BU} (s d : ByteArray) (h : BUrow w v zs) (hl : zs.length ≤ 1048576) (hs : s.size ≤ 1048576) (hd : d.size ≤ 1048576) (hzb : ∀ z ∈ zs, i64B z.len) :
    Calls Try.prog 25 #[.string s, v, .string d] w fun e w' => e = .returned (.string (spV s zs d)) ∧ Below w.heap.size w w' := by
  have HK : Hid _ := fun u (hu : BUrow u v zs) => holdsBufs_any s hu hl hs hzb
  have HT : Hid _ := fun u => tooLong_any d u
  clear hzb
  obtain ⟨a1, c1, rfl⟩ := h.sl
  have HR : Hid (BUrow w (.slice a1 zs.length c1) zs) := h
  clear h
  by_cases h1 : 65536 < d.size
  · have hdd : decide (65536 < (d.size : Int)) = true := decide_eq_true (by omega)
    rw [hdd] at HT
    have E : Hid (spV s zs d = ⟨#[]⟩) := (show spV s zs d = ⟨#[]⟩ by unfold spV; rw [if_pos h1])
    clear h1 hdd
    go_enter Try.func25, Try.ntmps25
    go_wp2_with (go_at_call 48; refine Calls.mono (HT.out _) ?_; rintro e u1 ⟨rfl, hu1⟩; rw [hu1]; clear hu1)
    go_ret
    exact ⟨sr_eq E.out.symm, Below.refl _ _⟩
  have hdd : decide (65536 < (d.size : Int)) = false := decide_eq_false (by omega)
  rw [hdd] at HT
  clear hdd
  cases hb : bsB s zs
  · rw [hb] at HK
    have E : Hid (spV s zs d = ⟨#[]⟩) := (show spV s zs d = ⟨#[]⟩ by unfold spV; rw [if_neg h1, hb]; rfl)
    clear h1 hb
    go_enter Try.func25, Try.ntmps25
    go_wp2_with (first | (go_at_call 48; refine Calls.mono (HT.out _) ?_; rintro e u1 ⟨rfl, hu1⟩; rw [hu1]; clear hu1) | (go_at_call 60; refine Calls.mono (HK.out _ HR.out) ?_; rintro e u1 ⟨rfl, hu1⟩; have HB1 : Hid _ := hu1; clear hu1))
    go_ret
    exact ⟨sr_eq E.out.symm, HB1.out⟩
  rw [hb] at HK
  obtain ⟨hm, hn, hz⟩ := bsB_b hb
  obtain ⟨m1, m2, m3⟩ := memOk_b hm
  have E : Hid (spV s zs d = (spK s d zs zs.length).1) := (show spV s zs d = _ by unfold spV; rw [if_neg h1, hb, if_pos rfl])
  have hsz : (spK s d zs zs.length).1.size = s.size := (spK_size s d zs s.size rfl hz zs.length (Nat.le_refl _)).1
  obtain ⟨n, hN⟩ : ∃ n, s.size = n * 256 := ⟨s.size / 256, by omega⟩
  have HRM : Hid _ := fun x => readMemory_any s n x hN (by omega)
  have HTX : Hid _ := fun (x : World) (b : Nat) (hM : MemAt x b (spK s d zs zs.length).1) => memText_any b _ n x hM (by omega) (by omega)
  have HSP : Hid (∀ (x : World) (mb g cap : Nat), (∀ u, x.grownBy u (some mb) → BUrow u (.slice a1 zs.length c1) zs) → MemAt x mb s → DA x g 0 d → g ≠ mb → d.size ≤ cap → Calls Try.prog 54 #[mv mb n, .slice a1 zs.length c1, .slice (some ⟨g, 0, none⟩) d.size cap] x fun e w' => e = .returned (.tuple #[]) ∧ MemAt w' mb (spK s d zs zs.length).1 ∧ x.grownBy w' (some mb)) := fun x mb g cap h1 h2 h3 h4 h5 => spread_rd h1 h2 h3 h4 h5 hN m2 hz hn (by omega)
  generalize (spK s d zs zs.length).1 = M at *
  clear h1 hb hm hz m1 m2 m3 hs hd hN hsz hn
  unfold mv at HRM HTX HSP
  go_enter Try.func25, Try.ntmps25
  go_wp2_with (first | (go_at_call 48; refine Calls.mono (HT.out _) ?_; rintro e u1 ⟨rfl, hu1⟩; rw [hu1]; clear hu1) | (go_at_call 60; refine Calls.mono (HK.out _ HR.out) ?_; rintro e u1 ⟨rfl, hu1⟩; have HB1 : Hid _ := hu1; clear hu1) | (go_at_call 50; refine Calls.mono (HRM.out _) ?_; rintro e u2 ⟨rfl, hM, hu, hsz⟩; have HM2 : Hid (MemAt u2 u1.heap.size s) := hM; have HB2 : Hid (Below w.heap.size w u2) := HB1.out.trans (hu.mono HB1.out.size); have HZ2 : Hid _ := hsz; have hcv := bw_conv u2 d; clear hu hM hsz))
  have HB3 : Hid (Below w.heap.size w (Lib.bytesWorld u2 5 d)) := HB2.out.trans ((bw_below u2 d).mono HB2.out.size)
  have HD3 : Hid _ := da_conv u2 d
  have HM3 : Hid (MemAt (Lib.bytesWorld u2 5 d) u1.heap.size s) := HM2.out.below (bw_below u2 d) HM2.out.lt
  have hcap : d.size ≤ grownCap u2 d.size 0 5 := grownCap_ge _ _ _ _
  have hne : u2.heap.size ≠ u1.heap.size := by have := HZ2.out; omega
  have hwl : w.heap.size ≤ u1.heap.size := HB1.out.size
  clear hcv HM2 HZ2 HB2
  generalize Lib.bytesWorld u2 5 d = u3 at *
  generalize grownCap u2 d.size 0 5 = cap at *
  generalize u2.heap.size = G at *
  generalize u1.heap.size = mb at *
  refine Calls.mono (HSP.out u3 mb G cap (fun u hu => ?_) HM3.out HD3.out hne hcap) ?_
  · have h5 : Below w.heap.size w u := HB3.out.grown hu HB3.out.size (fun j hj => by cases hj; exact hwl)
    exact HR.out.below h5
  rintro e u4 ⟨rfl, hM, hg⟩
  have HM4 : Hid _ := hM
  have HB4 : Hid (Below w.heap.size w u4) := HB3.out.grown hg HB3.out.size (fun j hj => by cases hj; exact hwl)
  clear hM hg
  go_wp2_with (go_at_call 53; refine Calls.mono (HTX.out _ _ HM4.out) ?_; rintro e u5 ⟨rfl, hu⟩; have HB5 : Hid (Below w.heap.size w u5) := HB4.out.trans (hu.mono HB4.out.size); clear hu)
  go_ret
  exact ⟨sr_eq E.out.symm, HB5.out⟩
end Go.Proofs.Ytdlodflinibaoaa
