import Derived.Test.YtdlodflinibaoaaSp1
import Derived.Test.YtdlodflinibaoaaRc1
import Derived.Deep.LoopGhost
import Derived.Laws.AppendOwn
import Derived.Test.YtdlodflinibaoaaJoined
import Derived.Laws.DeepStrings4
import Derived.Deep.RegionHeld3
import Derived.Deep.DeepCutAuto
namespace Go.Proofs.Ytdlodflinibaoaa
open Go.ChangeShapes Go.WideShapes Go.ChangeAt Go.RowKit

theorem put_list (m : ByteArray) (p : Nat) (x : ByteArray) : (put m p x).data.toList = m.data.toList.take p ++ x.data.toList ++ m.data.toList.drop (p + x.size) := by
  have e5 : (m.data.toList.drop (p + x.size)).take (m.size - (p + x.size)) = m.data.toList.drop (p + x.size) := by
    apply List.take_of_length_le
    rw [List.length_drop, bsize]
    exact Nat.le_refl _
  unfold put
  simp only [ByteArray.data_append, Array.toList_append, ByteArray.data_extract, Array.toList_extract, List.extract_eq_take_drop, e5]
  simp
theorem ba_ext {a b : ByteArray} (h : a.data.toList = b.data.toList) : a = b := by
  cases a; cases b
  congr 1
  exact Array.toList_inj.1 h
theorem ex_list (d : ByteArray) (a b : Nat) : (d.extract a b).data.toList = (d.data.toList.drop a).take (b - a) := by
  simp only [ByteArray.data_extract, Array.toList_extract, List.extract_eq_take_drop]
theorem put_nil (m : ByteArray) (p : Nat) (x : ByteArray) (h : x.size = 0) : put m p x = m := by
  apply ba_ext
  rw [put_list]
  have : x.data.toList = [] := List.eq_nil_of_length_eq_zero (by rw [bsize]; exact h)
  rw [this, h]
  simp
theorem put_split (m : ByteArray) (p : Nat) (d : ByteArray) (c : Nat) (hc : c ≤ d.size) (h : p + d.size ≤ m.size) : put m p d = put (put m p (d.extract 0 c)) (p + c) (d.extract c d.size) := by
  apply ba_ext
  have s1 : (d.extract 0 c).size = c := by rw [ex_size _ _ _ hc]; omega
  have s2 : (d.extract c d.size).size = d.size - c := by rw [ex_size _ _ _ (Nat.le_refl _)]
  rw [put_list, put_list, put_list, s1, s2, ex_list, ex_list]
  have hd : d.data.toList.length = d.size := bsize d
  have hm : m.data.toList.length = m.size := bsize m
  generalize d.data.toList = D at *
  generalize m.data.toList = M at *
  rw [show c - 0 = c from rfl, List.drop_zero]
  have t1 : (D.drop c).take (d.size - c) = D.drop c := List.take_of_length_le (by rw [List.length_drop]; omega)
  rw [t1]
  have l1 : (M.take p ++ D.take c).length = p + c := by rw [List.length_append, List.length_take, List.length_take]; omega
  have t2 : (M.take p ++ D.take c ++ M.drop (p + c)).take (p + c) = M.take p ++ D.take c := by
    rw [List.take_append_of_le_length (by omega), List.take_of_length_le (by omega)]
  have t3 : (M.take p ++ D.take c ++ M.drop (p + c)).drop (p + c + (d.size - c)) = M.drop (p + d.size) := by
    rw [List.drop_append, List.drop_eq_nil_of_le (by omega), List.nil_append, l1, List.drop_drop]
    congr 1
    omega
  rw [t2, t3]
  simp only [List.append_assoc]
  rw [← List.append_assoc (D.take c), List.take_append_drop]
/-- A text's bytes in a block. -/
structure DA (w : World) (g o : Nat) (d : ByteArray) : Prop where
  cel : ∀ j v, (cells8 d.data.toList)[j]? = some v → w.cell? ⟨g, o + j, none⟩ = some v
  lt : g < w.heap.size
theorem DA.below {w w' : World} {g o : Nat} {d : ByteArray} (h : DA w g o d) (hb : Below w.heap.size w w') : DA w' g o d :=
  ⟨fun j v hv => (World.cell?_of_block (a := ⟨g, o + j, none⟩) (hb.block g h.lt)).trans (h.cel j v hv), Nat.lt_of_lt_of_le h.lt hb.size⟩
theorem DA.grown {w w' : World} {g o mb : Nat} {d : ByteArray} (h : DA w g o d) (hb : w.grownBy w' (some mb)) (hn : g ≠ mb) : DA w' g o d :=
  ⟨fun j v hv => (World.cell?_of_block (a := ⟨g, o + j, none⟩) (hb.block g h.lt (fun e => hn (Option.some.inj e)))).trans (h.cel j v hv), Nat.lt_of_lt_of_le h.lt hb.size⟩
theorem DA.from {w : World} {g o : Nat} {d : ByteArray} (h : DA w g o d) (c : Nat) : DA w g (o + c) (d.extract c d.size) := by
  refine ⟨fun j v hv => ?_, h.lt⟩
  rw [Nat.add_assoc]
  refine h.cel (c + j) v ?_
  rw [ex_list] at hv
  simp only [cells8, List.getElem?_map, List.getElem?_take, List.getElem?_drop] at hv ⊢
  split at hv
  · exact hv
  · simp at hv
theorem DA.to {w : World} {g o : Nat} {d : ByteArray} (h : DA w g o d) (c : Nat) : DA w g o (d.extract 0 c) := by
  refine ⟨fun j v hv => ?_, h.lt⟩
  refine h.cel j v ?_
  rw [ex_list] at hv
  simp only [cells8, List.getElem?_map, List.getElem?_take, List.drop_zero] at hv ⊢
  split at hv
  · exact hv
  · simp at hv
theorem DA.nil {w : World} {g o : Nat} {d : ByteArray} (hl : g < w.heap.size) (h : d.size = 0) : DA w g o d := by
  refine ⟨fun j v hv => ?_, hl⟩
  have : d.data.toList = [] := List.eq_nil_of_length_eq_zero (by rw [bsize]; exact h)
  rw [this] at hv
  simp [cells8] at hv
/-- The rest of a row of bytes. -/
theorem slBt (w : World) (g o L cap c : Nat) (h : c ≤ L) : Sem.run Try.prog (Instr.slice 47 (.slice (some ⟨g, o, none⟩) L cap) (some (.int .i64 (c : Int))) none none) w = .ok (.slice (some ⟨g, if cap = c then o else o + c, none⟩) (L - c) (cap - c)) w := by
  have hr := run_slice_l (P := Try.prog) w 47 (some ⟨g, o, none⟩) L cap bsU .i64 (c : Int) (by omega) (by omega)
  rw [hr, bsE, u8size]
  simp only [Result.andThen_ok, sliced, Int.toNat_natCast]
  by_cases hc : cap = c
  · simp [hc]
  · simp [hc, Addr.add]
theorem slBh (w : World) (g o L cap c : Nat) (h : c ≤ cap) : Sem.run Try.prog (Instr.slice 47 (.slice (some ⟨g, o, none⟩) L cap) none (some (.int .i64 (c : Int))) none) w = .ok (.slice (some ⟨g, o, none⟩) c cap) w := by
  have hr := run_slice_h (P := Try.prog) w 47 (some ⟨g, o, none⟩) L cap bsU .i64 (c : Int) (by omega) (by omega)
  rw [hr, bsE, u8size]
  simp only [Result.andThen_ok, sliced, Int.toNat_natCast]
  simp
  try (intro hc; simp [Addr.add])

theorem mcel_put (m : ByteArray) (p : Nat) (x : ByteArray) : ((mcel m).toList.take p ++ cells8 x.data.toList ++ (mcel m).toList.drop (p + (cells8 x.data.toList).length)).toArray = mcel (put m p x) := by
  rw [c8len]
  unfold mcel
  rw [c8put]
theorem copy_da (w : World) (ty mb g o dLen dCap k cap : Nat) (s d : ByteArray) (c : Nat) (hm : MemAt w mb s) (h : DA w g o d) (hc : Nat.min d.size dLen = c) (hf : k + c ≤ s.size) :
    (Builtin.copy_ #[47, 47] ty #[.slice (some ⟨mb, k, none⟩) dLen dCap, .slice (some ⟨g, o, none⟩) d.size cap]).run Try.prog w = .ok (goInt c) (w.setRow mb (mcel (put s k (d.extract 0 c)))) := by
  have hle : c ≤ d.size := hc ▸ Nat.min_le_left _ _
  have hs : (d.extract 0 c).size = c := by rw [ex_size _ _ _ hle]; omega
  have hl : (cells8 (d.extract 0 c).data.toList).length = c := by rw [c8len, hs]
  have hr := run_copy_row (P := Try.prog) w 47 47 ty 5 mb k dLen dCap ⟨g, o, none⟩ d.size cap (mcel s) 136 (cells8 (d.extract 0 c).data.toList) Try.underlying47 u8info hm (by rw [hl, hc]) (fun j v hv => by
    have ha : (⟨g, o, none⟩ : Addr).add j = ⟨g, o + j, none⟩ := by unfold Addr.add; split <;> simp_all
    rw [ha]
    exact (h.to c).cel j v hv) (by rw [hl, mcel_size]; exact hf) (cells8_one _)
  rw [hr, mcel_put, hl]
theorem put_mem {w : World} {mb : Nat} {s s' : ByteArray} (h : MemAt w mb s) : MemAt (w.setRow mb (mcel s')) mb s' := h.row rfl
theorem put_gb {w : World} {mb : Nat} {cs : Array Value} : w.grownBy (w.setRow mb cs) (some mb) := ⟨rfl, rfl, rfl, by rw [size_setRow]; exact Nat.le_refl _, fun k _ hn => setRow_other _ _ _ _ (fun e => hn (by rw [e]))⟩
theorem gb_trans {w u v : World} {mb : Nat} (h : w.grownBy u (some mb)) (h2 : u.grownBy v (some mb)) : w.grownBy v (some mb) :=
  ⟨h2.os.trans h.os, h2.tape.trans h.tape, h2.output.trans h.output, Nat.le_trans h.size h2.size, fun k hk hn => (h2.block k (Nat.lt_of_lt_of_le hk h.size) hn).trans (h.block k hk hn)⟩
theorem gb_bel2 {w u : World} {r : Option Nat} (h : Below w.heap.size w u) : w.grownBy u r := ⟨h.os, h.tape, h.output, h.size, fun k hk _ => h.block k hk⟩
set_option maxRecDepth 100000 in
set_option maxHeartbeats 4000000 in
theorem putBytes_any {w : World} {mb n g o cap : Nat} {s d : ByteArray} (p : Nat) (h : MemAt w mb s) (hd : DA w g o d) (hg : g ≠ mb) (hc : d.size ≤ cap) (hn : s.size = n * 256) (hs : s.size ≤ 65536) (hp : p + d.size ≤ s.size) :
    Calls Try.prog 89 #[mv mb n, .int .i64 p, .slice (some ⟨g, o, none⟩) d.size cap] w fun e w' => e = .returned (.tuple #[]) ∧ MemAt w' mb (put s p d) ∧ w.grownBy w' (some mb) := by
  have HRO : Hid (∀ (k : Nat) (u : World), k < n * 256 → Calls Try.prog 115 #[mv mb n, .int .i64 k] u fun e w' => e = .returned (.slice (some ⟨mb, k, none⟩) (256 - k % 256) (256 - k % 256)) ∧ w' = u) := fun k u hk => restOf_any mb n k u hk (by omega)
  have HM0 : Hid (MemAt w mb s) := h
  have HD0 : Hid (DA w g o d) := hd
  have HC0 : Hid (d.size ≤ cap ∧ s.size = n * 256 ∧ s.size ≤ 65536 ∧ p + d.size ≤ s.size ∧ g ≠ mb) := ⟨hc, hn, hs, hp, hg⟩
  clear h hd hg hc hn hs hp
  unfold mv at HRO ⊢
  go_enter Try.func89, Try.ntmps89
  go_wp2_with fail
  go_loopg [1, 2] d.size (fun gh s1 s2 wr => ∃ (s' d' : ByteArray) (p' o' cap' : Nat), s1 = .int .i64 p' ∧ s2 = .slice (some ⟨g, o', none⟩) d'.size cap' ∧ gh = d'.size ∧ Hid (MemAt wr mb s') ∧ Hid (DA wr g o' d') ∧ Hid (w.grownBy wr (some mb)) ∧ Hid (d'.size ≤ cap' ∧ s'.size = s.size ∧ p' + d'.size ≤ s.size) ∧ Hid (put s p d = put s' p' d'))
  case atStart => exact ⟨s, d, p, o, cap, rfl, rfl, rfl, HM0, HD0, ⟨rfl, rfl, rfl, Nat.le_refl _, fun _ _ _ => rfl⟩, ⟨HC0.out.1, rfl, HC0.out.2.2.2.1⟩, rfl⟩
  case round =>
    obtain ⟨s', d', p', o', cap', rfl, rfl, hgk, HM, HD, HG, HC, HE⟩ := hrel
    clear HM0 HD0
    by_cases h0 : d'.size = 0
    · have hz : ((d'.size : Nat) : Int) = 0 := by omega
      rw [put_nil s' p' d' h0] at HE
      go_wp2_with fail
      refine bodyPost_end (v := .tuple #[]) (by simp [results, Try.results89, go_sem]) rfl ⟨rfl, ?_, HG.out⟩
      rw [HE.out]
      exact HM.out
    · have hz : (0 : Int) < ((d'.size : Nat) : Int) := by omega
      have hpb : (p' : Int) ≤ 65536 := by have := HC.out; have := HC0.out; omega
      have HR1 : Hid _ := fun u => HRO.out p' u (by have := HC.out; have := HC0.out; omega)
      obtain ⟨c, hc⟩ : ∃ c, Nat.min d'.size (256 - p' % 256) = c := ⟨_, rfl⟩
      have hc1 : 0 < c ∧ c ≤ d'.size := by
        have e : min d'.size (256 - p' % 256) = c := hc
        omega
      have hcp := copy_da wr 3 mb g o' (256 - p' % 256) (256 - p' % 256) p' cap' s' d' c HM.out HD.out hc (by have := HC.out; omega)
      have hcb : (c : Int) ≤ 65536 := by have := HC.out; have := HC0.out; omega
      obtain ⟨o2, ho2⟩ : ∃ o2, (if cap' = c then o' else o' + c) = o2 := ⟨_, rfl⟩
      have hsl := fun w => slBt w g o' d'.size cap' c hc1.2
      rw [ho2] at hsl
      have HO2 : Hid _ := ho2
      clear ho2
      generalize 256 - p' % 256 = RM at *
      clear hc HRO
      go_wp2_with (go_at_call 115; refine Calls.mono (HR1.out _) ?_; rintro e u1 ⟨rfl, hu⟩; rw [hu]; clear hu)
      have HM2 : Hid (MemAt (wr.setRow mb (mcel (put s' p' (d'.extract 0 c)))) mb (put s' p' (d'.extract 0 c))) := put_mem HM.out
      have HG2 : Hid (wr.grownBy (wr.setRow mb (mcel (put s' p' (d'.extract 0 c)))) (some mb)) := put_gb
      have HD2 : Hid _ := HD.out.grown HG2.out HC0.out.2.2.2.2
      clear hcp
      generalize wr.setRow mb (mcel (put s' p' (d'.extract 0 c))) = y1 at *
      go_quiet (fail)
      go_wp2_with fail
      go_roundg (d'.size - c)
      case measure => omega
      case rel =>
        have hs1 : (d'.extract 0 c).size = c := by rw [ex_size _ _ _ hc1.2]; omega
        have hs2 : (d'.extract c d'.size).size = d'.size - c := by rw [ex_size _ _ _ (Nat.le_refl _)]
        refine ⟨put s' p' (d'.extract 0 c), d'.extract c d'.size, p' + c, o2, cap' - c, by simp, by rw [hs2], by rw [hs2], ?_, ?_, ?_, ⟨by have := HC.out; omega, by rw [put_size _ _ _ (by have := HC.out; omega)]; exact HC.out.2.1, by have := HC.out; omega⟩, ?_⟩
        · exact HM2.out.below (bdn (Below.refl _ _) _) HM2.out.lt
        · have hx : DA y1 g o2 (d'.extract c d'.size) := by
            rw [← HO2.out]
            split
            · exact DA.nil HD2.out.lt (by have := HC.out; omega)
            · exact HD2.out.from c
          exact hx.below (bdn (Below.refl _ _) _)
        · exact gb_trans HG.out (gb_trans HG2.out (gb_bel2 (bdn (Below.refl _ _) _)))
        · exact HE.out.trans (put_split s' p' d' c hc1.2 (by have := HC.out; omega))

/-- What SpreadBufs answers. -/
def spV (s : ByteArray) (zs : List BU) (d : ByteArray) : ByteArray := if 65536 < d.size then ⟨#[]⟩ else if bsB s zs = true then (spK s d zs zs.length).1 else ⟨#[]⟩
theorem sr_eq {a b : ByteArray} (h : a = b) : Ending.returned (.string a) = .returned (.string b) := by rw [h]
set_option maxRecDepth 100000 in
set_option maxHeartbeats 4000000 in
theorem specSpread_any {w : World} {v : Value} {zs : List BU} (s d : ByteArray) (h : BUrow w v zs) (hl : zs.length ≤ 1048576) (hs : s.size ≤ 1048576) (hd : d.size ≤ 1048576) :
    Calls Try.prog 26 #[.string s, v, .string d] w fun e w' => e = .returned (.string (spV s zs d)) ∧ Below w.heap.size w w' := by
  have HK : Hid _ := fun u (hu : BUrow u v zs) => l10Bufs_any s hu hl hs
  obtain ⟨a1, c1, rfl⟩ := h.sl
  have HR : Hid (BUrow w (.slice a1 zs.length c1) zs) := h
  clear h
  by_cases h1 : 65536 < d.size
  · have hdd : decide (65536 < (d.size : Int)) = true := decide_eq_true (by omega)
    have E : Hid (spV s zs d = ⟨#[]⟩) := (show spV s zs d = ⟨#[]⟩ by unfold spV; rw [if_pos h1])
    clear h1
    go_enter Try.func26, Try.ntmps26
    go_wp2_with fail
    go_ret
    exact ⟨sr_eq E.out.symm, Below.refl _ _⟩
  have hdd : decide (65536 < (d.size : Int)) = false := decide_eq_false (by omega)
  cases hb : bsB s zs
  · rw [hb] at HK
    have E : Hid (spV s zs d = ⟨#[]⟩) := (show spV s zs d = ⟨#[]⟩ by unfold spV; rw [if_neg h1, hb]; rfl)
    clear h1 hb
    go_enter Try.func26, Try.ntmps26
    go_wp2_with (go_at_call 61; refine Calls.mono (HK.out _ HR.out) ?_; rintro e u1 ⟨rfl, hu1⟩; have HB1 : Hid _ := hu1; clear hu1)
    go_ret
    exact ⟨sr_eq E.out.symm, HB1.out⟩
  rw [hb] at HK
  obtain ⟨hm, hn, hz⟩ := bsB_b hb
  obtain ⟨m1, m2, m3⟩ := memOk_b hm
  have E : Hid (spV s zs d = (spK s d zs zs.length).1) := (show spV s zs d = _ by unfold spV; rw [if_neg h1, hb, if_pos rfl])
  have HSZ : Hid _ := spK_size s d zs s.size rfl hz
  have HZ : Hid (∀ j (hj : j < zs.length), inW s.size zs[j].pos zs[j].len = true) := hz
  have HM2 : Hid (s.size ≤ 65536) := m2
  have HD : Hid (d.size ≤ 65536) := (show d.size ≤ 65536 by omega)
  clear h1 hb hm hz m1 m2 m3 hs hd
  go_enter Try.func26, Try.ntmps26
  go_wp2_with (go_at_call 61; refine Calls.mono (HK.out _ HR.out) ?_; rintro e u1 ⟨rfl, hu1⟩; have HB1 : Hid _ := hu1; clear hu1)
  go_loopw [0, 2, 7] (fun x y i w5 => ∃ k : Nat, k ≤ zs.length ∧ x = .string (spK s d zs k).1 ∧ y = .string (spK s d zs k).2 ∧ i = .int .i64 k ∧ Below w.heap.size w w5) (fun _ _ i _ => zs.length - (intOf i).toNat)
  case atStart => exact ⟨0, Nat.zero_le _, rfl, rfl, rfl, HB1.out⟩
  case round =>
    obtain ⟨k, hk, rfl, rfl, rfl, hb⟩ := hrel
    have HB : Hid _ := hb
    clear HK
    by_cases hlt : k < zs.length
    · obtain ⟨g, o, cap2, hv, _, hg, hc⟩ := HR.out.resolve_left (fun h => by rw [h.1] at hlt; simp at hlt)
      injection hv with hv1 hv2 hv3
      subst hv1 hv3
      obtain ⟨d0, d1, d2⟩ := hc.below hb hg k hlt
      obtain ⟨q1, q2⟩ := HSZ.out k hk
      have hw := inW_iff.1 (HZ.out k hlt)
      have HN : Hid _ := spK_next s d zs k hlt
      have hm2 := HM2.out
      have hd2 := HD.out
      clear hc hb
      generalize zs[k] = z at *
      generalize spK s d zs k = M at *
      obtain ⟨zp, zl, zw⟩ := z
      obtain ⟨m, y⟩ := M
      simp only at d0 d1 d2 q1 q2 hw
      obtain ⟨hw1, hw2, hw3⟩ := hw
      obtain ⟨P, rfl⟩ := Int.eq_ofNat_of_zero_le hw1
      obtain ⟨L, rfl⟩ := Int.eq_ofNat_of_zero_le hw2
      have hk0 : (0 : Int) ≤ (k : Int) := by omega
      have hk1 : (k : Int) < (zs.length : Int) := by omega
      have hgw : g < wr.heap.size := Nat.lt_of_lt_of_le hg HB.out.size
      cases zw
      · have hN2 : Hid (spK s d zs (k + 1) = (m, y)) := HN.out
        clear HN q1 q2 hw1 hw2 hw3 hm2 hd2
        go_wp2_with fail
        go_roundw
        case rel => exact ⟨k + 1, hlt, by rw [hN2.out], by rw [hN2.out], by go_num, HB.out⟩
        case measure => simp [intOf]; omega
      · have hmn : Nat.min y.size L ≤ y.size := Nat.min_le_left _ _
        have hmn2 : Nat.min y.size L ≤ L := Nat.min_le_right _ _
        have hN2 : Hid (spK s d zs (k + 1) = (put m P (y.extract 0 (Nat.min y.size L)), y.extract (Nat.min y.size L) y.size)) := (HN.out.trans (by unfold spS mn; simp))
        have HMI : Hid _ := fun u => l01Min_any L y.size u
        have sz1 := ex_size m 0 P (by omega)
        have sz2 := ex_size y 0 (Nat.min y.size L) hmn
        unfold put at hN2
        rw [sz2] at hN2
        simp only [Nat.sub_zero] at hN2 sz1 sz2
        generalize Nat.min y.size L = n at *
        have s1 := fun w => slTo m P (by omega) w
        have s2 := fun w => slTo y n hmn w
        have s3 := fun w => slFrom m (P + n) ((P : Int) + (n : Int)) (by omega) (by omega) w
        have s4 := fun w => slFrom y n (n : Int) rfl hmn w
        have sz3 := ex_size m (P + n) m.size (Nat.le_refl _)
        have a1 := fun w => run_string_add_sum (P := Try.prog) w (m.extract 0 P) (y.extract 0 n) (by omega)
        have a2 := fun w => run_string_add_sum (P := Try.prog) w (m.extract 0 P ++ y.extract 0 n) (m.extract (P + n) m.size) (by rw [ByteArray.size_append']; omega)
        have hPb : (P : Int) ≤ 65536 := by omega
        have hnb : (n : Int) ≤ 65536 := by omega
        clear HN q1 q2 hw1 hw2 hw3 hm2 hd2 hmn hmn2 sz1 sz2 sz3
        go_wp2_with (go_at_call 62; refine Calls.mono (HMI.out _) ?_; rintro e u1 ⟨rfl, hu1⟩; rw [hu1]; clear hu1)
        go_quiet (fail)
        go_wp2_with fail
        go_roundw
        case rel => exact ⟨k + 1, hlt, by rw [hN2.out], by rw [hN2.out], by go_num, bdn HB.out _⟩
        case measure => simp [intOf]; omega
    · obtain rfl : k = zs.length := by omega
      go_wp2_with fail
      go_ret
      exact ⟨sr_eq E.out.symm, HB.out⟩

/-- The room of buffers. -/
def rmS : List BU → Int
  | [] => 0
  | z :: r => (if z.write = true then z.len else 0) + rmS r
theorem rmS_app (a b : List BU) : rmS (a ++ b) = rmS a + rmS b := by
  induction a with
  | nil => simp [rmS]
  | cons z r ih => simp [rmS, ih]; omega
theorem rmS_next (zs : List BU) (k : Nat) (hk : k < zs.length) : rmS (zs.take (k + 1)) = rmS (zs.take k) + (if zs[k].write = true then zs[k].len else 0) := by
  rw [List.take_succ_eq_append_getElem hk, rmS_app]
  simp [rmS]
theorem rmS_b (zs : List BU) (h : ∀ z ∈ zs, 0 ≤ z.len ∧ z.len ≤ 65536) : 0 ≤ rmS zs ∧ rmS zs ≤ 65536 * zs.length := by
  induction zs with
  | nil => simp [rmS]
  | cons z r ih =>
    obtain ⟨h1, h2⟩ := ih (fun x hx => h x (by simp [hx]))
    have h3 := h z (by simp)
    unfold rmS
    split <;> simp <;> omega
theorem rmS_tb (zs : List BU) (h : ∀ z ∈ zs, 0 ≤ z.len ∧ z.len ≤ 65536) (hl : zs.length ≤ 1000) (k : Nat) : 0 ≤ rmS (zs.take k) ∧ rmS (zs.take k) ≤ 65536000 := by
  have h1 := rmS_b (zs.take k) (fun z hz => h z (List.mem_of_mem_take hz))
  have h2 : (zs.take k).length ≤ 1000 := by rw [List.length_take]; omega
  omega
set_option maxRecDepth 100000 in
set_option maxHeartbeats 4000000 in
theorem bytesOf_any {w : World} {v : Value} {zs : List BU} (h : BUrow w v zs) (hz : ∀ z ∈ zs, 0 ≤ z.len ∧ z.len ≤ 65536) (hl : zs.length ≤ 1000) :
    Calls Try.prog 87 #[v, .bool true] w fun e w' => e = .returned (.int .i64 (rmS zs)) ∧ Below w.heap.size w w' := by
  obtain ⟨a1, c1, rfl⟩ := h.sl
  have HR : Hid (BUrow w (.slice a1 zs.length c1) zs) := h
  have HT : Hid _ := rmS_tb zs hz hl
  have HZ : Hid _ := hz
  clear h hz
  go_enter Try.func87, Try.ntmps87
  go_wp2_with fail
  go_loopw [5, 10] (fun x i wr => ∃ k : Nat, k ≤ zs.length ∧ x = .int .i64 (rmS (zs.take k)) ∧ i = .int .i64 k ∧ Below w.heap.size w wr) (fun _ i _ => zs.length - (intOf i).toNat)
  case atStart => exact ⟨0, Nat.zero_le _, rfl, rfl, Below.refl _ _⟩
  case round =>
    obtain ⟨k, hk, rfl, rfl, hb⟩ := hrel
    have HB : Hid _ := hb
    by_cases hlt : k < zs.length
    · obtain ⟨g, o, cap2, hv, _, hg, hc⟩ := HR.out.resolve_left (fun h => by rw [h.1] at hlt; simp at hlt)
      injection hv with hv1 hv2 hv3
      subst hv1 hv3
      obtain ⟨d0, d1, d2⟩ := hc.below hb hg k hlt
      have hlen := HZ.out zs[k] (List.getElem_mem hlt)
      have HN : Hid _ := rmS_next zs k hlt
      have htb := HT.out k
      clear hc hb
      generalize zs[k] = z at *
      generalize rmS (zs.take k) = R at *
      obtain ⟨zp, zl, zw⟩ := z
      simp only at d0 d1 d2 hlen
      have hk0 : (0 : Int) ≤ (k : Int) := by omega
      have hk1 : (k : Int) < (zs.length : Int) := by omega
      have hgw : g < wr.heap.size := Nat.lt_of_lt_of_le hg HB.out.size
      have HB3 : Hid (Below w.heap.size w (wr.alloc (.cells #[.int .i64 zp, .int .i64 zl, .bool zw] 53))) := HB.out.alloc HB.out.size _
      cases zw
      · have hN2 : Hid (rmS (zs.take (k + 1)) = R) := (HN.out.trans (by simp))
        clear HN
        go_wp2_with fail
        go_roundw
        case rel => exact ⟨k + 1, hlt, by rw [hN2.out], by go_num, HB3.out⟩
        case measure => simp [intOf]; omega
      · have hN2 : Hid (rmS (zs.take (k + 1)) = R + zl) := (HN.out.trans (by simp))
        clear HN
        go_wp2_with fail
        go_roundw
        case rel => exact ⟨k + 1, hlt, by rw [hN2.out], by go_num, HB3.out⟩
        case measure => simp [intOf]; omega
    · obtain rfl : k = zs.length := by omega
      have E : Hid (rmS (zs.take zs.length) = rmS zs) := (show rmS (zs.take zs.length) = rmS zs by rw [List.take_length])
      go_wp2_with fail
      go_ret
      exact ⟨ret_int E.out, HB.out⟩

theorem ex_cat (s : ByteArray) (a b c : Nat) (h1 : a ≤ b) (h2 : b ≤ c) (_h3 : c ≤ s.size) : (s.extract a b).data.toList ++ (s.extract b c).data.toList = (s.extract a c).data.toList := by
  rw [ex_list, ex_list, ex_list, show c - a = (b - a) + (c - b) by omega, List.take_add, List.drop_drop, show a + (b - a) = b by omega]
theorem c8app (a b : List UInt8) : cells8 (a ++ b) = cells8 a ++ cells8 b := by simp [cells8]
theorem ow_sl {w : World} {B n e z : Nat} {v : Value} {xs : List Value} (h : w.ownsRow B e z v n xs) : ∃ ao cap, v = .slice ao n cap := by
  rcases h.2 with ⟨rfl, e⟩ | ⟨g, cap, cur, rfl, _⟩
  · exact ⟨none, 0, by rw [e]⟩
  · exact ⟨_, cap, rfl⟩
theorem da_mem {w : World} {mb : Nat} {s : ByteArray} (h : MemAt w mb s) : DA w mb 0 s := by
  refine ⟨fun j v hv => ?_, h.lt⟩
  have h2 : w.heap[mb]? = some (.cells (mcel s) 136 (0, 0)) := h
  simp only [World.cell?, h2, Nat.zero_add]
  unfold mcel
  simpa using hv
theorem da_piece {w : World} {mb : Nat} {s : ByteArray} (h : MemAt w mb s) (p c : Nat) (hp : p + c ≤ s.size) : DA w mb p (s.extract p (p + c)) := by
  have h2 := ((da_mem h).from p).to c
  rw [Nat.zero_add] at h2
  have e : (s.extract p s.size).extract 0 c = s.extract p (p + c) := ba_ext (by
    rw [ex_list, ex_list, ex_list, List.drop_zero, List.take_take]
    congr 1
    omega)
  rw [e] at h2
  exact h2
set_option maxRecDepth 100000 in
set_option maxHeartbeats 4000000 in
theorem appendBytes_any {w : World} {mb n B : Nat} {s : ByteArray} {v : Value} {bs : List UInt8} (p L : Nat) (h : MemAt w mb s) (ho : w.ownsRow B 5 1 v bs.length (cells8 bs)) (hmB : mb < B) (hBw : B ≤ w.heap.size) (hn : s.size = n * 256) (hs : s.size ≤ 65536) (hp : p + L ≤ s.size) (hl : bs.length ≤ 1048576) :
    Calls Try.prog 88 #[mv mb n, v, .int .i64 p, .int .i64 L] w fun e w' => ∃ v', e = .returned v' ∧ w'.ownsRow B 5 1 v' (bs.length + L) (cells8 (bs ++ (s.extract p (p + L)).data.toList)) ∧ Below B w w' := by
  obtain ⟨i0, hi, hz0, hz1, hz2⟩ := info_parts Try.info5
  have HRO : Hid (∀ (k : Nat) (u : World), k < n * 256 → Calls Try.prog 115 #[mv mb n, .int .i64 k] u fun e w' => e = .returned (.slice (some ⟨mb, k, none⟩) (256 - k % 256) (256 - k % 256)) ∧ w' = u) := fun k u hk => restOf_any mb n k u hk (by omega)
  have HM0 : Hid (MemAt w mb s) := h
  obtain ⟨ao0, cap0, rfl⟩ := ow_sl ho
  have HO0 : Hid _ := ho
  have HL : Hid (bs.length ≤ 1048576) := hl
  have HC0 : Hid (s.size = n * 256 ∧ s.size ≤ 65536 ∧ p + L ≤ s.size ∧ mb < B ∧ B ≤ w.heap.size) := ⟨hn, hs, hp, hmB, hBw⟩
  clear h ho hn hs hp hmB hBw hl
  unfold mv at HRO ⊢
  go_enter Try.func88, Try.ntmps88
  go_wp2_with fail
  go_loopg [1, 2, 3] L (fun gh s1 s2 s3 wr => ∃ (ao : Option Addr) (cap : Nat) (bs1 : List UInt8) (p1 L1 : Nat), s1 = .slice ao bs1.length cap ∧ s2 = .int .i64 p1 ∧ s3 = .int .i64 L1 ∧ gh = L1 ∧ Hid (wr.ownsRow B 5 1 (.slice ao bs1.length cap) bs1.length (cells8 bs1)) ∧ Hid (Below B w wr) ∧ Hid (p1 + L1 = p + L ∧ p ≤ p1) ∧ Hid (bs1 = bs ++ (s.extract p p1).data.toList))
  case atStart => exact ⟨ao0, cap0, bs, p, L, rfl, rfl, rfl, rfl, HO0, Below.refl _ _, ⟨rfl, Nat.le_refl _⟩, by show _ = _; rw [ex_list]; simp⟩
  case round =>
    obtain ⟨ao, cap, bs1, p1, L1, rfl, rfl, rfl, hgk, HO, HB, HC, HE⟩ := hrel
    clear HO0
    have HBL : Hid (bs1.length ≤ 1048576 + 65536) := by
      have h1 := congrArg List.length HE.out
      rw [List.length_append, ex_list, List.length_take] at h1
      have := HC0.out
      have := HC.out
      have := HL.out
      exact (show bs1.length ≤ 1048576 + 65536 by omega)
    clear HL
    have HL : Hid _ := HBL
    clear HBL
    by_cases h0 : L1 = 0
    · have hz0 : ¬ (0 : Int) < ((L1 : Nat) : Int) := by omega
      have hz : p1 = p + L := by have := HC.out; omega
      subst hz
      have HE2 : Hid (bs1.length = bs.length + L) := by
        have h1 := congrArg List.length HE.out
        rw [List.length_append, ex_list, List.length_take, List.length_drop] at h1
        have := HC0.out
        have h2 := bsize s
        exact (show bs1.length = bs.length + L by omega)
      go_wp2_with fail
      go_ret
      have h9 := HO.out
      have h8 := HE2.out
      rw [HE.out] at h9 h8
      rw [h8] at h9
      refine ⟨_, by rw [HE2.out], ?_, HB.out⟩
      first | exact h9 | (rw [ex_list, Nat.add_sub_cancel_left] at h9; exact h9)
    have hz : (0 : Int) < ((L1 : Nat) : Int) := by omega
    have hpb : (p1 : Int) ≤ 65536 := by have := HC.out; have := HC0.out; omega
    have hgb : (L1 : Int) ≤ 65536 := by have := HC.out; have := HC0.out; omega
    have HR1 : Hid _ := fun u => HRO.out p1 u (by have := HC.out; have := HC0.out; omega)
    have hRM : 0 < 256 - p1 % 256 := by omega
    generalize 256 - p1 % 256 = RM at *
    clear HRO
    by_cases hcm : RM < L1
    · obtain ⟨c, rfl⟩ : ∃ c, c = RM := ⟨_, rfl⟩
      have hcb : (c : Int) ≤ 65536 := by have := HC0.out; have := HC.out; omega
      have hnw : (s.extract p1 (p1 + c)).size = c := by rw [ex_size _ _ _ (by have := HC0.out; have := HC.out; omega)]; omega
      have HNW : Hid (DA wr mb p1 (s.extract p1 (p1 + c))) := da_piece (HM0.out.below HB.out HC0.out.2.2.2.1) p1 c (by have := HC0.out; have := HC.out; omega)
      have hslh := fun w => slBh w mb p1 c c c (by omega)
      obtain ⟨nw, hnwE⟩ : ∃ nw, nw = (s.extract p1 (p1 + c)).data.toList := ⟨_, rfl⟩
      have HNE : Hid _ := hnwE
      have HNC : Hid (∀ j v, (cells8 nw)[j]? = some v → wr.cell? ⟨mb, p1 + j, none⟩ = some v) := fun j v hv => HNW.out.cel j v (hnwE ▸ hv)
      have hnl : nw.length = c := by rw [hnwE, bsize, hnw]
      clear hnwE HNW hnw
      go_wp2_with (first | (go_at_call 115; refine Calls.mono (HR1.out _) ?_; rintro e u1 ⟨rfl, hu⟩; rw [hu]; clear hu) | (at_builtin; refine wpList_append_own _ rfl _ _ 47 rfl B 5 i0 (.int .u8 0) 1 1 Try.underlying47 hi hz0 hz1 hz2 rfl (by decide) (.slice ao bs1.length cap) bs1.length (cells8 bs1) rfl HO.out ⟨mb, p1, none⟩ c c (cells8 nw) rfl (by rw [show (cells8 nw).length = nw.length from List.length_map _, hnl, Nat.mul_one]) (fun j v hv => ?ca1) (cells8_one _) (by have := HC0.out; have := HC.out; have := HL.out; unfold maxLen; omega) (by have := HC0.out; have := HC.out; have := HL.out; omega) (by have := HC0.out; have := HB.out.size; omega) ?_))
      case ca1 =>
        have ha : (⟨mb, p1, none⟩ : Addr).add j = ⟨mb, p1 + j, none⟩ := by unfold Addr.add; split <;> simp_all
        rw [ha]
        exact HNC.out j v hv
      intro v2 w2 hown2 hgrow _
      rw [← c8app] at hown2
      obtain ⟨ao2, cap2, rfl⟩ := ow_sl hown2
      have HO2 : Hid _ := hown2
      have HB2 : Hid (Below B w w2) := HB.out.grown hgrow (by have := HC0.out; have := HB.out.size; omega) (fun k hk => (HO.out.lt k hk).1)
      have HHW : Hid _ := hnl
      clear hown2 hgrow hnl hslh HO HB HNC
      go_wp2_with fail
      go_roundg (L1 - c)
      case measure => omega
      case rel =>
        have hL : bs1.length + c = (bs1 ++ nw).length := by rw [List.length_append, HHW.out]
        refine ⟨ao2, cap2, bs1 ++ nw, p1 + c, L1 - c, by rw [hL], by simp, by first | (simp; done) | (simp; omega), by omega, ?_, ?_, ⟨by have := HC.out; omega, by have := HC.out; omega⟩, ?_⟩
        · have h9 := HO2.out
          rw [hL] at h9
          exact h9
        · exact HB2.out
        · show _ = _
          rw [HE.out, HNE.out, List.append_assoc, ex_cat s p p1 (p1 + c) HC.out.2 (by omega) (by have := HC0.out; have := HC.out; omega)]
    · obtain ⟨c, rfl⟩ : ∃ c, c = L1 := ⟨_, rfl⟩
      have hcb : (c : Int) ≤ 65536 := by have := HC0.out; have := HC.out; omega
      have hnw : (s.extract p1 (p1 + c)).size = c := by rw [ex_size _ _ _ (by have := HC0.out; have := HC.out; omega)]; omega
      have HNW : Hid (DA wr mb p1 (s.extract p1 (p1 + c))) := da_piece (HM0.out.below HB.out HC0.out.2.2.2.1) p1 c (by have := HC0.out; have := HC.out; omega)
      have hslh := fun w => slBh w mb p1 RM RM c (by omega)
      obtain ⟨nw, hnwE⟩ : ∃ nw, nw = (s.extract p1 (p1 + c)).data.toList := ⟨_, rfl⟩
      have HNE : Hid _ := hnwE
      have HNC : Hid (∀ j v, (cells8 nw)[j]? = some v → wr.cell? ⟨mb, p1 + j, none⟩ = some v) := fun j v hv => HNW.out.cel j v (hnwE ▸ hv)
      have hnl : nw.length = c := by rw [hnwE, bsize, hnw]
      clear hnwE HNW hnw
      go_wp2_with (first | (go_at_call 115; refine Calls.mono (HR1.out _) ?_; rintro e u1 ⟨rfl, hu⟩; rw [hu]; clear hu) | (at_builtin; refine wpList_append_own _ rfl _ _ 47 rfl B 5 i0 (.int .u8 0) 1 1 Try.underlying47 hi hz0 hz1 hz2 rfl (by decide) (.slice ao bs1.length cap) bs1.length (cells8 bs1) rfl HO.out ⟨mb, p1, none⟩ c RM (cells8 nw) rfl (by rw [show (cells8 nw).length = nw.length from List.length_map _, hnl, Nat.mul_one]) (fun j v hv => ?ca1) (cells8_one _) (by have := HC0.out; have := HC.out; have := HL.out; unfold maxLen; omega) (by have := HC0.out; have := HC.out; have := HL.out; omega) (by have := HC0.out; have := HB.out.size; omega) ?_))
      case ca1 =>
        have ha : (⟨mb, p1, none⟩ : Addr).add j = ⟨mb, p1 + j, none⟩ := by unfold Addr.add; split <;> simp_all
        rw [ha]
        exact HNC.out j v hv
      intro v2 w2 hown2 hgrow _
      rw [← c8app] at hown2
      obtain ⟨ao2, cap2, rfl⟩ := ow_sl hown2
      have HO2 : Hid _ := hown2
      have HB2 : Hid (Below B w w2) := HB.out.grown hgrow (by have := HC0.out; have := HB.out.size; omega) (fun k hk => (HO.out.lt k hk).1)
      have HHW : Hid _ := hnl
      clear hown2 hgrow hnl hslh HO HB HNC
      go_wp2_with fail
      go_roundg (c - c)
      case measure => omega
      case rel =>
        have hL : bs1.length + c = (bs1 ++ nw).length := by rw [List.length_append, HHW.out]
        refine ⟨ao2, cap2, bs1 ++ nw, p1 + c, c - c, by rw [hL], by simp, by first | (simp; done) | (simp; omega), by omega, ?_, ?_, ⟨by have := HC.out; omega, by have := HC.out; omega⟩, ?_⟩
        · have h9 := HO2.out
          rw [hL] at h9
          exact h9
        · exact HB2.out
        · show _ = _
          rw [HE.out, HNE.out, List.append_assoc, ex_cat s p p1 (p1 + c) HC.out.2 (by omega) (by have := HC0.out; have := HC.out; omega)]

/-- What stands in a buffer. -/
def pce (s : ByteArray) (z : BU) : ByteArray := s.extract z.pos.toNat (z.pos + z.len).toNat
/-- What stands in those without Write. -/
def gaP (s : ByteArray) (zs : List BU) : List ByteArray := (zs.filter (fun z => !z.write)).map (pce s)
theorem gaP_app (s : ByteArray) (a b : List BU) : gaP s (a ++ b) = gaP s a ++ gaP s b := by simp [gaP]
theorem gaP_one (s : ByteArray) (z : BU) : gaP s [z] = if z.write = true then [] else [pce s z] := by
  unfold gaP
  cases h : z.write <;> simp [h]
theorem gaP_len (s : ByteArray) (a : List BU) : (gaP s a).length ≤ a.length := by
  unfold gaP
  rw [List.length_map]
  exact List.length_filter_le _ _
/-- The pieces of the first k. -/
def gaL (s : ByteArray) (zs : List BU) (k : Nat) : List ByteArray := gaP s (zs.take k)
theorem gaL_next (s : ByteArray) (zs : List BU) (k : Nat) (hk : k < zs.length) : gaL s zs (k + 1) = gaL s zs k ++ (if zs[k].write = true then [] else [pce s zs[k]]) := by
  unfold gaL
  rw [List.take_succ_eq_append_getElem hk, gaP_app, gaP_one]
theorem gaL_len (s : ByteArray) (zs : List BU) (k : Nat) : (gaL s zs k).length ≤ k := by
  have h1 := gaP_len s (zs.take k)
  have h2 : (zs.take k).length ≤ k := by rw [List.length_take]; omega
  unfold gaL
  omega
/-- Bytes as a text. -/
def tx (l : List UInt8) : ByteArray := ⟨l.toArray⟩
theorem tx_size (l : List UInt8) : (tx l).size = l.length := by simp [tx, ByteArray.size]
theorem tx_app (l : List UInt8) (p : ByteArray) : tx l ++ p = tx (l ++ p.data.toList) := by
  apply ByteArray.ext
  simp [tx]
theorem catB_app (a b : List ByteArray) : catB (a ++ b) = catB a ++ catB b := by simp [catB]
theorem catB_one (p : ByteArray) : catB [p] = p.data.toList := by simp [catB]
theorem pce_size (s : ByteArray) (z : BU) (h : inW s.size z.pos z.len = true) : ((pce s z).size : Int) = z.len := by
  have := inW_iff.1 h
  unfold pce
  rw [ex_size _ _ _ (by omega)]
  omega
/-- How many bytes the first k have. -/
theorem gaL_mono (s : ByteArray) (zs : List BU) (k : Nat) : (catB (gaL s zs k)).length ≤ (catB (gaL s zs zs.length)).length := by
  have e : gaL s zs zs.length = gaL s zs k ++ gaP s (zs.drop k) := by
    unfold gaL
    rw [List.take_length, ← gaP_app, List.take_append_drop]
  rw [e, catB_app, List.length_append]
  omega
/-- What GatherBufs answers. -/
def gaV (s : ByteArray) (zs : List BU) : ByteArray := if bsB s zs = true then (if (catB (gaL s zs zs.length)).length ≤ 65536 then tx (catB (gaL s zs zs.length)) else ⟨#[]⟩) else ⟨#[]⟩
theorem sr_eq2 {a b : ByteArray} (h : a = b) : Ending.returned (.string a) = .returned (.string b) := by rw [h]
theorem slBoth (s : ByteArray) (a b : Nat) (x y : Int) (hx : x = a) (hy : y = b) (h : a ≤ b) (h2 : b ≤ s.size) (w : World) : Sem.run Try.prog (Instr.slice 9 (.string s) (some (.int .i64 x)) (some (.int .i64 y)) none) w = .ok (.string (s.extract a b)) w := by
  subst hx
  subst hy
  rw [run_slice_string_if _ _ _ _ _ _ _ Try.underlying9, if_pos (by omega), if_pos (by omega)]
  rfl

/-- The bytes of buffers that are read. -/
def rmN : List BU → Int
  | [] => 0
  | z :: r => (if z.write = false then z.len else 0) + rmN r
theorem rmN_app (a b : List BU) : rmN (a ++ b) = rmN a + rmN b := by
  induction a with
  | nil => simp [rmN]
  | cons z r ih => simp [rmN, ih]; omega
theorem rmN_next (zs : List BU) (k : Nat) (hk : k < zs.length) : rmN (zs.take (k + 1)) = rmN (zs.take k) + (if zs[k].write = false then zs[k].len else 0) := by
  rw [List.take_succ_eq_append_getElem hk, rmN_app]
  simp [rmN]
theorem rmN_b (zs : List BU) (h : ∀ z ∈ zs, 0 ≤ z.len ∧ z.len ≤ 65536) : 0 ≤ rmN zs ∧ rmN zs ≤ 65536 * zs.length := by
  induction zs with
  | nil => simp [rmN]
  | cons z r ih =>
    obtain ⟨h1, h2⟩ := ih (fun x hx => h x (by simp [hx]))
    have h3 := h z (by simp)
    unfold rmN
    split <;> simp <;> omega
theorem rmN_tb (zs : List BU) (h : ∀ z ∈ zs, 0 ≤ z.len ∧ z.len ≤ 65536) (hl : zs.length ≤ 1000) (k : Nat) : 0 ≤ rmN (zs.take k) ∧ rmN (zs.take k) ≤ 65536000 := by
  have h1 := rmN_b (zs.take k) (fun z hz => h z (List.mem_of_mem_take hz))
  have h2 : (zs.take k).length ≤ 1000 := by rw [List.length_take]; omega
  omega
set_option maxRecDepth 100000 in
set_option maxHeartbeats 4000000 in
theorem bytesOfN_any {w : World} {v : Value} {zs : List BU} (h : BUrow w v zs) (hz : ∀ z ∈ zs, 0 ≤ z.len ∧ z.len ≤ 65536) (hl : zs.length ≤ 1000) :
    Calls Try.prog 87 #[v, .bool false] w fun e w' => e = .returned (.int .i64 (rmN zs)) ∧ Below w.heap.size w w' := by
  obtain ⟨a1, c1, rfl⟩ := h.sl
  have HR : Hid (BUrow w (.slice a1 zs.length c1) zs) := h
  have HT : Hid _ := rmN_tb zs hz hl
  have HZ : Hid _ := hz
  clear h hz
  go_enter Try.func87, Try.ntmps87
  go_wp2_with fail
  go_loopw [5, 10] (fun x i wr => ∃ k : Nat, k ≤ zs.length ∧ x = .int .i64 (rmN (zs.take k)) ∧ i = .int .i64 k ∧ Below w.heap.size w wr) (fun _ i _ => zs.length - (intOf i).toNat)
  case atStart => exact ⟨0, Nat.zero_le _, rfl, rfl, Below.refl _ _⟩
  case round =>
    obtain ⟨k, hk, rfl, rfl, hb⟩ := hrel
    have HB : Hid _ := hb
    by_cases hlt : k < zs.length
    · obtain ⟨g, o, cap2, hv, _, hg, hc⟩ := HR.out.resolve_left (fun h => by rw [h.1] at hlt; simp at hlt)
      injection hv with hv1 hv2 hv3
      subst hv1 hv3
      obtain ⟨d0, d1, d2⟩ := hc.below hb hg k hlt
      have hlen := HZ.out zs[k] (List.getElem_mem hlt)
      have HN : Hid _ := rmN_next zs k hlt
      have htb := HT.out k
      clear hc hb
      generalize zs[k] = z at *
      generalize rmN (zs.take k) = R at *
      obtain ⟨zp, zl, zw⟩ := z
      simp only at d0 d1 d2 hlen
      have hk0 : (0 : Int) ≤ (k : Int) := by omega
      have hk1 : (k : Int) < (zs.length : Int) := by omega
      have hgw : g < wr.heap.size := Nat.lt_of_lt_of_le hg HB.out.size
      have HB3 : Hid (Below w.heap.size w (wr.alloc (.cells #[.int .i64 zp, .int .i64 zl, .bool zw] 53))) := HB.out.alloc HB.out.size _
      cases zw
      · have hN2 : Hid (rmN (zs.take (k + 1)) = R + zl) := (HN.out.trans (by simp))
        clear HN
        go_wp2_with fail
        go_roundw
        case rel => exact ⟨k + 1, hlt, by rw [hN2.out], by go_num, HB3.out⟩
        case measure => simp [intOf]; omega
      · have hN2 : Hid (rmN (zs.take (k + 1)) = R) := (HN.out.trans (by simp))
        clear HN
        go_wp2_with fail
        go_roundw
        case rel => exact ⟨k + 1, hlt, by rw [hN2.out], by go_num, HB3.out⟩
        case measure => simp [intOf]; omega
    · obtain rfl : k = zs.length := by omega
      have E : Hid (rmN (zs.take zs.length) = rmN zs) := (show rmN (zs.take zs.length) = rmN zs by rw [List.take_length])
      go_wp2_with fail
      go_ret
      exact ⟨ret_int E.out, HB.out⟩
theorem rmN_cat (s : ByteArray) (zs : List BU) (hz : ∀ z ∈ zs, inW s.size z.pos z.len = true) : rmN zs = ((catB (gaP s zs)).length : Int) := by
  induction zs with
  | nil => rfl
  | cons z r ih =>
    have e : gaP s (z :: r) = gaP s [z] ++ gaP s r := gaP_app s [z] r
    have h1 := pce_size s z (hz z (by simp))
    rw [e, catB_app, List.length_append, gaP_one]
    unfold rmN
    rw [ih (fun x hx => hz x (by simp [hx]))]
    cases hw : z.write
    · simp [catB_one]
      have h2 := bsize (pce s z)
      simp at h2 h1
      omega
    · simp [catB]
theorem mkB0 (w : World) (m : Nat) (hm : m ≤ 65536) : (Instr.makeSlice 47 (.int .i64 0) (.int .i64 m)).run Try.prog w = .ok (.slice (some ⟨w.heap.size, 0, none⟩) 0 m) (w.alloc (.cells (madeCells #[.int .u8 0] m) 5)) := by
  obtain ⟨i0, hi, hz0, hz1, hz2⟩ := info_parts Try.info5
  have hr := run_make (P := Try.prog) w 47 5 i0 (.int .u8 0) Try.underlying47 hi hz0 .i64 .i64 0 m (by omega) (by omega) (by rw [hz2]; omega) (by omega)
  rw [hr, hz1, Int.toNat_natCast, Nat.mul_one]
  rfl
theorem own0 (w : World) (m : Nat) (hm : m ≤ 65536) : (w.alloc (.cells (madeCells #[.int .u8 0] m) 5)).ownsRow w.heap.size 5 1 (.slice (some ⟨w.heap.size, 0, none⟩) 0 m) 0 [] := by
  refine ⟨rfl, .inr ⟨w.heap.size, m, _, rfl, Nat.le_refl _, (MapKept.heap_alloc w _).1, by omega, by unfold maxLen; omega, by simp [madeCells], by simp⟩⟩
theorem own_belB {w w' : World} {B : Nat} {e : TypeId} {s : Nat} {v : Value} {n : Nat} {xs : List Value} (h : w.ownsRow B e s v n xs) (hb : Below w.heap.size w w') : w'.ownsRow B e s v n xs :=
  h.kept (row := none) ⟨hb.os, hb.tape, hb.output, hb.size, fun k hk _ => hb.block k hk⟩ (by cases v.ownBlock <;> simp)
theorem own_weakB {w : World} {B B' : Nat} {e : TypeId} {s : Nat} {v : Value} {n : Nat} {xs : List Value} (h : w.ownsRow B e s v n xs) (hb : B' ≤ B) : w.ownsRow B' e s v n xs := by
  obtain ⟨hl, h | ⟨g, cap, cur, hv, hg, h1, h2, h3, h4, h5⟩⟩ := h
  · exact ⟨hl, .inl h⟩
  · exact ⟨hl, .inr ⟨g, cap, cur, hv, Nat.le_trans hb hg, h1, h2, h3, h4, h5⟩⟩
set_option maxRecDepth 100000 in
set_option maxHeartbeats 4000000 in
theorem gather_any {w : World} {mb n : Nat} {v : Value} {zs : List BU} {s : ByteArray} (h : BUrow w v zs) (hm : MemAt w mb s) (hn : s.size = n * 256) (hs : s.size ≤ 65536) (hz : ∀ z ∈ zs, inW s.size z.pos z.len = true) (hl : zs.length ≤ 1000) :
    Calls Try.prog 52 #[mv mb n, v] w fun e w' => ∃ (v' : Value) (L : List UInt8), e = .returned v' ∧ L = (if (catB (gaP s zs)).length ≤ 65536 then catB (gaP s zs) else []) ∧ w'.ownsRow w.heap.size 5 1 v' L.length (cells8 L) ∧ Below w.heap.size w w' := by
  obtain ⟨a1, c1, rfl⟩ := h.sl
  have HR : Hid (BUrow w (.slice a1 zs.length c1) zs) := h
  have HBO : Hid _ := bytesOfN_any h (fun z hq => by have := inW_iff.1 (hz z hq); omega) hl
  rw [rmN_cat s zs hz] at HBO
  have HAB : Hid (∀ (u : World) (B : Nat) (v : Value) (bs : List UInt8) (p L : Nat), MemAt u mb s → u.ownsRow B 5 1 v bs.length (cells8 bs) → mb < B → B ≤ u.heap.size → p + L ≤ s.size → bs.length ≤ 1048576 → Calls Try.prog 88 #[mv mb n, v, .int .i64 p, .int .i64 L] u fun e w' => ∃ v', e = .returned v' ∧ w'.ownsRow B 5 1 v' (bs.length + L) (cells8 (bs ++ (s.extract p (p + L)).data.toList)) ∧ Below B u w') := fun u B v bs p L h1 h2 h3 h4 h5 h6 => appendBytes_any p L h1 h2 h3 h4 hn hs h5 h6
  have HM0 : Hid (MemAt w mb s) := hm
  have HZ : Hid _ := hz
  have HML : Hid (mb < w.heap.size) := hm.lt
  have HGM : Hid (∀ k, (catB (gaL s zs k)).length ≤ (catB (gaP s zs)).length) := fun k => by
    have h1 := gaL_mono s zs k
    have e : gaL s zs zs.length = gaP s zs := by unfold gaL; rw [List.take_length]
    rw [e] at h1
    exact h1
  have HGE : Hid (gaL s zs zs.length = gaP s zs) := by
    show gaL s zs zs.length = gaP s zs
    unfold gaL
    rw [List.take_length]
  have hT0 : 0 ≤ ((catB (gaP s zs)).length : Int) := by omega
  generalize hTT : (catB (gaP s zs)).length = TT at *
  have HS : Hid (s.size ≤ 65536) := hs
  clear h hm hz hn hs
  unfold mv at HAB ⊢
  by_cases hbig : 65536 < TT
  · have hbi : (65536 : Int) < (TT : Int) := by omega
    rw [if_neg (by omega)]
    go_enter Try.func52, Try.ntmps52
    go_wp2_with (go_at_call 87; refine Calls.mono HBO.out ?_; rintro e u1 ⟨rfl, hu1⟩; have HB1 : Hid _ := hu1; clear hu1)
    go_ret
    exact ⟨_, [], rfl, rfl, World.ownsRow_nil _ _ _ _, HB1.out⟩
  · have hbi : ¬ (65536 : Int) < (TT : Int) := by omega
    rw [if_pos (by omega)]
    have HMK : Hid _ := fun u => mkB0 u TT (by omega)
    have HOW : Hid _ := fun u => own0 u TT (by omega)
    go_enter Try.func52, Try.ntmps52
    go_wp2_with (go_at_call 87; refine Calls.mono HBO.out ?_; rintro e u1 ⟨rfl, hu1⟩; have HB1 : Hid _ := hu1; have hmk := HMK.out u1; clear hu1)
    have HB2 : Hid (Below w.heap.size w (u1.alloc (.cells (madeCells #[.int .u8 0] TT) 5))) := HB1.out.alloc HB1.out.size _
    have HO2 : Hid _ := HOW.out u1
    have HUL : Hid (w.heap.size ≤ u1.heap.size) := HB1.out.size
    have HSZ : Hid (u1.heap.size ≤ (u1.alloc (.cells (madeCells #[.int .u8 0] TT) 5)).heap.size) := (World.grownBy_alloc u1 _ none).size
    clear HMK HOW hmk HBO HB1
    generalize (u1.alloc (.cells (madeCells #[.int .u8 0] TT) 5)) = u2 at *
    generalize u1.heap.size = B at *
    go_loopw [6, 17] (fun x i wr => ∃ (k : Nat) (ao : Option Addr) (cap : Nat) (L : List UInt8), k ≤ zs.length ∧ x = .slice ao L.length cap ∧ i = .int .i64 k ∧ Hid (L = catB (gaL s zs k)) ∧ Hid (wr.ownsRow B 5 1 (.slice ao L.length cap) L.length (cells8 L)) ∧ Hid (Below w.heap.size w wr) ∧ Hid (B ≤ wr.heap.size)) (fun _ i _ => zs.length - (intOf i).toNat)
    case atStart => exact ⟨0, _, _, [], Nat.zero_le _, rfl, rfl, rfl, HO2, HB2, HSZ⟩
    case round =>
      obtain ⟨k, ao, cap, L, hk, rfl, rfl, HLE, HO, HB, HBs⟩ := hrel
      clear HB2 HO2 HSZ
      by_cases hlt : k < zs.length
      · obtain ⟨g, o, cap2, hv, _, hg, hc⟩ := HR.out.resolve_left (fun h => by rw [h.1] at hlt; simp at hlt)
        injection hv with hv1 hv2 hv3
        subst hv1 hv3
        obtain ⟨d0, d1, d2⟩ := hc.below HB.out hg k hlt
        have hw := inW_iff.1 (HZ.out zs[k] (List.getElem_mem hlt))
        have HN : Hid _ := gaL_next s zs k hlt
        have HLB : Hid (L.length ≤ 65536) := by
          have h1 := HGM.out k
          rw [← HLE.out] at h1
          exact (show L.length ≤ 65536 by omega)
        clear hc
        generalize zs[k] = z at *
        obtain ⟨zp, zl, zw⟩ := z
        simp only at d0 d1 d2 hw
        obtain ⟨hw1, hw2, hw3⟩ := hw
        obtain ⟨P, rfl⟩ := Int.eq_ofNat_of_zero_le hw1
        obtain ⟨Q, rfl⟩ := Int.eq_ofNat_of_zero_le hw2
        have hk0 : (0 : Int) ≤ (k : Int) := by omega
        have hk1 : (k : Int) < (zs.length : Int) := by omega
        have hgw : g < wr.heap.size := Nat.lt_of_lt_of_le hg HB.out.size
        have HB3 : Hid (Below w.heap.size w (wr.alloc (.cells #[.int .i64 P, .int .i64 Q, .bool zw] 53))) := HB.out.alloc HB.out.size _
        have HO3 : Hid ((wr.alloc (.cells #[.int .i64 P, .int .i64 Q, .bool zw] 53)).ownsRow B 5 1 (.slice ao L.length cap) L.length (cells8 L)) := HO.out.alloc _
        have HX3 : Hid ((wr.alloc (.cells #[.int .i64 P, .int .i64 Q, .bool zw] 53)).heap[wr.heap.size]? = some (.cells #[.int .i64 P, .int .i64 Q, .bool zw] 53 (0, 0))) := heap_new _ _
        have HS3 : Hid (B ≤ (wr.alloc (.cells #[.int .i64 P, .int .i64 Q, .bool zw] 53)).heap.size) := by
          exact Nat.le_trans HBs.out (World.grownBy_alloc wr _ none).size
        cases zw
        · have hN2 : Hid (catB (gaL s zs (k + 1)) = L ++ (s.extract P (P + Q)).data.toList) := by
            show _ = _
            rw [HN.out, catB_app, HLE.out]
            simp only [Bool.false_eq_true, if_false]
            rw [catB_one]
            rfl
          go_upto_region 9 with fail
          generalize (wr.alloc (.cells #[.int .i64 P, .int .i64 Q, .bool false] 53)) = y3 at *
          generalize wr.heap.size = B3 at *
          have x0 := bC HX3.out 0 (.int .i64 P) rfl
          have x1 := bC HX3.out 1 (.int .i64 Q) rfl
          have xl : B3 < y3.heap.size := (Array.getElem?_eq_some_iff.1 HX3.out).1
          have HM3 : Hid (MemAt y3 mb s) := HM0.out.below HB3.out HML.out
          have HMB : Hid (mb < B) := Nat.lt_of_lt_of_le HML.out HUL.out
          have HPQ : Hid (P + Q ≤ s.size) := (show P + Q ≤ s.size by omega)
          clear HM0 HO HB HBs HX3 HN
          go_wp2_with (go_at_call 88; refine Calls.mono (HAB.out _ B _ L P Q HM3.out HO3.out HMB.out HS3.out HPQ.out (by have := HLB.out; omega)) ?_; rintro e y4 ⟨v4, rfl, ho4, hb4⟩; rw [← hN2.out] at ho4; obtain ⟨ao4, cap4, rfl⟩ := ow_sl ho4; have HO4 : Hid _ := ho4; have HB4 : Hid (Below w.heap.size w y4) := HB3.out.trans (hb4.mono HUL.out); have HS4 : Hid (B ≤ y4.heap.size) := Nat.le_trans HS3.out hb4.size; have HL4 : Hid (L.length + Q = (catB (gaL s zs (k + 1))).length) := by { have e1 := bsize (s.extract P (P + Q)); have e2 := ex_size s P (P + Q) HPQ.out; show _ = _; rw [hN2.out, List.length_append, e1, e2]; omega }; clear ho4 hb4)
          go_roundw
          case rel =>
            have h9 := HO4.out
            rw [HL4.out] at h9
            exact ⟨k + 1, ao4, cap4, catB (gaL s zs (k + 1)), hlt, by rw [HL4.out], by go_num, rfl, h9, HB4, HS4⟩
          case measure => simp [intOf]; omega
        · have hN2 : Hid (catB (gaL s zs (k + 1)) = L) := by
            show _ = _
            rw [HN.out, HLE.out]
            simp
          clear HN
          go_wp2_with fail
          go_roundw
          case rel => exact ⟨k + 1, ao, cap, L, hlt, rfl, by go_num, hN2.out.symm, HO3, HB3, HS3⟩
          case measure => simp [intOf]; omega
      · obtain rfl : k = zs.length := by omega
        have E : Hid (L = catB (gaP s zs)) := by
          show _ = _
          rw [HLE.out, HGE.out]
        go_wp2_with fail
        go_ret
        exact ⟨_, L, rfl, E.out, own_weakB HO.out HUL.out, HB.out⟩

theorem rowNeP {u : World} {B n b t : Nat} {v : Value} {xs : List Value} {cs : Array Value} (h : u.ownsRow B 53 3 v n xs) (hb : u.heap[b]? = some (.cells cs t (0, 0))) (ht : t ≠ 53) : v.ownBlock ≠ some b := fun e => by
  obtain ⟨_, hr | ⟨g, cap, cur, hv, _, hgg, _⟩⟩ := h
  · rw [hr.1] at e; cases e
  · rw [hv] at e
    have e2 : g = b := by simpa [Value.ownBlock] using e
    subst e2
    rw [hb] at hgg
    injection hgg with hgg
    injection hgg with _ hgg
    exact ht hgg
theorem row_gb {u u' : World} {B n mb : Nat} {v : Value} {xs : List Value} {s : ByteArray} (h : u.ownsRow B 53 3 v n xs) (hm : MemAt u mb s) (hg : u.grownBy u' (some mb)) : u'.ownsRow B 53 3 v n xs := h.kept hg (.inr (rowNeP h hm (by decide)))
set_option maxRecDepth 100000 in
set_option maxHeartbeats 4000000 in
theorem spread_rd {w : World} {mb n g o cap : Nat} {v : Value} {zs : List BU} {s d : ByteArray} (h : ∀ u, w.grownBy u (some mb) → BUrow u v zs) (hm : MemAt w mb s) (hd : DA w g o d) (hg : g ≠ mb) (hc : d.size ≤ cap) (hn : s.size = n * 256) (hs : s.size ≤ 65536) (hz : ∀ j (hj : j < zs.length), inW s.size zs[j].pos zs[j].len = true) (hl : zs.length ≤ 1000) (hds : d.size ≤ 65536) :
    Calls Try.prog 54 #[mv mb n, v, .slice (some ⟨g, o, none⟩) d.size cap] w fun e w' => e = .returned (.tuple #[]) ∧ MemAt w' mb (spK s d zs zs.length).1 ∧ w.grownBy w' (some mb) := by
  obtain ⟨a1, c1, rfl⟩ := (h w ⟨rfl, rfl, rfl, Nat.le_refl _, fun _ _ _ => rfl⟩).sl
  have HR : Hid (∀ u, w.grownBy u (some mb) → BUrow u (.slice a1 zs.length c1) zs) := h
  have HPB : Hid (∀ (u : World) (p o cap : Nat) (s d : ByteArray), MemAt u mb s → DA u g o d → d.size ≤ cap → s.size = n * 256 → s.size ≤ 65536 → p + d.size ≤ s.size → Calls Try.prog 89 #[mv mb n, .int .i64 p, .slice (some ⟨g, o, none⟩) d.size cap] u fun e w' => e = .returned (.tuple #[]) ∧ MemAt w' mb (put s p d) ∧ u.grownBy w' (some mb)) := fun u p o cap s d h1 h2 h3 h4 h5 h6 => putBytes_any p h1 h2 hg h3 h4 h5 h6
  have HSZ : Hid _ := spK_size s d zs s.size rfl hz
  have HZ : Hid (∀ j (hj : j < zs.length), inW s.size zs[j].pos zs[j].len = true) := hz
  have HC0 : Hid (s.size = n * 256 ∧ s.size ≤ 65536 ∧ d.size ≤ 65536 ∧ g ≠ mb) := ⟨hn, hs, hds, hg⟩
  have HM0 : Hid _ := hm
  have HD0 : Hid _ := hd
  have HCP : Hid (d.size ≤ cap) := hc
  clear h hm hd hg hc hn hs hz hds
  unfold mv at HPB ⊢
  go_enter Try.func54, Try.ntmps54
  go_wp2_with fail
  go_loopw [2, 11] (fun x i wr => ∃ (k o' cap' : Nat), k ≤ zs.length ∧ x = .slice (some ⟨g, o', none⟩) (spK s d zs k).2.size cap' ∧ i = .int .i64 k ∧ Hid (MemAt wr mb (spK s d zs k).1) ∧ Hid (DA wr g o' (spK s d zs k).2) ∧ Hid ((spK s d zs k).2.size ≤ cap') ∧ Hid (w.grownBy wr (some mb))) (fun _ i _ => zs.length - (intOf i).toNat)
  case atStart => exact ⟨0, o, cap, Nat.zero_le _, rfl, rfl, HM0, HD0, HCP, ⟨rfl, rfl, rfl, Nat.le_refl _, fun _ _ _ => rfl⟩⟩
  case round =>
    obtain ⟨k, o', cap', hk, rfl, rfl, HM, HD, HC, HG⟩ := hrel
    clear HM0 HD0 HCP
    by_cases hlt : k < zs.length
    · obtain ⟨g1, o1, cap2, hv, _, hg1, hc⟩ := (HR.out wr HG.out).resolve_left (fun h => by rw [h.1] at hlt; simp at hlt)
      injection hv with hv1 hv2 hv3
      subst hv1 hv3
      obtain ⟨d0, d1, d2⟩ := hc k hlt
      obtain ⟨q1, q2⟩ := HSZ.out k hk
      have hw := inW_iff.1 (HZ.out k hlt)
      have HN : Hid _ := spK_next s d zs k hlt
      obtain ⟨hn, hm2, hd2, hgm⟩ := HC0.out
      clear hc
      generalize zs[k] = z at *
      generalize spK s d zs k = M at *
      obtain ⟨zp, zl, zw⟩ := z
      obtain ⟨m, y⟩ := M
      simp only at d0 d1 d2 q1 q2 hw HM HD HC
      obtain ⟨hw1, hw2, hw3⟩ := hw
      obtain ⟨P, rfl⟩ := Int.eq_ofNat_of_zero_le hw1
      obtain ⟨L, rfl⟩ := Int.eq_ofNat_of_zero_le hw2
      have hk0 : (0 : Int) ≤ (k : Int) := by omega
      have hk1 : (k : Int) < (zs.length : Int) := by omega
      have HB3 : Hid (Below wr.heap.size wr (wr.alloc (.cells #[.int .i64 P, .int .i64 L, .bool zw] 53))) := bx1 _ _
      have HX3 : Hid ((wr.alloc (.cells #[.int .i64 P, .int .i64 L, .bool zw] 53)).heap[wr.heap.size]? = some (.cells #[.int .i64 P, .int .i64 L, .bool zw] 53 (0, 0))) := heap_new _ _
      have HM3 : Hid (MemAt (wr.alloc (.cells #[.int .i64 P, .int .i64 L, .bool zw] 53)) mb m) := HM.out.below HB3.out HM.out.lt
      have HD3 : Hid _ := HD.out.below HB3.out
      have HG3 : Hid _ := gb_trans HG.out (gb_bel2 HB3.out)
      clear HM HD HG
      cases zw
      · have hN2 : Hid (spK s d zs (k + 1) = (m, y)) := HN.out
        clear HN q1 q2 hw1 hw2 hw3 hm2 hd2
        go_wp2_with fail
        go_roundw
        case rel => exact ⟨k + 1, o', cap', hlt, by rw [hN2.out], by go_num, by rw [hN2.out]; exact HM3, by rw [hN2.out]; exact HD3, by rw [hN2.out]; exact HC, HG3⟩
        case measure => simp [intOf]; omega
      · have hmn : Nat.min y.size L ≤ y.size := Nat.min_le_left _ _
        have hmn2 : Nat.min y.size L ≤ L := Nat.min_le_right _ _
        have hN2 : Hid (spK s d zs (k + 1) = (put m P (y.extract 0 (Nat.min y.size L)), y.extract (Nat.min y.size L) y.size)) := (HN.out.trans (by unfold spS mn; simp))
        have HCM : Hid ((y.size < L → Nat.min y.size L = y.size) ∧ (¬ y.size < L → Nat.min y.size L = L)) := ⟨fun h => Nat.min_eq_left (by omega), fun h => Nat.min_eq_right (by omega)⟩
        have hPb : (P : Int) ≤ 65536 := by omega
        have hLb : (L : Int) ≤ 65536 := by omega
        generalize Nat.min y.size L = c at *
        have hs1 : (y.extract 0 c).size = c := by rw [ex_size _ _ _ hmn]; omega
        have hs2 : (y.extract c y.size).size = y.size - c := by rw [ex_size _ _ _ (Nat.le_refl _)]
        have HP1 : Hid (∀ u, MemAt u mb m → DA u g o' (y.extract 0 c) → Calls Try.prog 89 #[.slice (some ⟨mb, 0, none⟩) n n, .int .i64 P, .slice (some ⟨g, o', none⟩) c cap'] u fun e w' => e = .returned (.tuple #[]) ∧ MemAt w' mb (put m P (y.extract 0 c)) ∧ u.grownBy w' (some mb)) := fun u h1 h2 => by
          have h9 := HPB.out u P o' cap' m (y.extract 0 c) h1 h2 (by have := HC.out; omega) (by omega) (by omega) (by omega)
          rw [hs1] at h9
          exact h9
        have hslh := fun w => slBh w g o' y.size cap' c (by have := HC.out; omega)
        obtain ⟨o2, ho2⟩ : ∃ o2, (if cap' = c then o' else o' + c) = o2 := ⟨_, rfl⟩
        have hsl := fun w => slBt w g o' y.size cap' c hmn
        rw [ho2] at hsl
        have HO2 : Hid _ := ho2
        clear ho2 HPB HN
        go_upto_region 3 with fail
        generalize (wr.alloc (.cells #[.int .i64 P, .int .i64 L, .bool true] 53)) = y3 at *
        generalize wr.heap.size = B3 at *
        have x0 := bC HX3.out 0 (.int .i64 P) rfl
        have x1 := bC HX3.out 1 (.int .i64 L) rfl
        have x2 := bC HX3.out 2 (.bool true) rfl
        have xl : B3 < y3.heap.size := (Array.getElem?_eq_some_iff.1 HX3.out).1
        have HBM : Hid (B3 ≠ mb) := fun e => by
          have h1 := HM3.out
          unfold MemAt at h1
          rw [← e, HX3.out] at h1
          injection h1 with h1
          injection h1 with _ h1
          exact absurd h1 (by decide)
        go_upto_region 4 with fail
        go_cut [8] (fun s8 wc => s8 = .int .i64 c ∧ wc = y3)
        case first =>
          by_cases hcm : y.size < L
          · have hcc : Hid (c = y.size) := HCM.out.1 hcm
            go_wp2_with fail
            go_meet
            case rel => exact ⟨by rw [hcc.out], rfl⟩
          · have hcc : Hid (c = L) := HCM.out.2 hcm
            go_wp2_with fail
            go_meet
            case rel => exact ⟨by rw [hcc.out], rfl⟩
        case rest =>
          obtain ⟨rfl, hwc⟩ := hcut
          rw [hwc]
          clear hwc HCM
          have hcb : (c : Int) ≤ 65536 := by omega
          go_upto_region 5 with fail
          go_cut [] (fun wc => MemAt wc mb (put m P (y.extract 0 c)) ∧ DA wc g o' y ∧ w.grownBy wc (some mb))
          case first =>
            go_region_held3 (fun w' => w'.cell? ⟨B3, 0, none⟩ = some (.int .i64 P)) (go_keep) ((go_at_call 89; refine Calls.mono (HP1.out _ (HM3.out.below ((Below.refl _ _).drew) HM3.out.lt) ((HD3.out.to c).below ((Below.refl _ _).drew))) ?_; rintro e y4 ⟨rfl, hM, hg⟩; have hg2 : y3.grownBy y4 (some mb) := ⟨hg.os, hg.tape, hg.output, hg.size, hg.block⟩; have HM4 : Hid _ := hM; have HG4 : Hid _ := gb_trans HG3.out hg2; have HD4 : Hid _ := HD3.out.grown hg2 hgm; have x0' : y4.cell? ⟨B3, 0, none⟩ = some (.int .i64 P) := (World.cell?_of_block (hg2.block B3 xl (fun e => HBM.out (Option.some.inj e)))).trans x0; clear hM hg hg2))
            all_goals
              go_wp2_with fail
              go_meet
              case rel => exact ⟨HM4.out, HD4.out, HG4.out⟩
          case rest =>
            obtain ⟨hM, hD, hG⟩ := hcut
            have HM4 : Hid _ := hM
            have HD4 : Hid _ := hD
            have HG4 : Hid _ := hG
            clear hM hD hG HM3 HD3 HG3 HX3 x0 x1 x2 xl
            go_wp2_with fail
            go_roundw
            case rel =>
              refine ⟨k + 1, o2, cap' - c, hlt, by rw [hN2.out, hs2], by go_num, by rw [hN2.out]; exact HM4, ?_, by rw [hN2.out]; show _ ≤ _; simp only; rw [hs2]; have := HC.out; omega, HG4⟩
              rw [hN2.out]
              show DA _ g o2 (y.extract c y.size)
              rw [← HO2.out]
              split
              · exact DA.nil HD4.out.lt (by rw [hs2]; have := HC.out; omega)
              · exact HD4.out.from c
            case measure => simp [intOf]; omega
    · obtain rfl : k = zs.length := by omega
      go_wp2_with fail
      refine bodyPost_end (v := .tuple #[]) (by simp [results, Try.results54, go_sem]) rfl ⟨rfl, HM.out, HG.out⟩
theorem spread_any {w : World} {mb n g o cap B : Nat} {v : Value} {zs : List BU} {s d : ByteArray} (h : w.ownsRow B 53 3 v zs.length (buR zs)) (hm : MemAt w mb s) (hd : DA w g o d) (hg : g ≠ mb) (hc : d.size ≤ cap) (hn : s.size = n * 256) (hs : s.size ≤ 65536) (hz : ∀ j (hj : j < zs.length), inW s.size zs[j].pos zs[j].len = true) (hl : zs.length ≤ 1000) (hds : d.size ≤ 65536) :
    Calls Try.prog 54 #[mv mb n, v, .slice (some ⟨g, o, none⟩) d.size cap] w fun e w' => e = .returned (.tuple #[]) ∧ MemAt w' mb (spK s d zs zs.length).1 ∧ w.grownBy w' (some mb) :=
  spread_rd (fun _ hu => BUrow.of (row_gb h hm hu)) hm hd hg hc hn hs hz hl hds
end Go.Proofs.Ytdlodflinibaoaa
