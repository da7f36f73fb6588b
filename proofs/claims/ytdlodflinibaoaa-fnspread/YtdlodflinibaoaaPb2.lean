import Derived.Test.YtdlodflinibaoaaPb1
namespace Go.Proofs.Ytdlodflinibaoaa
open Go.ChangeShapes Go.WideShapes Go.ChangeAt Go.RowKit

theorem mcel_put (m : ByteArray) (p : Nat) (x : ByteArray) : ((mcel m).toList.take p ++ cells8 x.data.toList ++ (mcel m).toList.drop (p + (cells8 x.data.toList).length)).toArray = mcel (put m p x) := by
  rw [c8len]
  unfold mcel
  rw [c8put]
theorem copy_da (w : World) (ty mb g o dLen dCap k cap : Nat) (s d : ByteArray) (c : Nat) (hm : MemAt w mb s) (h : DA w g o d) (hc : Nat.min d.size dLen = c) (hf : k + c ≤ s.size) :
    (Builtin.copy_ #[47, 47] ty #[.slice (some ⟨mb, k, none⟩) dLen dCap, .slice (some ⟨g, o, none⟩) d.size cap]).run Try.prog w = .ok (goInt c) (w.setRow mb (mcel (put s k (d.extract 0 c)))) := by
  have hle : c ≤ d.size := hc ▸ Nat.min_le_left _ _
  have hs : (d.extract 0 c).size = c := by rw [ex_size _ _ _ hle]; omega
  have hl : (cells8 (d.extract 0 c).data.toList).length = c := by rw [c8len, hs]
  have hr := run_copy_row (P := Try.prog) w 47 47 ty 5 mb k dLen dCap ⟨g, o, none⟩ d.size cap (mcel s) 136 (cells8 (d.extract 0 c).data.toList) Try.underlying47 u8info hm (by rw [hl, hc]) (fun j v hv => by
    have ha : (⟨g, o, none⟩ : Addr).add j = ⟨g, o + j, none⟩ := by unfold Addr.add; split <;> simp_all
    rw [ha]
    exact (h.to c).cel j v hv) (by rw [hl, mcel_size]; exact hf) (cells8_one _)
  rw [hr, mcel_put, hl]
theorem put_mem {w : World} {mb : Nat} {s s' : ByteArray} (h : MemAt w mb s) : MemAt (w.setRow mb (mcel s')) mb s' := h.row rfl
theorem put_gb {w : World} {mb : Nat} {cs : Array Value} : w.grownBy (w.setRow mb cs) (some mb) := ⟨rfl, rfl, rfl, by rw [size_setRow]; exact Nat.le_refl _, fun k _ hn => setRow_other _ _ _ _ (fun e => hn (by rw [e]))⟩
theorem gb_trans {w u v : World} {mb : Nat} (h : w.grownBy u (some mb)) (h2 : u.grownBy v (some mb)) : w.grownBy v (some mb) :=
  ⟨h2.os.trans h.os, h2.tape.trans h.tape, h2.output.trans h.output, Nat.le_trans h.size h2.size, fun k hk hn => (h2.block k (Nat.lt_of_lt_of_le hk h.size) hn).trans (h.block k hk hn)⟩
theorem gb_bel2 {w u : World} {r : Option Nat} (h : Below w.heap.size w u) : w.grownBy u r := ⟨h.os, h.tape, h.output, h.size, fun k hk _ => h.block k hk⟩
set_option maxRecDepth 100000 in
set_option maxHeartbeats 4000000 in
theorem putBytes_any {w : World} {mb n g o cap : Nat} {s d : ByteArray} (p : Nat) (h : MemAt w mb s) (hd : DA w g o d) (hg : g ≠ mb) (hc : d.size ≤ cap) (hn : s.size = n * 256) (hs : s.size ≤ 65536) (hp : p + d.size ≤ s.size) :
    Calls Try.prog 89 #[mv mb n, .int .i64 p, .slice (some ⟨g, o, none⟩) d.size cap] w fun e w' => e = .returned (.tuple #[]) ∧ MemAt w' mb (put s p d) ∧ w.grownBy w' (some mb) := by
  have HRO : Hid (∀ (k : Nat) (u : World), k < n * 256 → Calls Try.prog 115 #[mv mb n, .int .i64 k] u fun e w' => e = .returned (.slice (some ⟨mb, k, none⟩) (256 - k % 256) (256 - k % 256)) ∧ w' = u) := fun k u hk => restOf_any mb n k u hk (by omega)
  have HM0 : Hid (MemAt w mb s) := h
  have HD0 : Hid (DA w g o d) := hd
  have HC0 : Hid (d.size ≤ cap ∧ s.size = n * 256 ∧ s.size ≤ 65536 ∧ p + d.size ≤ s.size ∧ g ≠ mb) := ⟨hc, hn, hs, hp, hg⟩
  clear h hd hg hc hn hs hp
  unfold mv at HRO ⊢
  go_enter Try.func89, Try.ntmps89
  go_wp2_with fail
  go_loopg [1, 2] d.size (fun gh s1 s2 wr => ∃ (s' d' : ByteArray) (p' o' cap' : Nat), s1 = .int .i64 p' ∧ s2 = .slice (some ⟨g, o', none⟩) d'.size cap' ∧ gh = d'.size ∧ Hid (MemAt wr mb s') ∧ Hid (DA wr g o' d') ∧ Hid (w.grownBy wr (some mb)) ∧ Hid (d'.size ≤ cap' ∧ s'.size = s.size ∧ p' + d'.size ≤ s.size) ∧ Hid (put s p d = put s' p' d'))
  case atStart => exact ⟨s, d, p, o, cap, rfl, rfl, rfl, HM0, HD0, ⟨rfl, rfl, rfl, Nat.le_refl _, fun _ _ _ => rfl⟩, ⟨HC0.out.1, rfl, HC0.out.2.2.2.1⟩, rfl⟩
  case round =>
    obtain ⟨s', d', p', o', cap', rfl, rfl, hgk, HM, HD, HG, HC, HE⟩ := hrel
    clear HM0 HD0
    by_cases h0 : d'.size = 0
    · have hz : ((d'.size : Nat) : Int) = 0 := by omega
      rw [put_nil s' p' d' h0] at HE
      go_wp2_with fail
      refine bodyPost_end (v := .tuple #[]) (by simp [results, Try.results89, go_sem]) rfl ⟨rfl, ?_, HG.out⟩
      rw [HE.out]
      exact HM.out
    · have hz : (0 : Int) < ((d'.size : Nat) : Int) := by omega
      have hpb : (p' : Int) ≤ 65536 := by have := HC.out; have := HC0.out; omega
      have HR1 : Hid _ := fun u => HRO.out p' u (by have := HC.out; have := HC0.out; omega)
      obtain ⟨c, hc⟩ : ∃ c, Nat.min d'.size (256 - p' % 256) = c := ⟨_, rfl⟩
      have hc1 : 0 < c ∧ c ≤ d'.size := by
        have e : min d'.size (256 - p' % 256) = c := hc
        omega
      have hcp := copy_da wr 3 mb g o' (256 - p' % 256) (256 - p' % 256) p' cap' s' d' c HM.out HD.out hc (by have := HC.out; omega)
      have hcb : (c : Int) ≤ 65536 := by have := HC.out; have := HC0.out; omega
      obtain ⟨o2, ho2⟩ : ∃ o2, (if cap' = c then o' else o' + c) = o2 := ⟨_, rfl⟩
      have hsl := fun w => slBt w g o' d'.size cap' c hc1.2
      rw [ho2] at hsl
      have HO2 : Hid _ := ho2
      clear ho2
      generalize 256 - p' % 256 = RM at *
      clear hc HRO
      go_wp2_with (go_at_call 115; refine Calls.mono (HR1.out _) ?_; rintro e u1 ⟨rfl, hu⟩; rw [hu]; clear hu)
      have HM2 : Hid (MemAt (wr.setRow mb (mcel (put s' p' (d'.extract 0 c)))) mb (put s' p' (d'.extract 0 c))) := put_mem HM.out
      have HG2 : Hid (wr.grownBy (wr.setRow mb (mcel (put s' p' (d'.extract 0 c)))) (some mb)) := put_gb
      have HD2 : Hid _ := HD.out.grown HG2.out HC0.out.2.2.2.2
      clear hcp
      generalize wr.setRow mb (mcel (put s' p' (d'.extract 0 c))) = y1 at *
      go_quiet (fail)
      go_wp2_with fail
      go_roundg (d'.size - c)
      case measure => omega
      case rel =>
        have hs1 : (d'.extract 0 c).size = c := by rw [ex_size _ _ _ hc1.2]; omega
        have hs2 : (d'.extract c d'.size).size = d'.size - c := by rw [ex_size _ _ _ (Nat.le_refl _)]
        refine ⟨put s' p' (d'.extract 0 c), d'.extract c d'.size, p' + c, o2, cap' - c, by simp, by rw [hs2], by rw [hs2], ?_, ?_, ?_, ⟨by have := HC.out; omega, by rw [put_size _ _ _ (by have := HC.out; omega)]; exact HC.out.2.1, by have := HC.out; omega⟩, ?_⟩
        · exact HM2.out.below (bdn (Below.refl _ _) _) HM2.out.lt
        · have hx : DA y1 g o2 (d'.extract c d'.size) := by
            rw [← HO2.out]
            split
            · exact DA.nil HD2.out.lt (by have := HC.out; omega)
            · exact HD2.out.from c
          exact hx.below (bdn (Below.refl _ _) _)
        · exact gb_trans HG.out (gb_trans HG2.out (gb_bel2 (bdn (Below.refl _ _) _)))
        · exact HE.out.trans (put_split s' p' d' c hc1.2 (by have := HC.out; omega))
end Go.Proofs.Ytdlodflinibaoaa
