import Derived.Test.YtegcbghhcidcaaaDoorCp6
namespace Go.Proofs.YtegcbghhcidcaaaDoor
open Go.ChangeShapes Go.WideShapes Go.ChangeAt Go.RowKit

theorem OpsAt.below {w w' : World} {g : Nat} {xs : List Int} (h : OpsAt w g xs) (hb : Below w.heap.size w w') : OpsAt w' g xs :=
  h.kept (r := none) ⟨hb.os, hb.tape, hb.output, hb.size, fun k hk _ => hb.block k hk⟩ (by simp)
set_option maxRecDepth 100000 in
set_option maxHeartbeats 4000000 in
theorem implRun0 {w : World} {a : Nat → Addr} {g : Nat} {c : CK} {ao : Option Addr} {cap : Nat} {xs : List Int} (hE : E5 w a) (hts : c.ts = []) (hck : ckB c = true) (ho : OpsAt w g xs) (hgl : g < w.heap.size) (hm : Mays c xs) (hl : xs.length ≤ 1000) : Calls Tryd.prog 7 #[ckA c (.slice ao 0 cap), .slice (some ⟨g, 0, none⟩) xs.length xs.length] w fun e w' => ∃ a2 k2 a3 k3, e = .returned (runA (advs c xs) (.slice a2 0 k2) (.slice a3 xs.length k3)) ∧ Below w.heap.size w w' := by
  have HR0 : Hid (RC w ((w.alloc (.cells #[.int .i64 c.host, .int .i64 c.guest, .int .i64 c.num, .int .i64 c.den, .int .i64 c.part, .bool c.frz, .slice ao 0 cap] 25)).alloc (.cells #[.int .i64 0, .int .i64 0, .int .i64 0, .int .i64 0, .int .i64 0, .int .i64 0, .bool false, .slice none 0 0, .slice none 0 0] 31)) c (.slice ao 0 cap)) := RC.new _ _ _
  have HE : Hid (E5 w a) := hE
  have HO : Hid (OpsAt w g xs) := ho
  have HM : Hid (Mays c xs) := hm
  have HK : Hid (ckB c = true) := hck
  have HTS : Hid (c.ts = []) := hts
  have hl' : decide ((1000 : Int) < (xs.length : Int)) = false := decide_eq_false (by omega)
  clear hE ho hm hck hts
  unfold ckA
  go_enter Tryd.func7, Tryd.ntmps7
  go_wp2_with fail
  generalize ((w.alloc (.cells #[.int .i64 c.host, .int .i64 c.guest, .int .i64 c.num, .int .i64 c.den, .int .i64 c.part, .bool c.frz, .slice ao 0 cap] 25)).alloc (.cells #[.int .i64 0, .int .i64 0, .int .i64 0, .int .i64 0, .int .i64 0, .int .i64 0, .bool false, .slice none 0 0, .slice none 0 0] 31)) = u0 at *
  have HF : Hid _ := clockFault_any (v := .slice ao 0 cap) (HE.out.step HR0.out.bel) HR0.out.box (by rw [HTS.out]; exact .inl ⟨rfl, ao, cap, rfl⟩) (by rw [HTS.out]; simp)
  refine Calls.mono HF.out ?_
  rintro e u1 ⟨r, rfl, hf, hb1⟩
  obtain rfl : r = .nilIface := by
    rcases hf with ⟨_, h⟩ | ⟨h, _⟩
    · exact h
    · rw [HK.out] at h
      cases h
  have HR1 : Hid (RC w u1 c (.slice ao 0 cap)) := HR0.out.step hb1
  clear hf hb1 HF HR0
  obtain ⟨c0, c1, c2, c3, c4, c5, c6, cf⟩ := HR1.out.box.cel
  have lt1 := HR1.out.lt
  have lt1' : w.heap.size < u1.heap.size := by omega
  go_wp2_with fail
  refine Calls.mono (clone0 _ _ _) ?_
  rintro e u2 ⟨a2, k2, rfl, hb2⟩
  have HR2 : Hid (RC w u2 c (.slice ao 0 cap)) := HR1.out.step hb2
  clear hb2 HR1 c0 c1 c2 c3 c4 c5 c6 cf lt1 lt1'
  obtain ⟨c0, c1, c2, c3, c4, c5, c6, cf⟩ := HR2.out.box.cel
  have lt2 := HR2.out.lt
  have lt2' : w.heap.size < u2.heap.size := by omega
  go_wp2_with fail
  have HR3 : Hid (RC w (u2.setCell ⟨w.heap.size, 6, none⟩ (.slice a2 0 k2)) c (.slice a2 0 k2)) := HR2.out.set6 _
  clear c0 c1 c2 c3 c4 c5 c6 cf lt2 lt2' HR2
  generalize (u2.setCell ⟨w.heap.size, 6, none⟩ (.slice a2 0 k2)) = u3 at *
  have HDA : Hid _ := doAll0 (g := g) (xs := xs) HR3.out.box (HO.out.below HR3.out.bel) (by omega) (Nat.lt_of_lt_of_le hgl HR3.out.bel.size) HM.out hl
  refine Calls.mono HDA.out ?_
  rintro e u4 ⟨v, rfl, hd⟩
  obtain ⟨ys, hown⟩ := hd.own
  obtain ⟨a3, k3, rfl⟩ := own_sl3 hown
  have HR4 : Hid (RC w u4 (advs c xs) (.slice a2 0 k2)) := HR3.out.grow hd.gr hd.box
  clear hd hown HDA HR3
  generalize hcc : advs c xs = cc at *
  have HCC : Hid (advs c xs = cc) := hcc
  clear hcc
  obtain ⟨c0, c1, c2, c3, c4, c5, c6, cf⟩ := HR4.out.box.cel
  obtain ⟨d0, d1, d2, d3, d4, d5, d6, d7, d8, df⟩ := cel9 HR4.out.res
  have lt4 := HR4.out.lt
  have lt4' : w.heap.size < u4.heap.size := by omega
  go_wp2_with fail
  go_loopw [31] (fun i wr => i = .int .i64 0 ∧ u4 = wr) (fun _ _ => 0)
  case atStart => exact ⟨rfl, rfl⟩
  case round =>
    obtain ⟨rfl, rfl⟩ := hrel
    go_wp2_with fail
    obtain ⟨e1, e2, e3⟩ := st9 HR4.out.bel (by omega) HR4.out.res (.int .i64 0) (.int .i64 cc.host) (.int .i64 cc.guest) (.int .i64 cc.num) (.int .i64 cc.den) (.int .i64 cc.part) (.bool cc.frz) (.slice a2 0 k2) (.slice a3 xs.length k3) rfl
    obtain ⟨f0, f1, f2, f3, f4, f5, f6, f7, f8, _⟩ := cel9 e2
    refine bodyPost_ret (v := runA cc (.slice a2 0 k2) (.slice a3 xs.length k3)) ?_ rfl ⟨_, _, _, _, by rw [HCC.out], e1⟩
    clear e1 e2 e3 HR4 c0 c1 c2 c3 c4 c5 c6 cf d0 d1 d2 d3 d4 d5 d6 d7 d8 df
    unfold runA
    simp only [results, Tryd.results7, go_sem]
    simp [go_sem, f0, f1, f2, f3, f4, f5, f6, f7, f8]
end Go.Proofs.YtegcbghhcidcaaaDoor
