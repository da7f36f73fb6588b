import Derived.Test.YtegcbghhcidcaaaDoorCp4
namespace Go.Proofs.YtegcbghhcidcaaaDoor
open Go.ChangeShapes Go.WideShapes Go.ChangeAt Go.RowKit

theorem own_sl3 {w : World} {B e n : Nat} {v : Value} {xs : List Value} (h : w.ownsRow B e 3 v n xs) : ∃ ao cap, v = .slice ao n cap := by
  rcases h.2 with ⟨rfl, e⟩ | ⟨g, cap, cur, rfl, _⟩
  · exact ⟨none, 0, by rw [e]⟩
  · exact ⟨_, cap, rfl⟩
/-- What goes on while ops are done. -/
structure DA (w wr : World) (B g lo : Nat) (c : CK) (x : Value) (xs : List Int) (v : Value) (k : Nat) : Prop where
  gr : w.grownBy wr (some B)
  box : BoxK wr B 25 c x
  ops : OpsAt wr g xs
  own : ∃ ys, wr.ownsRow lo 55 3 v k ys
set_option maxRecDepth 100000 in
set_option maxHeartbeats 4000000 in
theorem doAll0 {w : World} {B g : Nat} {c : CK} {ao : Option Addr} {cap : Nat} {xs : List Int} (h : BoxK w B 25 c (.slice ao 0 cap)) (ho : OpsAt w g xs) (hgB : g ≠ B) (hgl : g < w.heap.size) (hm : Mays c xs) (hl : xs.length ≤ 1000) : Calls Tryd.prog 16 #[.pointer (some ⟨B, 0, none⟩), .slice (some ⟨g, 0, none⟩) xs.length xs.length] w fun e w' => ∃ v, e = .returned (.tuple #[v, .slice none 0 0]) ∧ DA w w' B g w.heap.size (advs c xs) (.slice ao 0 cap) xs v xs.length := by
  have HM : Hid (Mays c xs) := hm
  have HD0 : Hid (DA w w B g w.heap.size c (.slice ao 0 cap) xs (.slice none 0 0) 0) := ⟨World.grownBy.refl _ _, h, ho, [], World.ownsRow_nil _ _ _ _⟩
  have hBl := h.lt
  clear hm h ho
  go_enter Tryd.func16, Tryd.ntmps16
  go_wp2
  go_loopw [4, 5, 12] (fun a b i wr => ∃ k : Nat, k ≤ xs.length ∧ b = .slice none 0 0 ∧ i = .int .i64 k ∧ DA w wr B g w.heap.size (advs c (xs.take k)) (.slice ao 0 cap) xs a k) (fun _ _ i _ => xs.length - (intOf i).toNat)
  case atStart => exact ⟨0, Nat.zero_le _, rfl, rfl, HD0.out⟩
  case round =>
    obtain ⟨k, hk, rfl, rfl, hd⟩ := hrel
    rename_i vo _
    obtain ⟨ys, how⟩ := hd.own
    obtain ⟨ao4, cap4, rfl⟩ := own_sl3 how
    have HOW : Hid (wr.ownsRow w.heap.size 55 3 (.slice ao4 k cap4) k ys) := how
    have HD : Hid (DA w wr B g w.heap.size (advs c (xs.take k)) (.slice ao 0 cap) xs (.slice ao4 k cap4) k) := hd
    clear how hd HD0
    by_cases hlt : k < xs.length
    · obtain ⟨d0, d1, d2, d3, d4, d5, d6⟩ := HD.out.ops k hlt
      have hgr : g < wr.heap.size := Nat.lt_of_lt_of_le hgl HD.out.gr.size
      have hBr : B < wr.heap.size := Nat.lt_of_lt_of_le hBl HD.out.gr.size
      have hk0 : (0 : Int) ≤ (k : Int) := by omega
      have hk1 : (k : Int) < (xs.length : Int) := by omega
      have HSU : Hid (advs c (xs.take (k + 1)) = adv (advs c (xs.take k)) xs[k]) := advs_succ c xs k hlt
      have HMY : Hid (May (advs c (xs.take k)) xs[k]) := HM.out.at k hlt
      generalize xs[k] = t at *
      generalize advs c (xs.take k) = ck at *
      have HDO : Hid (∀ o, Calls Tryd.prog 26 #[.pointer (some ⟨B, 0, none⟩), opA t] (wr.alloc o) fun e w' => e = .returned (.tuple #[.slice none 0 0, .nilIface]) ∧ BoxK w' B 25 (adv ck t) (.slice ao 0 cap) ∧ (wr.alloc o).grownBy w' (some B)) := fun o => do0 (HD.out.box.below (bx1 _ _)) HMY.out
      unfold opA at HDO
      go_wp2_with fail
      refine Calls.mono (HDO.out _) ?_
      rintro e u1 ⟨rfl, hx, hg⟩
      have hg1 : wr.grownBy u1 (some B) := Lib.grownBy_trans (World.grownBy_alloc wr _ (some B)) hg
      have HX1 : Hid (BoxK u1 B 25 (adv ck t) (.slice ao 0 cap)) := hx
      have HG1 : Hid (w.grownBy u1 (some B)) := Lib.grownBy_trans HD.out.gr hg1
      have HP1 : Hid (OpsAt u1 g xs) := HD.out.ops.kept hg1 (by simpa using hgB)
      have HO1 : Hid (u1.ownsRow w.heap.size 55 3 (.slice ao4 k cap4) k ys) := HOW.out.kept hg1 (by
        cases hv : (Value.slice ao4 k cap4).ownBlock with
        | none => exact .inl rfl
        | some b =>
          refine .inr (fun e => ?_)
          obtain rfl := Option.some.inj e
          have := (HOW.out.lt _ hv).1
          omega)
      clear hx hg hg1 d0 d1 d2 d3 d4 d5 d6 HDO HOW HD
      obtain ⟨c0, c1, c2, c3, c4, c5, c6, cf⟩ := HX1.out.cel
      have hB1 := HX1.out.lt
      have HAP : Hid _ := appO HO1.out (by omega) HG1.out.size 0 (adv ck t).guest none 0 0
      clear c0 c2 c3 c4 c5 c6
      generalize hgu : (adv ck t).guest = gu at *
      go_wp2_with (at_builtin; refine wl_append_ex rfl _ _ 29 rfl _ _ rfl rfl HAP.out ?_; rintro v' u2 ⟨ho2, hg2⟩; have HO2 : Hid _ := ho2; have HG2 : Hid _ := hg2; clear ho2 hg2)
      have ho2 := HO2.out
      have hg2 := HG2.out
      have hg12 : u1.grownBy u2 (Value.slice ao4 k cap4).ownBlock := Lib.grownBy_trans (World.grownBy_alloc u1 _ _) hg2
      have hnb : ∀ b, b < w.heap.size → some b ≠ (Value.slice ao4 k cap4).ownBlock := fun b hb e => by
        have := (HO1.out.lt _ e.symm).1
        omega
      have HD2 : Hid (DA w u2 B g w.heap.size (adv ck t) (.slice ao 0 cap) xs v' (k + 1)) := ⟨⟨hg12.os.trans HG1.out.os, hg12.tape.trans HG1.out.tape, hg12.output.trans HG1.out.output, Nat.le_trans HG1.out.size hg12.size, fun b hb hn => (hg12.block b (Nat.lt_of_lt_of_le hb HG1.out.size) (hnb b hb)).trans (HG1.out.block b hb hn)⟩, HX1.out.kept hg12 (hnb B hBl), HP1.out.kept hg12 (hnb g hgl), _, ho2⟩
      clear ho2 hg2 hg12 hnb HX1 HG1 HP1 HO1 HAP c1 cf HO2 HG2
      go_roundw
      case rel => exact ⟨k + 1, hlt, rfl, by go_num, by rw [HSU.out]; exact HD2.out⟩
      case measure => simp [intOf]; omega
    · obtain rfl : k = xs.length := by omega
      go_wp2
      go_ret2
      refine ⟨_, rfl, ?_⟩
      have := HD.out
      rw [List.take_length] at this
      exact this
end Go.Proofs.YtegcbghhcidcaaaDoor
