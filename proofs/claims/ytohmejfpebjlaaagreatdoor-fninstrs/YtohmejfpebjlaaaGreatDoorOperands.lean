import Derived.Test.YtohmejfpebjlaaaGreatDoorFaultZ
import Derived.Test.YtohmejfpebjlaaaGreatDoorDec
import Derived.Deep.Onto
namespace Go.Proofs.YtohmejfpebjlaaaGreatDoor
open Go.ChangeShapes Go.WideShapes Go.ChangeAt Go.RowKit

theorem own_below {w w' : World} {B e size n : Nat} {v : Value} {xs : List Value} (h : w.ownsRow B e size v n xs) (hb : Below w.heap.size w w') : w'.ownsRow B e size v n xs :=
  h.kept (row := none) ⟨hb.os, hb.tape, hb.output, hb.size, fun k hk _ => hb.block k hk⟩ (Classical.em _)

/-- The operand that stands at j, as a text. -/
def opS (f : ByteArray) (a b c imm : Int) (j : Nat) : ByteArray :=
  if bt f j = 97 then ⟨#[114]⟩ ++ decB a else if bt f j = 98 then ⟨#[114]⟩ ++ decB b else if bt f j = 99 then ⟨#[114]⟩ ++ decB c
  else if bt f j = 118 then ⟨#[118]⟩ ++ decB (if j = 0 then a else if j = 1 then b else c) else decB imm
def opsL (f : ByteArray) (a b c imm : Int) (j : Nat) : List ByteArray := (List.range j).map (opS f a b c imm)
theorem opsL_succ (f : ByteArray) (a b c imm : Int) (j : Nat) : opsL f a b c imm (j + 1) = opsL f a b c imm j ++ [opS f a b c imm j] := by simp [opsL, List.range_succ]
theorem opsL_len (f : ByteArray) (a b c imm : Int) (j : Nat) : (opsL f a b c imm j).length = j := by simp [opsL]
theorem decB_size (n : Int) (h0 : -9223372036854775808 ≤ n) (h1 : n ≤ 9223372036854775807) : (decB n).size ≤ 30 := by
  show (decL n).toArray.size ≤ 30
  unfold decL
  split
  · have := decN_len20 (-n).toNat (by omega)
    simp; omega
  · have := decN_len20 n.toNat (by omega)
    simp; omega

/-- What the loop keeps of memory: the instruction's box at N, its three registers' row at M + 1. -/
def OpC (N M : Nat) (a b c imm : Int) (wr : World) : Prop :=
  wr.cell? ⟨N, 1, none⟩ = some (.int .i64 a) ∧ wr.cell? ⟨N, 2, none⟩ = some (.int .i64 b) ∧ wr.cell? ⟨N, 3, none⟩ = some (.int .i64 c) ∧ wr.cell? ⟨N, 4, none⟩ = some (.int .i64 imm) ∧
  wr.cell? ⟨M + 1, 0, none⟩ = some (.int .i64 a) ∧ wr.cell? ⟨M + 1, 1, none⟩ = some (.int .i64 b) ∧ wr.cell? ⟨M + 1, 2, none⟩ = some (.int .i64 c)
theorem OpC.of {N M : Nat} {a b c imm : Int} {u v : World} (h : OpC N M a b c imm u) (h2 : ∀ (x o : Nat), x = N ∨ x = M + 1 → v.cell? ⟨x, o, none⟩ = u.cell? ⟨x, o, none⟩) : OpC N M a b c imm v := by
  obtain ⟨c1, c2, c3, c4, c5, c6, c7⟩ := h
  exact ⟨(h2 _ _ (.inl rfl)).trans c1, (h2 _ _ (.inl rfl)).trans c2, (h2 _ _ (.inl rfl)).trans c3, (h2 _ _ (.inl rfl)).trans c4, (h2 _ _ (.inr rfl)).trans c5, (h2 _ _ (.inr rfl)).trans c6, (h2 _ _ (.inr rfl)).trans c7⟩
theorem opI_step {N M j g : Nat} {w wr u2 w3 : World} {v : Value} {a b c imm : Int} {xs : List Value} {o : Obj}
    (z : N < M) (hbl : Below N w wr) (hC : OpC N M a b c imm wr) (hM : M + 1 < wr.heap.size) (hne : v.ownBlock ≠ some (M + 1)) (hown : wr.ownsRow M 9 1 v j xs)
    (hw2 : Below wr.heap.size wr u2) (hgrow : (u2.alloc o).grownBy w3 v.ownBlock) (hat : v.ownBlock = some g ∨ g = u2.heap.size + 1) :
    Below N w w3 ∧ OpC N M a b c imm w3 ∧ M + 1 < w3.heap.size ∧ (Value.slice (some ⟨g, 0, none⟩) 0 0).ownBlock ≠ some (M + 1) := by
  have s2 := hw2.size
  have sN := hbl.size
  have hb2 : Below N w u2 := hbl.trans (hw2.mono (by omega))
  have hal : Below u2.heap.size u2 (u2.alloc o) := (Below.refl _ _).alloc (Nat.le_refl _) _
  have s3 : (u2.alloc o).heap.size = u2.heap.size + 1 := by simp
  have s4 := hgrow.size
  refine ⟨(hb2.alloc (by omega) o).grown hgrow (by omega) (fun k hk => by have := hown.lt k hk; omega), hC.of ?_, by omega, ?_⟩
  · intro x y hx
    have hxl : x < wr.heap.size := by omega
    have hxo : some x ≠ v.ownBlock := by
      intro h
      rcases hx with rfl | rfl
      · have := hown.lt _ h.symm; omega
      · exact hne h.symm
    exact (hgrow.cell_far ⟨x, y, none⟩ (by show x < _; omega) hxo).trans (((bcell hal).1 x y (by omega)).trans ((bcell hw2).1 x y hxl))
  · intro h
    have hg : g = M + 1 := by simpa [Value.ownBlock] using h
    rcases hat with h2 | h2
    · exact hne (by rw [h2, hg])
    · omega

set_option maxRecDepth 100000 in
set_option maxHeartbeats 2000000 in
theorem l02Operands_f (op a b c imm : Int) (f : ByteArray) (w : World) (hf : fB (kd op) = f) (hf3 : f.size ≤ 3) (h0 : -9223372036854775808 ≤ op) (h1 : op ≤ 9223372036854775807)
    (ha0 : -9223372036854775808 ≤ a) (ha1 : a ≤ 9223372036854775807) (hb0 : -9223372036854775808 ≤ b) (hb1 : b ≤ 9223372036854775807) (hc0 : -9223372036854775808 ≤ c) (hc1 : c ≤ 9223372036854775807) (hi0 : -9223372036854775808 ≤ imm) (hi1 : imm ≤ 9223372036854775807) :
    Calls Tryz.prog 56 #[ins op a b c imm] w fun e w' => ∃ v, e = .returned v ∧ w'.ownsRow w.heap.size 9 1 v f.size (strs (opsL f a b c imm f.size)) ∧ Below w.heap.size w w' := by
  obtain ⟨i0, hi, hz0, hz1, hz2⟩ := info_parts Tryz.info9
  have HF : Hid (fB (kd op) = f) := hf
  clear hf
  unfold ins
  go_enter Tryz.func56, Tryz.ntmps56
  go_wp2_with (go_at_call 18; refine (l02Form_any _ _ (by omega) (by omega)).mono ?_; rintro e u1 ⟨rfl, hw1⟩; rw [HF.out]; have z1 : w.heap.size < u1.heap.size := (by have := hw1.size; simp at this; omega); obtain ⟨hc, hf⟩ := bcell hw1)
  have hcel : OpC w.heap.size u1.heap.size a b c imm ((u1.alloc (Obj.cells #[] 9)).alloc (Obj.cells #[.int .i64 a, .int .i64 b, .int .i64 c] 2)) := by
    refine ⟨?_, ?_, ?_, ?_, ?_, ?_, ?_⟩ <;> simp [go_sem, hc, z1]
  have hbl0 : Below w.heap.size w ((u1.alloc (Obj.cells #[] 9)).alloc (Obj.cells #[.int .i64 a, .int .i64 b, .int .i64 c] 2)) := ((bstep (Below.refl _ _) _ hw1).alloc (by omega) _).alloc (by simp; omega) _
  clear hc hf hw1
  go_loopw [4, 6] (fun v i wr => ∃ j : Nat, j ≤ f.size ∧ i = .int .i64 j ∧ wr.ownsRow u1.heap.size 9 1 v j (strs (opsL f a b c imm j)) ∧ Below w.heap.size w wr ∧ OpC w.heap.size u1.heap.size a b c imm wr ∧ u1.heap.size + 1 < wr.heap.size ∧ v.ownBlock ≠ some (u1.heap.size + 1)) (fun _ i _ => f.size - (intOf i).toNat)
  case atStart =>
    refine ⟨0, Nat.zero_le _, rfl, (World.ownsRow_lit u1 #[] 0 (Nat.le_refl _) (by decide) rfl).alloc _, hbl0, hcel, by simp, ?_⟩
    simp [Value.ownBlock]
  case round =>
    obtain ⟨j, hj, rfl, hown, hbl, hC, hM, hne⟩ := hrel
    obtain ⟨c1, c2, c3, c4, c5, c6, c7⟩ := id hC
    have HC : Hid (OpC w.heap.size u1.heap.size a b c imm wr) := hC
    clear hC hcel hbl0
    by_cases hlt : j < f.size
    · cases e97 : (bt f j == 97)
      · cases e98 : (bt f j == 98)
        · cases e99 : (bt f j == 99)
          · cases e118 : (bt f j == 118)
            · have ix := fun w => idx_str f j hlt w j rfl
              have HX : Hid (opS f a b c imm j = decB imm) := (show opS f a b c imm j = decB imm from (if_neg (by simpa using e97)).trans ((if_neg (by simpa using e98)).trans ((if_neg (by simpa using e99)).trans (if_neg (by simpa using e118)))))
              have sz := decB_size imm hi0 hi1
              go_wp2_with (first | (go_at_call 72; refine (l01Dec_any _ _ (by omega) (by omega)).mono ?_; rintro e u2 ⟨rfl, hw2⟩) | (at_builtin; refine wpList_append_lies _ rfl _ _ 58 rfl u1.heap.size 9 i0 (.string ⟨#[]⟩) 1 16 Tryz.underlying58 hi hz0 hz1 hz2 rfl (by decide) _ _ _ rfl ((own_below hown hw2).alloc _) ⟨u2.heap.size, 0, none⟩ 1 1 [.string (opS f a b c imm j)] ?c0 rfl ?c1 ?c2 (by decide) ?c3 ?c4 ?c5 _ rfl ?_))
              case c0 => rfl
              case c1 => rw [HX.out]; exact World.news_of_block (cs := #[.string _]) (heap_alloc_new u2 _)
              case c2 => intro u hu; simp at hu; subst hu; rfl
              case c3 => unfold maxLen; omega
              case c4 => omega
              case c5 => have := hw2.size; simp; omega
              intro g cap w3 hown3 hgrow hat _
              obtain ⟨p1, p2, p3, p4⟩ := opI_step z1 hbl HC.out hM hne hown hw2 hgrow hat
              have HP : Hid (OpC w.heap.size u1.heap.size a b c imm w3) := p2
              clear c1 c2 c3 c4 c5 c6 c7 p2
              go_wp2_with fail
              go_roundw
              case rel => exact ⟨j + 1, by omega, by go_num, own_cast' hown3 rfl (by rw [opsL_succ, strs_app]; rfl), p1, HP.out, p3, p4⟩
              case measure => simp [intOf]; omega
            · obtain rfl | rfl | rfl : j = 0 ∨ j = 1 ∨ j = 2 := by omega
              · have ix := fun w => idx_str f 0 hlt w 0 rfl
                have HX : Hid (opS f a b c imm 0 = ⟨#[118]⟩ ++ decB a) := (show opS f a b c imm 0 = ⟨#[118]⟩ ++ decB a from (if_neg (by simpa using e97)).trans ((if_neg (by simpa using e98)).trans ((if_neg (by simpa using e99)).trans ((if_pos (by simpa using e118)).trans rfl))))
                have sz := decB_size a ha0 ha1
                go_wp2_with (first | (go_at_call 72; refine (l01Dec_any _ _ (by omega) (by omega)).mono ?_; rintro e u2 ⟨rfl, hw2⟩) | (at_builtin; refine wpList_append_lies _ rfl _ _ 58 rfl u1.heap.size 9 i0 (.string ⟨#[]⟩) 1 16 Tryz.underlying58 hi hz0 hz1 hz2 rfl (by decide) _ _ _ rfl ((own_below hown hw2).alloc _) ⟨u2.heap.size, 0, none⟩ 1 1 [.string (opS f a b c imm 0)] ?c0 rfl ?c1 ?c2 (by decide) ?c3 ?c4 ?c5 _ rfl ?_))
                case c0 => rfl
                case c1 => rw [HX.out]; exact World.news_of_block (cs := #[.string _]) (heap_alloc_new u2 _)
                case c2 => intro u hu; simp at hu; subst hu; rfl
                case c3 => unfold maxLen; omega
                case c4 => omega
                case c5 => have := hw2.size; simp; omega
                intro g cap w3 hown3 hgrow hat _
                obtain ⟨p1, p2, p3, p4⟩ := opI_step z1 hbl HC.out hM hne hown hw2 hgrow hat
                have HP : Hid (OpC w.heap.size u1.heap.size a b c imm w3) := p2
                clear c1 c2 c3 c4 c5 c6 c7 p2
                go_wp2_with fail
                go_roundw
                case rel => exact ⟨0 + 1, by omega, by go_num, own_cast' hown3 rfl (by rw [opsL_succ, strs_app]; rfl), p1, HP.out, p3, p4⟩
                case measure => simp [intOf]; omega
              · have ix := fun w => idx_str f 1 hlt w 1 rfl
                have HX : Hid (opS f a b c imm 1 = ⟨#[118]⟩ ++ decB b) := (show opS f a b c imm 1 = ⟨#[118]⟩ ++ decB b from (if_neg (by simpa using e97)).trans ((if_neg (by simpa using e98)).trans ((if_neg (by simpa using e99)).trans ((if_pos (by simpa using e118)).trans rfl))))
                have sz := decB_size b hb0 hb1
                go_wp2_with (first | (go_at_call 72; refine (l01Dec_any _ _ (by omega) (by omega)).mono ?_; rintro e u2 ⟨rfl, hw2⟩) | (at_builtin; refine wpList_append_lies _ rfl _ _ 58 rfl u1.heap.size 9 i0 (.string ⟨#[]⟩) 1 16 Tryz.underlying58 hi hz0 hz1 hz2 rfl (by decide) _ _ _ rfl ((own_below hown hw2).alloc _) ⟨u2.heap.size, 0, none⟩ 1 1 [.string (opS f a b c imm 1)] ?c0 rfl ?c1 ?c2 (by decide) ?c3 ?c4 ?c5 _ rfl ?_))
                case c0 => rfl
                case c1 => rw [HX.out]; exact World.news_of_block (cs := #[.string _]) (heap_alloc_new u2 _)
                case c2 => intro u hu; simp at hu; subst hu; rfl
                case c3 => unfold maxLen; omega
                case c4 => omega
                case c5 => have := hw2.size; simp; omega
                intro g cap w3 hown3 hgrow hat _
                obtain ⟨p1, p2, p3, p4⟩ := opI_step z1 hbl HC.out hM hne hown hw2 hgrow hat
                have HP : Hid (OpC w.heap.size u1.heap.size a b c imm w3) := p2
                clear c1 c2 c3 c4 c5 c6 c7 p2
                go_wp2_with fail
                go_roundw
                case rel => exact ⟨1 + 1, by omega, by go_num, own_cast' hown3 rfl (by rw [opsL_succ, strs_app]; rfl), p1, HP.out, p3, p4⟩
                case measure => simp [intOf]; omega
              · have ix := fun w => idx_str f 2 hlt w 2 rfl
                have HX : Hid (opS f a b c imm 2 = ⟨#[118]⟩ ++ decB c) := (show opS f a b c imm 2 = ⟨#[118]⟩ ++ decB c from (if_neg (by simpa using e97)).trans ((if_neg (by simpa using e98)).trans ((if_neg (by simpa using e99)).trans ((if_pos (by simpa using e118)).trans rfl))))
                have sz := decB_size c hc0 hc1
                go_wp2_with (first | (go_at_call 72; refine (l01Dec_any _ _ (by omega) (by omega)).mono ?_; rintro e u2 ⟨rfl, hw2⟩) | (at_builtin; refine wpList_append_lies _ rfl _ _ 58 rfl u1.heap.size 9 i0 (.string ⟨#[]⟩) 1 16 Tryz.underlying58 hi hz0 hz1 hz2 rfl (by decide) _ _ _ rfl ((own_below hown hw2).alloc _) ⟨u2.heap.size, 0, none⟩ 1 1 [.string (opS f a b c imm 2)] ?c0 rfl ?c1 ?c2 (by decide) ?c3 ?c4 ?c5 _ rfl ?_))
                case c0 => rfl
                case c1 => rw [HX.out]; exact World.news_of_block (cs := #[.string _]) (heap_alloc_new u2 _)
                case c2 => intro u hu; simp at hu; subst hu; rfl
                case c3 => unfold maxLen; omega
                case c4 => omega
                case c5 => have := hw2.size; simp; omega
                intro g cap w3 hown3 hgrow hat _
                obtain ⟨p1, p2, p3, p4⟩ := opI_step z1 hbl HC.out hM hne hown hw2 hgrow hat
                have HP : Hid (OpC w.heap.size u1.heap.size a b c imm w3) := p2
                clear c1 c2 c3 c4 c5 c6 c7 p2
                go_wp2_with fail
                go_roundw
                case rel => exact ⟨2 + 1, by omega, by go_num, own_cast' hown3 rfl (by rw [opsL_succ, strs_app]; rfl), p1, HP.out, p3, p4⟩
                case measure => simp [intOf]; omega
          · have ix := fun w => idx_str f j hlt w j rfl
            have HX : Hid (opS f a b c imm j = ⟨#[114]⟩ ++ decB c) := (show opS f a b c imm j = ⟨#[114]⟩ ++ decB c from (if_neg (by simpa using e97)).trans ((if_neg (by simpa using e98)).trans (if_pos (by simpa using e99))))
            have sz := decB_size c hc0 hc1
            go_wp2_with (first | (go_at_call 72; refine (l01Dec_any _ _ (by omega) (by omega)).mono ?_; rintro e u2 ⟨rfl, hw2⟩) | (at_builtin; refine wpList_append_lies _ rfl _ _ 58 rfl u1.heap.size 9 i0 (.string ⟨#[]⟩) 1 16 Tryz.underlying58 hi hz0 hz1 hz2 rfl (by decide) _ _ _ rfl ((own_below hown hw2).alloc _) ⟨u2.heap.size, 0, none⟩ 1 1 [.string (opS f a b c imm j)] ?c0 rfl ?c1 ?c2 (by decide) ?c3 ?c4 ?c5 _ rfl ?_))
            case c0 => rfl
            case c1 => rw [HX.out]; exact World.news_of_block (cs := #[.string _]) (heap_alloc_new u2 _)
            case c2 => intro u hu; simp at hu; subst hu; rfl
            case c3 => unfold maxLen; omega
            case c4 => omega
            case c5 => have := hw2.size; simp; omega
            intro g cap w3 hown3 hgrow hat _
            obtain ⟨p1, p2, p3, p4⟩ := opI_step z1 hbl HC.out hM hne hown hw2 hgrow hat
            have HP : Hid (OpC w.heap.size u1.heap.size a b c imm w3) := p2
            clear c1 c2 c3 c4 c5 c6 c7 p2
            go_wp2_with fail
            go_roundw
            case rel => exact ⟨j + 1, by omega, by go_num, own_cast' hown3 rfl (by rw [opsL_succ, strs_app]; rfl), p1, HP.out, p3, p4⟩
            case measure => simp [intOf]; omega
        · have ix := fun w => idx_str f j hlt w j rfl
          have HX : Hid (opS f a b c imm j = ⟨#[114]⟩ ++ decB b) := (show opS f a b c imm j = ⟨#[114]⟩ ++ decB b from (if_neg (by simpa using e97)).trans (if_pos (by simpa using e98)))
          have sz := decB_size b hb0 hb1
          go_wp2_with (first | (go_at_call 72; refine (l01Dec_any _ _ (by omega) (by omega)).mono ?_; rintro e u2 ⟨rfl, hw2⟩) | (at_builtin; refine wpList_append_lies _ rfl _ _ 58 rfl u1.heap.size 9 i0 (.string ⟨#[]⟩) 1 16 Tryz.underlying58 hi hz0 hz1 hz2 rfl (by decide) _ _ _ rfl ((own_below hown hw2).alloc _) ⟨u2.heap.size, 0, none⟩ 1 1 [.string (opS f a b c imm j)] ?c0 rfl ?c1 ?c2 (by decide) ?c3 ?c4 ?c5 _ rfl ?_))
          case c0 => rfl
          case c1 => rw [HX.out]; exact World.news_of_block (cs := #[.string _]) (heap_alloc_new u2 _)
          case c2 => intro u hu; simp at hu; subst hu; rfl
          case c3 => unfold maxLen; omega
          case c4 => omega
          case c5 => have := hw2.size; simp; omega
          intro g cap w3 hown3 hgrow hat _
          obtain ⟨p1, p2, p3, p4⟩ := opI_step z1 hbl HC.out hM hne hown hw2 hgrow hat
          have HP : Hid (OpC w.heap.size u1.heap.size a b c imm w3) := p2
          clear c1 c2 c3 c4 c5 c6 c7 p2
          go_wp2_with fail
          go_roundw
          case rel => exact ⟨j + 1, by omega, by go_num, own_cast' hown3 rfl (by rw [opsL_succ, strs_app]; rfl), p1, HP.out, p3, p4⟩
          case measure => simp [intOf]; omega
      · have ix := fun w => idx_str f j hlt w j rfl
        have HX : Hid (opS f a b c imm j = ⟨#[114]⟩ ++ decB a) := (show opS f a b c imm j = ⟨#[114]⟩ ++ decB a from if_pos (by simpa using e97))
        have sz := decB_size a ha0 ha1
        go_wp2_with (first | (go_at_call 72; refine (l01Dec_any _ _ (by omega) (by omega)).mono ?_; rintro e u2 ⟨rfl, hw2⟩) | (at_builtin; refine wpList_append_lies _ rfl _ _ 58 rfl u1.heap.size 9 i0 (.string ⟨#[]⟩) 1 16 Tryz.underlying58 hi hz0 hz1 hz2 rfl (by decide) _ _ _ rfl ((own_below hown hw2).alloc _) ⟨u2.heap.size, 0, none⟩ 1 1 [.string (opS f a b c imm j)] ?c0 rfl ?c1 ?c2 (by decide) ?c3 ?c4 ?c5 _ rfl ?_))
        case c0 => rfl
        case c1 => rw [HX.out]; exact World.news_of_block (cs := #[.string _]) (heap_alloc_new u2 _)
        case c2 => intro u hu; simp at hu; subst hu; rfl
        case c3 => unfold maxLen; omega
        case c4 => omega
        case c5 => have := hw2.size; simp; omega
        intro g cap w3 hown3 hgrow hat _
        obtain ⟨p1, p2, p3, p4⟩ := opI_step z1 hbl HC.out hM hne hown hw2 hgrow hat
        have HP : Hid (OpC w.heap.size u1.heap.size a b c imm w3) := p2
        clear c1 c2 c3 c4 c5 c6 c7 p2
        go_wp2_with fail
        go_roundw
        case rel => exact ⟨j + 1, by omega, by go_num, own_cast' hown3 rfl (by rw [opsL_succ, strs_app]; rfl), p1, HP.out, p3, p4⟩
        case measure => simp [intOf]; omega
    · obtain rfl : j = f.size := by omega
      go_wp2_with fail
      go_ret
      exact ⟨_, rfl, hown.mono (by omega), hbl⟩
end Go.Proofs.YtohmejfpebjlaaaGreatDoor
