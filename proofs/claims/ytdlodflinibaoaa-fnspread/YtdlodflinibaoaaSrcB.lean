import Derived.Test.YtdlodflinibaoaaSrc2
import Derived.Test.YtdlodflinibaoaaConv
import Derived.Test.YtdlodflinibaoaaJoinedCore
import Derived.Test.YtdlodflinibaoaaDr1
import Derived.Deep.AppendLies
import Derived.OwnWalk
import Derived.Laws.OwnMore
namespace Go.Proofs.Ytdlodflinibaoaa
open Go.ChangeShapes Go.WideShapes Go.ChangeAt Go.RowKit

set_option maxHeartbeats 1000000 in
theorem src_bytes (b : Nat) (a : Option Addr) (len cap : Nat) (n : Nat) (w : World) (h : SrcOk w b a len cap) (hn : n ≤ 65536) :
    Calls Try.prog 59 #[.pointer (some ⟨b, 0, none⟩), .int .i64 n] w fun e w' => ∃ s : ByteArray, e = .returned (.string s) ∧ s.size = n ∧ SrcOk w' b a len cap ∧ w.grownBy w' (some b) := by
  obtain ⟨i0, hi, hz0, hz1, hz2⟩ := info_parts Try.info5
  have hlt := h.lt
  have HS : Hid (SrcOk w b a len cap) := h
  clear h
  go_enter Try.func59, Try.ntmps59
  go_wp2
  go_loopw [5, 6] (fun v i wr => ∃ (k : Nat) (bs : List UInt8), k ≤ n ∧ i = .int .i64 k ∧ bs.length = k ∧ wr.ownsRow w.heap.size 5 1 v k (cells8 bs) ∧ SrcOk wr b a len cap ∧ w.grownBy wr (some b)) (fun _ i _ => n - (intOf i).toNat)
  case atStart => exact ⟨0, [], Nat.zero_le _, rfl, rfl, World.ownsRow_lit w #[] 0 (Nat.le_refl _) (by decide) rfl, HS.out.far (World.grownBy_alloc w _ none), World.grownBy_alloc w _ _⟩
  case round =>
    obtain ⟨k, bs, hk, rfl, hbs, hown, hsr, hgr⟩ := hrel
    have HB : Hid (bs.length = k) := hbs
    clear hbs
    by_cases hkn : k < n
    · go_wp2_with fail
      refine (src_n b a len cap 256 wr hsr (by omega)).mono ?_
      rintro e w1 ⟨r, rfl, r0, r1, hs1, hg1⟩
      have r2 : r < 256 := by omega
      have hne : u5.ownBlock = none ∨ u5.ownBlock ≠ some b := by
        cases ho : u5.ownBlock with
        | none => exact .inl rfl
        | some q => exact .inr (by have := hown.lt q ho; simp; omega)
      have hown1 := hown.kept hg1 hne
      have hgr1 := Lib.grownBy_trans hgr hg1
      clear r1
      go_wp2_with (at_builtin; refine wpList_append_own _ rfl _ _ 47 rfl w.heap.size 5 i0 (.int .u8 0) 1 1 Try.underlying47 hi hz0 hz1 hz2 rfl (by decide) _ _ _ rfl (hown1.alloc _) ⟨w1.heap.size, 0, none⟩ 1 1 [.int .u8 r] rfl rfl ?c1 ?c2 ?c3 ?c4 ?c5 ?_)
      case c1 => exact World.news_of_block (cs := #[.int .u8 r]) (heap_alloc_new w1 _)
      case c2 => intro u hu; simp at hu; subst hu; rfl
      case c3 => unfold maxLen; omega
      case c4 => omega
      case c5 => have := hgr1.size; simp; omega
      intro v' w2 hown2 hg2 _
      have hs2 : SrcOk w2 b a len cap := hs1.keep (fun i hib => (hg2.block i (by have := hgr1.size; simp; omega) (fun hh => by have := hown.lt i hh.symm; omega)).trans (Below.heap_alloc w1 _ i (by have := hgr1.size; omega)))
      have hgr2 : w.grownBy w2 (some b) := gfar (Lib.grownBy_trans hgr1 (World.grownBy_alloc w1 _ (some b))) hg2 (fun q hq => (hown.lt q hq).1)
      have he : Hid (((UInt8.ofNat r.toNat).toNat : Int) = r) := (show ((UInt8.ofNat r.toNat).toNat : Int) = r by rw [UInt8.toNat_ofNat']; omega)
      clear hown1 hown hne hg1 hg2 hgr hgr1 hsr hs1
      go_wp2
      refine ⟨⟨k + 1, bs ++ [UInt8.ofNat r.toNat], by omega, by go_num, by simp [HB.out], own_cast hown2 rfl ?_, hs2, hgr2⟩, by simp [intOf]; omega⟩
      rw [cells8_app]
      show _ = cells8 bs ++ [Value.int .u8 ((UInt8.ofNat r.toNat).toNat : Int)]
      rw [he.out]
    · obtain rfl : k = n := by omega
      have hcv := conv_own wr _ _ _ _ hown
      go_wp2
      go_ret
      exact ⟨_, rfl, by show bs.toArray.size = k; rw [List.size_toArray]; exact HB.out, hsr, hgr⟩
end Go.Proofs.Ytdlodflinibaoaa
