import Derived.Test.YtnjilcmahooabalJoinedCore
import Derived.Deep.AppendLies
import Derived.Deep.RegionLaw
namespace Go.Proofs.Ytnjilcmahooabal
open Go.ChangeShapes Go.WideShapes Go.ChangeAt Go.RowKit

def DIG : ByteArray := ⟨#[48, 49, 50, 51, 52, 53, 54, 55, 56, 57, 97, 98, 99, 100, 101, 102]⟩
def hxu (x : Int) : UInt8 := UInt8.ofNat (bt DIG x.toNat).toNat
theorem hxu_nat (x : Int) : ((hxu x).toNat : Int) = bt DIG x.toNat := by
  obtain ⟨a, c⟩ := bt_b DIG x.toNat
  unfold hxu
  rw [UInt8.toNat_ofNat']
  omega
def hexL (s : ByteArray) : Nat → List UInt8
  | 0 => []
  | k + 1 => hexL s k ++ [hxu (bt s k / 16), hxu (bt s k % 16)]
theorem hexL_len (s : ByteArray) : ∀ k, (hexL s k).length = 2 * k
  | 0 => rfl
  | k + 1 => by simp [hexL, hexL_len s k]; omega

theorem idx_dig (x : Int) (h0 : 0 ≤ x) (h1 : x ≤ 15) : ∀ (w : World), Sem.run Try.prog (Instr.index 9 (.string { data := #[48, 49, 50, 51, 52, 53, 54, 55, 56, 57, 97, 98, 99, 100, 101, 102] }) (.int .u8 x)) w = .ok (.int .u8 (hxu x).toNat) w := by
  intro w
  rw [run_index_string _ _ _ _ _ Try.underlying9, dif_pos (by simp [ByteArray.size]; omega), hxu_nat]
  have : x.toNat < DIG.size := by simp [DIG, ByteArray.size]; omega
  rw [← bt_eq DIG x.toNat this]
  rfl

set_option maxHeartbeats 1000000 in
theorem specHex_in (s : ByteArray) (w : World) (hs : 2 * s.size ≤ 65536) :
    Calls Try.prog 17 #[.string s] w fun e w' => e = .returned (.string ⟨(hexL s s.size).toArray⟩) ∧ Below w.heap.size w w' := by
  obtain ⟨i0, hi, hz0, hz1, hz2⟩ := info_parts Try.info5
  go_enter Try.func17, Try.ntmps17
  go_wp2
  go_loopw [3, 4] (fun v i wr => ∃ k : Nat, k ≤ s.size ∧ i = .int .i64 k ∧ wr.ownsRow w.heap.size 5 1 v (2 * k) (cells8 (hexL s k)) ∧ Below w.heap.size w wr) (fun _ i _ => s.size - (intOf i).toNat)
  case atStart => exact ⟨0, Nat.zero_le _, rfl, World.ownsRow_lit w #[] 0 (Nat.le_refl _) (by decide) rfl, (Below.refl _ _).alloc (Nat.le_refl _) _⟩
  case round =>
    obtain ⟨k, hk, rfl, hown, hbl⟩ := hrel
    by_cases hlt : k < s.size
    · have ix := fun w => idx_str s k hlt w k rfl
      obtain ⟨b0, b1⟩ := bt_b s k
      have d1 := idx_dig (bt s k / 16) (by omega) (by omega)
      have d2 := idx_dig (bt s k % 16) (by omega) (by omega)
      have e1 : (bt s k).tdiv 16 = bt s k / 16 := Int.tdiv_eq_ediv_of_nonneg b0
      have e2 : (bt s k).tmod 16 = bt s k % 16 := Int.tmod_eq_emod_of_nonneg b0
      have e3 : IntKind.u8.wrap (bt s k / 16) = bt s k / 16 := by rw [IntKind.wrap_u8']; omega
      have e4 : IntKind.u8.wrap (bt s k % 16) = bt s k % 16 := by rw [IntKind.wrap_u8']; omega
      go_wp2
      go_region_law (refine step_append_lies _ rfl _ _ 32 rfl w.heap.size 5 i0 (.int .u8 0) 1 1 Try.underlying32 hi hz0 hz1 hz2 rfl (by decide) _ _ _ rfl (by exact hown.alloc _) ⟨wr.heap.size, 0, none⟩ 2 2 [.int .u8 (hxu (bt s k / 16)).toNat, .int .u8 (hxu (bt s k % 16)).toNat] rfl rfl (World.news_of_block (cs := #[.int .u8 (hxu (bt s k / 16)).toNat, .int .u8 (hxu (bt s k % 16)).toNat]) (by exact heap_alloc_new wr _)) (by intro u hu; simp at hu; rcases hu with rfl | rfl <;> rfl) (by decide) (by unfold maxLen; omega) (by omega) (by have := hbl.size; simp; omega) _ rfl ?_; intro g cap w1 hown2 hgrow _ _)
      all_goals
        clear d1 d2 ix e1 e2 e3 e4
        go_wp2
        refine ⟨⟨k + 1, by omega, by go_num, own_cast hown2 (by omega) (by rw [hexL, cells8_app]; rfl), ?_⟩, by simp [intOf]; omega⟩
        exact Below.grown (hbl.alloc hbl.size _).drew hgrow (by have := hbl.size; simp; omega) (fun j hj => (hown.lt j hj).1)
    · obtain rfl : k = s.size := by omega
      have hcv := conv_own wr _ _ _ _ hown
      go_wp2
      go_ret
      exact ⟨rfl, hbl⟩
theorem hex_long (s : ByteArray) (h : 65536 < 2 * (s.size : Int)) (w : World) (hs : s.size ≤ 1048576) :
    (Calls Try.prog 17 #[.string s] w fun e w' => e = .returned (.string ⟨#[]⟩) ∧ Below w.heap.size w w') ∧ (Calls Try.prog 18 #[.string s] w fun e w' => e = .returned (.string ⟨#[]⟩) ∧ Below w.heap.size w w') := by
  constructor
  · go_enter Try.func17, Try.ntmps17
    go_wp2_with fail
    go_ret
    exact ⟨rfl, Below.refl _ _⟩
  · go_enter Try.func18, Try.ntmps18
    go_wp2_with fail
    go_ret
    exact ⟨rfl, Below.refl _ _⟩

end Go.Proofs.Ytnjilcmahooabal
