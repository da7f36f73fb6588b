import Derived.Test.YtmmodmanfoipiaaDoorJoined
import Derived.Test.YtmmodmanfoipiaaDoorPutWord
import Derived.Test.YtmmodmanfoipiaaDoorMix
import Derived.Test.YtmmodmanfoipiaaDoorFr2
import Derived.Maps.AppendAt
import Derived.OwnWalk
namespace Go.Proofs.YtmmodmanfoipiaaDoor
open Go.ChangeShapes Go.WideShapes Go.ChangeAt Go.RowKit

theorem wl_append_exBW {P : Program} {ops : Array Oper} {rest : List Oper} {o : Oper} {a : Act} {w : World} {Q : Exit → Act → World → Prop} (hgd : o.guard = none) (s x : Operand) (t : TypeId)
    (ho : o.op = .call { callee := .builtin .append, args := #[s, x], argTypes := #[t, t] }) (v v2 : Value) (hs : a.eval s = v) (hx : a.eval x = v2) {R : Value → World → Prop}
    (hr : ∃ v' w', (Builtin.append_ #[t, t] o.type #[v, v2]).run P w = .ok v' w' ∧ R v' w') (h : ∀ v' w', R v' w' → wpList P ops Q rest (a.put o.dst v') w') : wpList P ops Q (o :: rest) a w :=
  wpList_plain hgd fun _ hK => by
    obtain ⟨v', w', hr, hR⟩ := hr
    unfold Oper.wp execOp
    simp only [ho, resolve, invoke, builtin, Sem.run_bind, Sem.run_pure, Result.andThen_ok, List.map_toArray, List.map_cons, List.map_nil, hs, hx, hr]
    exact hK _ _ (h v' w' hR)
/-- One byte more. -/
theorem app1 {w : World} {B n : Nat} {v : Value} {xs : List Value} (H0 : w.ownsRow B 5 1 v n xs) (x : Int) (hn : n ≤ 1048576) (hB : B ≤ w.heap.size) :
    ∃ v' u', (Builtin.append_ #[22, 22] 22 #[v, .slice (some ⟨w.heap.size, 0, none⟩) 1 1]).run Tryd.prog (w.alloc (.cells #[.int .u8 x] 5)) = .ok v' u' ∧ (u'.ownsRow B 5 1 v' (n + 1) (xs ++ [.int .u8 x]) ∧ (w.alloc (.cells #[.int .u8 x] 5)).grownBy u' v.ownBlock) := by
  obtain ⟨i0, hi0, hz0, hz1, hz2⟩ := info_parts Tryd.info5
  obtain ⟨v', w', hr, h2, h3, _, _⟩ := run_append_own_at (P := Tryd.prog) (w.alloc (.cells #[.int .u8 x] 5)) B 22 22 5 i0 (.int .u8 0) 1 1 Tryd.underlying22 hi0 hz0 hz1 hz2 rfl (by decide) v n xs (World.ownsRow.alloc H0 _) ⟨w.heap.size, 0, none⟩ 1 1 [.int .u8 x] rfl (by
    intro j u hj
    match j, hj with
    | 0, hj =>
      simp at hj
      subst hj
      simp [Addr.add_lit]) (by intro u hu; simp at hu; subst hu; rfl) (by unfold maxLen; omega) (by omega) (by simp; omega)
  exact ⟨v', w', hr, h2, h3⟩
def lbI (n : Int) : List Int := [n % 256, n / 256 % 256, n / 65536 % 256, n / 16777216 % 256, n / 4294967296 % 256, n / 1099511627776 % 256]
theorem lbI_len (n : Int) : (lbI n).length = 6 := rfl
/-- The lowest k bytes of a number, the lowest first. -/
def lb (n : Int) (k : Nat) : ByteArray := strOfNums ((lbI n).take k)
theorem lb4 (n : Int) : lb n 4 = pw n := rfl
theorem lb_size (n : Int) (k : Nat) (hk : k ≤ 6) : (lb n k).size = k := by
  unfold lb
  rw [strOfNums_size, List.length_take, lbI_len]
  omega
theorem lbI_b (n : Int) : ∀ x ∈ lbI n, 0 ≤ x ∧ x ≤ 255 := by
  intro x hx
  simp [lbI] at hx
  omega
def lbU (n : Int) (k : Nat) : List UInt8 := ((lbI n).take k).map fun x => UInt8.ofNat x.toNat
theorem lbU_cells (n : Int) (k : Nat) : cells8 (lbU n k) = ((lbI n).take k).map (Value.int .u8) := by
  unfold cells8 lbU
  rw [List.map_map]
  apply List.map_congr_left
  intro x hx
  have := lbI_b n x (List.mem_of_mem_take hx)
  simp only [Function.comp]
  rw [UInt8.toNat_ofNat']
  congr 1
  omega
theorem lb_conv {w : World} {B m : Nat} {v : Value} (n : Int) (k : Nat) (h : w.ownsRow B 5 1 v m (((lbI n).take k).map (Value.int .u8))) : Sem.run Tryd.prog (convert 22 9 v) w = .ok (.string (lb n k)) w := by
  rw [← lbU_cells] at h
  exact conv_own w B v m _ h
set_option maxRecDepth 100000 in
set_option maxHeartbeats 4000000 in
theorem lowBytes_any (n : Int) (z : Nat) (hz : z ≤ 6) (w : World) : Calls Tryd.prog 36 #[.int .i64 n, .int .i64 z] w fun e w' => e = .returned (.string (lb n z)) ∧ Below w.heap.size w w' := by
  go_enter Tryd.func36, Tryd.ntmps36
  go_wp2
  go_loopw [5, 8] (fun v i wr => ∃ k : Nat, k ≤ z ∧ i = .int .i64 k ∧ wr.ownsRow w.heap.size 5 1 v k (((lbI n).take k).map (Value.int .u8)) ∧ Below w.heap.size w wr) (fun _ i _ => z - (intOf i).toNat)
  case atStart => exact ⟨0, Nat.zero_le _, rfl, World.ownsRow_nil _ _ _ _, Below.refl _ _⟩
  case round =>
    obtain ⟨k, hk, rfl, hown, hbl⟩ := hrel
    have HO : Hid (wr.ownsRow w.heap.size 5 1 _ k (((lbI n).take k).map (Value.int .u8))) := hown
    have HB : Hid (Below w.heap.size w wr) := hbl
    by_cases hlt : k < z
    · clear hown hbl
      have h2 : ∀ x, ∃ v' u', (Builtin.append_ #[22, 22] 22 #[_, .slice (some ⟨wr.heap.size, 0, none⟩) 1 1]).run Tryd.prog (wr.alloc (.cells #[.int .u8 x] 5)) = .ok v' u' ∧ _ := fun x => app1 HO.out x (by omega) HB.out.size
      have HA : Hid _ := h2
      have HOB : Hid (∀ j, _ = some j → w.heap.size ≤ j) := fun j hj => (HO.out.lt j hj).1
      clear h2
      obtain rfl | rfl | rfl | rfl | rfl | rfl : k = 0 ∨ k = 1 ∨ k = 2 ∨ k = 3 ∨ k = 4 ∨ k = 5 := by omega
      all_goals go_wp2_with (at_builtin; (refine wl_append_exBW rfl _ _ 22 rfl _ _ rfl rfl (HA.out _) ?_; rintro v' u' ⟨ho, hg⟩; have HO2 : Hid _ := ho; have HB2 : Hid (Below w.heap.size w u') := ((HB.out.alloc HB.out.size _).grown hg (by have := HB.out.size; simp; omega) HOB.out); clear ho hg HA HOB))
      all_goals exact ⟨⟨_, hlt, by go_num, HO2.out, HB2.out⟩, by simp [intOf]; omega⟩
    · obtain rfl : k = z := by omega
      have hcv := lb_conv n k hown
      go_wp2
      go_ret
      exact ⟨rfl, hbl⟩
set_option maxRecDepth 100000 in
set_option maxHeartbeats 4000000 in
theorem l16Bytes_any (n : Int) (z : Nat) (hz : z ≤ 6) (w : World) : Calls Tryd.prog 22 #[.int .i64 n, .int .i64 z] w fun e w' => e = .returned (.string (lb n z)) ∧ Below w.heap.size w w' := by
  go_enter Tryd.func22, Tryd.ntmps22
  go_wp2
  go_loopw [5, 6] (fun v i wr => ∃ k : Nat, k ≤ z ∧ i = .int .i64 k ∧ wr.ownsRow w.heap.size 5 1 v k (((lbI n).take k).map (Value.int .u8)) ∧ Below w.heap.size w wr) (fun _ i _ => z - (intOf i).toNat)
  case atStart => exact ⟨0, Nat.zero_le _, rfl, World.ownsRow_lit w #[] 0 (Nat.le_refl _) (by decide) rfl, (Below.refl _ _).alloc (Nat.le_refl _) _⟩
  case round =>
    obtain ⟨k, hk, rfl, hown, hbl⟩ := hrel
    have HO : Hid (wr.ownsRow w.heap.size 5 1 _ k (((lbI n).take k).map (Value.int .u8))) := hown
    have HB : Hid (Below w.heap.size w wr) := hbl
    by_cases hlt : k < z
    · clear hown hbl
      have h2 : ∀ x, ∃ v' u', (Builtin.append_ #[22, 22] 22 #[_, .slice (some ⟨wr.heap.size, 0, none⟩) 1 1]).run Tryd.prog (wr.alloc (.cells #[.int .u8 x] 5)) = .ok v' u' ∧ _ := fun x => app1 HO.out x (by omega) HB.out.size
      have HA : Hid _ := h2
      have HOB : Hid (∀ j, _ = some j → w.heap.size ≤ j) := fun j hj => (HO.out.lt j hj).1
      clear h2
      obtain rfl | rfl | rfl | rfl | rfl | rfl : k = 0 ∨ k = 1 ∨ k = 2 ∨ k = 3 ∨ k = 4 ∨ k = 5 := by omega
      all_goals go_wp2_with (at_builtin; (refine wl_append_exBW rfl _ _ 22 rfl _ _ rfl rfl (HA.out _) ?_; rintro v' u' ⟨ho, hg⟩; have HO2 : Hid _ := ho; have HB2 : Hid (Below w.heap.size w u') := ((HB.out.alloc HB.out.size _).grown hg (by have := HB.out.size; simp; omega) HOB.out); clear ho hg HA HOB))
      all_goals exact ⟨⟨_, hlt, by go_num, HO2.out, HB2.out⟩, by simp [intOf]; omega⟩
    · obtain rfl : k = z := by omega
      have hcv := lb_conv n k hown
      go_wp2
      go_ret
      exact ⟨rfl, hbl⟩
end Go.Proofs.YtmmodmanfoipiaaDoor
