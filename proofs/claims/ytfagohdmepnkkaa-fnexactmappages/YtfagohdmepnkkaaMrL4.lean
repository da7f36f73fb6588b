import Derived.Test.YtfagohdmepnkkaaMrL3
import Derived.Test.YtfagohdmepnkkaaIMap8
namespace Go.Proofs.Ytfagohdmepnkkaa
open Go.ChangeShapes Go.WideShapes Go.ChangeAt Go.RowKit

theorem mapV_len (mem : ByteArray) (root : Nat) (m : PM) (free : List Int) : (mapV mem root m free).free.length ≤ free.length := by
  unfold mapV
  by_cases h1 : pmOk m = false
  · rw [if_pos h1]
    exact Nat.le_refl _
  rw [if_neg h1]
  by_cases h2 : m.large = true
  · rw [if_pos h2]
    split <;> exact Nat.le_refl _
  rw [if_neg h2]
  by_cases h3 : wv mem (atM root m) % 2 = 1
  · rw [if_pos h3]
    split
    · exact Nat.le_refl _
    · split
      · exact Nat.le_refl _
      · rw [(secV_is _ _ _ _).2.2]
        exact Nat.le_refl _
  · rw [if_neg h3]
    cases free with
    | nil => exact Nat.le_refl _
    | cons f fr =>
      simp only
      rw [(secV_is _ _ _ _).2.2]
      simp
theorem mst_len (mem : ByteArray) (root : Nat) (ms : List PM) (free : List Int) : ∀ k, (mst mem root ms free k).free.length ≤ free.length
  | 0 => Nat.le_refl _
  | k + 1 => by
    unfold mst
    split
    · exact Nat.le_trans (mapV_len _ _ _ _) (mst_len mem root ms free k)
    · exact mst_len mem root ms free k
theorem ansC {F : Nat} {mem : ByteArray} {root : Int} {ms : List PM} {zs : List Int} {c : Int} (h : ∀ (U : World) (a2 a3 : Option Addr) (c2 c3 : Nat), PMrow U (.slice a2 ms.length c2) ms → Irow U (.slice a3 zs.length c3) zs → CodeA F mem root (.slice a2 ms.length c2) (.slice a3 zs.length c3) c U) : AnsM F mem root ms zs c 0 ⟨#[]⟩ [] := by
  intro U a2 a3 c2 c3 h1 h2
  refine (h U a2 a3 c2 c3 h1 h2).mono ?_
  rintro e w' ⟨rfl, hb⟩
  exact ⟨none, 0, rfl, .inl ⟨rfl, _, _, rfl⟩, hb⟩
theorem ans0 {F : Nat} {mem : ByteArray} {root : Int} {ms : List PM} {zs : List Int} {R : MR} {at_ : Int} (h : ∀ (U : World) (a2 a3 : Option Addr) (c2 c3 : Nat), PMrow U (.slice a2 ms.length c2) ms → Irow U (.slice a3 zs.length c3) zs → Calls Try.prog F #[.string mem, .int .i64 root, .slice a2 ms.length c2, .slice a3 zs.length c3] U fun e w' => Below U.heap.size U w' ∧ ((R.c = 0 ∧ ∃ v, e = .returned (resA 0 0 R.mem v) ∧ Orow w' U.heap.size v R.free) ∨ (¬ R.c = 0 ∧ e = .returned (resA R.c at_ ⟨#[]⟩ (.slice none 0 0))))) (hc : R.c = 0) : AnsM F mem root ms zs 0 0 R.mem R.free := by
  intro U a2 a3 c2 c3 h1 h2
  refine (h U a2 a3 c2 c3 h1 h2).mono ?_
  rintro e w' ⟨hb, ⟨_, v, rfl, ho⟩ | ⟨hn, _⟩⟩
  · obtain ⟨ao, cap, rfl⟩ := ho.irow.sl
    exact ⟨ao, cap, rfl, ho, hb⟩
  · exact absurd hc hn
theorem ans1 {F : Nat} {mem : ByteArray} {root : Int} {ms : List PM} {zs : List Int} {R : MR} {at_ : Int} (h : ∀ (U : World) (a2 a3 : Option Addr) (c2 c3 : Nat), PMrow U (.slice a2 ms.length c2) ms → Irow U (.slice a3 zs.length c3) zs → Calls Try.prog F #[.string mem, .int .i64 root, .slice a2 ms.length c2, .slice a3 zs.length c3] U fun e w' => Below U.heap.size U w' ∧ ((R.c = 0 ∧ ∃ v, e = .returned (resA 0 0 R.mem v) ∧ Orow w' U.heap.size v R.free) ∨ (¬ R.c = 0 ∧ e = .returned (resA R.c at_ ⟨#[]⟩ (.slice none 0 0))))) (hc : ¬ R.c = 0) : AnsM F mem root ms zs R.c at_ ⟨#[]⟩ [] := by
  intro U a2 a3 c2 c3 h1 h2
  refine (h U a2 a3 c2 c3 h1 h2).mono ?_
  rintro e w' ⟨hb, ⟨h0, _⟩ | ⟨_, rfl⟩⟩
  · exact absurd h0 hc
  · exact ⟨none, 0, rfl, .inl ⟨rfl, _, _, rfl⟩, hb⟩
set_option maxRecDepth 100000 in
set_option maxHeartbeats 4000000 in
theorem walkMap {w : World} {mv0 fv : Value} {ms : List PM} {zs : List Int} (mem : ByteArray) (root : Int) (hM : PMrow w mv0 ms) (hF : Irow w fv zs) (l1 : ms.length ≤ maxLen) (hfl : ∀ m ∈ ms, -9223372036854775808 ≤ m.flags ∧ m.flags ≤ 9223372036854775807) :
    Calls Try.prog 4 #[.string mem, .int .i64 root, mv0, fv] w fun r w' => r = .returned (.bool true) ∧ Below w.heap.size w w' := by
  by_cases h1 : 1048576 < mem.size
  · obtain ⟨am, cm, rfl⟩ := hM.sl
    obtain ⟨af, cf, rfl⟩ := hF.sl
    have hd : 1048576 < (mem.size : Int) := by omega
    clear hM hF hfl h1 l1
    go_enter Try.func4, Try.ntmps4
    go_wp2_with fail
    go_ret
    exact ⟨rfl, Below.refl _ _⟩
  by_cases h2 : 1048576 < zs.length
  · obtain ⟨am, cm, rfl⟩ := hM.sl
    obtain ⟨af, cf, rfl⟩ := hF.sl
    have hd : ¬ 1048576 < (mem.size : Int) := by omega
    have hd2 : 1048576 < (zs.length : Int) := by omega
    clear hM hF hfl h1 h2 l1
    go_enter Try.func4, Try.ntmps4
    go_wp2_with fail
    go_ret
    exact ⟨rfl, Below.refl _ _⟩
  by_cases h3 : 1048576 < ms.length
  · obtain ⟨am, cm, rfl⟩ := hM.sl
    obtain ⟨af, cf, rfl⟩ := hF.sl
    have hd : ¬ 1048576 < (mem.size : Int) := by omega
    have hd2 : ¬ 1048576 < (zs.length : Int) := by omega
    have HZ := fun u : World => szPMS_any am ms.length cm 1048576 u (by decide) (by decide) l1
    rw [if_pos (by omega)] at HZ
    have HSZ : Hid _ := HZ
    clear HZ hM hF hfl h1 h2 l1
    go_enter Try.func4, Try.ntmps4
    go_wp2_with (go_at_call 11; refine Calls.mono (HSZ.out _) ?_; rintro r9 u0 ⟨rfl, hu0⟩; subst u0)
    go_ret
    exact ⟨rfl, Below.refl _ _⟩
  have m1 : mem.size ≤ 1048576 := by omega
  have m2 : zs.length ≤ 1048576 := by omega
  have m3 : ms.length ≤ 1048576 := by omega
  by_cases hz : 65536 < mem.size ∨ 1000 < ms.length ∨ 1000 < zs.length
  · exact lawM mem root hM hF 2 0 ⟨#[]⟩ [] m1 m3 m2 (by decide) (ansC fun U a2 a3 c2 c3 _ _ => specMaps_size mem root hz) (ansC fun U a2 a3 c2 c3 _ _ => implMaps_size mem root hz)
  have z1 : mem.size ≤ 65536 := by omega
  have z2 : ms.length ≤ 1000 := by omega
  have z3 : zs.length ≤ 1000 := by omega
  by_cases hm : memOk mem = true
  · by_cases hr : 0 ≤ root ∧ root * 256 + 256 ≤ (mem.size : Int)
    · by_cases hf : inF mem zs
      · obtain ⟨rt, rfl⟩ := Int.eq_ofNat_of_zero_le hr.1
        have hr2 : rt * 256 + 256 ≤ mem.size := by have := hr.2; omega
        have HS := fun (U : World) (a2 a3 : Option Addr) (c2 c3 : Nat) (h1 : PMrow U (.slice a2 ms.length c2) ms) (h2 : Irow U (.slice a3 zs.length c3) zs) => specMaps_good mem rt h1 h2 hm hr2 hf z2 z3
        have HI := fun (U : World) (a2 a3 : Option Addr) (c2 c3 : Nat) (h1 : PMrow U (.slice a2 ms.length c2) ms) (h2 : Irow U (.slice a3 zs.length c3) zs) => implMaps_good mem rt h1 h2 hm hr2 hf z2 z3 hfl
        have hln := mst_len mem rt ms zs ms.length
        by_cases hc : (mst mem rt ms zs ms.length).c = 0
        · exact lawM mem rt hM hF 0 0 _ _ m1 m3 m2 (by omega) (ans0 HS hc) (ans0 HI hc)
        · exact lawM mem rt hM hF _ _ ⟨#[]⟩ [] m1 m3 m2 (by decide) (ans1 HS hc) (ans1 HI hc)
      · exact lawM mem root hM hF 1 0 ⟨#[]⟩ [] m1 m3 m2 (by decide) (ansC fun U a2 a3 c2 c3 _ h2 => specMaps_free mem root hm hr.1 hr.2 z2 h2 z3 hf) (ansC fun U a2 a3 c2 c3 _ h2 => implMaps_free mem root hm hr.1 hr.2 z2 h2 z3 hf)
    · exact lawM mem root hM hF 1 0 ⟨#[]⟩ [] m1 m3 m2 (by decide) (ansC fun U a2 a3 c2 c3 _ _ => specMaps_form mem root z1 z2 z3 (fun q => hr q.2)) (ansC fun U a2 a3 c2 c3 _ h2 => implMaps_root mem root hm z2 h2 z3 hr)
  · exact lawM mem root hM hF 1 0 ⟨#[]⟩ [] m1 m3 m2 (by decide) (ansC fun U a2 a3 c2 c3 _ _ => specMaps_form mem root z1 z2 z3 (fun q => hm q.1)) (ansC fun U a2 a3 c2 c3 _ _ => implMaps_mem mem root z1 z2 z3 (by simpa using hm))
end Go.Proofs.Ytfagohdmepnkkaa
