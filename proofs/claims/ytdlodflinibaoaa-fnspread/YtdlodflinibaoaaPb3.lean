import Derived.Test.YtdlodflinibaoaaPb2
import Derived.Test.YtdlodflinibaoaaSp2
namespace Go.Proofs.Ytdlodflinibaoaa
open Go.ChangeShapes Go.WideShapes Go.ChangeAt Go.RowKit

/-- The room of buffers. -/
def rmS : List BU → Int
  | [] => 0
  | z :: r => (if z.write = true then z.len else 0) + rmS r
theorem rmS_app (a b : List BU) : rmS (a ++ b) = rmS a + rmS b := by
  induction a with
  | nil => simp [rmS]
  | cons z r ih => simp [rmS, ih]; omega
theorem rmS_next (zs : List BU) (k : Nat) (hk : k < zs.length) : rmS (zs.take (k + 1)) = rmS (zs.take k) + (if zs[k].write = true then zs[k].len else 0) := by
  rw [List.take_succ_eq_append_getElem hk, rmS_app]
  simp [rmS]
theorem rmS_b (zs : List BU) (h : ∀ z ∈ zs, 0 ≤ z.len ∧ z.len ≤ 65536) : 0 ≤ rmS zs ∧ rmS zs ≤ 65536 * zs.length := by
  induction zs with
  | nil => simp [rmS]
  | cons z r ih =>
    obtain ⟨h1, h2⟩ := ih (fun x hx => h x (by simp [hx]))
    have h3 := h z (by simp)
    unfold rmS
    split <;> simp <;> omega
theorem rmS_tb (zs : List BU) (h : ∀ z ∈ zs, 0 ≤ z.len ∧ z.len ≤ 65536) (hl : zs.length ≤ 1000) (k : Nat) : 0 ≤ rmS (zs.take k) ∧ rmS (zs.take k) ≤ 65536000 := by
  have h1 := rmS_b (zs.take k) (fun z hz => h z (List.mem_of_mem_take hz))
  have h2 : (zs.take k).length ≤ 1000 := by rw [List.length_take]; omega
  omega
set_option maxRecDepth 100000 in
set_option maxHeartbeats 4000000 in
theorem bytesOf_any {w : World} {v : Value} {zs : List BU} (h : BUrow w v zs) (hz : ∀ z ∈ zs, 0 ≤ z.len ∧ z.len ≤ 65536) (hl : zs.length ≤ 1000) :
    Calls Try.prog 87 #[v, .bool true] w fun e w' => e = .returned (.int .i64 (rmS zs)) ∧ Below w.heap.size w w' := by
  obtain ⟨a1, c1, rfl⟩ := h.sl
  have HR : Hid (BUrow w (.slice a1 zs.length c1) zs) := h
  have HT : Hid _ := rmS_tb zs hz hl
  have HZ : Hid _ := hz
  clear h hz
  go_enter Try.func87, Try.ntmps87
  go_wp2_with fail
  go_loopw [5, 10] (fun x i wr => ∃ k : Nat, k ≤ zs.length ∧ x = .int .i64 (rmS (zs.take k)) ∧ i = .int .i64 k ∧ Below w.heap.size w wr) (fun _ i _ => zs.length - (intOf i).toNat)
  case atStart => exact ⟨0, Nat.zero_le _, rfl, rfl, Below.refl _ _⟩
  case round =>
    obtain ⟨k, hk, rfl, rfl, hb⟩ := hrel
    have HB : Hid _ := hb
    by_cases hlt : k < zs.length
    · obtain ⟨g, o, cap2, hv, _, hg, hc⟩ := HR.out.resolve_left (fun h => by rw [h.1] at hlt; simp at hlt)
      injection hv with hv1 hv2 hv3
      subst hv1 hv3
      obtain ⟨d0, d1, d2⟩ := hc.below hb hg k hlt
      have hlen := HZ.out zs[k] (List.getElem_mem hlt)
      have HN : Hid _ := rmS_next zs k hlt
      have htb := HT.out k
      clear hc hb
      generalize zs[k] = z at *
      generalize rmS (zs.take k) = R at *
      obtain ⟨zp, zl, zw⟩ := z
      simp only at d0 d1 d2 hlen
      have hk0 : (0 : Int) ≤ (k : Int) := by omega
      have hk1 : (k : Int) < (zs.length : Int) := by omega
      have hgw : g < wr.heap.size := Nat.lt_of_lt_of_le hg HB.out.size
      have HB3 : Hid (Below w.heap.size w (wr.alloc (.cells #[.int .i64 zp, .int .i64 zl, .bool zw] 53))) := HB.out.alloc HB.out.size _
      cases zw
      · have hN2 : Hid (rmS (zs.take (k + 1)) = R) := (HN.out.trans (by simp))
        clear HN
        go_wp2_with fail
        go_roundw
        case rel => exact ⟨k + 1, hlt, by rw [hN2.out], by go_num, HB3.out⟩
        case measure => simp [intOf]; omega
      · have hN2 : Hid (rmS (zs.take (k + 1)) = R + zl) := (HN.out.trans (by simp))
        clear HN
        go_wp2_with fail
        go_roundw
        case rel => exact ⟨k + 1, hlt, by rw [hN2.out], by go_num, HB3.out⟩
        case measure => simp [intOf]; omega
    · obtain rfl : k = zs.length := by omega
      have E : Hid (rmS (zs.take zs.length) = rmS zs) := (show rmS (zs.take zs.length) = rmS zs by rw [List.take_length])
      go_wp2_with fail
      go_ret
      exact ⟨ret_int E.out, HB.out⟩
end Go.Proofs.Ytdlodflinibaoaa
