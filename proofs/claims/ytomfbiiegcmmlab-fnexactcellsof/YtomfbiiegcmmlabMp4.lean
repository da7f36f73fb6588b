import Derived.Test.YtomfbiiegcmmlabMp3
namespace Go.Proofs.Ytomfbiiegcmmlab
open Go.ChangeShapes Go.WideShapes Go.ChangeAt Go.RowKit

set_option maxRecDepth 100000
def bdB (h : MH) : Bool := decide (1 ≤ h.gs.length) && (decide (h.gs.length ≤ 8) && (tmB h.time && h.gs.all bgB))
theorem any_gs {w : World} {qs : List MG} {gs : List GS} (hi : MGin w qs gs) (p : MG → Bool) (q : GS → Bool) (h : ∀ k (hq : k < qs.length) (hc : k < gs.length), p qs[k] = !q gs[k]) : qs.any p = !gs.all q := by
  rw [List.not_all_eq_any_not, Bool.eq_iff_iff, List.any_eq_true, List.any_eq_true]
  constructor
  · rintro ⟨x, hx, hp⟩
    obtain ⟨k, hk, rfl⟩ := List.getElem_of_mem hx
    have hc : k < gs.length := by rw [← hi.len]; exact hk
    exact ⟨gs[k], List.getElem_mem hc, by rw [← h k hk hc]; exact hp⟩
  · rintro ⟨x, hx, hp⟩
    obtain ⟨k, hk, rfl⟩ := List.getElem_of_mem hx
    have hc : k < qs.length := by rw [hi.len]; exact hk
    exact ⟨qs[k], List.getElem_mem hc, by rw [h k hc hk]; exact hp⟩
theorem PH.cel {w u : World} {B : Nat} {h : MH} {a : HA} (x : PH w u B h a) : u.cell? ⟨B, 0, none⟩ = some (.int .i64 1) ∧ u.cell? ⟨B, 1, none⟩ = some a.vc ∧ u.cell? ⟨B, 2, none⟩ = some (.int .i64 2) ∧ u.cell? ⟨B, 3, none⟩ = some a.vp ∧ u.cell? ⟨B, 4, none⟩ = some a.vg ∧ u.cell? ⟨B, 5, none⟩ = some (.int .i64 h.time) := by
  have := x.box
  simp [World.cell?, this]
/-- The test of a guest, at the guest's own place. -/
def pgB (qs : List MG) (gs : List GS) (x : MG) : Bool := match x.s with | .slice _ n _ => !(decide (n ≤ 32) && drB x.d n) | _ => !(decide (qs.length ≤ gs.length) && true)
set_option maxHeartbeats 4000000 in
theorem contains_gs {w u : World} {h : MH} {a : HA} (hr : HRows w h a) (hl : HLen h) (hb : Below w.heap.size w u) : Calls Try.prog 104 #[a.vg, .func (.func 105) #[] #[]] u fun r w' => r = .returned (.bool (!h.gs.all bgB)) ∧ Below u.heap.size u w' := by
  have hm := hr.mg.below hb
  have hi := hr.gi.below hb
  have hq : ∀ k (hq : k < a.qs.length) (hc : k < h.gs.length), pgB a.qs h.gs a.qs[k] = !bgB h.gs[k] := fun k hq hc => by
    obtain ⟨q0, q2, _⟩ := hi.el k hq hc
    obtain ⟨az, ks, es⟩ := q2.sl
    unfold pgB bgB
    rw [es, q0]
  have := containsMG_any hm (by rw [hi.len]; exact hl.g) 105 #[] (pgB a.qs h.gs) (fun xs w' => by kernel_rfl) (fun x hx w' hb' => by
    obtain ⟨k, hk, rfl⟩ := List.getElem_of_mem hx
    have hc : k < h.gs.length := by rw [← hi.len]; exact hk
    rw [hq k hk hc]
    obtain ⟨q0, q2, q3⟩ := hi.el k hk hc
    obtain ⟨az, ks, es⟩ := q2.sl
    obtain ⟨ah, kh, eh⟩ := q3.sl
    rw [es, eh, q0]
    exact bounded1_any (hl.s k hc))
  rw [any_gs hi _ bgB hq] at this
  exact this
set_option maxHeartbeats 4000000 in
theorem bounded_any {w u : World} {B : Nat} {h : MH} {a : HA} (x : PH w u B h a) (hl : HLen h) : Calls Try.prog 71 #[.pointer (some ⟨B, 0, none⟩)] u fun e w' => e = .returned (.bool (bdB h)) ∧ Below u.heap.size u w' := by
  obtain ⟨ac, kc, ec⟩ := x.row.mg.sl
  rw [x.row.gi.len] at ec
  have HC : Hid _ := contains_gs x.row hl x.bel
  obtain ⟨c0, c1, c2, c3, c4, c5⟩ := x.cel
  have hlt := x.lt
  have HT : Hid _ := isTime_any h.time u
  rw [ec] at HC c4
  clear x ec c0 c1 c2 c3
  unfold bdB
  by_cases t1 : (h.gs.length : Int) < 1
  · rw [decide_eq_false (show ¬ 1 ≤ h.gs.length by omega), Bool.false_and]
    go_enter Try.func71, Try.ntmps71
    go_wp2
    go_ret
    exact ⟨rfl, Below.refl _ _⟩
  rw [decide_eq_true (show 1 ≤ h.gs.length by omega), Bool.true_and]
  by_cases t2 : (8 : Int) < (h.gs.length : Int)
  · rw [decide_eq_false (show ¬ h.gs.length ≤ 8 by omega), Bool.false_and]
    go_enter Try.func71, Try.ntmps71
    go_wp2
    go_ret
    exact ⟨rfl, Below.refl _ _⟩
  rw [decide_eq_true (show h.gs.length ≤ 8 by omega), Bool.true_and]
  generalize h.gs.all bgB = b at *
  cases t3 : tmB h.time
  · rw [t3] at HT
    rw [Bool.false_and]
    go_enter Try.func71, Try.ntmps71
    go_wp2_with (go_at_call 103; refine Calls.mono HT.out ?_; rintro e u1 ⟨rfl, hu⟩; rw [hu]; clear hu)
    go_ret
    exact ⟨rfl, Below.refl _ _⟩
  · rw [t3] at HT
    rw [Bool.true_and]
    go_enter Try.func71, Try.ntmps71
    go_wp2_with (first | (go_at_call 103; refine Calls.mono HT.out ?_; rintro e u1 ⟨rfl, hu⟩; rw [hu]; clear hu) | (go_at_call 104; refine Calls.mono HC.out ?_; rintro e u2 ⟨rfl, hu⟩; have HU : Hid (Below u.heap.size u u2) := hu; clear hu))
    go_ret
    exact ⟨by simp, HU.out⟩
end Go.Proofs.Ytomfbiiegcmmlab
