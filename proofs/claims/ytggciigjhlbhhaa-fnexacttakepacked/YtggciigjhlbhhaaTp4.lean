import Derived.Test.YtggciigjhlbhhaaTp3
import Derived.Test.YtggciigjhlbhhaaGp1
namespace Go.Proofs.Ytggciigjhlbhhaa
open Go.ChangeShapes Go.WideShapes Go.ChangeAt Go.RowKit

/-- Code, id and buffers of what TakePacked answers. -/
def tpT (s : ByteArray) (p : PV) : Int × Int × List BU := if 65536 < s.size then (2, 0, []) else if pOk s p = true then tpR s p.ring.toNat p.size.toNat p.pos.toNat p.wrap else (1, 0, [])
/-- What both sides answer. -/
def AnsP (f : Nat) (s : ByteArray) (p : PV) (t : Int × Int × List BU) : Prop := ∀ w : World, Calls Try.prog f #[.string s, pA p] w fun e w' => ∃ v, e = .returned (tkA t.1 t.2.1 (t.2.2.length : Nat) v) ∧ w'.ownsRow w.heap.size 60 3 v t.2.2.length (buR t.2.2) ∧ Below w.heap.size w w'
set_option maxRecDepth 100000 in
set_option maxHeartbeats 4000000 in
theorem implTP_code (s : ByteArray) (p : PV) (C : Int) (hs : s.size ≤ 1048576) (hc : pkC s p = C) (hn : (C != 0) = true) : AnsP 12 s p (C, 0, []) := by
  intro w
  have HC : Hid _ := fun u => packedCode_any s p u hs
  rw [hc] at HC
  clear hc hs
  obtain ⟨sz, rg, ps, wr⟩ := p
  unfold pA at HC ⊢
  simp only
  go_enter Try.func12, Try.ntmps12
  go_wp2_with (go_at_call 32; refine Calls.mono (HC.out _) ?_; rintro e u1 ⟨rfl, hu1⟩; have HX1 : Hid _ := TwoBx.of _ _ _ _ _ hu1; clear hu1; have g0 := HX1.out.c2 0 _ rfl; have g1 := HX1.out.c2 1 _ rfl; have g2 := HX1.out.c2 2 _ rfl; have g3 := HX1.out.c2 3 _ rfl; have gf := fun k => HX1.out.f2 k)
  refine bodyPost_ret (v := .agg #[.int .i64 C, .int .i64 0, .int .i64 0, .slice none 0 0]) ?_ rfl ⟨.slice none 0 0, rfl, World.ownsRow_nil _ _ _ _, ?_⟩
  · simp [results, Try.results12, go_sem, g0, g1, g2, g3]
  · exact (((HX1.out.bel.setCell (by simp) _).setCell (by simp) _).setCell (by simp) _).setCell (by simp) _
set_option maxRecDepth 100000 in
set_option maxHeartbeats 4000000 in
theorem implTP_good (s : ByteArray) (S R P : Nat) (W : Bool) (hp : pOk s ⟨S, R, P, W⟩ = true) : AnsP 12 s ⟨S, R, P, W⟩ (tpR s R S P W) := by
  intro w
  obtain ⟨hm, b1, b2, b3, b4, b5, b6, b7⟩ := pOk_b hp
  simp only at b1 b2 b3 b4 b5 b6 b7
  obtain ⟨m1, m2, m3⟩ := memOk_b hm
  obtain ⟨n, hN⟩ : ∃ n, s.size = n * 256 := ⟨s.size / 256, by omega⟩
  have hn256 : n ≤ 256 := by omega
  have hc : pkC s ⟨S, R, P, W⟩ = 0 := by
    unfold pkC
    rw [if_neg (show ¬ 65536 < s.size by omega)]
    exact pF_ok hp
  have HC : Hid _ := fun u => packedCode_any s ⟨S, R, P, W⟩ u (by omega)
  rw [hc] at HC
  have HR : Hid _ := fun u => readMemory_any s n u hN hn256
  have HT : Hid _ := fun (u : World) (mb : Nat) (h : MemAt u mb s) => takeP_any S R P W h hN m2 (by omega) (by omega) (by omega) (by omega) (by omega)
  generalize tpR s R S P W = TT at *
  obtain ⟨tc, ti, tz⟩ := TT
  clear hp hm b1 b2 b3 b4 b5 b6 b7 m1 m2 m3 hN hn256 hc
  unfold pA at HC HT ⊢
  unfold mv at HR HT
  unfold tkA at HT
  simp only at HC HT ⊢
  go_enter Try.func12, Try.ntmps12
  go_wp2_with (go_at_call 32; refine Calls.mono (HC.out _) ?_; rintro e y1 ⟨rfl, hu1⟩; have HX1 : Hid _ := TwoBx.of _ _ _ _ _ hu1; clear hu1)
  have k0 := HX1.out.c1 0 _ rfl
  have k1 := HX1.out.c1 1 _ rfl
  have k2 := HX1.out.c1 2 _ rfl
  have k3 := HX1.out.c1 3 _ rfl
  go_region_held3 (fun w' => w'.cell? ⟨w.heap.size, 0, none⟩ = some (.int .i64 S) ∧ w'.cell? ⟨w.heap.size, 1, none⟩ = some (.int .i64 R) ∧ w'.cell? ⟨w.heap.size, 2, none⟩ = some (.int .i64 P) ∧ w'.cell? ⟨w.heap.size, 3, none⟩ = some (.bool W)) (go_keep) ((first
    | (go_at_call 26; refine Calls.mono (HR.out _) ?_; rintro e y2 ⟨rfl, hM, hu, _⟩; have hb : Below y1.heap.size y1 y2 := ⟨hu.os, hu.tape, hu.output, hu.size, hu.block⟩; have HX2 : Hid _ := HX1.out.step hb; have HM2 : Hid (MemAt y2 y1.heap.size s) := hM; clear hu hb hM k0 k1 k2 k3; have k0 := HX2.out.c1 0 _ rfl; have k1 := HX2.out.c1 1 _ rfl; have k2 := HX2.out.c1 2 _ rfl; have k3 := HX2.out.c1 3 _ rfl)
    | (go_at_call 33; refine Calls.mono (HT.out _ _ HM2.out) ?_; rintro e y3 ⟨v, rfl, ho, hu⟩; obtain ⟨ao, cap, rfl⟩ := bu_sl ho; have HX3 : Hid _ := HX2.out.step hu; have HO3 : Hid (y3.ownsRow y2.heap.size 60 3 (.slice ao tz.length cap) tz.length (buR tz)) := ho; clear ho hu k0 k1 k2 k3; have k0 := HX3.out.c1 0 _ rfl; have k1 := HX3.out.c1 1 _ rfl; have k2 := HX3.out.c1 2 _ rfl; have k3 := HX3.out.c1 3 _ rfl; have r0 := HX3.out.c2 0 _ rfl; have r1 := HX3.out.c2 1 _ rfl; have r2 := HX3.out.c2 2 _ rfl; have r3 := HX3.out.c2 3 _ rfl; have rf := fun k => HX3.out.f2 k; have glt := HX3.out.lt)))
  have l2 := HX2.out.lt
  have hnb : (Value.slice ao tz.length cap).ownBlock ≠ some (w.heap.size + 1) := fun e => by have h1 := (HO3.out.lt _ e).1; omega
  all_goals
    go_wp2_with fail
    refine bodyPost_ret (v := .agg #[.int .i64 tc, .int .i64 ti, .int .i64 (tz.length : Nat), .slice ao tz.length cap]) ?_ rfl ⟨.slice ao tz.length cap, rfl, ?_, ?_⟩
    · simp [results, Try.results12, go_sem, r0, r1, r2, r3]
    · exact own_set (own_set (own_set (own_set (bu_weak HO3.out (by omega)) hnb) hnb) hnb) hnb
    · exact (((HX3.out.bel.setCell (by simp) _).setCell (by simp) _).setCell (by simp) _).setCell (by simp) _
theorem implTP_any (s : ByteArray) (p : PV) (hs : s.size ≤ 1048576) : AnsP 12 s p (tpT s p) := by
  unfold tpT
  by_cases h : 65536 < s.size
  · rw [if_pos h]
    exact implTP_code s p 2 hs (by unfold pkC; rw [if_pos h]) (by decide)
  rw [if_neg h]
  cases hp : pOk s p
  · exact implTP_code s p 1 hs (by unfold pkC; rw [if_neg h, pF_no hp]) (by decide)
  · obtain ⟨sz, rg, ps, wr⟩ := p
    obtain ⟨_, b1, _, b3, _, _, b6, _⟩ := pOk_b hp
    simp only at b1 b3 b6
    obtain ⟨S, rfl⟩ := Int.eq_ofNat_of_zero_le (show 0 ≤ sz by omega)
    obtain ⟨R, rfl⟩ := Int.eq_ofNat_of_zero_le b6
    obtain ⟨P, rfl⟩ := Int.eq_ofNat_of_zero_le b3
    exact implTP_good s S R P wr hp
end Go.Proofs.Ytggciigjhlbhhaa
