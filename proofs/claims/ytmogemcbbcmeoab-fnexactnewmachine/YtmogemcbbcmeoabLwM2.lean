import Derived.Test.YtmogemcbbcmeoabLwM0
namespace Go.Proofs.Ytmogemcbbcmeoab
open Go.ChangeShapes Go.WideShapes Go.ChangeAt Go.RowKit

set_option maxRecDepth 100000 in
set_option maxHeartbeats 4000000 in
theorem markMac_ok {w : World} {lo : Nat} (md : Int) (mem : ByteArray) {vr vc vv : Value} {rs cs vs : List Int} (h : R3 w lo vr vc vv rs cs vs) (hlo1 : rs.length ≤ 100) (hlo2 : cs.length ≤ 100) (hlo3 : vs.length ≤ 100) :
    Calls Try.prog 25 #[macA md mem vr vc vv, .int .i64 1] w fun e u => e = .returned (.int .i64 (1 + (rs.length : Int) + (cs.length : Int) + (vs.length : Int))) ∧ R3 u lo vr vc vv (mkK 1 rs.length) (mkK (1 + (rs.length : Int)) cs.length) (mkK (1 + (rs.length : Int) + (cs.length : Int)) vs.length) ∧ Gr3 w u vr vc vv := by
  obtain ⟨a1, k1, rfl⟩ := own_sl2 h.o1
  obtain ⟨a2, k2, rfl⟩ := own_sl2 h.o2
  obtain ⟨a3, k3, rfl⟩ := own_sl2 h.o3
  have H0 : Hid _ := MK.new (md := md) (mem := mem) h
  clear h
  unfold macA
  go_enter Try.func25, Try.ntmps25
  go_wp2_with (first | (go_at_call 60; have hA := markK_ok2 (1) (by omega) (by omega) H0.out.r.o1 hlo1; refine Calls.mono hA ?_; clear hA; rintro e q0 ⟨rfl, ho, hq⟩; have hB := H0.out.m1 (zs := mkK 1 rs.length) hq ho; obtain ⟨c0, c1, c2, c3, c4, c5, c6, c7, c8, c9, c10, c11, cf⟩ := cel12 hB.x1; have H1 : Hid _ := hB; clear hB hq ho H0) | (go_at_call 60; have hA := markK_ok2 (1 + (rs.length : Int)) (by omega) (by omega) H1.out.r.o2 hlo2; refine Calls.mono hA ?_; clear hA; rintro e q1 ⟨rfl, ho, hq⟩; have hB := H1.out.m2 (zs := mkK (1 + (rs.length : Int)) cs.length) hq ho; clear c0 c1 c2 c3 c4 c5 c6 c7 c8 c9 c10 c11 cf; obtain ⟨c0, c1, c2, c3, c4, c5, c6, c7, c8, c9, c10, c11, cf⟩ := cel12 hB.x1; have H2 : Hid _ := hB; clear hB hq ho H1) | (go_at_call 60; have hA := markK_ok2 (1 + (rs.length : Int) + (cs.length : Int)) (by omega) (by omega) H2.out.r.o3 hlo3; refine Calls.mono hA ?_; clear hA; rintro e q2 ⟨rfl, ho, hq⟩; have hB := H2.out.m3 (zs := mkK (1 + (rs.length : Int) + (cs.length : Int)) vs.length) hq ho; clear c0 c1 c2 c3 c4 c5 c6 c7 c8 c9 c10 c11 cf; obtain ⟨c0, c1, c2, c3, c4, c5, c6, c7, c8, c9, c10, c11, cf⟩ := cel12 hB.x1; have H3 : Hid _ := hB; clear hB hq ho H2) | (go_at_call 61; refine (markP_nil _ _).mono ?_; rintro e p1 ⟨rfl, hp⟩; rw [hp]; clear hp p1))
  go_ret
  exact ⟨rfl, H3.out.r, H3.out.gr⟩
end Go.Proofs.Ytmogemcbbcmeoab
