import Derived.Test.YtmogemcbbcmeoabLwM0
namespace Go.Proofs.Ytmogemcbbcmeoab
open Go.ChangeShapes Go.WideShapes Go.ChangeAt Go.RowKit

set_option maxRecDepth 100000 in
set_option maxHeartbeats 4000000 in
theorem eqMac_ok {w : World} {lo lo' : Nat} (md : Int) (mem : ByteArray) {vr vc vv ur uc uv : Value} {rs cs vs : List Int} (h : R3 w lo vr vc vv rs cs vs) (h' : R3 w lo' ur uc uv rs cs vs) (hlo1 : rs.length ≤ 100) (hlo2 : cs.length ≤ 100) (hlo3 : vs.length ≤ 100) :
    Calls Try.prog 24 #[macA md mem vr vc vv, macA md mem ur uc uv] w fun e w' => e = .returned (.bool true) ∧ Below w.heap.size w w' := by
  obtain ⟨a1, k1, rfl⟩ := own_sl2 h.o1
  obtain ⟨a2, k2, rfl⟩ := own_sl2 h.o2
  obtain ⟨a3, k3, rfl⟩ := own_sl2 h.o3
  obtain ⟨b1, j1, rfl⟩ := own_sl2 h'.o1
  obtain ⟨b2, j2, rfl⟩ := own_sl2 h'.o2
  obtain ⟨b3, j3, rfl⟩ := own_sl2 h'.o3
  have H0 : Hid _ := EQ.new (md := md) (mem := mem) h h'
  clear h h'
  unfold macA
  go_enter Try.func24, Try.ntmps24
  go_wp2_with (first | (go_at_call 58; refine Calls.mono (eqI_ok H0.out.r1.o1 H0.out.r2.o1 hlo1) ?_; rintro e q0 ⟨rfl, hq⟩; have H1 : Hid _ := H0.out.step hq; obtain ⟨c0, c1, c2, c3, c4, c5, c6, c7, c8, c9, c10, c11, cf⟩ := cel12 H1.out.x1; obtain ⟨d0, d1, d2, d3, d4, d5, d6, d7, d8, d9, d10, d11, df⟩ := cel12 H1.out.x2; clear hq H0) | (go_at_call 58; refine Calls.mono (eqI_ok H1.out.r1.o2 H1.out.r2.o2 hlo2) ?_; rintro e q1 ⟨rfl, hq⟩; have H2 : Hid _ := H1.out.step hq; clear c0 c1 c2 c3 c4 c5 c6 c7 c8 c9 c10 c11 cf d0 d1 d2 d3 d4 d5 d6 d7 d8 d9 d10 d11 df; obtain ⟨c0, c1, c2, c3, c4, c5, c6, c7, c8, c9, c10, c11, cf⟩ := cel12 H2.out.x1; obtain ⟨d0, d1, d2, d3, d4, d5, d6, d7, d8, d9, d10, d11, df⟩ := cel12 H2.out.x2; clear hq H1) | (go_at_call 58; refine Calls.mono (eqI_ok H2.out.r1.o3 H2.out.r2.o3 hlo3) ?_; rintro e q2 ⟨rfl, hq⟩; have H3 : Hid _ := H2.out.step hq; clear c0 c1 c2 c3 c4 c5 c6 c7 c8 c9 c10 c11 cf d0 d1 d2 d3 d4 d5 d6 d7 d8 d9 d10 d11 df; obtain ⟨c0, c1, c2, c3, c4, c5, c6, c7, c8, c9, c10, c11, cf⟩ := cel12 H3.out.x1; obtain ⟨d0, d1, d2, d3, d4, d5, d6, d7, d8, d9, d10, d11, df⟩ := cel12 H3.out.x2; clear hq H2) | (go_at_call 59; refine (eqP_nil _).mono ?_; rintro e p1 ⟨rfl, hp⟩; rw [hp]; clear hp p1))
  go_ret
  exact ⟨rfl, H3.out.bel⟩
end Go.Proofs.Ytmogemcbbcmeoab
