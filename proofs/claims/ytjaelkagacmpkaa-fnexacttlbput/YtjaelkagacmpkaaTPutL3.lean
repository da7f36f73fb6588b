import Derived.Test.YtjaelkagacmpkaaTPutL2
namespace Go.Proofs.Ytjaelkagacmpkaa
open Go.ChangeShapes Go.WideShapes Go.ChangeAt Go.RowKit

theorem tlbC_01 (zs : List TE) (nx : Int) : tlbC zs nx = 0 ∨ tlbC zs nx = 1 := by
  unfold tlbC
  split
  · exact .inl rfl
  · exact .inr rfl
theorem tlbC_zero {zs : List TE} {nx : Int} (h : tlbC zs nx = 0) : zs.length ≤ 16 ∧ 0 ≤ nx ∧ nx ≤ 15 := by
  unfold tlbC at h
  split at h
  · rename_i q
    exact ⟨q.1, q.2.1, q.2.2.1⟩
  · cases h
theorem putL_len (zs : List TE) (nx : Int) (e : TE) : (putL zs nx e).length ≤ zs.length + 1 := by
  unfold putL
  split
  · omega
  · split
    · simp
    · split
      · simp
      · simp
set_option maxRecDepth 100000 in
set_option maxHeartbeats 4000000 in
theorem walkTP {w : World} {v : Value} {zs : List TE} (h : TErow w v zs) (nx : Int) (e : TE) (hm : zs.length ≤ maxLen) : Calls Try.prog 6 #[tlA v nx, teA e] w fun r w' => r = .returned (.bool true) ∧ Below w.heap.size w w' := by
  by_cases hl : zs.length ≤ 1048576
  · rcases tlbC_01 zs nx with hc | hc
    · obtain ⟨q1, q2, q3⟩ := tlbC_zero hc
      have hp := putL_len zs nx e
      exact lawP h nx e (putL zs nx e) (putN zs nx e) hl (by omega) (fun U B a c ho => specPut_good ho nx e q1 hc q2 q3) (fun U B a c ho => implPut_good ho nx e q1 hc q2 q3)
    · refine lawP h nx e [] 0 hl (by simp) (fun U B a c ho => ?_) (fun U B a c ho => ?_)
      · exact (specPut_bad (TErow.of ho) nx e hl hc).mono fun r w' ⟨h1, h2⟩ => ⟨none, 0, h1, World.ownsRow_nil _ _ _ _, h2⟩
      · exact (implPut_bad (TErow.of ho) nx e hl hc).mono fun r w' ⟨h1, h2⟩ => ⟨none, 0, h1, World.ownsRow_nil _ _ _ _, h2⟩
  · have HT0 : Hid (TS w ((w.alloc (.cells #[v, .int .i64 nx] 51)).alloc (.cells #[.int .i64 e.asid, .int .i64 e.page, .int .i64 e.frame, .int .i64 e.flags, .bool e.large] 53)) v nx zs e []) := TS.new e h
    have HSZ := szTlb_any HT0.out.rw nx 1048576 (by decide) (by decide) hm
    rw [if_pos (by omega)] at HSZ
    have HZ : Hid _ := HSZ
    clear HSZ h hm hl
    unfold tlA at HZ ⊢
    unfold teA
    go_enter Try.func6, Try.ntmps6
    go_wp2_with (go_at_call 29; refine Calls.mono HZ.out ?_; rintro r9 u1 ⟨rfl, hu1⟩; have HU : Hid (TS w u1 v nx zs e []) := HT0.out.step hu1; clear hu1 HZ HT0)
    go_ret
    exact ⟨rfl, HU.out.bel⟩
end Go.Proofs.Ytjaelkagacmpkaa
