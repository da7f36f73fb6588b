import Derived.Test.YtjaelkagacmpkaaTFlL2
namespace Go.Proofs.Ytjaelkagacmpkaa
open Go.ChangeShapes Go.WideShapes Go.ChangeAt Go.RowKit

theorem tlbC_01f (zs : List TE) (nx : Int) : tlbC zs nx = 0 ∨ tlbC zs nx = 1 := by
  unfold tlbC
  split
  · exact .inl rfl
  · exact .inr rfl
theorem tlbC_16 {zs : List TE} {nx : Int} (h : tlbC zs nx = 0) : zs.length ≤ 16 := by
  unfold tlbC at h
  split at h
  · rename_i q
    exact q.1
  · cases h
set_option maxRecDepth 100000 in
set_option maxHeartbeats 4000000 in
theorem walkTFl {w : World} {v : Value} {zs : List TE} (h : TErow w v zs) (nx asid va : Int) (hm : zs.length ≤ maxLen) : Calls Try.prog 7 #[tlA v nx, .int .i64 asid, .int .i64 va] w fun r w' => r = .returned (.bool true) ∧ Below w.heap.size w w' := by
  by_cases hl : zs.length ≤ 1048576
  · rcases tlbC_01f zs nx with hc | hc
    · have q1 := tlbC_16 hc
      exact lawF h nx asid va (zs.filter fun x => !flP asid va x) 0 hl (Nat.le_trans (List.length_filter_le _ _) hl) (fun U B a c ho => specFlush_good ho nx asid va q1 hc) (fun U B a c ho => implFlush_good ho nx asid va q1 hc)
    · refine lawF h nx asid va [] 0 hl (by simp) (fun U B a c ho => ?_) (fun U B a c ho => ?_)
      · exact (specFlush_bad (TErow.of ho) nx asid va hl hc).mono fun r w' ⟨h1, h2⟩ => ⟨none, 0, h1, World.ownsRow_nil _ _ _ _, h2⟩
      · exact (implFlush_bad (TErow.of ho) nx asid va hl hc).mono fun r w' ⟨h1, h2⟩ => ⟨none, 0, h1, World.ownsRow_nil _ _ _ _, h2⟩
  · have HT0 : Hid (TG w (w.alloc (.cells #[v, .int .i64 nx] 51)) v nx zs []) := TG.new h
    have HSZ := szTlb_any HT0.out.rw nx 1048576 (by decide) (by decide) hm
    rw [if_pos (by omega)] at HSZ
    have HZ : Hid _ := HSZ
    clear HSZ h hm hl
    unfold tlA at HZ ⊢
    go_enter Try.func7, Try.ntmps7
    go_wp2_with (go_at_call 29; refine Calls.mono HZ.out ?_; rintro r9 u1 ⟨rfl, hu1⟩; have HU : Hid (TG w u1 v nx zs []) := HT0.out.step hu1; clear hu1 HZ HT0)
    go_ret
    exact ⟨rfl, HU.out.bel⟩
end Go.Proofs.Ytjaelkagacmpkaa
