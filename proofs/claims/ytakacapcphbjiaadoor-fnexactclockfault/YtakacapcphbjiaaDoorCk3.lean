import Derived.Test.YtakacapcphbjiaaDoorCk2
namespace Go.Proofs.YtakacapcphbjiaaDoor
open Go.ChangeShapes Go.WideShapes Go.ChangeAt Go.RowKit

/-- The fault of a clock, as a number. -/
def fcB (c : CK) : Int := if ckB c = true then 0 else 1
set_option maxRecDepth 100000 in
set_option maxHeartbeats 8000000 in
theorem implClockFault_any {w : World} {a : Nat → Addr} {c : CK} {v : Value} (hE : E5 w a) (hr : TMrow w v c.ts) (hl : c.ts.length ≤ 1048576) : Calls Tryd.prog 9 #[ckA c v] w fun e w' => e = .returned (.int .i64 (fcB c)) ∧ Below w.heap.size w w' := by
  have HA : Hid (∀ o, E5 (w.alloc o) a) := fun o => hE.step (bx1 _ _)
  have HF : Hid (Calls Tryd.prog 28 #[.pointer (some ⟨w.heap.size, 0, none⟩)] (w.alloc (.cells #[.int .i64 c.host, .int .i64 c.guest, .int .i64 c.num, .int .i64 c.den, .int .i64 c.part, .bool c.frz, v] 29)) fun e w' => ∃ r, e = .returned r ∧ Faulty a w' (ckB c) r ∧ Below (w.alloc (.cells #[.int .i64 c.host, .int .i64 c.guest, .int .i64 c.num, .int .i64 c.den, .int .i64 c.part, .bool c.frz, v] 29)).heap.size (w.alloc (.cells #[.int .i64 c.host, .int .i64 c.guest, .int .i64 c.num, .int .i64 c.den, .int .i64 c.part, .bool c.frz, v] 29)) w') := clockFault_any (HA.out _) (heap_new _ _) (hr.below (bx1 _ _)) hl
  have HB : Hid (Below w.heap.size w (w.alloc (.cells #[.int .i64 c.host, .int .i64 c.guest, .int .i64 c.num, .int .i64 c.den, .int .i64 c.part, .bool c.frz, v] 29))) := bx1 _ _
  have HE : Hid (E5 (w.alloc (.cells #[.int .i64 c.host, .int .i64 c.guest, .int .i64 c.num, .int .i64 c.den, .int .i64 c.part, .bool c.frz, v] 29)) a) := HA.out _
  clear HA
  unfold ckA
  go_enter Tryd.func9, Tryd.ntmps9
  go_wp2_with fail
  refine Calls.mono HF.out ?_
  generalize (w.alloc (.cells #[.int .i64 c.host, .int .i64 c.guest, .int .i64 c.num, .int .i64 c.den, .int .i64 c.part, .bool c.frz, v] 29)) = u0 at *
  rintro e u1 ⟨r, rfl, hf, hb⟩
  have HE1 : Hid (E5 u1 a) := HE.out.step hb
  have HB1 : Hid (Below w.heap.size w u1) := HB.out.trans (hb.mono HB.out.size)
  clear hb HE HB HF hr hl hE
  rcases hf with ⟨h1, rfl⟩ | ⟨h1, rfl | ⟨pb, rfl, hpb⟩⟩
  · have H1 : Hid (ckB c = _) := h1
    clear h1
    have HC : Hid _ := codeOf_nil HE1.out
    go_wp2_with fail
    refine Calls.mono HC.out ?_
    rintro e u2 ⟨rfl, hu2⟩
    rw [hu2]
    clear hu2
    go_wp2_with fail
    go_ret
    exact ⟨ret_int (by unfold fcB; rw [H1.out]; rfl), HB1.out⟩
  · have H1 : Hid (ckB c = _) := h1
    clear h1
    have HC : Hid _ := codeOf_wrong HE1.out
    unfold eV at HC ⊢
    go_wp2_with fail
    refine Calls.mono HC.out ?_
    rintro e u2 ⟨rfl, hu2⟩
    rw [hu2]
    clear hu2
    go_wp2_with fail
    go_ret
    exact ⟨ret_int (by unfold fcB; rw [H1.out]; rfl), HB1.out⟩
  · have H1 : Hid (ckB c = _) := h1
    clear h1
    have HC : Hid _ := codeOf_wrap HE1.out pb hpb
    unfold rV at HC ⊢
    clear hpb
    go_wp2_with fail
    refine Calls.mono HC.out ?_
    rintro e u2 ⟨rfl, hu2⟩
    rw [hu2]
    clear hu2
    go_wp2_with fail
    go_ret
    exact ⟨ret_int (by unfold fcB; rw [H1.out]; rfl), HB1.out⟩
end Go.Proofs.YtakacapcphbjiaaDoor
