import Derived.Test.YthhbfghbpapklabRv2
import Derived.Test.YthhbfghbpapklabSp2
import Derived.Test.YthhbfghbpapklabGCx
import Derived.Handy
namespace Go.Proofs.Ythhbfghbpapklab
open Go.ChangeShapes Go.WideShapes Go.ChangeAt Go.RowKit

set_option maxRecDepth 100000
theorem mServe (a : Addr) (w : World) : (method 399 84 (.pointer (some a)) "loop.example/g00038/impl.serve").run Try.prog w = .ok (210, .pointer (some a)) w := by kernel_rfl
set_option maxHeartbeats 4000000 in
theorem work_any {w : World} {b mb n g fcap : Nat} {s f : ByteArray} {sg : Bool} (S D A U T G : Nat) (h : PT w b mb n 92 ⟨S, D, A, U, T, G⟩ sg #[.slice (some ⟨g, 0, none⟩) f.size fcap] s) (hd : DA w g 0 f) (hgm : g ≠ mb) (hfc : f.size ≤ fcap) (hf : f.size ≤ 1500) (hp : qOk s ⟨S, D, A, U, T, G⟩ = true) (hn : s.size = n * 256) :
    Calls Try.prog 48 #[.iface 84 (.pointer (some ⟨b, 0, none⟩)), .int .i64 1] w fun e w' => e = .returned (.tuple #[.int .i64 (if (rvR s S D A U T G sg f).1 = 0 then 1 else 0), .int .i64 (rvR s S D A U T G sg f).1]) ∧ PT w' b mb n 92 (rvR s S D A U T G sg f).2.2.1 (rvR s S D A U T G sg f).2.2.2 #[.slice (some ⟨g, 0, none⟩) f.size fcap] (rvR s S D A U T G sg f).2.1 ∧ Fr2 w w' b mb := by
  have HS : Hid _ := recvServe_any S D A U T G h hd hgm hfc hf hp hn
  generalize rvR s S D A U T G sg f = RR at *
  obtain ⟨rc, rs, rq, rg⟩ := RR
  simp only at HS ⊢
  have hmS := fun w => mServe ⟨b, 0, none⟩ w
  clear h hd hgm hfc hf hp hn
  go_enter Try.func48, Try.ntmps48
  go_wp2_with fail
  go_loopg [4, 5] 1 (fun gh s4 s5 wr => (gh = 1 ∧ s4 = .int .i64 0 ∧ s5 = .int .i64 0 ∧ wr = w) ∨ (gh = 0 ∧ s4 = .int .i64 1 ∧ (∃ c, s5 = .int .i64 c) ∧ Hid (rc = 0) ∧ Hid (PT wr b mb n 92 rq rg #[.slice (some ⟨g, 0, none⟩) f.size fcap] rs ∧ Fr2 w wr b mb)))
  case atStart => exact .inl ⟨rfl, rfl, rfl, rfl⟩
  case round =>
    rcases hrel with ⟨hg, rfl, rfl, hw⟩ | ⟨hg, rfl, ⟨c, rfl⟩, HC, HP⟩
    · rw [hw]
      clear hw
      by_cases hrc : rc = 0
      · subst hrc
        go_wp2_with (go_at_call 210; refine Calls.mono HS.out ?_; rintro e y1 ⟨rfl, hp1, hf1⟩; have HP1 : Hid _ := hp1; have HF1 : Hid _ := hf1; clear hp1 hf1)
        go_roundg 0
        case measure => omega
        case rel => exact .inr ⟨rfl, rfl, ⟨_, rfl⟩, trivial, ⟨HP1.out, HF1.out⟩⟩
      · go_wp2_with (go_at_call 210; refine Calls.mono HS.out ?_; rintro e y1 ⟨rfl, hp1, hf1⟩; have HP1 : Hid _ := hp1; have HF1 : Hid _ := hf1; clear hp1 hf1)
        go_ret2
        exact ⟨by first | rfl | (rw [if_neg hrc]; rfl), HP1.out, HF1.out⟩
    · go_wp2_with fail
      go_ret2
      exact ⟨by first | rfl | (rw [HC.out]; rfl) | (rw [if_pos HC.out, HC.out]; rfl), HP.out.1, HP.out.2⟩
end Go.Proofs.Ythhbfghbpapklab
