import Derived.Test.YtmmodmanfoipiaaDoorWords
import Derived.Laws.BytesArg
import Derived.WalkLawsBesides
namespace Go.Proofs.YtmmodmanfoipiaaDoor
open Go.ChangeShapes Go.WideShapes Go.ChangeAt Go.RowKit

def pw (n : Int) : ByteArray := strOfNums [n % 256, n / 256 % 256, n / 65536 % 256, n / 16777216 % 256]
theorem pw_mod (n : Int) : strOfNums [n % 256, n % 4294967296 / 256 % 256, n % 4294967296 / 65536 % 256, n % 4294967296 / 16777216] = pw n := by
  unfold pw
  rw [show n % 4294967296 / 256 % 256 = n / 256 % 256 from by omega, show n % 4294967296 / 65536 % 256 = n / 65536 % 256 from by omega, show n % 4294967296 / 16777216 = n / 16777216 % 256 from by omega]
theorem ret_str {a b : ByteArray} (h : a = b) : Ending.returned (.string a) = .returned (.string b) := by rw [h]

theorem conv4 (w : World) (a b c d : Int) :
    Sem.run Tryd.prog (convert 22 9 (.slice (some ⟨w.heap.size, 0, none⟩) 4 4)) (w.alloc (.cells #[.int .u8 a, .int .u8 b, .int .u8 c, .int .u8 d] 5)) =
      .ok (.string (strOfNums [a, b, c, d])) (w.alloc (.cells #[.int .u8 a, .int .u8 b, .int .u8 c, .int .u8 d] 5)) := by
  refine run_convert_bytes_arg _ 22 5 Tryd.underlying22 Tryd.underlying5 w.heap.size 0 4 4 [a, b, c, d] rfl ?_ 9 Tryd.underlying9
  intro i hi
  match i, hi with
  | 0, _ => simp
  | 1, _ => simp
  | 2, _ => simp
  | 3, _ => simp

theorem implPutWord_any (n : Int) (w : World) :
    Calls Tryd.prog 18 #[.int .i64 n] w fun e w' => e = .returned (.string (pw n)) ∧ Below w.heap.size w w' := by
  have hc := conv4 w (n % 256) (n / 256 % 256) (n / 65536 % 256) (n / 16777216 % 256)
  go_enter Tryd.func18, Tryd.ntmps18
  go_wp2
  go_ret
  exact ⟨rfl, (Below.refl _ _).alloc (Nat.le_refl _) _⟩

theorem specPutWord_any (n : Int) (w : World) :
    Calls Tryd.prog 23 #[.int .i64 n] w fun e w' => e = .returned (.string (pw n)) ∧ Below w.heap.size w w' := by
  have hc := conv4 w (n % 256) (n % 4294967296 / 256 % 256) (n % 4294967296 / 65536 % 256) (n % 4294967296 / 16777216)
  go_enter Tryd.func23, Tryd.ntmps23
  go_wp2_with (go_at_call 41; refine (specWord_any _ _).mono ?_; rintro e w' ⟨rfl, rfl⟩)
  go_ret
  exact ⟨ret_str (pw_mod n), (Below.refl _ _).alloc (Nat.le_refl _) _⟩
end Go.Proofs.YtmmodmanfoipiaaDoor
