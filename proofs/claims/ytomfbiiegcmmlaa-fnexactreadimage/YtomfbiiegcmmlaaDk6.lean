import Derived.Test.YtomfbiiegcmmlaaDkZ
import Derived.Test.YtomfbiiegcmmlaaQu1
import Derived.Laws.DeepStrings4
namespace Go.Proofs.Ytomfbiiegcmmlaa
open Go.ChangeShapes Go.WideShapes Go.ChangeAt Go.RowKit

set_option maxRecDepth 100000
theorem slBoth2 (s : ByteArray) (a b : Nat) (x y : Int) (hx : x = a) (hy : y = b) (h : a ≤ b) (h2 : b ≤ s.size) (w : World) : Sem.run Try.prog (Instr.slice 9 (.string s) (some (.int .i64 x)) (some (.int .i64 y)) none) w = .ok (.string (s.extract a b)) w := by
  subst hx
  subst hy
  rw [run_slice_string_if _ _ _ _ _ _ _ Try.underlying9, if_pos (by omega), if_pos (by omega)]
  rfl
/-- The code and the bytes of a read. -/
def rdC (ms : List IM) (n : ByteArray) (a z : Int) : Int := if osC ms n = 0 then (if inW (dkO ms n).size a z then 0 else 2) else osC ms n
def rdD (ms : List IM) (n : ByteArray) (a z : Int) : ByteArray := if osC ms n = 0 then (if inW (dkO ms n).size a z then (dkO ms n).extract a.toNat (a + z).toNat else ⟨#[]⟩) else ⟨#[]⟩
/-- An answer in its box. -/
structure RBx (w u : World) (c : Int) (d : ByteArray) : Prop where
  bel : Below w.heap.size w u
  box : u.heap[w.heap.size]? = some (.cells #[.int .i64 c, .string d] 25 (0, 0))
theorem RBx.lt {w u : World} {c : Int} {d : ByteArray} (h : RBx w u c d) : w.heap.size < u.heap.size := (Array.getElem?_eq_some_iff.1 h.box).1
theorem RBx.step {w u u' : World} {c : Int} {d : ByteArray} (h : RBx w u c d) (hb : Below u.heap.size u u') : RBx w u' c d := ⟨h.bel.trans (hb.mono h.bel.size), (hb.block _ h.lt).trans h.box⟩
theorem RBx.new (w : World) (c : Int) (d : ByteArray) : RBx w (w.alloc (.cells #[.int .i64 c, .string d] 25)) c d := ⟨(Below.refl _ _).alloc (Nat.le_refl _) _, heap_new _ _⟩
theorem RBx.set {w u : World} {c : Int} {d : ByteArray} (h : RBx w u c d) (c2 : Int) (d2 : ByteArray) : RBx w ((u.setCell ⟨w.heap.size, 0, none⟩ (.int .i64 c2)).setCell ⟨w.heap.size, 1, none⟩ (.string d2)) c2 d2 := by
  obtain ⟨h1, h2, _⟩ := st2 h.bel (Nat.le_refl _) h.box (.int .i64 c2) (.string d2) rfl
  exact ⟨h1, h2⟩
theorem dkB_size {ms : List IM} (h : RL ms) (k : Nat) (hk : k < ms.length) : (dkB ms k).size ≤ 1024 := by
  have e : (dkB ms k).size = (catB (dsL ms k (gI ms k).t.length)).length := by simp [dkB, ByteArray.size]
  rw [e, dsL_size h k _ hk, gI_at ms k hk]
  have := (h.im k hk).t2
  omega
set_option maxHeartbeats 4000000 in
theorem implRead_any {w : World} {v : Value} {gs : List IG} {ms : List IM} (h : IGrow w v gs) (hi : IGin w gs ms) (hl : ms.length ≤ 1048576) (hL : ∀ k (hk : k < ms.length), ILen ms[k]) (n : ByteArray) (hn : n.size ≤ 1048576) (a z : Int) (hz : i64B z) : Calls Try.prog 9 #[v, .string n, .int .i64 a, .int .i64 z] w fun e w' => e = .returned (.agg #[.int .i64 (rdC ms n a z), .string (rdD ms n a z)]) ∧ Below w.heap.size w w' := by
  have HX : Hid (RBx w (w.alloc (.cells #[.int .i64 0, .string ⟨#[]⟩] 25)) 0 ⟨#[]⟩) := RBx.new w 0 ⟨#[]⟩
  have HO : Hid _ := openStack_any (h.below HX.out.bel) (hi.below HX.out.bel) hl hL n hn
  have HI : Hid (IGin w gs ms) := hi
  obtain ⟨ao, cap, rfl⟩ := h.sl
  clear h hi hL
  by_cases ho : osC ms n = 0
  · obtain ⟨hch, k, hq, hk, hdk⟩ := osC_yes ho
    have hrl := RL.of hch
    have hsz := dkB_size hrl k hk
    have HD : Hid (∀ u sv, OS (w.alloc (.cells #[.int .i64 0, .string ⟨#[]⟩] 25)) u gs ms n sv → Below w.heap.size w u → Calls Try.prog 26 #[sv] u fun e w' => e = .returned (.string (dkB ms k)) ∧ Below u.heap.size u w') := fun u sv ho hu => disk_any k hk (ho.row hq) (HI.out.below hu) hrl
    have HC : Hid (rdC ms n a z = if inW (dkB ms k).size a z then 0 else 2) := (show rdC ms n a z = _ by unfold rdC; rw [if_pos ho, hdk])
    have HDD : Hid (rdD ms n a z = if inW (dkB ms k).size a z then (dkB ms k).extract a.toNat (a + z).toNat else ⟨#[]⟩) := (show rdD ms n a z = _ by unfold rdD; rw [if_pos ho, hdk])
    have HW : Hid _ := fun u => isWithin_any (dkB ms k).size a z u (by omega) hz
    rw [ho] at HO
    clear ho hch hdk hrl
    generalize dkB ms k = D at *
    generalize rdC ms n a z = C at *
    generalize rdD ms n a z = E at *
    cases hw : inW D.size a z with
    | false =>
      rw [hw] at HW HC HDD
      have hC2 : C = 2 := HC.out
      have hE2 : E = ⟨#[]⟩ := HDD.out
      subst hC2
      subst hE2
      clear HC HDD hw
      go_enter Try.func9, Try.ntmps9
      go_wp2_with fail
      generalize (w.alloc (.cells #[.int .i64 0, .string ⟨#[]⟩] 25)) = V at *
      refine Calls.mono HO.out ?_
      rintro e u1 ⟨sv, rfl, hos, hu⟩
      have HX1 : Hid (RBx w u1 0 ⟨#[]⟩) := HX.out.step hu
      have HS : Hid (OS V u1 gs ms n sv) := hos (by trivial)
      clear hu hos HO HX
      go_wp2_with fail
      refine Calls.mono (HD.out _ _ HS.out HX1.out.bel) ?_
      rintro e u2 ⟨rfl, hu⟩
      have HX2 : Hid (RBx w u2 0 ⟨#[]⟩) := HX1.out.step hu
      obtain ⟨c0, c1, cf⟩ := cel2 HX2.out.box
      have lt2 := HX2.out.lt
      clear hu HX1 HD
      go_wp2_with (go_at_call 27; refine Calls.mono (HW.out _) ?_; rintro e u3 ⟨rfl, hu⟩; rw [hu]; clear hu)
      have hf := HX2.out.set 2 ⟨#[]⟩
      obtain ⟨f0, f1, _⟩ := cel2 hf.box
      refine bodyPost_ret (v := .agg #[.int .i64 2, .string ⟨#[]⟩]) ?_ rfl ⟨rfl, hf.bel⟩
      clear hf c0 c1 cf
      simp only [results, Try.results9, go_sem]
      simp [go_sem, f0, f1]
    | true =>
      have hw2 := inW_iff.1 hw
      rw [hw] at HW HC HDD
      have hC2 : C = 0 := HC.out
      have hE2 : E = D.extract a.toNat (a + z).toNat := HDD.out
      subst hC2
      subst hE2
      have hsl := fun u => slBoth2 D a.toNat (a + z).toNat a (a + z) (by omega) (by omega) (by omega) (by omega) u
      obtain ⟨z1, z2⟩ := hz
      have hwr : IntKind.i64.wrap (a + z) = a + z := by rw [IntKind.wrap_i64]; omega
      have ha0 : 0 ≤ a := hw2.1
      have hz0 : 0 ≤ z := hw2.2.1
      have hs9 : a + z ≤ 1024 := by omega
      clear HC HDD hw hw2
      generalize D.extract a.toNat (a + z).toNat = X at *
      go_enter Try.func9, Try.ntmps9
      go_wp2_with fail
      generalize (w.alloc (.cells #[.int .i64 0, .string ⟨#[]⟩] 25)) = V at *
      refine Calls.mono HO.out ?_
      rintro e u1 ⟨sv, rfl, hos, hu⟩
      have HX1 : Hid (RBx w u1 0 ⟨#[]⟩) := HX.out.step hu
      have HS : Hid (OS V u1 gs ms n sv) := hos (by trivial)
      clear hu hos HO HX
      go_wp2_with fail
      refine Calls.mono (HD.out _ _ HS.out HX1.out.bel) ?_
      rintro e u2 ⟨rfl, hu⟩
      have HX2 : Hid (RBx w u2 0 ⟨#[]⟩) := HX1.out.step hu
      obtain ⟨c0, c1, cf⟩ := cel2 HX2.out.box
      have lt2 := HX2.out.lt
      clear hu HX1 HD
      go_wp2_with (go_at_call 27; refine Calls.mono (HW.out _) ?_; rintro e u3 ⟨rfl, hu⟩; rw [hu]; clear hu)
      have hf := HX2.out.set 0 X
      obtain ⟨f0, f1, _⟩ := cel2 hf.box
      refine bodyPost_ret (v := .agg #[.int .i64 0, .string X]) ?_ rfl ⟨rfl, hf.bel⟩
      clear hf c0 c1 cf
      simp only [results, Try.results9, go_sem]
      simp [go_sem, f0, f1]
  · have HC : Hid (rdC ms n a z = osC ms n) := (show rdC ms n a z = _ by unfold rdC; rw [if_neg ho])
    have HDD : Hid (rdD ms n a z = ⟨#[]⟩) := (show rdD ms n a z = _ by unfold rdD; rw [if_neg ho])
    generalize rdC ms n a z = C at *
    generalize rdD ms n a z = E at *
    have hE2 := HDD.out
    have hC2 := HC.out
    subst hE2
    subst hC2
    clear HC HDD
    generalize osC ms n = C at *
    have hzi : (C == 0) = false := by simpa using ho
    clear ho
    go_enter Try.func9, Try.ntmps9
    go_wp2_with fail
    generalize (w.alloc (.cells #[.int .i64 0, .string ⟨#[]⟩] 25)) = V at *
    refine Calls.mono HO.out ?_
    rintro e u1 ⟨sv, rfl, hos, hu⟩
    have HX1 : Hid (RBx w u1 0 ⟨#[]⟩) := HX.out.step hu
    clear hu hos HO HX
    obtain ⟨c0, c1, cf⟩ := cel2 HX1.out.box
    have lt2 := HX1.out.lt
    go_wp2
    have hf := HX1.out.set C ⟨#[]⟩
    obtain ⟨f0, f1, _⟩ := cel2 hf.box
    refine bodyPost_ret (v := .agg #[.int .i64 C, .string ⟨#[]⟩]) ?_ rfl ⟨rfl, hf.bel⟩
    clear hf c0 c1 cf
    simp only [results, Try.results9, go_sem]
    simp [go_sem, f0, f1]
end Go.Proofs.Ytomfbiiegcmmlaa
