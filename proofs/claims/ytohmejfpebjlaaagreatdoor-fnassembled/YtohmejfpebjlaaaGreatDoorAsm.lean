import Derived.Test.YtohmejfpebjlaaaGreatDoorAsmLines
import Derived.Test.YtohmejfpebjlaaaGreatDoorInstrsW
namespace Go.Proofs.YtohmejfpebjlaaaGreatDoor
open Go.ChangeShapes Go.WideShapes Go.ChangeAt Go.WideMaps Go.WideElems Go.RowKit Go.Maps

/-- An instruction: op, a, b, c, imm. -/
abbrev I5 := Int × Int × Int × Int × Int
def I5.ok (i : I5) : Bool := isOk i.1 i.2.1 i.2.2.1 i.2.2.2.1 i.2.2.2.2
def I5.text (i : I5) : ByteArray := txt i.1 i.2.1 i.2.2.1 i.2.2.2.1 i.2.2.2.2 ⟨#[]⟩
def I5.enc (i : I5) : Int := encV i.1 i.2.1 i.2.2.1 i.2.2.2.1 i.2.2.2.2
theorem lin_size : ∀ (L : List I5), (∀ i ∈ L, i.ok = true) → (linB (L.map I5.text)).size ≤ L.length * 1001
  | [], _ => Nat.zero_le _
  | i :: L, h => by
    have h1 := lin_size L (fun j hj => h j (by simp [hj]))
    have h2 : i.text.size ≤ 1000 := text_size _ _ _ _ _ (h i (by simp))
    show (i.text ++ (⟨#[10]⟩ ++ linB (L.map I5.text))).size ≤ _
    rw [ByteArray.size_append, ByteArray.size_append, show (⟨#[10]⟩ : ByteArray).size = 1 from rfl]
    simp only [List.length_cons]
    omega
theorem tooLong_any (s : ByteArray) (w : World) :
    Calls Tryz.prog 31 #[.string s] w fun e w' => e = .returned (.bool (decide (65536 < (s.size : Int)))) ∧ w' = w := by
  go_enter Tryz.func31, Tryz.ntmps31
  go_wp2
  go_ret
  exact ⟨by simp, rfl⟩
theorem asm_cells {wr : World} {b : Nat} (h : wr.heap[b]? = some (.cells #[.int .i64 0, .int .i64 0, .slice none 0 0] 35 (0, 0))) :
    wr.cell? ⟨b, 0, none⟩ = some (.int .i64 0) ∧ wr.cell? ⟨b, 1, none⟩ = some (.int .i64 0) ∧ wr.cell? ⟨b, 2, none⟩ = some (.slice none 0 0) ∧ ∀ k, wr.frozen? ⟨b, k, none⟩ = false := by
  simp [World.cell?, World.frozen?, h]
theorem asm_put {wr U : World} {b : Nat} (h : wr.heap[b]? = some (.cells #[.int .i64 0, .int .i64 0, .slice none 0 0] 35 (0, 0))) (v : Value)
    (hU : ((wr.setCell ⟨b, 0, none⟩ (.int .i64 0)).setCell ⟨b, 1, none⟩ (.int .i64 0)).setCell ⟨b, 2, none⟩ v = U) :
    wr.grownBy U (some b) ∧ U.cell? ⟨b, 0, none⟩ = some (.int .i64 0) ∧ U.cell? ⟨b, 1, none⟩ = some (.int .i64 0) ∧ U.cell? ⟨b, 2, none⟩ = some v := by
  subst hU
  refine ⟨⟨rfl, rfl, rfl, by simp [World.setCell], fun k _ hk => ?_⟩, ?_, ?_, ?_⟩
  · have hne : k ≠ b := fun e => hk (congrArg some e)
    rw [Below.heap_setCell _ _ _ _ hne, Below.heap_setCell _ _ _ _ hne, Below.heap_setCell _ _ _ _ hne]
  all_goals simp [World.setCell, World.cell?, Array.getElem?_modify, h]
theorem own_weak {w : World} {B B' : Nat} {e : TypeId} {v : Value} {n : Nat} {xs : List Value} (h : w.ownsRow B e 1 v n xs) (hb : B' ≤ B) : w.ownsRow B' e 1 v n xs := by
  refine ⟨h.1, h.2.imp id ?_⟩
  rintro ⟨g, cap, cur, h1, h2, h3⟩
  exact ⟨g, cap, cur, h1, Nat.le_trans hb h2, h3⟩
set_option maxRecDepth 100000 in
set_option maxHeartbeats 4000000 in
theorem assemble_ok (L : List I5) (hL : ∀ i ∈ L, i.ok = true) (hl : L.length ≤ 5) (base : Int) (h0 : 0 ≤ base) (h1 : base ≤ 1048576) (h4 : base.tmod 4 = 0) (w : World) (henv : Env w) (h2 : 2 < w.heap.size) :
    Calls Tryz.prog 13 #[.string (linB (L.map I5.text)), .int .i64 base] w fun e w' => ∃ v, e = .returned (.agg #[.int .i64 0, .int .i64 0, v]) ∧ w'.ownsRow w.heap.size 2 1 v L.length (L.map fun i => .int .i64 i.enc) ∧ Below w.heap.size w w' := by
  have hs := lin_size L hL
  have hno : ∀ p ∈ L.map I5.text, (10 : UInt8) ∉ p.data.toList := by
    intro p hp
    obtain ⟨i, hi, rfl⟩ := List.mem_map.1 hp
    exact (txt_good _ _ _ _ _ (hL i hi)).2.1.no10
  have hB0 : Below w.heap.size w (w.alloc (.cells #[.int .i64 0, .int .i64 0, .slice none 0 0] 35)) := (Below.refl _ _).alloc (Nat.le_refl _) _
  have hlines := linesOf_ok (L.map I5.text) hno (by omega) (by simp; omega) _ (henv.2.2.2.below hB0 (by omega))
  have hmm := @run_makeMap Tryz.prog
  have HE : Hid (Env w) := henv
  have HO : Hid (∀ i ∈ L, i.ok = true) := hL
  rw [List.length_map] at hlines
  have hlc : ∀ (u : World) (k : Nat) (i : I5), L[k]? = some i → (u.alloc (linO (L.map I5.text))).cell? ⟨u.heap.size, k, none⟩ = some (.string i.text) := fun u k i hk => linO_at _ u k _ (by
    have hkl : k < L.length := (List.getElem?_eq_some_iff.1 hk).1
    rw [List.getElem?_append_left (by simpa using hkl), List.getElem?_map, hk]; rfl)
  have hts : ((linB (L.map I5.text)).size : Int) ≤ 65536 := by omega
  have hby := fun u hu hz => opsByName_any u hu hz
  clear hno henv hs hL
  generalize linB (L.map I5.text) = tx at *
  generalize linO (L.map I5.text) = ob at *
  go_enter Tryz.func13, Tryz.ntmps13
  go_wp2_with (first | (go_at_call 31; refine (tooLong_any _ _).mono ?_; rintro e u0 ⟨rfl, hw1⟩; subst hw1) | (go_at_call 36; refine Calls.mono hlines ?_; rintro e u1 ⟨rfl, hw1⟩; subst hw1) | (go_at_call 33; refine Calls.mono (hby _ (HE.out.2.1.below (hB0.alloc hB0.size _) (by omega)) (by simp)) ?_; rintro e u2 ⟨rfl, hmap, hu2⟩))
  have hsA : u2.heap.size + 1 = (u2.alloc (Obj.map #[] 0)).heap.size := by simp
  have hmz : ((w.alloc (Obj.cells #[Value.int IntKind.i64 0, Value.int IntKind.i64 0, Value.slice none 0 0] 35)).alloc ob).heap.size = w.heap.size + 1 + 1 := by simp
  rw [hmz] at hmap hu2
  have hlt2 : w.heap.size + 1 + 1 ≤ u2.heap.size := by have := hu2.size; simp at this; omega
  have hb2 : Below w.heap.size w (u2.alloc (Obj.map #[] 0)) := ((hB0.alloc hB0.size _).trans (hu2.mono (by omega))).alloc (by omega) _
  have hb3 : Below (w.heap.size + 1 + 1) ((w.alloc (Obj.cells #[Value.int IntKind.i64 0, Value.int IntKind.i64 0, Value.slice none 0 0] 35)).alloc ob) (u2.alloc (Obj.map #[] 0)) := hu2.alloc hlt2 _
  have hmA := map_below hmap ((Below.refl _ _).alloc (Nat.le_refl _) (Obj.map #[] 0))
  have hres : (u2.alloc (Obj.map #[] 0)).heap[w.heap.size]? = some (.cells #[.int .i64 0, .int .i64 0, .slice none 0 0] 35 (0, 0)) := (hb3.block _ (by omega)).trans ((Below.heap_alloc _ _ _ (by simp)).trans (heap_new _ _))
  have hlA : ∀ (k : Nat) (i : I5), L[k]? = some i → (u2.alloc (Obj.map #[] 0)).cell? ⟨w.heap.size + 1, k, none⟩ = some (.string i.text) := fun k i hk => (hb3.cell (p := ⟨w.heap.size + 1, k, none⟩) (by show w.heap.size + 1 < _; omega)).trans (by have := hlc (w.alloc (Obj.cells #[Value.int IntKind.i64 0, Value.int IntKind.i64 0, Value.slice none 0 0] 35)) k i hk; simpa using this)
  have hS0 : w.heap.size + 1 + 1 < (u2.alloc (Obj.map #[] 0)).heap.size := by simp; omega
  rw [hsA]
  clear hsA hmz hb3 hlc hmap hu2 hlines hB0 hby hmm
  generalize u2.alloc (Obj.map #[] 0) = wA at *
  have HF : Hid (Env wA) := HE.out.below hb2 h2
  have HS := (show Hid (w.heap.size + 1 + 1 < wA.heap.size) from hS0)
  have HM := (show Hid (wA.ownsMap Tryz.prog 9 (plainElem Tryz.prog 2) (w.heap.size + 1 + 1) 55 (nmD 55)) from hmA)
  have HR := (show Hid (wA.heap[w.heap.size]? = some (.cells #[.int .i64 0, .int .i64 0, .slice none 0 0] 35 (0, 0))) from hres)
  have HB := (show Hid (Below w.heap.size w wA) from hb2)
  clear hmA hres hb2 hlt2
  go_loopw [41] (fun i wr => ∃ (k : Nat) (v : Value), k ≤ L.length ∧ i = .int .i64 k ∧ AS wA base (w.heap.size + 1 + 1) (.map (some u2.heap.size)) wr v ((L.take k).map I5.enc)) (fun i _ => L.length - (intOf i).toNat)
  case atStart => exact ⟨0, _, Nat.zero_le _, rfl, (Below.refl _ _).alloc (Nat.le_refl _) _, heap_new _ _, World.ownsRow_nil _ _ _ _⟩
  case round =>
    obtain ⟨k, v, hk, rfl, has⟩ := hrel
    by_cases hlt : k < L.length
    · rcases hi : L[k] with ⟨op, a, b, c, imm⟩
      have hk1 : L[k]? = some (op, a, b, c, imm) := by rw [List.getElem?_eq_getElem hlt, hi]
      have hok : isOk op a b c imm = true := HO.out (op, a, b, c, imm) (List.mem_of_getElem? hk1)
      have htk : (L.take (k + 1)).map I5.enc = (L.take k).map I5.enc ++ [encV op a b c imm] := by
        rw [List.take_succ_eq_append_getElem hlt, List.map_append, hi]; rfl
      have hcell : wr.cell? ⟨w.heap.size + 1, k, none⟩ = some (.string (txt op a b c imm ⟨#[]⟩)) := (has.bel.cell (p := ⟨w.heap.size + 1, k, none⟩) (by show w.heap.size + 1 < _; omega)).trans (hlA k _ hk1)
      have hadd := addLine_ok has (by simp; omega) op a b c imm ((k : Int) + 1) hok HF.out.1 (by omega) HF.out.2.2.2 (by omega) HF.out.2.2.1 (by omega) HM.out
      have HX := (show Hid _ from has)
      have HT := (show Hid _ from htk)
      clear has htk hok hk1 hi hlA
      generalize txt op a b c imm ⟨#[]⟩ = t at *
      go_wp2_with (go_at_call 37; refine Calls.mono hadd ?_; rintro e u3 ⟨rfl, v', HR3⟩)
      go_roundw
      case rel => exact ⟨k + 1, v', hlt, by go_num, by rw [HT.out]; exact HR3⟩
      case measure => simp [intOf]; omega
    · obtain rfl : k = L.length := by omega
      rw [List.take_length] at has
      clear hlA
      obtain ⟨_, _, c3, c4, _⟩ := has.cells
      obtain ⟨ao, cap, hv⟩ := has.sl
      have HX := (show Hid _ from has)
      subst hv
      clear has
      go_wp2
      go_loopw [60] (fun i w5 => i = .int .i64 0 ∧ w5 = wr) (fun _ _ => 0)
      case atStart => exact ⟨rfl, rfl⟩
      case round =>
        obtain ⟨rfl, rfl⟩ := hrel
        have hR5 := (HX.out.bel.block _ (by omega)).trans HR.out
        obtain ⟨r0, r1, r2, rf⟩ := asm_cells hR5
        go_wp2
        obtain ⟨hU, f0, f1, f2⟩ := asm_put hR5 (.slice ao L.length cap) rfl
        have hge : w.heap.size ≤ wr.heap.size := by have := HX.out.lt; omega
        have hown := own_weak HX.out.own (show w.heap.size + 1 ≤ wA.heap.size + 1 by omega)
        have hown2 := hown.kept hU (.inr fun e => by have := (hown.lt _ e).1; omega)
        have hbel := (HB.out.trans (HX.out.bel.mono (by omega)))
        have hbel2 := ((hbel.setCell (p := ⟨w.heap.size, 0, none⟩) (Nat.le_refl _) (.int .i64 0)).setCell (p := ⟨w.heap.size, 1, none⟩) (Nat.le_refl _) (.int .i64 0)).setCell (p := ⟨w.heap.size, 2, none⟩) (Nat.le_refl _) (.slice ao L.length cap)
        refine bodyPost_ret (v := .agg #[.int .i64 0, .int .i64 0, .slice ao L.length cap]) (by simp [results, Tryz.results13, go_sem, f0, f1, f2]) rfl ⟨_, rfl, ?_, hbel2⟩
        have := own_weak hown2 (show w.heap.size ≤ w.heap.size + 1 by omega)
        simpa [List.map_map, Function.comp_def] using this
end Go.Proofs.YtohmejfpebjlaaaGreatDoor
