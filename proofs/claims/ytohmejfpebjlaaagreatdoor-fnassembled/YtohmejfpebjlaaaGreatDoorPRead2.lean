import Derived.Test.YtohmejfpebjlaaaGreatDoorPRead
namespace Go.Proofs.YtohmejfpebjlaaaGreatDoor
open Go.ChangeShapes Go.WideShapes Go.ChangeAt Go.WideMaps Go.WideElems Go.RowKit Go.Maps

/-- An instruction with its name that lies in a block. -/
def NamAt (w : World) (n : Nat) (x : Int) (f : Int × Int × Int × Int) (s : ByteArray) : Prop :=
  w.heap[n]? = some (.cells #[.int .i64 x, .int .i64 f.1, .int .i64 f.2.1, .int .i64 f.2.2.1, .int .i64 f.2.2.2, .string s] 65 (0, 0))
theorem NamAt.below {B n : Nat} {x : Int} {f : Int × Int × Int × Int} {s : ByteArray} {w w' : World} (h : NamAt w n x f s) (hb : Below B w w') (hn : n < B) : NamAt w' n x f s := (hb.block n hn).trans h
theorem NamAt.cells {n : Nat} {x : Int} {f : Int × Int × Int × Int} {s : ByteArray} {w : World} (h : NamAt w n x f s) : w.cell? ⟨n, 0, none⟩ = some (.int .i64 x) ∧ w.cell? ⟨n, 1, none⟩ = some (.int .i64 f.1) ∧ w.cell? ⟨n, 2, none⟩ = some (.int .i64 f.2.1) ∧ w.cell? ⟨n, 3, none⟩ = some (.int .i64 f.2.2.1) ∧ w.cell? ⟨n, 4, none⟩ = some (.int .i64 f.2.2.2) ∧ w.cell? ⟨n, 5, none⟩ = some (.string s) := by
  unfold NamAt at h
  simp [World.cell?, h]
theorem NamAt.fz {n : Nat} {x : Int} {f : Int × Int × Int × Int} {s : ByteArray} {w : World} (h : NamAt w n x f s) (p : Nat) : w.frozen? ⟨n, p, none⟩ = false := by
  unfold NamAt at h
  simp [World.frozen?, h]
theorem NamAt.some {n : Nat} {x : Int} {f : Int × Int × Int × Int} {s : ByteArray} {w : World} (h : NamAt w n x f s) (p : Nat) (hp : p < 6) : ∃ y, w.cell? ⟨n, p, none⟩ = some y := by
  obtain ⟨c0, c1, c2, c3, c4, c5⟩ := h.cells
  obtain rfl | rfl | rfl | rfl | rfl | rfl : p = 0 ∨ p = 1 ∨ p = 2 ∨ p = 3 ∨ p = 4 ∨ p = 5 := by omega
  · exact ⟨_, c0⟩
  · exact ⟨_, c1⟩
  · exact ⟨_, c2⟩
  · exact ⟨_, c3⟩
  · exact ⟨_, c4⟩
  · exact ⟨_, c5⟩
theorem NamAt.put {n : Nat} {x : Int} {f : Int × Int × Int × Int} {s : ByteArray} {w : World} (h : NamAt w n x f s) (p : Nat) (h1 : 1 ≤ p) (h2 : p ≤ 4) (y : Int) : NamAt (w.setCell ⟨n, p, none⟩ (.int .i64 y)) n x (putF p y f) s := by
  unfold NamAt at h ⊢
  obtain rfl | rfl | rfl | rfl : p = 1 ∨ p = 2 ∨ p = 3 ∨ p = 4 := by omega
  all_goals simp [World.setCell, Array.getElem?_modify, h, putF]
theorem NamAt.other {n m : Nat} {x : Int} {f : Int × Int × Int × Int} {s : ByteArray} {w : World} (h : NamAt w n x f s) (hm : n ≠ m) (p : Nat) (y : Value) : NamAt (w.setCell ⟨m, p, none⟩ y) n x f s := by
  unfold NamAt at h ⊢
  rw [Below.heap_setCell _ _ _ _ hm]
  exact h
/-- What the first operands have put. -/
def gF (l : List Opd) (f : Int × Int × Int × Int) : Int × Int × Int × Int := l.foldl (fun g o => putF o.plc (fld o.plc f) g) (0, 0, 0, 0)
theorem gF_succ (l : List Opd) (f : Int × Int × Int × Int) (j : Nat) (h : j < l.length) : gF (l.take (j + 1)) f = putF l[j].plc (fld l[j].plc f) (gF (l.take j) f) := by
  unfold gF
  rw [List.take_succ_eq_append_getElem h, List.foldl_append]
  rfl
theorem gF_all (op a b c imm : Int) (h : isOk op a b c imm = true) : gF (opsOf op) (a, b, c, imm) = (a, b, c, imm) := by
  obtain ⟨hk0, _⟩ := kOk_b h
  have hk := kd_lt op
  unfold isOk at h
  unfold opsOf
  generalize kd op = k at *
  obtain rfl | rfl | rfl | rfl | rfl | rfl | rfl | rfl : k = 1 ∨ k = 2 ∨ k = 3 ∨ k = 4 ∨ k = 5 ∨ k = 6 ∨ k = 7 ∨ k = 8 := by omega
  case inr.inr.inr.inl =>
    simp [kOk, reg] at h
    obtain ⟨⟨⟨_, rfl⟩, rfl⟩, _⟩ := h
    by_cases h20 : op = 20
    · simp [h20, gF, Opd.plc, putF, fld, rP]
    · simp [h20, gF, Opd.plc, putF, fld, rP]
  all_goals
    simp [kOk, reg] at h
    simp [gF, Opd.plc, putF, fld, rP, vP]
    try omega
theorem inB_all (op a b c imm : Int) (h : isOk op a b c imm = true) : ∀ o ∈ opsOf op, o.inB (a, b, c, imm) = true := by
  have hne : ¬ nm op = ⟨#[]⟩ := by
    intro h2
    have := (kOk_b h).1
    exact this (if_pos h2)
  have h2 := gOk_isOk op a b c imm hne
  rw [h] at h2
  unfold gOk at h2
  rw [Bool.and_eq_true] at h2
  exact List.all_eq_true.1 h2.1
theorem nm_ne (op a b c imm : Int) (h : isOk op a b c imm = true) : nm op ≠ ⟨#[]⟩ := fun h2 => (kOk_b h).1 (if_pos h2)
theorem toArr (x : ByteArray) : (⟨x.data.toList.toArray⟩ : ByteArray) = x := by simp
theorem cutText (x r : ByteArray) (hx : (32 : UInt8) ∉ x.data.toList) (m : Int) (w : World) (hs : x.size ≤ 100) (hr : r.size ≤ 1000) (hm : w.cell? ⟨2, 0, none⟩ = some (.int .i64 m)) :
    Calls Tryz.prog 53 #[.string ⟨(catB [x, ⟨#[32]⟩, r]).toArray⟩, .string ⟨#[32]⟩] w fun e w' => e = .returned (.tuple #[.string x, .string r, .bool true]) ∧ Below w.heap.size w w' := by
  have e : catB [x, ⟨#[32]⟩, r] = x.data.toList ++ 32 :: r.data.toList := by simp [catB]
  rw [e]
  refine (Tryz.strings_Cut _ _ m w ?_ hm).mono ?_
  · rw [size_list]
    simp
    have := size_list x
    have := size_list r
    simp at *
    omega
  · rintro e2 u ⟨rfl, n, rfl⟩
    refine ⟨?_, drewB _ _⟩
    have hc : Lib.cut (⟨(x.data.toList ++ 32 :: r.data.toList).toArray⟩ : ByteArray).data.toList (⟨#[32]⟩ : ByteArray).data.toList = (x.data.toList, r.data.toList, true) := by
      show Lib.cut ((x.data.toList ++ 32 :: r.data.toList).toArray.toList) [32] = _
      rw [List.toList_toArray]
      exact cut_hit _ _ hx
    rw [hc, toArr, toArr]
theorem cutNone (x : ByteArray) (hx : (32 : UInt8) ∉ x.data.toList) (m : Int) (w : World) (hs : x.size ≤ 100) (hm : w.cell? ⟨2, 0, none⟩ = some (.int .i64 m)) :
    Calls Tryz.prog 53 #[.string x, .string ⟨#[32]⟩] w fun e w' => e = .returned (.tuple #[.string x, .string ⟨#[]⟩, .bool false]) ∧ Below w.heap.size w w' := by
  refine (Tryz.strings_Cut _ _ m w (by omega) hm).mono ?_
  rintro e2 u ⟨rfl, n, rfl⟩
  refine ⟨?_, drewB _ _⟩
  have hc : Lib.cut x.data.toList (⟨#[32]⟩ : ByteArray).data.toList = (x.data.toList, [], false) := cut_miss _ hx
  rw [hc, toArr]
theorem splitText (ps : List ByteArray) (h0 : ps ≠ []) (h : ∀ p ∈ ps, (44 : UInt8) ∉ p.data.toList) (hs : (joinB ps).size ≤ 1000) (m : Int) (w : World) (hm : w.cell? ⟨2, 0, none⟩ = some (.int .i64 m)) :
    Calls Tryz.prog 54 #[.string (joinB ps), .string ⟨#[44, 32]⟩] w fun e w' => e = .returned (.slice (some ⟨w.heap.size, 0, none⟩) ps.length ps.length) ∧ w' = w.alloc (.cells (ps.map Value.string).toArray 9) := by
  obtain ⟨h1, h2⟩ := split_join ps h0 h
  refine (Tryz.strings_Split _ _ m w (by omega) hm (by decide)).mono ?_
  rintro e u ⟨rfl, rfl⟩
  rw [h1, h2]
  exact ⟨rfl, rfl⟩
end Go.Proofs.YtohmejfpebjlaaaGreatDoor
