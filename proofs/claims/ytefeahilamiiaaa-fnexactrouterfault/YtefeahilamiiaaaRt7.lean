import Derived.Test.YtefeahilamiiaaaRt6
import Derived.Test.YtefeahilamiiaaaRt2
namespace Go.Proofs.Ytefeahilamiiaaa
open Go.ChangeShapes Go.WideShapes Go.ChangeAt Go.RowKit

/-- The rows of cpus. -/
structure CPin (w : World) (qs : List CQ) (cs : List CP) : Prop where
  len : qs.length = cs.length
  el : ∀ k (hq : k < qs.length) (hc : k < cs.length), qs[k].lim = cs[k].lim ∧ Irow w qs[k].p cs[k].ps ∧ Irow w qs[k].s cs[k].ss
theorem CPin.below {w w' : World} {qs : List CQ} {cs : List CP} (h : CPin w qs cs) (hb : Below w.heap.size w w') : CPin w' qs cs :=
  ⟨h.len, fun k hq hc => ⟨(h.el k hq hc).1, (h.el k hq hc).2.1.below hb, (h.el k hq hc).2.2.below hb⟩⟩
/-- A router. -/
structure RT where
  ls : List LN
  cs : List CP
  ms : List RM
/-- Where a router's rows are. -/
structure RA where
  vl : Value
  vc : Value
  vm : Value
  qs : List CQ
def rtA (a : RA) : Value := .agg #[a.vl, a.vc, a.vm]
structure RRows (w : World) (r : RT) (a : RA) : Prop where
  ln : LNrow w a.vl r.ls
  cq : CQrow w a.vc a.qs
  cp : CPin w a.qs r.cs
  rm : RMrow w a.vm r.ms
theorem RRows.below {w w' : World} {r : RT} {a : RA} (h : RRows w r a) (hb : Below w.heap.size w w') : RRows w' r a :=
  ⟨h.ln.below hb, h.cq.below hb, h.cp.below hb, h.rm.below hb⟩
structure RLen (r : RT) : Prop where
  l : r.ls.length ≤ 1048576
  c : r.cs.length ≤ 1048576
  m : r.ms.length ≤ 1048576
  p : ∀ k (hk : k < r.cs.length), r.cs[k].ps.length ≤ 1048576
  s : ∀ k (hk : k < r.cs.length), r.cs[k].ss.length ≤ 1048576
/-- A router in its box. -/
structure RBx (w : World) (b : Nat) (r : RT) (a : RA) : Prop where
  box : w.heap[b]? = some (.cells #[a.vl, a.vc, a.vm] 33 (0, 0))
  row : RRows w r a
theorem RBx.lt {w : World} {b : Nat} {r : RT} {a : RA} (h : RBx w b r a) : b < w.heap.size := (Array.getElem?_eq_some_iff.1 h.box).1
theorem RBx.below {w w' : World} {b : Nat} {r : RT} {a : RA} (h : RBx w b r a) (hb : Below w.heap.size w w') : RBx w' b r a := ⟨(hb.block b h.lt).trans h.box, h.row.below hb⟩
theorem RBx.cel {w : World} {b : Nat} {r : RT} {a : RA} (h : RBx w b r a) : w.cell? ⟨b, 0, none⟩ = some a.vl ∧ w.cell? ⟨b, 1, none⟩ = some a.vc ∧ w.cell? ⟨b, 2, none⟩ = some a.vm := by
  have := h.box
  simp [World.cell?, this]
theorem RBx.slc {w : World} {b : Nat} {r : RT} {a : RA} (h : RBx w b r a) : ∃ ao cap, a.vc = .slice ao r.cs.length cap := by
  obtain ⟨ao, cap, e⟩ := h.row.cq.sl
  exact ⟨ao, cap, by rw [e, h.row.cp.len]⟩
def okC (n : Nat) (c : Int) : Bool := decide (0 ≤ c) && decide (c < (n : Int))
set_option maxRecDepth 100000 in
theorem hasCpu_any {w : World} {b : Nat} {r : RT} {a : RA} (h : RBx w b r a) (c : Int) : Calls Try.prog 67 #[.pointer (some ⟨b, 0, none⟩), .int .i64 c] w fun e w' => e = .returned (.bool (okC r.cs.length c)) ∧ w' = w := by
  obtain ⟨ao, cap, e⟩ := h.slc
  obtain ⟨c0, c1, c2⟩ := h.cel
  rw [e] at c1
  clear h c0 c2 e
  unfold okC
  generalize r.cs.length = n at *
  go_enter Try.func67, Try.ntmps67
  go_wp2
  all_goals go_ret
  all_goals refine ⟨ret_bool ?_, rfl⟩
  all_goals simp
  all_goals omega
set_option maxRecDepth 100000 in
theorem leads_any {w : World} {b : Nat} {r : RT} {a : RA} (h : RBx w b r a) (c v : Int) : Calls Try.prog 46 #[.pointer (some ⟨b, 0, none⟩), .int .i64 c, .int .i64 v] w fun e w' => e = .returned (.bool (okC r.cs.length c && okV v)) ∧ w' = w := by
  have HC : Hid _ := hasCpu_any h c
  have HV : Hid _ := fun u => isVector_any v u
  clear h
  cases hq : okC r.cs.length c
  · rw [hq] at HC
    go_enter Try.func46, Try.ntmps46
    go_wp2_with (go_at_call 67; refine Calls.mono HC.out ?_; rintro e u1 ⟨rfl, hu1⟩; rw [hu1]; clear hu1)
    go_ret
    exact ⟨ret_bool (by simp), rfl⟩
  · rw [hq] at HC
    go_enter Try.func46, Try.ntmps46
    go_wp2_with (first | (go_at_call 67; refine Calls.mono HC.out ?_; rintro e u1 ⟨rfl, hu1⟩; rw [hu1]; clear hu1) | (go_at_call 65; refine (HV.out _).mono ?_; rintro e u2 ⟨rfl, hu2⟩; rw [hu2]; clear hu2))
    go_ret
    exact ⟨ret_bool (by simp), rfl⟩
/-- Lanes. -/
def lk (n : Nat) (zs : List LN) (j : Nat) : Bool := okC n (zs.getD j ln0).cpu && okV (zs.getD j ln0).vec
theorem gdl {zs : List LN} {k : Nat} (h : k < zs.length) : zs.getD k ln0 = zs[k] := by simp [List.getD, List.getElem?_eq_getElem h]
def lanesB (r : RT) : Bool := decide (r.ls.length ≤ 64) && allB (lk r.cs.length r.ls) r.ls.length
set_option maxRecDepth 100000 in
set_option maxHeartbeats 4000000 in
theorem areLanes_any {w : World} {b : Nat} {r : RT} {a : RA} (h : RBx w b r a) (hl : r.ls.length ≤ 1048576) : Calls Try.prog 24 #[.pointer (some ⟨b, 0, none⟩)] w fun e w' => e = .returned (.bool (lanesB r)) ∧ Below w.heap.size w w' := by
  have HX : Hid (RBx w b r a) := h
  have HR : Hid (LNrow w a.vl r.ls) := h.row.ln
  obtain ⟨ao, cap, ev⟩ := h.row.ln.sl
  obtain ⟨c0, c1, c2⟩ := h.cel
  rw [ev] at c0 HR
  have HC0 : Hid (∀ u, Below w.heap.size w u → u.cell? ⟨b, 0, none⟩ = some (.slice ao r.ls.length cap)) := fun u hu => (World.cell?_of_block (a := ⟨b, 0, none⟩) (hu.block b HX.out.lt)).trans c0
  clear h c1 c2
  go_enter Try.func24, Try.ntmps24
  go_wp2
  clear c0
  go_loopw [10] (fun i wr => ∃ k : Nat, k ≤ r.ls.length ∧ i = .int .i64 k ∧ allB (lk r.cs.length r.ls) k = true ∧ Below w.heap.size w wr) (fun i _ => r.ls.length - (intOf i).toNat)
  case atStart => exact ⟨0, Nat.zero_le _, rfl, rfl, Below.refl _ _⟩
  case round =>
    obtain ⟨k, hk, rfl, hok, hb⟩ := hrel
    have HOK : Hid (allB (lk r.cs.length r.ls) k = true) := hok
    have HB : Hid (Below w.heap.size w wr) := hb
    clear hok
    by_cases hlt : k < r.ls.length
    · obtain ⟨g, o, cap2, hv, _, hg, hc⟩ := HR.out.resolve_left (fun h => by rw [h.1] at hlt; simp at hlt)
      injection hv with hv1 hv2 hv3
      subst hv1 hv3
      obtain ⟨d0, d1, d2, d3, d4⟩ := hc.below hb hg k hlt
      have hpk : lk r.cs.length r.ls k = (okC r.cs.length r.ls[k].cpu && okV r.ls[k].vec) := by unfold lk; rw [gdl hlt]
      have hk0 : (0 : Int) ≤ (k : Int) := by omega
      have hk1 : (k : Int) < (r.ls.length : Int) := by omega
      generalize r.ls[k] = z at *
      have HL : Hid _ := leads_any ((HX.out.below HB.out).below ((Below.refl _ _).alloc (Nat.le_refl _) (.cells #[.int .i64 z.cpu, .int .i64 z.vec, .bool z.lev, .bool z.msk, .bool z.hi] 54))) z.cpu z.vec
      have HB2 : Hid (Below w.heap.size w (wr.alloc (.cells #[.int .i64 z.cpu, .int .i64 z.vec, .bool z.lev, .bool z.msk, .bool z.hi] 54))) := HB.out.alloc HB.out.size _
      cases hq : (okC r.cs.length z.cpu && okV z.vec)
      · rw [hq] at hpk HL
        have hbad : Hid _ := allB_bad (m := r.ls.length) hlt hpk
        clear hc hpk hq hb
        go_wp2_with (go_at_call 46; refine Calls.mono HL.out ?_; rintro e u1 ⟨rfl, hu1⟩; rw [hu1]; clear hu1)
        go_ret
        exact ⟨ret_bool (by unfold lanesB; rw [hbad.out]; simp), HB2.out⟩
      · rw [hq] at hpk HL
        have hgd : Hid _ := hpk
        clear hc hpk hq hb
        go_wp2_with (go_at_call 46; refine Calls.mono HL.out ?_; rintro e u1 ⟨rfl, hu1⟩; rw [hu1]; clear hu1)
        go_roundw
        case rel => exact ⟨k + 1, hlt, by go_num, by rw [allB_succ, HOK.out, hgd.out]; rfl, HB2.out⟩
        case measure => simp [intOf]; omega
    · obtain rfl : k = r.ls.length := by omega
      have c0 := HC0.out _ hb
      go_wp2
      go_ret
      exact ⟨ret_bool (by unfold lanesB; rw [HOK.out, Bool.and_true]; exact decide_eq_decide.2 (by omega)), HB.out⟩
end Go.Proofs.Ytefeahilamiiaaa
