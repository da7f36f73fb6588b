import Derived.Test.YtpggbbdfbnocfaaHO2
import Derived.Test.YtpggbbdfbnocfaaGP2
import Derived.Test.YtpggbbdfbnocfaaRowFW4
import Derived.Test.YtpggbbdfbnocfaaRowCN4
namespace Go.Proofs.Ytpggbbdfbnocfaa
open Go.ChangeShapes Go.WideShapes Go.ChangeAt Go.RowKit

structure FI where
  hs : List HO
  gs : List GP
  fs : List FW
  pub : Int
  fst : Int
  lst : Int
  cs : List CN
  time : Int
structure FA where
  vhs : Value
  vgs : Value
  vfs : Value
  vcs : Value
  qhs : List NH
  qgs : List NG
def flC (s : FI) (a : FA) : Array Value := #[a.vhs, a.vgs, a.vfs, .int .i64 s.pub, .int .i64 s.fst, .int .i64 s.lst, a.vcs, .int .i64 s.time]
def flA (s : FI) (a : FA) : Value := .agg (flC s a)
structure FIRows (w : World) (s : FI) (a : FA) : Prop where
  rhs : NHrow w a.vhs a.qhs
  nhs : HOin w a.qhs s.hs
  rgs : NGrow w a.vgs a.qgs
  ngs : GPin w a.qgs s.gs
  rfs : FWrow w a.vfs s.fs
  rcs : CNrow w a.vcs s.cs
theorem FIRows.below {w w' : World} {s : FI} {a : FA} (h : FIRows w s a) (hb : Below w.heap.size w w') : FIRows w' s a := ⟨h.rhs.below hb, h.nhs.below hb, h.rgs.below hb, h.ngs.below hb, h.rfs.below hb, h.rcs.below hb⟩
theorem FIRows.sl {w : World} {s : FI} {a : FA} (h : FIRows w s a) : ∃ ahs khs ags kgs afs kfs acs kcs, a = ⟨.slice ahs s.hs.length khs, .slice ags s.gs.length kgs, .slice afs s.fs.length kfs, .slice acs s.cs.length kcs, a.qhs, a.qgs⟩ := by
  obtain ⟨ahs, khs, ehs⟩ := h.rhs.sl
  obtain ⟨ags, kgs, egs⟩ := h.rgs.sl
  obtain ⟨afs, kfs, efs⟩ := h.rfs.sl
  obtain ⟨acs, kcs, ecs⟩ := h.rcs.sl
  refine ⟨ahs, khs, ags, kgs, afs, kfs, acs, kcs, ?_⟩
  rw [← h.nhs.len, ← h.ngs.len, ← ehs, ← egs, ← efs, ← ecs]
structure FIlen (s : FI) : Prop where
  lhs : HOlen s.hs
  lgs : GPlen s.gs
  lfs : s.fs.length ≤ 1048576
  lcs : s.cs.length ≤ 1048576
structure FImax (s : FI) : Prop where
  lhs : HOmax s.hs
  lgs : GPmax s.gs
  lfs : s.fs.length ≤ maxLen
  lcs : s.cs.length ≤ maxLen
set_option maxRecDepth 100000 in
set_option maxHeartbeats 8000000 in
theorem toFI_any {w : World} {s : FI} {a : FA} (h : FIRows w s a) (hl : FIlen s) : Calls Try.prog 7 #[flA s a] w fun e w' => ∃ a2 : FA, e = .returned (flA s a2) ∧ FIRows w' s a2 ∧ Below w.heap.size w w' := by
  have HR : Hid (FIRows w s a) := h
  obtain ⟨ahs, khs, ags, kgs, afs, kfs, acs, kcs, e⟩ := h.sl
  have HL : Hid (FIlen s) := hl
  generalize a.qhs = qhs at e
  generalize a.qgs = qgs at e
  subst e
  clear h hl
  unfold flA flC
  simp only
  go_enter Try.func7, Try.ntmps7
  go_wp2_with fail
  have HT0 : Hid (T3 w (((w.alloc (.cells #[.slice ahs s.hs.length khs, .slice ags s.gs.length kgs, .slice afs s.fs.length kfs, .int .i64 s.pub, .int .i64 s.fst, .int .i64 s.lst, .slice acs s.cs.length kcs, .int .i64 s.time] 27)).alloc (.cells #[.slice none 0 0, .slice none 0 0, .slice none 0 0, .int .i64 0, .int .i64 0, .int .i64 0, .slice none 0 0, .int .i64 0] 35)).alloc (.cells #[.slice none 0 0, .slice none 0 0, .slice none 0 0, .int .i64 0, .int .i64 0, .int .i64 0, .slice none 0 0, .int .i64 0] 35)) 27 35 #[.slice ahs s.hs.length khs, .slice ags s.gs.length kgs, .slice afs s.fs.length kfs, .int .i64 s.pub, .int .i64 s.fst, .int .i64 s.lst, .slice acs s.cs.length kcs, .int .i64 s.time] #[.slice none 0 0, .slice none 0 0, .slice none 0 0, .int .i64 0, .int .i64 0, .int .i64 0, .slice none 0 0, .int .i64 0] #[.slice none 0 0, .slice none 0 0, .slice none 0 0, .int .i64 0, .int .i64 0, .int .i64 0, .slice none 0 0, .int .i64 0]) := T3.new _ _ _ _ _ _
  generalize (((w.alloc (.cells #[.slice ahs s.hs.length khs, .slice ags s.gs.length kgs, .slice afs s.fs.length kfs, .int .i64 s.pub, .int .i64 s.fst, .int .i64 s.lst, .slice acs s.cs.length kcs, .int .i64 s.time] 27)).alloc (.cells #[.slice none 0 0, .slice none 0 0, .slice none 0 0, .int .i64 0, .int .i64 0, .int .i64 0, .slice none 0 0, .int .i64 0] 35)).alloc (.cells #[.slice none 0 0, .slice none 0 0, .slice none 0 0, .int .i64 0, .int .i64 0, .int .i64 0, .slice none 0 0, .int .i64 0] 35)) = V0 at *
  refine Calls.mono (toHOS_any (HR.out.rhs.below HT0.out.bel) (HR.out.nhs.below HT0.out.bel) HL.out.lhs.len HL.out.lhs.el) ?_
  rintro e u0 ⟨vhs, qhs2, rfl, o1, p1, hb1⟩
  have hq2 : qhs2.length = s.hs.length := p1.len
  rw [hq2] at o1
  obtain ⟨ahs2, khs2, rfl⟩ := nh_sl o1
  have HT1 : Hid (T3 w u0 27 35 #[.slice ahs s.hs.length khs, .slice ags s.gs.length kgs, .slice afs s.fs.length kfs, .int .i64 s.pub, .int .i64 s.fst, .int .i64 s.lst, .slice acs s.cs.length kcs, .int .i64 s.time] #[.slice none 0 0, .slice none 0 0, .slice none 0 0, .int .i64 0, .int .i64 0, .int .i64 0, .slice none 0 0, .int .i64 0] #[.slice none 0 0, .slice none 0 0, .slice none 0 0, .int .i64 0, .int .i64 0, .int .i64 0, .slice none 0 0, .int .i64 0]) := HT0.out.step hb1
  have HOhs_0 : Hid (u0.ownsRow (w.heap.size + 3) 86 2 (.slice ahs2 s.hs.length khs2) s.hs.length (nhR qhs2)) := own_weakN o1 (by have := HT0.out.lt; omega)
  have HPhs_0 : Hid (HOown u0 (w.heap.size + 3) qhs2 s.hs s.hs.length) := p1.weak (by have := HT0.out.lt; omega)
  have HQhs : Hid (qhs2.length = s.hs.length) := hq2
  clear o1 hb1 HT0 p1 hq2
  have c1 := celN HT1.out.b0 1 _ rfl
  have d0 := celN HT1.out.b2 0 _ rfl
  have df := frzN HT1.out.b2
  have lt1 := HT1.out.lt
  have g0 : w.heap.size < u0.heap.size := by omega
  have g2 : w.heap.size + 1 + 1 < u0.heap.size := by omega
  go_wp2_with fail
  clear c1 d0 df lt1 g0 g2
  have HT2 : Hid (T3 w (u0.setCell ⟨w.heap.size + 1 + 1, 0, none⟩ (.slice ahs2 s.hs.length khs2)) 27 35 #[.slice ahs s.hs.length khs, .slice ags s.gs.length kgs, .slice afs s.fs.length kfs, .int .i64 s.pub, .int .i64 s.fst, .int .i64 s.lst, .slice acs s.cs.length kcs, .int .i64 s.time] #[.slice none 0 0, .slice none 0 0, .slice none 0 0, .int .i64 0, .int .i64 0, .int .i64 0, .slice none 0 0, .int .i64 0] #[.slice ahs2 s.hs.length khs2, .slice none 0 0, .slice none 0 0, .int .i64 0, .int .i64 0, .int .i64 0, .slice none 0 0, .int .i64 0]) := (HT1.out.set 0 (.slice ahs2 s.hs.length khs2))
  have hk : ∀ (x : World) (k o : Nat) (y : Value) (a : Nat), k ≠ a → (x.setCell ⟨a, o, none⟩ y).heap[k]? = x.heap[k]? := fun x k o y a h => Below.heap_setCell _ _ _ _ (by simpa using h)
  have HOhs_0v : Hid ((u0.setCell ⟨w.heap.size + 1 + 1, 0, none⟩ (.slice ahs2 s.hs.length khs2)).ownsRow (w.heap.size + 3) 86 2 (.slice ahs2 s.hs.length khs2) s.hs.length (nhR qhs2)) := own_heapN HOhs_0.out (fun k hk2 => by repeat rw [hk _ _ _ _ _ (by omega)]) (Nat.le_refl _)
  have HPhs_0v : Hid (HOown (u0.setCell ⟨w.heap.size + 1 + 1, 0, none⟩ (.slice ahs2 s.hs.length khs2)) (w.heap.size + 3) qhs2 s.hs s.hs.length) := HPhs_0.out.heap (fun k hk2 => by repeat rw [hk _ _ _ _ _ (by omega)]) (Nat.le_refl _)
  generalize (u0.setCell ⟨w.heap.size + 1 + 1, 0, none⟩ (.slice ahs2 s.hs.length khs2)) = V1 at *
  clear HT1 HOhs_0 HPhs_0 hk
  refine Calls.mono (toGPS_any (HR.out.rgs.below HT2.out.bel) (HR.out.ngs.below HT2.out.bel) HL.out.lgs.len HL.out.lgs.el) ?_
  rintro e u1 ⟨vgs, qgs2, rfl, o1, p1, hb1⟩
  have hq2 : qgs2.length = s.gs.length := p1.len
  rw [hq2] at o1
  obtain ⟨ags2, kgs2, rfl⟩ := ng_sl o1
  have HT3 : Hid (T3 w u1 27 35 #[.slice ahs s.hs.length khs, .slice ags s.gs.length kgs, .slice afs s.fs.length kfs, .int .i64 s.pub, .int .i64 s.fst, .int .i64 s.lst, .slice acs s.cs.length kcs, .int .i64 s.time] #[.slice none 0 0, .slice none 0 0, .slice none 0 0, .int .i64 0, .int .i64 0, .int .i64 0, .slice none 0 0, .int .i64 0] #[.slice ahs2 s.hs.length khs2, .slice none 0 0, .slice none 0 0, .int .i64 0, .int .i64 0, .int .i64 0, .slice none 0 0, .int .i64 0]) := HT2.out.step hb1
  have HOgs_1 : Hid (u1.ownsRow (w.heap.size + 3) 90 1 (.slice ags2 s.gs.length kgs2) s.gs.length (ngR qgs2)) := own_weakN o1 (by have := HT2.out.lt; omega)
  have HPgs_1 : Hid (GPown u1 (w.heap.size + 3) qgs2 s.gs s.gs.length) := p1.weak (by have := HT2.out.lt; omega)
  have HQgs : Hid (qgs2.length = s.gs.length) := hq2
  have HOhs_1 : Hid (u1.ownsRow (w.heap.size + 3) 86 2 (.slice ahs2 s.hs.length khs2) s.hs.length (nhR qhs2)) := own_belowN HOhs_0v.out hb1
  have HPhs_1 : Hid (HOown u1 (w.heap.size + 3) qhs2 s.hs s.hs.length) := HPhs_0v.out.below hb1
  clear o1 hb1 HT2 p1 hq2 HOhs_0v HPhs_0v
  have c2 := celN HT3.out.b0 2 _ rfl
  have d1 := celN HT3.out.b2 1 _ rfl
  have df := frzN HT3.out.b2
  have lt1 := HT3.out.lt
  have g0 : w.heap.size < u1.heap.size := by omega
  have g2 : w.heap.size + 1 + 1 < u1.heap.size := by omega
  go_wp2_with fail
  clear c2 d1 df lt1 g0 g2
  have HT4 : Hid (T3 w (u1.setCell ⟨w.heap.size + 1 + 1, 1, none⟩ (.slice ags2 s.gs.length kgs2)) 27 35 #[.slice ahs s.hs.length khs, .slice ags s.gs.length kgs, .slice afs s.fs.length kfs, .int .i64 s.pub, .int .i64 s.fst, .int .i64 s.lst, .slice acs s.cs.length kcs, .int .i64 s.time] #[.slice none 0 0, .slice none 0 0, .slice none 0 0, .int .i64 0, .int .i64 0, .int .i64 0, .slice none 0 0, .int .i64 0] #[.slice ahs2 s.hs.length khs2, .slice ags2 s.gs.length kgs2, .slice none 0 0, .int .i64 0, .int .i64 0, .int .i64 0, .slice none 0 0, .int .i64 0]) := (HT3.out.set 1 (.slice ags2 s.gs.length kgs2))
  have hk : ∀ (x : World) (k o : Nat) (y : Value) (a : Nat), k ≠ a → (x.setCell ⟨a, o, none⟩ y).heap[k]? = x.heap[k]? := fun x k o y a h => Below.heap_setCell _ _ _ _ (by simpa using h)
  have HOhs_1v : Hid ((u1.setCell ⟨w.heap.size + 1 + 1, 1, none⟩ (.slice ags2 s.gs.length kgs2)).ownsRow (w.heap.size + 3) 86 2 (.slice ahs2 s.hs.length khs2) s.hs.length (nhR qhs2)) := own_heapN HOhs_1.out (fun k hk2 => by repeat rw [hk _ _ _ _ _ (by omega)]) (Nat.le_refl _)
  have HPhs_1v : Hid (HOown (u1.setCell ⟨w.heap.size + 1 + 1, 1, none⟩ (.slice ags2 s.gs.length kgs2)) (w.heap.size + 3) qhs2 s.hs s.hs.length) := HPhs_1.out.heap (fun k hk2 => by repeat rw [hk _ _ _ _ _ (by omega)]) (Nat.le_refl _)
  have HOgs_1v : Hid ((u1.setCell ⟨w.heap.size + 1 + 1, 1, none⟩ (.slice ags2 s.gs.length kgs2)).ownsRow (w.heap.size + 3) 90 1 (.slice ags2 s.gs.length kgs2) s.gs.length (ngR qgs2)) := own_heapN HOgs_1.out (fun k hk2 => by repeat rw [hk _ _ _ _ _ (by omega)]) (Nat.le_refl _)
  have HPgs_1v : Hid (GPown (u1.setCell ⟨w.heap.size + 1 + 1, 1, none⟩ (.slice ags2 s.gs.length kgs2)) (w.heap.size + 3) qgs2 s.gs s.gs.length) := HPgs_1.out.heap (fun k hk2 => by repeat rw [hk _ _ _ _ _ (by omega)]) (Nat.le_refl _)
  generalize (u1.setCell ⟨w.heap.size + 1 + 1, 1, none⟩ (.slice ags2 s.gs.length kgs2)) = V2 at *
  clear HT3 HOhs_1 HPhs_1 HOgs_1 HPgs_1 hk
  refine Calls.mono (toFWS_any (HR.out.rfs.below HT4.out.bel) HL.out.lfs) ?_
  rintro e u2 ⟨vfs, rfl, o1, hb1⟩
  obtain ⟨afs2, kfs2, rfl⟩ := fw_sl o1
  have HT5 : Hid (T3 w u2 27 35 #[.slice ahs s.hs.length khs, .slice ags s.gs.length kgs, .slice afs s.fs.length kfs, .int .i64 s.pub, .int .i64 s.fst, .int .i64 s.lst, .slice acs s.cs.length kcs, .int .i64 s.time] #[.slice none 0 0, .slice none 0 0, .slice none 0 0, .int .i64 0, .int .i64 0, .int .i64 0, .slice none 0 0, .int .i64 0] #[.slice ahs2 s.hs.length khs2, .slice ags2 s.gs.length kgs2, .slice none 0 0, .int .i64 0, .int .i64 0, .int .i64 0, .slice none 0 0, .int .i64 0]) := HT4.out.step hb1
  have HOfs_2 : Hid (u2.ownsRow (w.heap.size + 3) 56 4 (.slice afs2 s.fs.length kfs2) s.fs.length (fwR s.fs)) := own_weakN o1 (by have := HT4.out.lt; omega)
  have HOhs_2 : Hid (u2.ownsRow (w.heap.size + 3) 86 2 (.slice ahs2 s.hs.length khs2) s.hs.length (nhR qhs2)) := own_belowN HOhs_1v.out hb1
  have HPhs_2 : Hid (HOown u2 (w.heap.size + 3) qhs2 s.hs s.hs.length) := HPhs_1v.out.below hb1
  have HOgs_2 : Hid (u2.ownsRow (w.heap.size + 3) 90 1 (.slice ags2 s.gs.length kgs2) s.gs.length (ngR qgs2)) := own_belowN HOgs_1v.out hb1
  have HPgs_2 : Hid (GPown u2 (w.heap.size + 3) qgs2 s.gs s.gs.length) := HPgs_1v.out.below hb1
  clear o1 hb1 HT4 HOhs_1v HPhs_1v HOgs_1v HPgs_1v
  have c3 := celN HT5.out.b0 3 _ rfl
  have c4 := celN HT5.out.b0 4 _ rfl
  have c5 := celN HT5.out.b0 5 _ rfl
  have c6 := celN HT5.out.b0 6 _ rfl
  have d2 := celN HT5.out.b2 2 _ rfl
  have d3 := celN HT5.out.b2 3 _ rfl
  have d4 := celN HT5.out.b2 4 _ rfl
  have d5 := celN HT5.out.b2 5 _ rfl
  have df := frzN HT5.out.b2
  have lt1 := HT5.out.lt
  have g0 : w.heap.size < u2.heap.size := by omega
  have g2 : w.heap.size + 1 + 1 < u2.heap.size := by omega
  go_wp2_with fail
  clear c3 c4 c5 c6 d2 d3 d4 d5 df lt1 g0 g2
  have HT6 : Hid (T3 w ((((u2.setCell ⟨w.heap.size + 1 + 1, 2, none⟩ (.slice afs2 s.fs.length kfs2)).setCell ⟨w.heap.size + 1 + 1, 3, none⟩ (.int .i64 s.pub)).setCell ⟨w.heap.size + 1 + 1, 4, none⟩ (.int .i64 s.fst)).setCell ⟨w.heap.size + 1 + 1, 5, none⟩ (.int .i64 s.lst)) 27 35 #[.slice ahs s.hs.length khs, .slice ags s.gs.length kgs, .slice afs s.fs.length kfs, .int .i64 s.pub, .int .i64 s.fst, .int .i64 s.lst, .slice acs s.cs.length kcs, .int .i64 s.time] #[.slice none 0 0, .slice none 0 0, .slice none 0 0, .int .i64 0, .int .i64 0, .int .i64 0, .slice none 0 0, .int .i64 0] #[.slice ahs2 s.hs.length khs2, .slice ags2 s.gs.length kgs2, .slice afs2 s.fs.length kfs2, .int .i64 s.pub, .int .i64 s.fst, .int .i64 s.lst, .slice none 0 0, .int .i64 0]) := ((((HT5.out.set 2 (.slice afs2 s.fs.length kfs2)).set 3 (.int .i64 s.pub)).set 4 (.int .i64 s.fst)).set 5 (.int .i64 s.lst))
  have hk : ∀ (x : World) (k o : Nat) (y : Value) (a : Nat), k ≠ a → (x.setCell ⟨a, o, none⟩ y).heap[k]? = x.heap[k]? := fun x k o y a h => Below.heap_setCell _ _ _ _ (by simpa using h)
  have HOhs_2v : Hid (((((u2.setCell ⟨w.heap.size + 1 + 1, 2, none⟩ (.slice afs2 s.fs.length kfs2)).setCell ⟨w.heap.size + 1 + 1, 3, none⟩ (.int .i64 s.pub)).setCell ⟨w.heap.size + 1 + 1, 4, none⟩ (.int .i64 s.fst)).setCell ⟨w.heap.size + 1 + 1, 5, none⟩ (.int .i64 s.lst)).ownsRow (w.heap.size + 3) 86 2 (.slice ahs2 s.hs.length khs2) s.hs.length (nhR qhs2)) := own_heapN HOhs_2.out (fun k hk2 => by repeat rw [hk _ _ _ _ _ (by omega)]) (Nat.le_refl _)
  have HPhs_2v : Hid (HOown ((((u2.setCell ⟨w.heap.size + 1 + 1, 2, none⟩ (.slice afs2 s.fs.length kfs2)).setCell ⟨w.heap.size + 1 + 1, 3, none⟩ (.int .i64 s.pub)).setCell ⟨w.heap.size + 1 + 1, 4, none⟩ (.int .i64 s.fst)).setCell ⟨w.heap.size + 1 + 1, 5, none⟩ (.int .i64 s.lst)) (w.heap.size + 3) qhs2 s.hs s.hs.length) := HPhs_2.out.heap (fun k hk2 => by repeat rw [hk _ _ _ _ _ (by omega)]) (Nat.le_refl _)
  have HOgs_2v : Hid (((((u2.setCell ⟨w.heap.size + 1 + 1, 2, none⟩ (.slice afs2 s.fs.length kfs2)).setCell ⟨w.heap.size + 1 + 1, 3, none⟩ (.int .i64 s.pub)).setCell ⟨w.heap.size + 1 + 1, 4, none⟩ (.int .i64 s.fst)).setCell ⟨w.heap.size + 1 + 1, 5, none⟩ (.int .i64 s.lst)).ownsRow (w.heap.size + 3) 90 1 (.slice ags2 s.gs.length kgs2) s.gs.length (ngR qgs2)) := own_heapN HOgs_2.out (fun k hk2 => by repeat rw [hk _ _ _ _ _ (by omega)]) (Nat.le_refl _)
  have HPgs_2v : Hid (GPown ((((u2.setCell ⟨w.heap.size + 1 + 1, 2, none⟩ (.slice afs2 s.fs.length kfs2)).setCell ⟨w.heap.size + 1 + 1, 3, none⟩ (.int .i64 s.pub)).setCell ⟨w.heap.size + 1 + 1, 4, none⟩ (.int .i64 s.fst)).setCell ⟨w.heap.size + 1 + 1, 5, none⟩ (.int .i64 s.lst)) (w.heap.size + 3) qgs2 s.gs s.gs.length) := HPgs_2.out.heap (fun k hk2 => by repeat rw [hk _ _ _ _ _ (by omega)]) (Nat.le_refl _)
  have HOfs_2v : Hid (((((u2.setCell ⟨w.heap.size + 1 + 1, 2, none⟩ (.slice afs2 s.fs.length kfs2)).setCell ⟨w.heap.size + 1 + 1, 3, none⟩ (.int .i64 s.pub)).setCell ⟨w.heap.size + 1 + 1, 4, none⟩ (.int .i64 s.fst)).setCell ⟨w.heap.size + 1 + 1, 5, none⟩ (.int .i64 s.lst)).ownsRow (w.heap.size + 3) 56 4 (.slice afs2 s.fs.length kfs2) s.fs.length (fwR s.fs)) := own_heapN HOfs_2.out (fun k hk2 => by repeat rw [hk _ _ _ _ _ (by omega)]) (Nat.le_refl _)
  generalize ((((u2.setCell ⟨w.heap.size + 1 + 1, 2, none⟩ (.slice afs2 s.fs.length kfs2)).setCell ⟨w.heap.size + 1 + 1, 3, none⟩ (.int .i64 s.pub)).setCell ⟨w.heap.size + 1 + 1, 4, none⟩ (.int .i64 s.fst)).setCell ⟨w.heap.size + 1 + 1, 5, none⟩ (.int .i64 s.lst)) = V3 at *
  clear HT5 HOhs_2 HPhs_2 HOgs_2 HPgs_2 HOfs_2 hk
  refine Calls.mono (toCNS_any (HR.out.rcs.below HT6.out.bel) HL.out.lcs) ?_
  rintro e u3 ⟨vcs, rfl, o1, hb1⟩
  obtain ⟨acs2, kcs2, rfl⟩ := cn_sl o1
  have HT7 : Hid (T3 w u3 27 35 #[.slice ahs s.hs.length khs, .slice ags s.gs.length kgs, .slice afs s.fs.length kfs, .int .i64 s.pub, .int .i64 s.fst, .int .i64 s.lst, .slice acs s.cs.length kcs, .int .i64 s.time] #[.slice none 0 0, .slice none 0 0, .slice none 0 0, .int .i64 0, .int .i64 0, .int .i64 0, .slice none 0 0, .int .i64 0] #[.slice ahs2 s.hs.length khs2, .slice ags2 s.gs.length kgs2, .slice afs2 s.fs.length kfs2, .int .i64 s.pub, .int .i64 s.fst, .int .i64 s.lst, .slice none 0 0, .int .i64 0]) := HT6.out.step hb1
  have HOcs_3 : Hid (u3.ownsRow (w.heap.size + 3) 59 10 (.slice acs2 s.cs.length kcs2) s.cs.length (cnR s.cs)) := own_weakN o1 (by have := HT6.out.lt; omega)
  have HOhs_3 : Hid (u3.ownsRow (w.heap.size + 3) 86 2 (.slice ahs2 s.hs.length khs2) s.hs.length (nhR qhs2)) := own_belowN HOhs_2v.out hb1
  have HPhs_3 : Hid (HOown u3 (w.heap.size + 3) qhs2 s.hs s.hs.length) := HPhs_2v.out.below hb1
  have HOgs_3 : Hid (u3.ownsRow (w.heap.size + 3) 90 1 (.slice ags2 s.gs.length kgs2) s.gs.length (ngR qgs2)) := own_belowN HOgs_2v.out hb1
  have HPgs_3 : Hid (GPown u3 (w.heap.size + 3) qgs2 s.gs s.gs.length) := HPgs_2v.out.below hb1
  have HOfs_3 : Hid (u3.ownsRow (w.heap.size + 3) 56 4 (.slice afs2 s.fs.length kfs2) s.fs.length (fwR s.fs)) := own_belowN HOfs_2v.out hb1
  clear o1 hb1 HT6 HOhs_2v HPhs_2v HOgs_2v HPgs_2v HOfs_2v
  have c7 := celN HT7.out.b0 7 _ rfl
  have d0 := celN HT7.out.b2 0 _ rfl
  have d1 := celN HT7.out.b2 1 _ rfl
  have d2 := celN HT7.out.b2 2 _ rfl
  have d3 := celN HT7.out.b2 3 _ rfl
  have d4 := celN HT7.out.b2 4 _ rfl
  have d5 := celN HT7.out.b2 5 _ rfl
  have d6 := celN HT7.out.b2 6 _ rfl
  have d7 := celN HT7.out.b2 7 _ rfl
  have df := frzN HT7.out.b2
  have lt1 := HT7.out.lt
  have g0 : w.heap.size < u3.heap.size := by omega
  have k0 := celN HT7.out.b1 0 _ rfl
  have k1 := celN HT7.out.b1 1 _ rfl
  have k2 := celN HT7.out.b1 2 _ rfl
  have k3 := celN HT7.out.b1 3 _ rfl
  have k4 := celN HT7.out.b1 4 _ rfl
  have k5 := celN HT7.out.b1 5 _ rfl
  have k6 := celN HT7.out.b1 6 _ rfl
  have k7 := celN HT7.out.b1 7 _ rfl
  have kf := frzN HT7.out.b1
  have g1 : w.heap.size + 1 < u3.heap.size := by omega
  have g2 : w.heap.size + 1 + 1 < u3.heap.size := by omega
  go_wp2
  have hk : ∀ (x : World) (k o : Nat) (y : Value) (a : Nat), k ≠ a → (x.setCell ⟨a, o, none⟩ y).heap[k]? = x.heap[k]? := fun x k o y a h => Below.heap_setCell _ _ _ _ (by simpa using h)
  refine bodyPost_ret (v := .agg #[.slice ahs2 s.hs.length khs2, .slice ags2 s.gs.length kgs2, .slice afs2 s.fs.length kfs2, .int .i64 s.pub, .int .i64 s.fst, .int .i64 s.lst, .slice acs2 s.cs.length kcs2, .int .i64 s.time]) ?_ rfl ⟨⟨.slice ahs2 s.hs.length khs2, .slice ags2 s.gs.length kgs2, .slice afs2 s.fs.length kfs2, .slice acs2 s.cs.length kcs2, qhs2, qgs2⟩, rfl, ⟨NHrow.of (B := w.heap.size + 3) (by simp only; rw [HQhs.out]; exact own_heapN HOhs_3.out (fun k hk2 => by repeat rw [hk _ _ _ _ _ (by omega)]) (Nat.le_refl _)), HOown.inn (B := w.heap.size + 3) (HPhs_3.out.heap (fun k hk2 => by repeat rw [hk _ _ _ _ _ (by omega)]) (Nat.le_refl _)), NGrow.of (B := w.heap.size + 3) (by simp only; rw [HQgs.out]; exact own_heapN HOgs_3.out (fun k hk2 => by repeat rw [hk _ _ _ _ _ (by omega)]) (Nat.le_refl _)), GPown.inn (B := w.heap.size + 3) (HPgs_3.out.heap (fun k hk2 => by repeat rw [hk _ _ _ _ _ (by omega)]) (Nat.le_refl _)), FWrow.of (B := w.heap.size + 3) (own_heapN HOfs_3.out (fun k hk2 => by repeat rw [hk _ _ _ _ _ (by omega)]) (Nat.le_refl _)), CNrow.of (B := w.heap.size + 3) (own_heapN HOcs_3.out (fun k hk2 => by repeat rw [hk _ _ _ _ _ (by omega)]) (Nat.le_refl _))⟩, ?_⟩
  · simp only [results, Try.results7, go_sem]
    simp [go_sem, k0, k1, k2, k3, k4, k5, k6, k7]
  · have hB := HT7.out.bel
    repeat refine Below.setCell ?_ (by simp only; omega) _
    exact hB
set_option maxRecDepth 100000 in
set_option maxHeartbeats 8000000 in
theorem eqFI_ok {w : World} {s : FI} {a a2 : FA} (h : FIRows w s a) (h' : FIRows w s a2) (hl : FIlen s) : Calls Try.prog 9 #[flA s a, flA s a2] w fun e w' => e = .returned (.bool true) ∧ Below w.heap.size w w' := by
  have H1 : Hid (FIRows w s a) := h
  have H2 : Hid (FIRows w s a2) := h'
  have HL : Hid (FIlen s) := hl
  obtain ⟨ahs, khs, ags, kgs, afs, kfs, acs, kcs, e⟩ := h.sl
  obtain ⟨ahsx, khsx, agsx, kgsx, afsx, kfsx, acsx, kcsx, e'⟩ := h'.sl
  generalize a.qhs = qhs at e
  generalize a2.qhs = qhsx at e'
  generalize a.qgs = qgs at e
  generalize a2.qgs = qgsx at e'
  subst e e'
  clear h h' hl
  have n3 : (s.pub != s.pub) = false := by simp
  have n4 : (s.fst != s.fst) = false := by simp
  have n5 : (s.lst != s.lst) = false := by simp
  have n7 : (s.time != s.time) = false := by simp
  have HE0 : Hid (E2 w ((w.alloc (.cells #[.slice ahs s.hs.length khs, .slice ags s.gs.length kgs, .slice afs s.fs.length kfs, .int .i64 s.pub, .int .i64 s.fst, .int .i64 s.lst, .slice acs s.cs.length kcs, .int .i64 s.time] 35)).alloc (.cells #[.slice ahsx s.hs.length khsx, .slice agsx s.gs.length kgsx, .slice afsx s.fs.length kfsx, .int .i64 s.pub, .int .i64 s.fst, .int .i64 s.lst, .slice acsx s.cs.length kcsx, .int .i64 s.time] 35)) 35 #[.slice ahs s.hs.length khs, .slice ags s.gs.length kgs, .slice afs s.fs.length kfs, .int .i64 s.pub, .int .i64 s.fst, .int .i64 s.lst, .slice acs s.cs.length kcs, .int .i64 s.time] #[.slice ahsx s.hs.length khsx, .slice agsx s.gs.length kgsx, .slice afsx s.fs.length kfsx, .int .i64 s.pub, .int .i64 s.fst, .int .i64 s.lst, .slice acsx s.cs.length kcsx, .int .i64 s.time]) := E2.new _ _ _ _
  unfold flA flC
  simp only
  go_enter Try.func9, Try.ntmps9
  go_wp2_with fail
  generalize ((w.alloc (.cells #[.slice ahs s.hs.length khs, .slice ags s.gs.length kgs, .slice afs s.fs.length kfs, .int .i64 s.pub, .int .i64 s.fst, .int .i64 s.lst, .slice acs s.cs.length kcs, .int .i64 s.time] 35)).alloc (.cells #[.slice ahsx s.hs.length khsx, .slice agsx s.gs.length kgsx, .slice afsx s.fs.length kfsx, .int .i64 s.pub, .int .i64 s.fst, .int .i64 s.lst, .slice acsx s.cs.length kcsx, .int .i64 s.time] 35)) = u0 at *
  refine Calls.mono (eqHOS_ok (H1.out.rhs.below HE0.out.bel) (H1.out.nhs.below HE0.out.bel) (H2.out.rhs.below HE0.out.bel) (H2.out.nhs.below HE0.out.bel) HL.out.lhs.len HL.out.lhs.el) ?_
  rintro e u1 ⟨rfl, hb1⟩
  have HE1 : Hid (E2 w u1 35 #[.slice ahs s.hs.length khs, .slice ags s.gs.length kgs, .slice afs s.fs.length kfs, .int .i64 s.pub, .int .i64 s.fst, .int .i64 s.lst, .slice acs s.cs.length kcs, .int .i64 s.time] #[.slice ahsx s.hs.length khsx, .slice agsx s.gs.length kgsx, .slice afsx s.fs.length kfsx, .int .i64 s.pub, .int .i64 s.fst, .int .i64 s.lst, .slice acsx s.cs.length kcsx, .int .i64 s.time]) := HE0.out.step hb1
  clear hb1 HE0
  have c1 := celN HE1.out.b0 1 _ rfl
  have d1 := celN HE1.out.b1 1 _ rfl
  have lt := HE1.out.lt
  have lt0 : w.heap.size < u1.heap.size := by omega
  go_wp2_with fail
  clear c1 d1 lt lt0
  refine Calls.mono (eqGPS_ok (H1.out.rgs.below HE1.out.bel) (H1.out.ngs.below HE1.out.bel) (H2.out.rgs.below HE1.out.bel) (H2.out.ngs.below HE1.out.bel) HL.out.lgs.len HL.out.lgs.el) ?_
  rintro e u2 ⟨rfl, hb1⟩
  have HE2 : Hid (E2 w u2 35 #[.slice ahs s.hs.length khs, .slice ags s.gs.length kgs, .slice afs s.fs.length kfs, .int .i64 s.pub, .int .i64 s.fst, .int .i64 s.lst, .slice acs s.cs.length kcs, .int .i64 s.time] #[.slice ahsx s.hs.length khsx, .slice agsx s.gs.length kgsx, .slice afsx s.fs.length kfsx, .int .i64 s.pub, .int .i64 s.fst, .int .i64 s.lst, .slice acsx s.cs.length kcsx, .int .i64 s.time]) := HE1.out.step hb1
  clear hb1 HE1
  have c2 := celN HE2.out.b0 2 _ rfl
  have d2 := celN HE2.out.b1 2 _ rfl
  have lt := HE2.out.lt
  have lt0 : w.heap.size < u2.heap.size := by omega
  go_wp2_with fail
  clear c2 d2 lt lt0
  refine Calls.mono (eqFWS_ok (H1.out.rfs.below HE2.out.bel) (H2.out.rfs.below HE2.out.bel) HL.out.lfs) ?_
  rintro e u3 ⟨rfl, hb1⟩
  have HE3 : Hid (E2 w u3 35 #[.slice ahs s.hs.length khs, .slice ags s.gs.length kgs, .slice afs s.fs.length kfs, .int .i64 s.pub, .int .i64 s.fst, .int .i64 s.lst, .slice acs s.cs.length kcs, .int .i64 s.time] #[.slice ahsx s.hs.length khsx, .slice agsx s.gs.length kgsx, .slice afsx s.fs.length kfsx, .int .i64 s.pub, .int .i64 s.fst, .int .i64 s.lst, .slice acsx s.cs.length kcsx, .int .i64 s.time]) := HE2.out.step hb1
  clear hb1 HE2
  have c3 := celN HE3.out.b0 3 _ rfl
  have d3 := celN HE3.out.b1 3 _ rfl
  have c4 := celN HE3.out.b0 4 _ rfl
  have d4 := celN HE3.out.b1 4 _ rfl
  have c5 := celN HE3.out.b0 5 _ rfl
  have d5 := celN HE3.out.b1 5 _ rfl
  have c6 := celN HE3.out.b0 6 _ rfl
  have d6 := celN HE3.out.b1 6 _ rfl
  have lt := HE3.out.lt
  have lt0 : w.heap.size < u3.heap.size := by omega
  go_wp2_with fail
  clear c3 d3 c4 d4 c5 d5 c6 d6 lt lt0
  refine Calls.mono (eqCNS_ok (H1.out.rcs.below HE3.out.bel) (H2.out.rcs.below HE3.out.bel) HL.out.lcs) ?_
  rintro e u4 ⟨rfl, hb1⟩
  have HE4 : Hid (E2 w u4 35 #[.slice ahs s.hs.length khs, .slice ags s.gs.length kgs, .slice afs s.fs.length kfs, .int .i64 s.pub, .int .i64 s.fst, .int .i64 s.lst, .slice acs s.cs.length kcs, .int .i64 s.time] #[.slice ahsx s.hs.length khsx, .slice agsx s.gs.length kgsx, .slice afsx s.fs.length kfsx, .int .i64 s.pub, .int .i64 s.fst, .int .i64 s.lst, .slice acsx s.cs.length kcsx, .int .i64 s.time]) := HE3.out.step hb1
  clear hb1 HE3
  have c7 := celN HE4.out.b0 7 _ rfl
  have d7 := celN HE4.out.b1 7 _ rfl
  have lt := HE4.out.lt
  have lt0 : w.heap.size < u4.heap.size := by omega
  go_wp2
  go_ret
  exact ⟨rfl, HE4.out.bel⟩
set_option maxRecDepth 100000 in
set_option maxHeartbeats 8000000 in
theorem szFI_w {w : World} {s : FI} {a : FA} (h : FIRows w s a) (hm : FImax s) : Calls Try.prog 5 #[flA s a, .int .i64 1048576] w fun e w' => ∃ q, e = .returned (.int .i64 q) ∧ -1 ≤ q ∧ q ≤ 1048576 ∧ (0 ≤ q → FIlen s) ∧ Below w.heap.size w w' := by
  have H1 : Hid (FIRows w s a) := h
  have HM : Hid (FImax s) := hm
  obtain ⟨ahs, khs, ags, kgs, afs, kfs, acs, kcs, e⟩ := h.sl
  generalize a.qhs = qhs at e
  generalize a.qgs = qgs at e
  subst e
  clear h hm
  have HL0 : Hid (LG w (w.alloc (.cells #[.slice ahs s.hs.length khs, .slice ags s.gs.length kgs, .slice afs s.fs.length kfs, .int .i64 s.pub, .int .i64 s.fst, .int .i64 s.lst, .slice acs s.cs.length kcs, .int .i64 s.time] 27)) w.heap.size #[.slice ahs s.hs.length khs, .slice ags s.gs.length kgs, .slice afs s.fs.length kfs, .int .i64 s.pub, .int .i64 s.fst, .int .i64 s.lst, .slice acs s.cs.length kcs, .int .i64 s.time] 27) := LG.new w _ _
  unfold flA flC
  simp only
  go_enter Try.func5, Try.ntmps5
  go_wp2_with fail
  generalize (w.alloc (.cells #[.slice ahs s.hs.length khs, .slice ags s.gs.length kgs, .slice afs s.fs.length kfs, .int .i64 s.pub, .int .i64 s.fst, .int .i64 s.lst, .slice acs s.cs.length kcs, .int .i64 s.time] 27)) = u0 at *
  generalize w.heap.size = b0 at *
  have q0a : (0 : Int) ≤ 1048576 := by decide
  have q0b : (1048576 : Int) ≤ 1048576 := by decide
  refine Calls.mono (szHOS_w (H1.out.rhs.below HL0.out.bel) (H1.out.nhs.below HL0.out.bel) HM.out.lhs 1048576 (by omega) (by omega)) ?_
  rintro e u1 ⟨q1, rfl, q1a, q1b, hq, hu⟩
  have HL1 : Hid (LG w u1 b0 #[.slice ahs s.hs.length khs, .slice ags s.gs.length kgs, .slice afs s.fs.length kfs, .int .i64 s.pub, .int .i64 s.fst, .int .i64 s.lst, .slice acs s.cs.length kcs, .int .i64 s.time] 27) := HL0.out.step hu
  have HQhs : Hid (0 ≤ q1 → HOlen s.hs) := hq
  clear hu hq HL0
  have k0 := HL1.out.cel 1 _ rfl
  have kl := HL1.out.lt
  cases h0 : decide (q1 < 0)
  · have g0 := of_decide_eq_false h0
    go_wp2_with fail
    clear k0 kl h0
    refine Calls.mono (szGPS_w (H1.out.rgs.below HL1.out.bel) (H1.out.ngs.below HL1.out.bel) HM.out.lgs q1 (by omega) (by omega)) ?_
    rintro e u2 ⟨q2, rfl, q2a, q2b, hq, hu⟩
    have HL2 : Hid (LG w u2 b0 #[.slice ahs s.hs.length khs, .slice ags s.gs.length kgs, .slice afs s.fs.length kfs, .int .i64 s.pub, .int .i64 s.fst, .int .i64 s.lst, .slice acs s.cs.length kcs, .int .i64 s.time] 27) := HL1.out.step hu
    have HQgs : Hid (0 ≤ q2 → GPlen s.gs) := hq
    clear hu hq HL1
    have k1 := HL2.out.cel 2 _ rfl
    have kl := HL2.out.lt
    cases h1 : decide (q2 < 0)
    · have g1 := of_decide_eq_false h1
      go_wp2_with fail
      clear k1 kl h1
      have hs2 := szFWS_any afs s.fs.length kfs q2 u2 (by omega) (by omega) HM.out.lfs
      obtain ⟨q3, hr, q3a, q3b, hq⟩ : ∃ r : Int, (if (q2 : Int) < (s.fs.length : Int) then -1 else (q2 : Int) - s.fs.length) = r ∧ -1 ≤ r ∧ r ≤ 1048576 ∧ (0 ≤ r → s.fs.length ≤ 1048576) := (by refine ⟨_, rfl, ?_⟩; split <;> omega)
      rw [hr] at hs2
      have HS2 : Hid _ := hs2
      have HQfs : Hid (0 ≤ q3 → s.fs.length ≤ 1048576) := hq
      clear hr hs2 hq
      refine Calls.mono HS2.out ?_
      rintro e u3 ⟨rfl, hw2⟩
      have HL3 : Hid (LG w u3 b0 #[.slice ahs s.hs.length khs, .slice ags s.gs.length kgs, .slice afs s.fs.length kfs, .int .i64 s.pub, .int .i64 s.fst, .int .i64 s.lst, .slice acs s.cs.length kcs, .int .i64 s.time] 27) := (show LG w u3 b0 #[.slice ahs s.hs.length khs, .slice ags s.gs.length kgs, .slice afs s.fs.length kfs, .int .i64 s.pub, .int .i64 s.fst, .int .i64 s.lst, .slice acs s.cs.length kcs, .int .i64 s.time] 27 by rw [hw2]; exact HL2.out)
      clear hw2 HL2 HS2
      have k2 := HL3.out.cel 6 _ rfl
      have kl := HL3.out.lt
      cases h2 : decide (q3 < 0)
      · have g2 := of_decide_eq_false h2
        go_wp2_with fail
        clear k2 kl h2
        have hs3 := szCNS_any acs s.cs.length kcs q3 u3 (by omega) (by omega) HM.out.lcs
        obtain ⟨q4, hr, q4a, q4b, hq⟩ : ∃ r : Int, (if (q3 : Int) < (s.cs.length : Int) then -1 else (q3 : Int) - s.cs.length) = r ∧ -1 ≤ r ∧ r ≤ 1048576 ∧ (0 ≤ r → s.cs.length ≤ 1048576) := (by refine ⟨_, rfl, ?_⟩; split <;> omega)
        rw [hr] at hs3
        have HS3 : Hid _ := hs3
        have HQcs : Hid (0 ≤ q4 → s.cs.length ≤ 1048576) := hq
        clear hr hs3 hq
        refine Calls.mono HS3.out ?_
        rintro e u4 ⟨rfl, hw2⟩
        have HL4 : Hid (LG w u4 b0 #[.slice ahs s.hs.length khs, .slice ags s.gs.length kgs, .slice afs s.fs.length kfs, .int .i64 s.pub, .int .i64 s.fst, .int .i64 s.lst, .slice acs s.cs.length kcs, .int .i64 s.time] 27) := (show LG w u4 b0 #[.slice ahs s.hs.length khs, .slice ags s.gs.length kgs, .slice afs s.fs.length kfs, .int .i64 s.pub, .int .i64 s.fst, .int .i64 s.lst, .slice acs s.cs.length kcs, .int .i64 s.time] 27 by rw [hw2]; exact HL3.out)
        clear hw2 HL3 HS3
        cases h3 : decide (q4 < 0)
        · have g3 := of_decide_eq_false h3
          go_wp2
          go_ret
          exact ⟨q4, rfl, q4a, q4b, fun hh => ⟨HQhs.out (by omega), HQgs.out (by omega), HQfs.out (by omega), HQcs.out (by omega)⟩, HL4.out.bel⟩
        · go_wp2
          go_ret
          exact ⟨-1, rfl, by omega, by omega, fun hh => absurd hh (by omega), HL4.out.bel⟩
      · go_wp2
        go_ret
        exact ⟨-1, rfl, by omega, by omega, fun hh => absurd hh (by omega), HL3.out.bel⟩
    · go_wp2
      go_ret
      exact ⟨-1, rfl, by omega, by omega, fun hh => absurd hh (by omega), HL2.out.bel⟩
  · go_wp2
    go_ret
    exact ⟨-1, rfl, by omega, by omega, fun hh => absurd hh (by omega), HL1.out.bel⟩
end Go.Proofs.Ytpggbbdfbnocfaa
