import Derived.Test.YtalpcjclahkgnaaGreatMg0
import Derived.Test.YtalpcjclahkgnaaGreatSzANS
import Derived.Test.YtalpcjclahkgnaaGreatJB2
namespace Go.Proofs.YtalpcjclahkgnaaGreat
open Go.ChangeShapes Go.WideShapes Go.ChangeAt Go.RowKit

structure MG where
  c : CL
  kept : List ANS
  jobs : List JB
  next : Int
structure MGA where
  ca : CA
  vk : Value
  vj : Value
  qj : List MJ
def mgC (s : MG) (a : MGA) : Array Value := #[a.ca.vnodes, a.ca.vvms, a.ca.vtenants, .int .i64 s.c.over, .int .i64 s.c.time, a.vk, a.vj, .int .i64 s.next]
def mgA (s : MG) (a : MGA) : Value := .agg (mgC s a)
structure MGRows (w : World) (s : MG) (a : MGA) : Prop where
  rc : CLRows w s.c a.ca
  rk : ANSrow w a.vk s.kept
  rj : MJrow w a.vj a.qj
  nj : JBin w a.qj s.jobs
theorem MGRows.below {w w' : World} {s : MG} {a : MGA} (h : MGRows w s a) (hb : Below w.heap.size w w') : MGRows w' s a := ⟨h.rc.below hb, h.rk.below hb, h.rj.below hb, h.nj.below hb⟩
theorem MGRows.sl {w : World} {s : MG} {a : MGA} (h : MGRows w s a) : ∃ an kn av kv ae ke ak kk aj kj, a = ⟨⟨.slice an s.c.nodes.length kn, .slice av s.c.vms.length kv, .slice ae s.c.tenants.length ke⟩, .slice ak s.kept.length kk, .slice aj s.jobs.length kj, a.qj⟩ := by
  obtain ⟨an, kn, av, kv, ae, ke, e1⟩ := h.rc.sl
  obtain ⟨ak, kk, e2⟩ := h.rk.sl
  obtain ⟨aj, kj, e3⟩ := h.rj.sl
  refine ⟨an, kn, av, kv, ae, ke, ak, kk, aj, kj, ?_⟩
  rw [← e1, ← e2, ← h.nj.len, ← e3]
structure MGlen (s : MG) : Prop where
  lc : CLlen s.c
  lk : s.kept.length ≤ 1048576 ∧ ∀ z ∈ s.kept, z.ask.size ≤ 1048576 ∧ z.reply.size ≤ 1048576
  lj : JBlen s.jobs
structure MGmax (s : MG) : Prop where
  lc : CLmax s.c
  lk : s.kept.length ≤ maxLen ∧ ∀ z ∈ s.kept, z.ask.size ≤ maxLen ∧ z.reply.size ≤ maxLen
  lj : JBmax s.jobs
set_option maxRecDepth 100000 in
set_option maxHeartbeats 16000000 in
theorem toMG_any {w : World} {s : MG} {a : MGA} (h : MGRows w s a) (hl : MGlen s) : Calls Tryz.prog 6 #[mgA s a] w fun e w' => ∃ a2 : MGA, e = .returned (mgA s a2) ∧ MGRows w' s a2 ∧ Below w.heap.size w w' := by
  have HR : Hid (MGRows w s a) := h
  obtain ⟨an, kn, av, kv, ae, ke, ak, kk, aj, kj, e⟩ := h.sl
  have HL : Hid (MGlen s) := hl
  generalize a.qj = qj at e
  subst e
  clear h hl
  unfold mgA mgC
  simp only
  go_enter Tryz.func6, Tryz.ntmps6
  go_wp2_with fail
  have HT0 : Hid (T3 w (((w.alloc (.cells #[.slice an s.c.nodes.length kn, .slice av s.c.vms.length kv, .slice ae s.c.tenants.length ke, .int .i64 s.c.over, .int .i64 s.c.time, .slice ak s.kept.length kk, .slice aj s.jobs.length kj, .int .i64 s.next] 30)).alloc (.cells #[.slice none 0 0, .slice none 0 0, .slice none 0 0, .int .i64 0, .int .i64 0, .slice none 0 0, .slice none 0 0, .int .i64 0] 41)).alloc (.cells #[.slice none 0 0, .slice none 0 0, .slice none 0 0, .int .i64 0, .int .i64 0, .slice none 0 0, .slice none 0 0, .int .i64 0] 41)) 30 41 #[.slice an s.c.nodes.length kn, .slice av s.c.vms.length kv, .slice ae s.c.tenants.length ke, .int .i64 s.c.over, .int .i64 s.c.time, .slice ak s.kept.length kk, .slice aj s.jobs.length kj, .int .i64 s.next] #[.slice none 0 0, .slice none 0 0, .slice none 0 0, .int .i64 0, .int .i64 0, .slice none 0 0, .slice none 0 0, .int .i64 0] #[.slice none 0 0, .slice none 0 0, .slice none 0 0, .int .i64 0, .int .i64 0, .slice none 0 0, .slice none 0 0, .int .i64 0]) := T3.new _ _ _ _ _ _
  generalize (((w.alloc (.cells #[.slice an s.c.nodes.length kn, .slice av s.c.vms.length kv, .slice ae s.c.tenants.length ke, .int .i64 s.c.over, .int .i64 s.c.time, .slice ak s.kept.length kk, .slice aj s.jobs.length kj, .int .i64 s.next] 30)).alloc (.cells #[.slice none 0 0, .slice none 0 0, .slice none 0 0, .int .i64 0, .int .i64 0, .slice none 0 0, .slice none 0 0, .int .i64 0] 41)).alloc (.cells #[.slice none 0 0, .slice none 0 0, .slice none 0 0, .int .i64 0, .int .i64 0, .slice none 0 0, .slice none 0 0, .int .i64 0] 41)) = u0 at *
  refine Calls.mono (toCL_own (s := s.c) (a := ⟨.slice an s.c.nodes.length kn, .slice av s.c.vms.length kv, .slice ae s.c.tenants.length ke⟩) (HR.out.rc.below HT0.out.bel) HL.out.lc) ?_
  rintro e u1 ⟨a2, rfl, o1, hb1⟩
  obtain ⟨an2, kn2, av2, kv2, ae2, ke2, e2⟩ := o1.rows.sl
  subst e2
  have HT1 : Hid (T3 w u1 30 41 #[.slice an s.c.nodes.length kn, .slice av s.c.vms.length kv, .slice ae s.c.tenants.length ke, .int .i64 s.c.over, .int .i64 s.c.time, .slice ak s.kept.length kk, .slice aj s.jobs.length kj, .int .i64 s.next] #[.slice none 0 0, .slice none 0 0, .slice none 0 0, .int .i64 0, .int .i64 0, .slice none 0 0, .slice none 0 0, .int .i64 0] #[.slice none 0 0, .slice none 0 0, .slice none 0 0, .int .i64 0, .int .i64 0, .slice none 0 0, .slice none 0 0, .int .i64 0]) := HT0.out.step hb1
  have HOC1 : Hid (CLown u1 (w.heap.size + 3) s.c ⟨.slice an2 s.c.nodes.length kn2, .slice av2 s.c.vms.length kv2, .slice ae2 s.c.tenants.length ke2⟩) := o1.weak (by have := HT0.out.lt; omega)
  clear o1 hb1 HT0
  have c5 := celN HT1.out.b0 5 _ rfl
  have d0 := celN HT1.out.b2 0 _ rfl
  have d1 := celN HT1.out.b2 1 _ rfl
  have d2 := celN HT1.out.b2 2 _ rfl
  have d3 := celN HT1.out.b2 3 _ rfl
  have d4 := celN HT1.out.b2 4 _ rfl
  have df := frzN HT1.out.b2
  have lt1 := HT1.out.lt
  have g0 : w.heap.size < u1.heap.size := by omega
  have g2 : w.heap.size + 1 + 1 < u1.heap.size := by omega
  unfold clA clC
  simp only
  go_wp2_with fail
  clear c5 d0 d1 d2 d3 d4 df lt1 g0 g2
  have HT2 : Hid (T3 w (((((u1.setCell ⟨w.heap.size + 1 + 1, 0, none⟩ (.slice an2 s.c.nodes.length kn2)).setCell ⟨w.heap.size + 1 + 1, 1, none⟩ (.slice av2 s.c.vms.length kv2)).setCell ⟨w.heap.size + 1 + 1, 2, none⟩ (.slice ae2 s.c.tenants.length ke2)).setCell ⟨w.heap.size + 1 + 1, 3, none⟩ (.int .i64 s.c.over)).setCell ⟨w.heap.size + 1 + 1, 4, none⟩ (.int .i64 s.c.time)) 30 41 #[.slice an s.c.nodes.length kn, .slice av s.c.vms.length kv, .slice ae s.c.tenants.length ke, .int .i64 s.c.over, .int .i64 s.c.time, .slice ak s.kept.length kk, .slice aj s.jobs.length kj, .int .i64 s.next] #[.slice none 0 0, .slice none 0 0, .slice none 0 0, .int .i64 0, .int .i64 0, .slice none 0 0, .slice none 0 0, .int .i64 0] #[.slice an2 s.c.nodes.length kn2, .slice av2 s.c.vms.length kv2, .slice ae2 s.c.tenants.length ke2, .int .i64 s.c.over, .int .i64 s.c.time, .slice none 0 0, .slice none 0 0, .int .i64 0]) := ((((HT1.out.set 0 _).set 1 _).set 2 _).set 3 _).set 4 _
  have hk : ∀ (x : World) (k o : Nat) (y : Value) (a : Nat), k ≠ a → (x.setCell ⟨a, o, none⟩ y).heap[k]? = x.heap[k]? := fun x k o y a h => Below.heap_setCell _ _ _ _ (by simpa using h)
  have HOC2 : Hid (CLown (((((u1.setCell ⟨w.heap.size + 1 + 1, 0, none⟩ (.slice an2 s.c.nodes.length kn2)).setCell ⟨w.heap.size + 1 + 1, 1, none⟩ (.slice av2 s.c.vms.length kv2)).setCell ⟨w.heap.size + 1 + 1, 2, none⟩ (.slice ae2 s.c.tenants.length ke2)).setCell ⟨w.heap.size + 1 + 1, 3, none⟩ (.int .i64 s.c.over)).setCell ⟨w.heap.size + 1 + 1, 4, none⟩ (.int .i64 s.c.time)) (w.heap.size + 3) s.c ⟨.slice an2 s.c.nodes.length kn2, .slice av2 s.c.vms.length kv2, .slice ae2 s.c.tenants.length ke2⟩) := HOC1.out.heap (fun k hk2 => by repeat rw [hk _ _ _ _ _ (by omega)]) (Nat.le_refl _)
  generalize (((((u1.setCell ⟨w.heap.size + 1 + 1, 0, none⟩ (.slice an2 s.c.nodes.length kn2)).setCell ⟨w.heap.size + 1 + 1, 1, none⟩ (.slice av2 s.c.vms.length kv2)).setCell ⟨w.heap.size + 1 + 1, 2, none⟩ (.slice ae2 s.c.tenants.length ke2)).setCell ⟨w.heap.size + 1 + 1, 3, none⟩ (.int .i64 s.c.over)).setCell ⟨w.heap.size + 1 + 1, 4, none⟩ (.int .i64 s.c.time)) = V1 at *
  clear HT1 HOC1 hk
  refine Calls.mono (toANSS_any (HR.out.rk.below HT2.out.bel) HL.out.lk.1) ?_
  rintro e u3 ⟨vk, rfl, o3, hb3⟩
  obtain ⟨ak2, kk2, rfl⟩ := ans_sl o3
  have HT3 : Hid (T3 w u3 30 41 #[.slice an s.c.nodes.length kn, .slice av s.c.vms.length kv, .slice ae s.c.tenants.length ke, .int .i64 s.c.over, .int .i64 s.c.time, .slice ak s.kept.length kk, .slice aj s.jobs.length kj, .int .i64 s.next] #[.slice none 0 0, .slice none 0 0, .slice none 0 0, .int .i64 0, .int .i64 0, .slice none 0 0, .slice none 0 0, .int .i64 0] #[.slice an2 s.c.nodes.length kn2, .slice av2 s.c.vms.length kv2, .slice ae2 s.c.tenants.length ke2, .int .i64 s.c.over, .int .i64 s.c.time, .slice none 0 0, .slice none 0 0, .int .i64 0]) := HT2.out.step hb3
  have HOK3 : Hid (u3.ownsRow (w.heap.size + 3) 50 3 (.slice ak2 s.kept.length kk2) s.kept.length (ansR s.kept)) := own_weakN o3 (by have := HT2.out.lt; omega)
  have HOC3 : Hid (CLown u3 (w.heap.size + 3) s.c ⟨.slice an2 s.c.nodes.length kn2, .slice av2 s.c.vms.length kv2, .slice ae2 s.c.tenants.length ke2⟩) := HOC2.out.below hb3
  clear o3 hb3 HT2 HOC2
  have c6 := celN HT3.out.b0 6 _ rfl
  have d5 := celN HT3.out.b2 5 _ rfl
  have df := frzN HT3.out.b2
  have lt1 := HT3.out.lt
  have g0 : w.heap.size < u3.heap.size := by omega
  have g2 : w.heap.size + 1 + 1 < u3.heap.size := by omega
  go_wp2_with fail
  clear c6 d5 df lt1 g0 g2
  have HT4 : Hid (T3 w (u3.setCell ⟨w.heap.size + 1 + 1, 5, none⟩ (.slice ak2 s.kept.length kk2)) 30 41 #[.slice an s.c.nodes.length kn, .slice av s.c.vms.length kv, .slice ae s.c.tenants.length ke, .int .i64 s.c.over, .int .i64 s.c.time, .slice ak s.kept.length kk, .slice aj s.jobs.length kj, .int .i64 s.next] #[.slice none 0 0, .slice none 0 0, .slice none 0 0, .int .i64 0, .int .i64 0, .slice none 0 0, .slice none 0 0, .int .i64 0] #[.slice an2 s.c.nodes.length kn2, .slice av2 s.c.vms.length kv2, .slice ae2 s.c.tenants.length ke2, .int .i64 s.c.over, .int .i64 s.c.time, .slice ak2 s.kept.length kk2, .slice none 0 0, .int .i64 0]) := HT3.out.set 5 _
  have hk : ∀ (x : World) (k o : Nat) (y : Value) (a : Nat), k ≠ a → (x.setCell ⟨a, o, none⟩ y).heap[k]? = x.heap[k]? := fun x k o y a h => Below.heap_setCell _ _ _ _ (by simpa using h)
  have HOC4 : Hid (CLown (u3.setCell ⟨w.heap.size + 1 + 1, 5, none⟩ (.slice ak2 s.kept.length kk2)) (w.heap.size + 3) s.c ⟨.slice an2 s.c.nodes.length kn2, .slice av2 s.c.vms.length kv2, .slice ae2 s.c.tenants.length ke2⟩) := HOC3.out.heap (fun k hk2 => by repeat rw [hk _ _ _ _ _ (by omega)]) (Nat.le_refl _)
  have HOK4 : Hid ((u3.setCell ⟨w.heap.size + 1 + 1, 5, none⟩ (.slice ak2 s.kept.length kk2)).ownsRow (w.heap.size + 3) 50 3 (.slice ak2 s.kept.length kk2) s.kept.length (ansR s.kept)) := own_heapN HOK3.out (fun k hk2 => by repeat rw [hk _ _ _ _ _ (by omega)]) (Nat.le_refl _)
  generalize (u3.setCell ⟨w.heap.size + 1 + 1, 5, none⟩ (.slice ak2 s.kept.length kk2)) = V2 at *
  clear HT3 HOC3 HOK3 hk
  refine Calls.mono (toJBS_any (HR.out.rj.below HT4.out.bel) (HR.out.nj.below HT4.out.bel) HL.out.lj.len HL.out.lj.el) ?_
  rintro e u5 ⟨vj, qj2, rfl, o5, oj, hb5⟩
  have hjl := oj.len
  obtain ⟨aj2, kj2, ej⟩ := mj_sl o5
  rw [hjl] at ej
  subst ej
  have HT5 : Hid (T3 w u5 30 41 #[.slice an s.c.nodes.length kn, .slice av s.c.vms.length kv, .slice ae s.c.tenants.length ke, .int .i64 s.c.over, .int .i64 s.c.time, .slice ak s.kept.length kk, .slice aj s.jobs.length kj, .int .i64 s.next] #[.slice none 0 0, .slice none 0 0, .slice none 0 0, .int .i64 0, .int .i64 0, .slice none 0 0, .slice none 0 0, .int .i64 0] #[.slice an2 s.c.nodes.length kn2, .slice av2 s.c.vms.length kv2, .slice ae2 s.c.tenants.length ke2, .int .i64 s.c.over, .int .i64 s.c.time, .slice ak2 s.kept.length kk2, .slice none 0 0, .int .i64 0]) := HT4.out.step hb5
  have HOJ5 : Hid (u5.ownsRow (w.heap.size + 3) 53 5 (.slice aj2 s.jobs.length kj2) qj2.length (mjR qj2)) := own_weakN o5 (by have := HT4.out.lt; omega)
  have HOP5 : Hid (JBown u5 (w.heap.size + 3) qj2 s.jobs s.jobs.length) := oj.weak (by have := HT4.out.lt; omega)
  have HOC5 : Hid (CLown u5 (w.heap.size + 3) s.c ⟨.slice an2 s.c.nodes.length kn2, .slice av2 s.c.vms.length kv2, .slice ae2 s.c.tenants.length ke2⟩) := HOC4.out.below hb5
  have HOK5 : Hid (u5.ownsRow (w.heap.size + 3) 50 3 (.slice ak2 s.kept.length kk2) s.kept.length (ansR s.kept)) := own_belowN HOK4.out hb5
  clear o5 oj hb5 HT4 HOC4 HOK4 hjl
  have c7 := celN HT5.out.b0 7 _ rfl
  have d0 := celN HT5.out.b2 0 _ rfl
  have d1 := celN HT5.out.b2 1 _ rfl
  have d2 := celN HT5.out.b2 2 _ rfl
  have d3 := celN HT5.out.b2 3 _ rfl
  have d4 := celN HT5.out.b2 4 _ rfl
  have d5 := celN HT5.out.b2 5 _ rfl
  have d6 := celN HT5.out.b2 6 _ rfl
  have d7 := celN HT5.out.b2 7 _ rfl
  have df := frzN HT5.out.b2
  have lt1 := HT5.out.lt
  have g0 : w.heap.size < u5.heap.size := by omega
  have k0 := celN HT5.out.b1 0 _ rfl
  have k1 := celN HT5.out.b1 1 _ rfl
  have k2 := celN HT5.out.b1 2 _ rfl
  have k3 := celN HT5.out.b1 3 _ rfl
  have k4 := celN HT5.out.b1 4 _ rfl
  have k5 := celN HT5.out.b1 5 _ rfl
  have k6 := celN HT5.out.b1 6 _ rfl
  have k7 := celN HT5.out.b1 7 _ rfl
  have kf := frzN HT5.out.b1
  have g1 : w.heap.size + 1 < u5.heap.size := by omega
  have g2 : w.heap.size + 1 + 1 < u5.heap.size := by omega
  go_upto_region 6 with fail
  have HT6 : Hid (T3 w ((u5.setCell ⟨w.heap.size + 1 + 1, 6, none⟩ (.slice aj2 s.jobs.length kj2)).setCell ⟨w.heap.size + 1 + 1, 7, none⟩ (.int .i64 s.next)) 30 41 #[.slice an s.c.nodes.length kn, .slice av s.c.vms.length kv, .slice ae s.c.tenants.length ke, .int .i64 s.c.over, .int .i64 s.c.time, .slice ak s.kept.length kk, .slice aj s.jobs.length kj, .int .i64 s.next] #[.slice none 0 0, .slice none 0 0, .slice none 0 0, .int .i64 0, .int .i64 0, .slice none 0 0, .slice none 0 0, .int .i64 0] #[.slice an2 s.c.nodes.length kn2, .slice av2 s.c.vms.length kv2, .slice ae2 s.c.tenants.length ke2, .int .i64 s.c.over, .int .i64 s.c.time, .slice ak2 s.kept.length kk2, .slice aj2 s.jobs.length kj2, .int .i64 s.next]) := (HT5.out.set 6 _).set 7 _
  have hk : ∀ (x : World) (k o : Nat) (y : Value) (a : Nat), k ≠ a → (x.setCell ⟨a, o, none⟩ y).heap[k]? = x.heap[k]? := fun x k o y a h => Below.heap_setCell _ _ _ _ (by simpa using h)
  have HOC6 : Hid (CLown ((u5.setCell ⟨w.heap.size + 1 + 1, 6, none⟩ (.slice aj2 s.jobs.length kj2)).setCell ⟨w.heap.size + 1 + 1, 7, none⟩ (.int .i64 s.next)) (w.heap.size + 3) s.c ⟨.slice an2 s.c.nodes.length kn2, .slice av2 s.c.vms.length kv2, .slice ae2 s.c.tenants.length ke2⟩) := HOC5.out.heap (fun k hk2 => by repeat rw [hk _ _ _ _ _ (by omega)]) (Nat.le_refl _)
  have HOK6 : Hid (((u5.setCell ⟨w.heap.size + 1 + 1, 6, none⟩ (.slice aj2 s.jobs.length kj2)).setCell ⟨w.heap.size + 1 + 1, 7, none⟩ (.int .i64 s.next)).ownsRow (w.heap.size + 3) 50 3 (.slice ak2 s.kept.length kk2) s.kept.length (ansR s.kept)) := own_heapN HOK5.out (fun k hk2 => by repeat rw [hk _ _ _ _ _ (by omega)]) (Nat.le_refl _)
  have HOJ6 : Hid (((u5.setCell ⟨w.heap.size + 1 + 1, 6, none⟩ (.slice aj2 s.jobs.length kj2)).setCell ⟨w.heap.size + 1 + 1, 7, none⟩ (.int .i64 s.next)).ownsRow (w.heap.size + 3) 53 5 (.slice aj2 s.jobs.length kj2) qj2.length (mjR qj2)) := own_heapN HOJ5.out (fun k hk2 => by repeat rw [hk _ _ _ _ _ (by omega)]) (Nat.le_refl _)
  have HOP6 : Hid (JBown ((u5.setCell ⟨w.heap.size + 1 + 1, 6, none⟩ (.slice aj2 s.jobs.length kj2)).setCell ⟨w.heap.size + 1 + 1, 7, none⟩ (.int .i64 s.next)) (w.heap.size + 3) qj2 s.jobs s.jobs.length) := HOP5.out.heap (fun k hk2 => by repeat rw [hk _ _ _ _ _ (by omega)]) (Nat.le_refl _)
  generalize ((u5.setCell ⟨w.heap.size + 1 + 1, 6, none⟩ (.slice aj2 s.jobs.length kj2)).setCell ⟨w.heap.size + 1 + 1, 7, none⟩ (.int .i64 s.next)) = V3 at *
  clear HT5 HOC5 HOK5 HOJ5 HOP5 hk c7 df lt1 g0 kf g1 g2 d0 k0 d1 k1 d2 k2 d3 k3 d4 k4 d5 k5 d6 k6 d7 k7
  have d0 := celN HT6.out.b2 0 _ rfl
  have d1 := celN HT6.out.b2 1 _ rfl
  have d2 := celN HT6.out.b2 2 _ rfl
  have d3 := celN HT6.out.b2 3 _ rfl
  have d4 := celN HT6.out.b2 4 _ rfl
  have d5 := celN HT6.out.b2 5 _ rfl
  have d6 := celN HT6.out.b2 6 _ rfl
  have d7 := celN HT6.out.b2 7 _ rfl
  have lt1 := HT6.out.lt
  have k0 := celN HT6.out.b1 0 _ rfl
  have k1 := celN HT6.out.b1 1 _ rfl
  have k2 := celN HT6.out.b1 2 _ rfl
  have k3 := celN HT6.out.b1 3 _ rfl
  have k4 := celN HT6.out.b1 4 _ rfl
  have k5 := celN HT6.out.b1 5 _ rfl
  have k6 := celN HT6.out.b1 6 _ rfl
  have k7 := celN HT6.out.b1 7 _ rfl
  have kf := frzN HT6.out.b1
  have g1 : w.heap.size + 1 < V3.heap.size := by omega
  have g2 : w.heap.size + 1 + 1 < V3.heap.size := by omega
  go_wp2
  have hk : ∀ (x : World) (k o : Nat) (y : Value) (a : Nat), k ≠ a → (x.setCell ⟨a, o, none⟩ y).heap[k]? = x.heap[k]? := fun x k o y a h => Below.heap_setCell _ _ _ _ (by simpa using h)
  refine bodyPost_ret (v := .agg #[.slice an2 s.c.nodes.length kn2, .slice av2 s.c.vms.length kv2, .slice ae2 s.c.tenants.length ke2, .int .i64 s.c.over, .int .i64 s.c.time, .slice ak2 s.kept.length kk2, .slice aj2 s.jobs.length kj2, .int .i64 s.next]) ?_ rfl ⟨⟨⟨.slice an2 s.c.nodes.length kn2, .slice av2 s.c.vms.length kv2, .slice ae2 s.c.tenants.length ke2⟩, .slice ak2 s.kept.length kk2, .slice aj2 s.jobs.length kj2, qj2⟩, rfl, ⟨(HOC6.out.heap (fun k hk2 => by repeat rw [hk _ _ _ _ _ (by omega)]) (Nat.le_refl _)).rows, ANSrow.of (B := w.heap.size + 3) (own_heapN HOK6.out (fun k hk2 => by repeat rw [hk _ _ _ _ _ (by omega)]) (Nat.le_refl _)), MJrow.of (B := w.heap.size + 3) (own_heapN HOJ6.out (fun k hk2 => by repeat rw [hk _ _ _ _ _ (by omega)]) (Nat.le_refl _)), (HOP6.out.heap (fun k hk2 => by repeat rw [hk _ _ _ _ _ (by omega)]) (Nat.le_refl _)).inn⟩, ?_⟩
  · simp only [results, Tryz.results6, go_sem]
    simp [go_sem, k0, k1, k2, k3, k4, k5, k6, k7]
  · have hB := HT6.out.bel
    repeat refine Below.setCell ?_ (by simp only; omega) _
    exact hB
end Go.Proofs.YtalpcjclahkgnaaGreat
