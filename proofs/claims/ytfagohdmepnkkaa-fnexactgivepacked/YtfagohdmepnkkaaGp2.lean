import Derived.Test.YtfagohdmepnkkaaHl
import Derived.Test.YtfagohdmepnkkaaGp1
namespace Go.Proofs.Ytfagohdmepnkkaa
open Go.ChangeShapes Go.WideShapes Go.ChangeAt Go.RowKit

theorem blB {w w1 w2 : World} {m : Nat} (h : Below w.heap.size w w1) (hg : w1.grownBy w2 (some m)) (hm : w.heap.size ≤ m) : Below w.heap.size w w2 :=
  ⟨hg.os.trans h.os, hg.tape.trans h.tape, hg.output.trans h.output, Nat.le_trans h.size hg.size, fun k hk => (hg.block k (Nat.lt_of_lt_of_le hk h.size) (by simp; omega)).trans (h.block k hk)⟩
theorem GBx.grow {w u u' : World} {cs ds es : Array Value} {t t2 t3 b m : Nat} (h : GBx w u cs t ds t2 b es t3) (hg : u.grownBy u' (some m)) (hm : b < m) : GBx w u' cs t ds t2 b es t3 := by
  have hge := h.ge
  have hlt := h.lt
  have h2 := h.two.lt
  refine ⟨⟨blB h.two.bel hg (by omega), ?_, ?_⟩, ?_, hge⟩
  · exact (hg.block _ (by omega) (by simp; omega)).trans h.two.b1
  · exact (hg.block _ (by omega) (by simp; omega)).trans h.two.b2
  · exact (hg.block _ hlt (by simp; omega)).trans h.b3
theorem MemAt.grow {u u' : World} {b m : Nat} {s : ByteArray} (h : MemAt u b s) (hg : u.grownBy u' (some m)) (hm : m ≠ b) : MemAt u' b s := (hg.block b h.lt (by simp; omega)).trans h
/-- What is left of GivePacked behind the packed queue's going on. -/
structure PBx (w u : World) (cs ds : Array Value) (t t2 m : Nat) (s : ByteArray) : Prop where
  two : TwoBx w u cs t ds t2
  mem : MemAt u m s
  ge : w.heap.size + 2 ≤ m
theorem PBx.step {w u u' : World} {cs ds : Array Value} {t t2 m : Nat} {s : ByteArray} (h : PBx w u cs ds t t2 m s) (hb : Below u.heap.size u u') : PBx w u' cs ds t t2 m s := ⟨h.two.step hb, h.mem.below hb h.mem.lt, h.ge⟩
theorem GBx.on {w u u' : World} {cs cs' ds es : Array Value} {t t2 t3 b m : Nat} {s : ByteArray} (h : GBx w u cs t ds t2 b es t3) (hM : MemAt u m s) (hm : w.heap.size + 2 ≤ m) (hg : u.grownBy u' (some w.heap.size)) (hb : u'.heap[w.heap.size]? = some (.cells cs' t (0, 0))) : PBx w u' cs' ds t t2 m s := by
  have h2 := h.two.lt
  refine ⟨⟨blB h.two.bel hg (Nat.le_refl _), hb, ?_⟩, hM.grow hg (by omega), hm⟩
  exact (hg.block _ h2 (by simp)).trans h.two.b2
theorem pC_at (p : PV) : (pC p)[0]? = some (.int .i64 p.size) ∧ (pC p)[1]? = some (.int .i64 p.ring) ∧ (pC p)[2]? = some (.int .i64 p.pos) ∧ (pC p)[3]? = some (.bool p.wrap) := ⟨rfl, rfl, rfl, rfl⟩
/-- Nothing but two blocks changed. -/
structure G2 (u v : World) (a b : Nat) : Prop where
  os : v.os = u.os
  tape : v.tape = u.tape
  output : v.output = u.output
  size : u.heap.size ≤ v.heap.size
  block : ∀ k, k < u.heap.size → k ≠ a → k ≠ b → v.heap[k]? = u.heap[k]?
theorem G2.of {u v x y : World} {a b : Nat} (h1 : Below u.heap.size u v) (h2 : v.grownBy x (some b)) (h3 : x.grownBy y (some a)) : G2 u y a b :=
  ⟨(h3.os.trans h2.os).trans h1.os, (h3.tape.trans h2.tape).trans h1.tape, (h3.output.trans h2.output).trans h1.output, Nat.le_trans h1.size (Nat.le_trans h2.size h3.size), fun k hk ha hb => ((h3.block k (Nat.lt_of_lt_of_le hk (Nat.le_trans h1.size h2.size)) (by simpa using ha)).trans (h2.block k (Nat.lt_of_lt_of_le hk h1.size) (by simpa using hb))).trans (h1.block k hk)⟩
/-- The packed queue's box, the memory, and the descriptor's box that was laid behind. -/
structure GP (u v : World) (pb mb : Nat) (ps ds : Array Value) (s : ByteArray) : Prop where
  bel : Below u.heap.size u v
  pbx : v.heap[pb]? = some (.cells ps 45 (0, 0))
  dbx : v.heap[u.heap.size]? = some (.cells ds 116 (0, 0))
  mem : MemAt v mb s
theorem GP.step {u v v' : World} {pb mb : Nat} {ps ds : Array Value} {s : ByteArray} (h : GP u v pb mb ps ds s) (hb : Below v.heap.size v v') : GP u v' pb mb ps ds s :=
  ⟨h.bel.trans (hb.mono h.bel.size), (hb.block _ (Array.getElem?_eq_some_iff.1 h.pbx).1).trans h.pbx, (hb.block _ (Array.getElem?_eq_some_iff.1 h.dbx).1).trans h.dbx, h.mem.below hb h.mem.lt⟩
/-- What is kept while they are read. -/
structure GS (v : World) (pb db : Nat) (ps ds : Array Value) : Prop where
  pbx : v.heap[pb]? = some (.cells ps 45 (0, 0))
  dbx : v.heap[db]? = some (.cells ds 116 (0, 0))
theorem GS.pc {v : World} {pb db : Nat} {ps ds : Array Value} (h : GS v pb db ps ds) (k : Nat) (x : Value) (hx : ps[k]? = some x) : v.cell? ⟨pb, k, none⟩ = some x := by simp [World.cell?, h.pbx, hx]
theorem GS.dc {v : World} {pb db : Nat} {ps ds : Array Value} (h : GS v pb db ps ds) (k : Nat) (x : Value) (hx : ds[k]? = some x) : v.cell? ⟨db, k, none⟩ = some x := by simp [World.cell?, h.dbx, hx]
theorem GS.pl {v : World} {pb db : Nat} {ps ds : Array Value} (h : GS v pb db ps ds) : pb < v.heap.size := (Array.getElem?_eq_some_iff.1 h.pbx).1
theorem GS.dl {v : World} {pb db : Nat} {ps ds : Array Value} (h : GS v pb db ps ds) : db < v.heap.size := (Array.getElem?_eq_some_iff.1 h.dbx).1
theorem GS.grow {v v' : World} {pb db m : Nat} {ps ds : Array Value} (h : GS v pb db ps ds) (hg : v.grownBy v' (some m)) (h1 : m ≠ pb) (h2 : m ≠ db) : GS v' pb db ps ds := ⟨(hg.block _ h.pl (by simp; omega)).trans h.pbx, (hg.block _ h.dl (by simp; omega)).trans h.dbx⟩
set_option maxRecDepth 100000 in
set_option maxHeartbeats 4000000 in
theorem givePacked_any {u : World} {pb mb n AT : Nat} {s M : ByteArray} {pg : PV} {S R P : Nat} {wr : Bool} {id size count : Int} (hP : u.heap[pb]? = some (.cells #[.int .i64 S, .int .i64 R, .int .i64 P, .bool wr] 45 (0, 0))) (hM : MemAt u mb s) (hne : pb ≠ mb)
    (HP : ∀ u, Calls Try.prog 110 #[.agg #[.int .i64 S, .int .i64 R, .int .i64 P, .bool wr], .int .i64 0] u fun e w' => e = .returned (.int .i64 (AT : Int)) ∧ Below u.heap.size u w')
    (HPD : ∀ (b : Nat) (u : World), MemAt u b s → Calls Try.prog 109 #[.slice (some ⟨b, 0, none⟩) n n, .int .i64 (AT : Int), .agg #[.int .i64 0, .int .i64 size, .bool false, .bool false, .bool false, .bool wr, .bool wr, .int .i64 id]] u fun e w' => e = .returned (.tuple #[]) ∧ MemAt w' b M ∧ u.grownBy w' (some b))
    (HGO : ∀ (u : World) (b : Nat), u.heap[b]? = some (.cells #[.int .i64 S, .int .i64 R, .int .i64 P, .bool wr] 45 (0, 0)) → Calls Try.prog 111 #[.pointer (some ⟨b, 0, none⟩), .int .i64 count] u fun e w' => e = .returned (.tuple #[]) ∧ w'.heap[b]? = some (.cells (pC pg) 45 (0, 0)) ∧ u.grownBy w' (some b)) :
    Calls Try.prog 70 #[.slice (some ⟨mb, 0, none⟩) n n, .pointer (some ⟨pb, 0, none⟩), .agg #[.int .i64 0, .int .i64 size, .bool false, .bool false, .bool false, .bool wr, .bool wr, .int .i64 id], .int .i64 count] u fun e w' => e = .returned (.tuple #[]) ∧ MemAt w' mb M ∧ w'.heap[pb]? = some (.cells (pC pg) 45 (0, 0)) ∧ G2 u w' pb mb := by
  have HPX : Hid _ := HP
  have HPDX : Hid _ := HPD
  have HGOX : Hid _ := HGO
  have hpl : pb < u.heap.size := (Array.getElem?_eq_some_iff.1 hP).1
  have HML : Hid (mb < u.heap.size) := hM.lt
  have HG0 : Hid (GP u (u.alloc (.cells #[.int .i64 0, .int .i64 size, .bool false, .bool false, .bool false, .bool wr, .bool wr, .int .i64 id] 116)) pb mb #[.int .i64 S, .int .i64 R, .int .i64 P, .bool wr] #[.int .i64 0, .int .i64 size, .bool false, .bool false, .bool false, .bool wr, .bool wr, .int .i64 id] s) := ⟨(Below.refl _ _).alloc (Nat.le_refl _) _, ((MapKept.heap_alloc u _).2 _ hpl).trans hP, (MapKept.heap_alloc u _).1, hM.below ((Below.refl _ _).alloc (Nat.le_refl _) _) hM.lt⟩
  have HNE : Hid (pb ≠ mb) := hne
  have HPL : Hid (pb < u.heap.size) := hpl
  clear HP HPD HGO hP hM hne hpl
  go_enter Try.func70, Try.ntmps70
  go_upto_region 1 with fail
  generalize (u.alloc (.cells #[.int .i64 0, .int .i64 size, .bool false, .bool false, .bool false, .bool wr, .bool wr, .int .i64 id] 116)) = u1 at *
  have HGD : Hid (GP u u1.drew pb mb #[.int .i64 S, .int .i64 R, .int .i64 P, .bool wr] #[.int .i64 0, .int .i64 size, .bool false, .bool false, .bool false, .bool wr, .bool wr, .int .i64 id] s) := HG0.out.step (Below.refl _ _).drew
  have HSD : Hid (GS u1.drew pb u.heap.size #[.int .i64 S, .int .i64 R, .int .i64 P, .bool wr] #[.int .i64 0, .int .i64 size, .bool false, .bool false, .bool false, .bool wr, .bool wr, .int .i64 id]) := ⟨HGD.out.pbx, HGD.out.dbx⟩
  generalize hdb : u.heap.size = db at *
  refine wp_region_held (S := fun w9 => GS w9 pb db #[.int .i64 S, .int .i64 R, .int .i64 P, .bool wr] #[.int .i64 0, .int .i64 size, .bool false, .bool false, .bool false, .bool wr, .bool wr, .int .i64 id]) (by kernel_rfl) ?_
  change wpAnyH _ _ _ _ _ _ _ _ (World.drew _)
  refine wpAnyH_take (i := 0) (v := .slice (some ⟨mb, 0, none⟩) n n) rfl (by kernel_rfl) (by kernel_rfl) (by kernel_rfl) (fun _ _ _ h => h) (Or.inl ⟨by kernel_rfl, fun w9 h9 => ?_⟩) HSD.out ?_
  · go_simp
  refine wpAnyH_take (i := 1) (v := .pointer (some ⟨pb, 0, none⟩)) rfl (by kernel_rfl) (by kernel_rfl) (by kernel_rfl) (fun _ _ _ h => h) (Or.inl ⟨by kernel_rfl, fun w9 h9 => ?_⟩) HSD.out ?_
  · go_simp
  refine wpAnyH_take (i := 2) (v := .pointer (some ⟨pb, 0, none⟩)) rfl (by kernel_rfl) (by kernel_rfl) (by kernel_rfl) (fun _ _ _ h => h) (Or.inl ⟨by kernel_rfl, fun w9 h9 => ?_⟩) HSD.out ?_
  · go_simp
  refine wpAnyH_take (i := 3) (v := .agg #[.int .i64 S, .int .i64 R, .int .i64 P, .bool wr]) rfl (by kernel_rfl) (by kernel_rfl) (by kernel_rfl) (fun _ _ _ h => h) (Or.inl ⟨by kernel_rfl, fun w9 h9 => ?_⟩) HSD.out ?_
  · have p0 := h9.pc 0 _ rfl; have p1 := h9.pc 1 _ rfl; have p2 := h9.pc 2 _ rfl; have p3 := h9.pc 3 _ rfl; have pl := h9.pl; have d0 := h9.dc 0 _ rfl; have d1 := h9.dc 1 _ rfl; have d2 := h9.dc 2 _ rfl; have d3 := h9.dc 3 _ rfl; have d4 := h9.dc 4 _ rfl; have d5 := h9.dc 5 _ rfl; have d6 := h9.dc 6 _ rfl; have d7 := h9.dc 7 _ rfl; have dl := h9.dl; go_simp
  refine wpAnyH_take (i := 5) (v := .agg #[.int .i64 0, .int .i64 size, .bool false, .bool false, .bool false, .bool wr, .bool wr, .int .i64 id]) rfl (by kernel_rfl) (by kernel_rfl) (by kernel_rfl) (fun _ _ _ h => h) (Or.inl ⟨by kernel_rfl, fun w9 h9 => ?_⟩) HSD.out ?_
  · have p0 := h9.pc 0 _ rfl; have p1 := h9.pc 1 _ rfl; have p2 := h9.pc 2 _ rfl; have p3 := h9.pc 3 _ rfl; have pl := h9.pl; have d0 := h9.dc 0 _ rfl; have d1 := h9.dc 1 _ rfl; have d2 := h9.dc 2 _ rfl; have d3 := h9.dc 3 _ rfl; have d4 := h9.dc 4 _ rfl; have d5 := h9.dc 5 _ rfl; have d6 := h9.dc 6 _ rfl; have d7 := h9.dc 7 _ rfl; have dl := h9.dl; go_simp
  refine held_one 4 (by kernel_rfl) rfl (by kernel_rfl) fun K hK => ?_
  go_simp
  go_wp2_with (go_at_call 110; refine Calls.mono (HPX.out _) ?_; rintro e u2 ⟨rfl, hb2⟩; have HG2 : Hid (GP u u2 pb mb #[.int .i64 S, .int .i64 R, .int .i64 P, .bool wr] #[.int .i64 0, .int .i64 size, .bool false, .bool false, .bool false, .bool wr, .bool wr, .int .i64 id] s) := HGD.out.step hb2; have HS2 : Hid (GS u2 pb db #[.int .i64 S, .int .i64 R, .int .i64 P, .bool wr] #[.int .i64 0, .int .i64 size, .bool false, .bool false, .bool false, .bool wr, .bool wr, .int .i64 id]) := ⟨HG2.out.pbx, (by have := HG2.out.dbx; rwa [hdb] at this)⟩; have HB2 : Hid (Below u.heap.size u u2) := HG2.out.bel; clear hb2)
  refine hK _ _ HS2.out ?_
  clear hK K
  refine held_one 6 (by kernel_rfl) rfl (by kernel_rfl) fun K hK => ?_
  go_simp
  go_wp2_with (go_at_call 109; refine Calls.mono (HPDX.out _ _ HG2.out.mem) ?_; rintro e u3 ⟨rfl, hm3, hg3⟩; have HS3 : Hid (GS u3 pb db #[.int .i64 S, .int .i64 R, .int .i64 P, .bool wr] #[.int .i64 0, .int .i64 size, .bool false, .bool false, .bool false, .bool wr, .bool wr, .int .i64 id]) := HS2.out.grow hg3 (by have := HNE.out; omega) (by have := HML.out; omega); have HM3 : Hid (MemAt u3 mb M) := hm3; have HG3 : Hid (u2.grownBy u3 (some mb)) := hg3; clear hm3 hg3)
  refine hK _ _ HS3.out ?_
  clear hK K
  refine wpAnyH_done (by kernel_rfl) ?_ _
  go_simp
  go_wp2_with fail
  refine Calls.mono (HGOX.out _ pb HS3.out.pbx) ?_
  rintro e u4 ⟨rfl, hb4, hg4⟩
  have HM4 : Hid (MemAt u4 mb M) := (hg4.block _ HM3.out.lt (by have := HNE.out; simp; omega)).trans HM3.out
  have HZ4 : Hid (G2 u u4 pb mb) := G2.of HB2.out HG3.out hg4
  have HB4 : Hid (u4.heap[pb]? = some (.cells (pC pg) 45 (0, 0))) := hb4
  clear hb4 hg4
  go_wp2
  refine bodyPost_end (v := .tuple #[]) (by simp [results, Try.results70, go_sem]) rfl ?_
  exact ⟨rfl, HM4.out, HB4.out, HZ4.out⟩
set_option maxRecDepth 100000 in
set_option maxHeartbeats 4000000 in
theorem implGive_good (s : ByteArray) (S R P : Nat) (wr : Bool) (id size count : Int) (w : World) (hp : pOk s ⟨S, R, P, wr⟩ = true) (hn : gpB ⟨S, R, P, wr⟩ id size count = true) :
    Calls Try.prog 25 #[.string s, pA ⟨S, R, P, wr⟩, .int .i64 id, .int .i64 size, .int .i64 count] w fun e w' => e = .returned (gpA 0 (setd s (R + P * 16) 0 size (fi wr 32896) id) (goP ⟨S, R, P, wr⟩ count)) ∧ Below w.heap.size w w' := by
  obtain ⟨hm, b1, b2, b3, b4, b5, b6, b7⟩ := pOk_b hp
  simp only at b1 b2 b3 b4 b5 b6 b7
  obtain ⟨m1, m2, m3⟩ := memOk_b hm
  obtain ⟨n, hN⟩ : ∃ n, s.size = n * 256 := ⟨s.size / 256, by omega⟩
  have hn256 : n ≤ 256 := by omega
  have hc : pkC s ⟨S, R, P, wr⟩ = 0 := by
    unfold pkC
    rw [if_neg (show ¬ 65536 < s.size by omega)]
    exact pF_ok hp
  have HC : Hid _ := fun u => packedCode_any s ⟨S, R, P, wr⟩ u (by omega)
  rw [hc] at HC
  have hgp := hn
  simp only [gpB, wdB, Bool.and_eq_true, decide_eq_true_eq] at hgp
  obtain ⟨⟨z1, z2⟩, z3⟩ := hgp
  have HBD : Hid _ := fun u => backDesc_any ⟨S, R, P, wr⟩ id size u
  simp only at HBD
  have HW : Hid _ := fun u => words_any ⟨0, size, false, false, false, wr, wr, id⟩ u
  simp only [dF_back] at HW
  have HF : Hid _ := fun u => fit_any 0 size (fi wr 32896) id u
  rw [wdB_fi, show wdB 0 = true by decide, show wdB size = true from decide_eq_true z1, show wdB id = true from decide_eq_true (by omega)] at HF
  have HR : Hid _ := fun u => readMemory_any s n u hN hn256
  have HP : Hid _ := fun u => placeBehind_any R S P 0 wr u (by omega) (by omega) (by omega) (by omega) (by omega)
  rw [show R + (P + 0) % S * 16 = R + P * 16 by rw [Nat.add_zero, Nat.mod_eq_of_lt (by omega)]] at HP
  rw [show ((0 : Nat) : Int) = 0 from rfl] at HP
  have HPD : Hid _ := fun (b : Nat) (u : World) (h : MemAt u b s) => putDesc_any b n s (R + P * 16) ⟨0, size, false, false, false, wr, wr, id⟩ u h hN m2 (by omega) (by omega)
  simp only [dF_back] at HPD
  have HGO : Hid _ := fun (u : World) (b : Nat) h => goOn_any (w := u) (b := b) S R P count wr h b3 b4 b2 z3.1 z3.2
  have HTX : Hid _ := fun (b : Nat) (u : World) (h : MemAt u b (setd s (R + P * 16) 0 size (fi wr 32896) id)) => memText_any b _ n u h (by rw [setd_size _ _ _ _ _ _ (by omega)]; exact hN) hn256
  generalize fi wr 32896 = FL at *
  generalize setd s (R + P * 16) 0 size FL id = M at *
  generalize hgo : goP ⟨S, R, P, wr⟩ count = pg at *
  generalize R + P * 16 = AT at *
  clear hgo hp hn hm b5 b6 b7 m1 m2 m3 hN hn256 hc z1 
  obtain ⟨z31, z32⟩ := z3
  unfold pA at HC ⊢
  unfold gpA
  unfold dA wA at HW
  unfold wA at HF
  unfold dA at HPD
  unfold mv at HR HPD HTX
  simp only [Bool.and_true] at HF
  have k1 : ¬ 65536 ≤ id := by omega
  have k2 : ¬ count < 1 := by omega
  have k3 : ¬ (S : Int) < count := by omega
  clear z2 z31 z32 b1 b2 b3 b4
  go_enter Try.func25, Try.ntmps25
  go_wp2_with (go_at_call 66; refine Calls.mono (HC.out _) ?_; rintro e u1 ⟨rfl, hu1⟩; have HX1 : Hid _ := TwoBx.of _ _ _ _ _ hu1; clear hu1; have g0 := HX1.out.c1 0 _ rfl; have g1 := HX1.out.c1 1 _ rfl; have g2 := HX1.out.c1 2 _ rfl; have g3 := HX1.out.c1 3 _ rfl; have glt := HX1.out.lt)
  refine Calls.mono (HBD.out _) ?_
  rintro e u1x ⟨rfl, hux⟩
  have HX1x : Hid _ := HX1.out.step hux
  clear hux g0 g1 g2 g3 glt HX1
  go_wp2_with fail
  refine Calls.mono (HW.out _) ?_
  have HX1b : Hid _ := GBx.new HX1x.out #[.int .i64 0, .int .i64 size, .bool false, .bool false, .bool false, .bool wr, .bool wr, .int .i64 id] 116
  generalize (u1x.alloc (.cells #[.int .i64 0, .int .i64 size, .bool false, .bool false, .bool false, .bool wr, .bool wr, .int .i64 id] 116)) = u1b at *
  generalize u1x.heap.size = B3 at *
  rintro e u2 ⟨rfl, hu2⟩
  have HX2 : Hid _ := HX1b.out.step hu2
  clear hu2 HX1x HX1b
  go_wp2_with fail
  refine Calls.mono (HF.out _) ?_
  rintro e u3 ⟨rfl, hu3⟩
  have HX3 : Hid _ := HX2.out.step hu3
  clear hu3 HX2
  have g0 := HX3.out.two.c1 0 _ rfl
  go_wp2_with fail
  refine Calls.mono (HR.out _) ?_
  rintro e u4 ⟨rfl, hM, hu4, _⟩
  have HX4 : Hid _ := HX3.out.step hu4
  have HM4 : Hid (MemAt u4 u3.heap.size s) := hM
  have hMlt : B3 < u3.heap.size := HX3.out.lt
  have hMge : w.heap.size + 2 ≤ B3 := HX3.out.ge
  generalize u3.heap.size = mb at *
  clear hu4 hM HX3 g0
  have g0 := HX4.out.two.c1 0 _ rfl
  have g1 := HX4.out.two.c1 1 _ rfl
  have g2 := HX4.out.two.c1 2 _ rfl
  have g3 := HX4.out.two.c1 3 _ rfl
  have d0 := HX4.out.cel 0 _ rfl
  have d1 := HX4.out.cel 1 _ rfl
  have d2 := HX4.out.cel 2 _ rfl
  have d3 := HX4.out.cel 3 _ rfl
  have d4 := HX4.out.cel 4 _ rfl
  have d5 := HX4.out.cel 5 _ rfl
  have d6 := HX4.out.cel 6 _ rfl
  have d7 := HX4.out.cel 7 _ rfl
  have HGV : Hid _ := fun hP hM hne => givePacked_any (u := u4) (pb := w.heap.size) (mb := mb) (n := n) (AT := AT) (s := s) (M := M) (pg := pg) (S := S) (R := R) (P := P) (wr := wr) (id := id) (size := size) (count := count) hP hM hne HP.out HPD.out HGO.out
  go_wp2_with fail
  refine Calls.mono (HGV.out HX4.out.two.b1 HM4.out (by omega)) ?_
  rintro e u7 ⟨rfl, hM7, hbx, hg⟩
  have HX7 : Hid (PBx w u7 (pC pg) #[.int .i64 0, .string ⟨#[]⟩, .int .i64 0, .int .i64 0, .int .i64 0, .bool false] 45 47 mb M) := (by
    have hl := HX4.out.two.lt
    have hb := HX4.out.two.bel
    exact ⟨⟨⟨hg.os.trans hb.os, hg.tape.trans hb.tape, hg.output.trans hb.output, Nat.le_trans hb.size hg.size, fun k hk => (hg.block k (Nat.lt_of_lt_of_le hk hb.size) (by omega) (by omega)).trans (hb.block k hk)⟩, hbx, (hg.block _ hl (by omega) (by omega)).trans HX4.out.two.b2⟩, hM7, by omega⟩)
  clear hbx hg hM7 g0 g1 g2 g3 d0 d1 d2 d3 d4 d5 d6 d7 HGV
  obtain ⟨q0, q1, q2, q3⟩ := pC_at pg
  have g0 := HX7.out.two.c1 0 _ q0
  have g1 := HX7.out.two.c1 1 _ q1
  have g2 := HX7.out.two.c1 2 _ q2
  have g3 := HX7.out.two.c1 3 _ q3
  go_wp2_with fail
  go_region_held3 (fun w' => w'.cell? ⟨w.heap.size, 0, none⟩ = some (.int .i64 pg.size) ∧ w'.cell? ⟨w.heap.size, 1, none⟩ = some (.int .i64 pg.ring) ∧ w'.cell? ⟨w.heap.size, 2, none⟩ = some (.int .i64 pg.pos) ∧ w'.cell? ⟨w.heap.size, 3, none⟩ = some (.bool pg.wrap)) (go_keep) ((go_at_call 51; refine Calls.mono (HTX.out _ _ (show MemAt _ _ _ from HX7.out.mem)) ?_; rintro e u8 ⟨rfl, hu⟩; have hb : Below u7.heap.size u7 u8 := ⟨hu.os, hu.tape, hu.output, hu.size, hu.block⟩; have HX8 : Hid _ := HX7.out.step hb; clear hu hb g0 g1 g2 g3; have g0 := HX8.out.two.c1 0 _ q0; have g1 := HX8.out.two.c1 1 _ q1; have g2 := HX8.out.two.c1 2 _ q2; have g3 := HX8.out.two.c1 3 _ q3; have r0 := HX8.out.two.c2 0 _ rfl; have r1 := HX8.out.two.c2 1 _ rfl; have r2 := HX8.out.two.c2 2 _ rfl; have r3 := HX8.out.two.c2 3 _ rfl; have r4 := HX8.out.two.c2 4 _ rfl; have r5 := HX8.out.two.c2 5 _ rfl; have rf := fun k => HX8.out.two.f2 k))
  all_goals
    go_wp2_with fail
    refine bodyPost_ret (v := .agg #[.int .i64 0, .string M, .int .i64 pg.size, .int .i64 pg.ring, .int .i64 pg.pos, .bool pg.wrap]) ?_ rfl ⟨rfl, ?_⟩
    · simp [results, Try.results25, go_sem, r0, r1, r2, r3, r4, r5]
    · exact (((((HX8.out.two.bel.setCell (by simp) _).setCell (by simp) _).setCell (by simp) _).setCell (by simp) _).setCell (by simp) _).setCell (by simp) _
end Go.Proofs.Ytfagohdmepnkkaa
