import Derived.Test.YtlpkkclmcgnapaaBo2
namespace Go.Proofs.Ytlpkkclmcgnapaa
open Go.ChangeShapes Go.WideShapes Go.ChangeAt Go.RowKit

theorem boV_bad {x y z : FT} (h : ¬ (x.body.size = 4 ∧ y.body.size = 4 ∧ z.body.size ≤ 64)) : boV [x, y, z] = boZ := by
  have hn : dvn z.body ≤ 16 := by unfold dvn; omega
  show (if tsq (boT x y z) [x, y, z] = true then _ else boZ) = boZ
  refine if_neg (fun e => h ?_)
  have e2 := tsq_iff.1 e
  unfold boT tbV at e2
  split at e2
  · unfold tbL at e2
    simp only [List.cons.injEq, and_true] at e2
    obtain ⟨e3, e4, e5⟩ := e2
    have s : ∀ t : List Int, (pwT t).size = 4 * t.length := fun t => by
      rw [← pwL_size t]
      simp [pwT, ByteArray.size]
    refine ⟨?_, ?_, ?_⟩
    · rw [← e3]
      exact s _
    · rw [← e4]
      exact s _
    · rw [← e5]
      show (pwT _).size ≤ 64
      rw [s, List.length_map, dvl_len]
      omega
  · simp at e2
theorem LG.setC2 {w u : World} {b t : Nat} {x0 x1 x2 : Value} (h : LG w u b #[x0, x1, x2] t) (y : Value) : LG w (u.setCell ⟨b, 2, none⟩ y) b #[x0, x1, y] t := by
  refine ⟨h.bel.setCell h.ge _, ?_, h.ge⟩
  have h2 := h.box
  simp [World.setCell, Array.getElem?_modify, h2]
theorem gwV_in {t : ByteArray} {k : Nat} (h : k + 4 ≤ t.size) (hs : t.size ≤ 65536) : gwV t k = wv t k := if_pos (by unfold hwd; simp; omega)
theorem l01W (t : ByteArray) (k : Nat) (u : World) (h : k + 4 ≤ t.size) (hs : t.size ≤ 65536) : Calls Try.prog 35 #[.string t, .int .i64 k] u fun e w' => e = .returned (.int .i64 (gwV t k)) ∧ Below u.heap.size u w' := by
  rw [gwV_in h hs]
  refine (l01Word_any t k u h hs).mono ?_
  rintro e w' ⟨rfl, q, rfl⟩
  exact ⟨rfl, bdn (Below.refl _ _) q⟩
set_option maxRecDepth 100000 in
set_option maxHeartbeats 8000000 in
theorem specBO_any {w : World} {ao : Option Addr} {cap : Nat} {ts : List FT} (h : FTrow w (.slice ao ts.length cap) ts) : Calls Try.prog 18 #[.slice ao ts.length cap] w fun e w' => ∃ v, e = .returned (boA (boV ts) v) ∧ w'.ownsRow w.heap.size 49 3 v (boV ts).ds.length (dvR (boV ts).ds) ∧ Below w.heap.size w w' := by
  have HR : Hid (FTrow w (.slice ao ts.length cap) ts) := h
  have HL0 : Hid (LG w (w.alloc (.cells #[.bool false, .int .i64 0, .int .i64 0, .slice none 0 0] 41)) w.heap.size #[.bool false, .int .i64 0, .int .i64 0, .slice none 0 0] 41) := LG.new w _ _
  clear h
  by_cases h3 : ts.length = 3
  rotate_left
  · have E : Hid (boV ts = boZ) := boV_no h3
    have hd : ((ts.length : Int) != 3) = true := by simp; omega
    go_enter Try.func18, Try.ntmps18
    go_upto_region 1 with fail
    generalize (w.alloc (.cells #[.bool false, .int .i64 0, .int .i64 0, .slice none 0 0] 41)) = u0 at *
    generalize hb0 : w.heap.size = b2 at HL0 ⊢
    have k0 := HL0.out.cel 0 _ rfl
    have k1 := HL0.out.cel 1 _ rfl
    have k2 := HL0.out.cel 2 _ rfl
    have k3 := HL0.out.cel 3 _ rfl
    have f0 := HL0.out.frz 0
    have f1 := HL0.out.frz 1
    have f2 := HL0.out.frz 2
    have f3 := HL0.out.frz 3
    have kl := HL0.out.lt
    go_wp2
    refine bodyPost_ret (v := boA boZ (.slice none 0 0)) ?_ rfl ⟨_, by rw [E.out], by rw [E.out]; exact World.ownsRow_nil _ _ _ _, ?_⟩
    · simp [results, Try.results18, go_sem, boA, boZ, k0, k1, k2, k3]
    · first | exact (((HL0.out.bel.setCell HL0.out.ge _).setCell HL0.out.ge _).setCell HL0.out.ge _).setCell HL0.out.ge _ | exact belCast hb0 ((((HL0.out.bel.setCell HL0.out.ge _).setCell HL0.out.ge _).setCell HL0.out.ge _).setCell HL0.out.ge _)
  obtain ⟨x, y, z, rfl⟩ := listF3 h3
  simp only [List.length_cons, List.length_nil] at HR ⊢
  obtain ⟨g, o, cp, hv, _, hg, hc⟩ := HR.out.resolve_left (fun h => by simp at h)
  injection hv with hv1 hv2 hv3
  subst hv1 hv3
  have HC : Hid (∀ u, Below w.heap.size w u → u.cell? ⟨g, o + 2, none⟩ = some (.string x.body) ∧ u.cell? ⟨g, o + 5, none⟩ = some (.string y.body) ∧ u.cell? ⟨g, o + 8, none⟩ = some (.string z.body) ∧ g < u.heap.size) := (fun u hu => by
    have c0 := (hc.below hu hg 0 (by simp)).2.2
    have c1 := (hc.below hu hg 1 (by simp)).2.2
    have c2 := (hc.below hu hg 2 (by simp)).2.2
    simp only [Nat.zero_mul, Nat.add_zero, Nat.one_mul] at c0 c1 c2
    exact ⟨c0, c1, c2, Nat.lt_of_lt_of_le hg hu.size⟩)
  have HCA : Hid (∀ u, Below w.heap.size w u → (u.cell? ⟨g, o, none⟩ = some (.string x.name) ∧ u.cell? ⟨g, o + 1, none⟩ = some (.int .i64 x.rev) ∧ u.cell? ⟨g, o + 2, none⟩ = some (.string x.body)) ∧ (u.cell? ⟨g, o + 3, none⟩ = some (.string y.name) ∧ u.cell? ⟨g, o + 4, none⟩ = some (.int .i64 y.rev) ∧ u.cell? ⟨g, o + 5, none⟩ = some (.string y.body)) ∧ (u.cell? ⟨g, o + 6, none⟩ = some (.string z.name) ∧ u.cell? ⟨g, o + 7, none⟩ = some (.int .i64 z.rev) ∧ u.cell? ⟨g, o + 8, none⟩ = some (.string z.body)) ∧ g < u.heap.size) := (fun u hu => by
    have c0 := hc.below hu hg 0 (by simp)
    have c1 := hc.below hu hg 1 (by simp)
    have c2 := hc.below hu hg 2 (by simp)
    simp only [Nat.zero_mul, Nat.add_zero, Nat.one_mul] at c0 c1 c2
    exact ⟨c0, c1, c2, Nat.lt_of_lt_of_le hg hu.size⟩)
  clear hc hv2 h3 HR
  cases q1 : ((x.body.size : Int) != 4)
  rotate_left
  · have E : Hid (boV [x, y, z] = boZ) := boV_bad (fun hh => by rw [hh.1] at q1; simp at q1)
    go_enter Try.func18, Try.ntmps18
    go_upto_region 1 with fail
    generalize (w.alloc (.cells #[.bool false, .int .i64 0, .int .i64 0, .slice none 0 0] 41)) = u0 at *
    generalize hb0 : w.heap.size = b2 at HL0 ⊢
    have k0 := HL0.out.cel 0 _ rfl
    have k1 := HL0.out.cel 1 _ rfl
    have k2 := HL0.out.cel 2 _ rfl
    have k3 := HL0.out.cel 3 _ rfl
    have f0 := HL0.out.frz 0
    have f1 := HL0.out.frz 1
    have f2 := HL0.out.frz 2
    have f3 := HL0.out.frz 3
    have kl := HL0.out.lt
    obtain ⟨p0, p1, p2, pl⟩ := HC.out u0 HL0.out.bel
    go_wp2
    refine bodyPost_ret (v := boA boZ (.slice none 0 0)) ?_ rfl ⟨_, by rw [E.out], by rw [E.out]; exact World.ownsRow_nil _ _ _ _, ?_⟩
    · simp [results, Try.results18, go_sem, boA, boZ, k0, k1, k2, k3]
    · first | exact (((HL0.out.bel.setCell HL0.out.ge _).setCell HL0.out.ge _).setCell HL0.out.ge _).setCell HL0.out.ge _ | exact belCast hb0 ((((HL0.out.bel.setCell HL0.out.ge _).setCell HL0.out.ge _).setCell HL0.out.ge _).setCell HL0.out.ge _)
  cases q2 : ((y.body.size : Int) != 4)
  rotate_left
  · have E : Hid (boV [x, y, z] = boZ) := boV_bad (fun hh => by rw [hh.2.1] at q2; simp at q2)
    go_enter Try.func18, Try.ntmps18
    go_upto_region 1 with fail
    generalize (w.alloc (.cells #[.bool false, .int .i64 0, .int .i64 0, .slice none 0 0] 41)) = u0 at *
    generalize hb0 : w.heap.size = b2 at HL0 ⊢
    have k0 := HL0.out.cel 0 _ rfl
    have k1 := HL0.out.cel 1 _ rfl
    have k2 := HL0.out.cel 2 _ rfl
    have k3 := HL0.out.cel 3 _ rfl
    have f0 := HL0.out.frz 0
    have f1 := HL0.out.frz 1
    have f2 := HL0.out.frz 2
    have f3 := HL0.out.frz 3
    have kl := HL0.out.lt
    obtain ⟨p0, p1, p2, pl⟩ := HC.out u0 HL0.out.bel
    go_wp2
    refine bodyPost_ret (v := boA boZ (.slice none 0 0)) ?_ rfl ⟨_, by rw [E.out], by rw [E.out]; exact World.ownsRow_nil _ _ _ _, ?_⟩
    · simp [results, Try.results18, go_sem, boA, boZ, k0, k1, k2, k3]
    · first | exact (((HL0.out.bel.setCell HL0.out.ge _).setCell HL0.out.ge _).setCell HL0.out.ge _).setCell HL0.out.ge _ | exact belCast hb0 ((((HL0.out.bel.setCell HL0.out.ge _).setCell HL0.out.ge _).setCell HL0.out.ge _).setCell HL0.out.ge _)
  cases q3 : decide (64 < (z.body.size : Int))
  rotate_left
  · have E : Hid (boV [x, y, z] = boZ) := boV_bad (fun hh => by have := of_decide_eq_true q3; omega)
    go_enter Try.func18, Try.ntmps18
    go_upto_region 1 with fail
    generalize (w.alloc (.cells #[.bool false, .int .i64 0, .int .i64 0, .slice none 0 0] 41)) = u0 at *
    generalize hb0 : w.heap.size = b2 at HL0 ⊢
    have k0 := HL0.out.cel 0 _ rfl
    have k1 := HL0.out.cel 1 _ rfl
    have k2 := HL0.out.cel 2 _ rfl
    have k3 := HL0.out.cel 3 _ rfl
    have f0 := HL0.out.frz 0
    have f1 := HL0.out.frz 1
    have f2 := HL0.out.frz 2
    have f3 := HL0.out.frz 3
    have kl := HL0.out.lt
    obtain ⟨p0, p1, p2, pl⟩ := HC.out u0 HL0.out.bel
    go_wp2
    refine bodyPost_ret (v := boA boZ (.slice none 0 0)) ?_ rfl ⟨_, by rw [E.out], by rw [E.out]; exact World.ownsRow_nil _ _ _ _, ?_⟩
    · simp [results, Try.results18, go_sem, boA, boZ, k0, k1, k2, k3]
    · first | exact (((HL0.out.bel.setCell HL0.out.ge _).setCell HL0.out.ge _).setCell HL0.out.ge _).setCell HL0.out.ge _ | exact belCast hb0 ((((HL0.out.bel.setCell HL0.out.ge _).setCell HL0.out.ge _).setCell HL0.out.ge _).setCell HL0.out.ge _)
  have h1 : x.body.size = 4 := by have : (x.body.size : Int) = 4 := by simpa using q1
                                  omega
  have h2 : y.body.size = 4 := by have : (y.body.size : Int) = 4 := by simpa using q2
                                  omega
  have h3 : z.body.size ≤ 64 := by have := of_decide_eq_false q3; omega
  have HGX : Hid (∀ u, Calls Try.prog 35 #[.string x.body, .int .i64 0] u fun e w' => e = .returned (.int .i64 (gwV x.body 0)) ∧ Below u.heap.size u w') := fun u => l01W x.body 0 u (by omega) (by omega)
  have HGY : Hid (∀ u, Calls Try.prog 35 #[.string y.body, .int .i64 0] u fun e w' => e = .returned (.int .i64 (gwV y.body 0)) ∧ Below u.heap.size u w') := fun u => l01W y.body 0 u (by omega) (by omega)
  have HGZ : Hid (∀ (k : Nat) (i : Int) u, k < dvn z.body → i = ((k * 4 : Nat) : Int) → Calls Try.prog 35 #[.string z.body, .int .i64 i] u fun e w' => e = .returned (.int .i64 (gwV z.body (k * 4))) ∧ Below u.heap.size u w') := (fun k i u hk hi => by rw [hi]; exact l01W z.body (k * 4) u (by unfold dvn at hk; omega) (by omega))
  have HN : Hid (dvn z.body ≤ 16) := (show dvn z.body ≤ 16 by unfold dvn; omega)
  have HND : Hid (∀ k : Nat, k ≤ dvn z.body → (((k * 4 : Nat) : Int) + 4 ≤ (z.body.size : Int) ↔ k < dvn z.body)) := (fun k hk => by unfold dvn at *; omega)
  have E : Hid (boV [x, y, z] = if tsq (tbV (gwV x.body 0) (gwV y.body 0) (dvl z.body (dvn z.body))) [x, y, z] = true then ⟨true, gwV x.body 0, gwV y.body 0, (dvl z.body (dvn z.body))⟩ else boZ) := rfl
  have HLT : Hid ((tbV (gwV x.body 0) (gwV y.body 0) (dvl z.body (dvn z.body))).length ≤ 3) := tbV_len _ _ _
  have HTO : Hid (∀ u a4 c4, DVrow u (.slice a4 (dvl z.body (dvn z.body)).length c4) (dvl z.body (dvn z.body)) → Calls Try.prog 11 #[.agg #[.int .i64 (gwV x.body 0), .int .i64 (gwV y.body 0), .slice a4 (dvl z.body (dvn z.body)).length c4]] u fun e w' => ∃ v, e = .returned v ∧ w'.ownsRow u.heap.size 56 3 v (tbV (gwV x.body 0) (gwV y.body 0) (dvl z.body (dvn z.body))).length (ftR (tbV (gwV x.body 0) (gwV y.body 0) (dvl z.body (dvn z.body)))) ∧ Below u.heap.size u w') := fun u a4 c4 hx => specTO_any hx
  rw [dvl_len] at HTO
  generalize gwV x.body 0 = gx at *
  generalize gwV y.body 0 = gy at *
  generalize tbV gx gy (dvl z.body (dvn z.body)) = tt at *
  generalize boV [x, y, z] = R at *
  go_enter Try.func18, Try.ntmps18
  go_upto_region 1 with fail
  generalize (w.alloc (.cells #[.bool false, .int .i64 0, .int .i64 0, .slice none 0 0] 41)) = u0 at *
  generalize hb0 : w.heap.size = b2 at HL0 ⊢
  have HB0 : Hid (w.heap.size = b2) := hb0
  clear hb0
  obtain ⟨p0, p1, p2, pl⟩ := HC.out u0 HL0.out.bel
  go_upto_region 3 with fail
  clear p0 p1 p2 pl q1 q2 q3 h1 h2 h3
  have HU : Hid (LG w u0.drew b2 #[.bool false, .int .i64 0, .int .i64 0, .slice none 0 0] 41) := HL0.out.drew
  clear HL0
  refine wp_region_held (S := fun w9 => Below u0.drew.heap.size u0.drew w9) (by kernel_rfl) ?_
  change wpAnyH _ _ _ _ _ _ _ _ (World.drew _)
  have HCU : Hid (∀ u, Below u0.drew.heap.size u0.drew u → u.cell? ⟨g, o + 2, none⟩ = some (.string x.body) ∧ u.cell? ⟨g, o + 5, none⟩ = some (.string y.body) ∧ u.cell? ⟨g, o + 8, none⟩ = some (.string z.body) ∧ g < u.heap.size) := fun u hu => HC.out u (HU.out.bel.trans (hu.mono HU.out.bel.size))
  have HAU : Hid (∀ u, Below u0.drew.heap.size u0.drew u → (u.cell? ⟨g, o, none⟩ = some (.string x.name) ∧ u.cell? ⟨g, o + 1, none⟩ = some (.int .i64 x.rev) ∧ u.cell? ⟨g, o + 2, none⟩ = some (.string x.body)) ∧ (u.cell? ⟨g, o + 3, none⟩ = some (.string y.name) ∧ u.cell? ⟨g, o + 4, none⟩ = some (.int .i64 y.rev) ∧ u.cell? ⟨g, o + 5, none⟩ = some (.string y.body)) ∧ (u.cell? ⟨g, o + 6, none⟩ = some (.string z.name) ∧ u.cell? ⟨g, o + 7, none⟩ = some (.int .i64 z.rev) ∧ u.cell? ⟨g, o + 8, none⟩ = some (.string z.body)) ∧ g < u.heap.size) := fun u hu => HCA.out u (HU.out.bel.trans (hu.mono HU.out.bel.size))
  generalize u0.drew = U at *
  obtain ⟨x0, hx0⟩ : ∃ x0, U = x0 := ⟨_, rfl⟩
  have HX0 : Hid (Below U.heap.size U x0) := (show _ by rw [← hx0]; exact Below.refl _ _)
  conv => arg 9; rw [hx0]
  clear hx0 HC HCA
  refine wpAnyH_take (i := 0) (v := .slice (some ⟨g, o, none⟩) 3 cap) rfl (by kernel_rfl) (by kernel_rfl) (by kernel_rfl) (fun _ _ _ h => h) (Or.inl ⟨by kernel_rfl, fun w9 h9 => ?_⟩) HX0.out ?_
  · go_simp
  refine wpAnyH_take (i := 1) (v := .pointer (some ⟨g, o, none⟩)) rfl (by kernel_rfl) (by kernel_rfl) (by kernel_rfl) (fun _ _ _ h => h) (Or.inl ⟨by kernel_rfl, fun w9 h9 => ?_⟩) HX0.out ?_
  · go_simp
  refine wpAnyH_take (i := 2) (v := .pointer (some ⟨g, o + 2, none⟩)) rfl (by kernel_rfl) (by kernel_rfl) (by kernel_rfl) (fun _ _ _ h => h) (Or.inl ⟨by kernel_rfl, fun w9 h9 => ?_⟩) HX0.out ?_
  · go_simp
  refine wpAnyH_take (i := 3) (v := .string x.body) rfl (by kernel_rfl) (by kernel_rfl) (by kernel_rfl) (fun _ _ _ h => h) (Or.inl ⟨by kernel_rfl, fun w9 h9 => ?_⟩) HX0.out ?_
  · obtain ⟨p0, p1, p2, pl⟩ := HCU.out _ h9; clear h9; go_simp
  refine wpAnyH_take (i := 5) (v := .slice (some ⟨g, o, none⟩) 3 cap) rfl (by kernel_rfl) (by kernel_rfl) (by kernel_rfl) (fun _ _ _ h => h) (Or.inl ⟨by kernel_rfl, fun w9 h9 => ?_⟩) HX0.out ?_
  · go_simp
  refine wpAnyH_take (i := 6) (v := .pointer (some ⟨g, o + 3, none⟩)) rfl (by kernel_rfl) (by kernel_rfl) (by kernel_rfl) (fun _ _ _ h => h) (Or.inl ⟨by kernel_rfl, fun w9 h9 => ?_⟩) HX0.out ?_
  · go_simp
  refine wpAnyH_take (i := 7) (v := .pointer (some ⟨g, o + 5, none⟩)) rfl (by kernel_rfl) (by kernel_rfl) (by kernel_rfl) (fun _ _ _ h => h) (Or.inl ⟨by kernel_rfl, fun w9 h9 => ?_⟩) HX0.out ?_
  · go_simp
  refine wpAnyH_take (i := 8) (v := .string y.body) rfl (by kernel_rfl) (by kernel_rfl) (by kernel_rfl) (fun _ _ _ h => h) (Or.inl ⟨by kernel_rfl, fun w9 h9 => ?_⟩) HX0.out ?_
  · obtain ⟨p0, p1, p2, pl⟩ := HCU.out _ h9; clear h9; go_simp
  refine held_two21 4 11 (by kernel_rfl) rfl rfl (by kernel_rfl) (by kernel_rfl) (fun K hK => ?_) (fun K hK => ?_)
  · skip
    go_simp
    go_wp2_with (go_at_call 35; refine Calls.mono (HGX.out _) ?_; rintro e x1 ⟨rfl, hb⟩; have HX1 : Hid (Below U.heap.size U x1) := HX0.out.trans (hb.mono HX0.out.size); clear hb HX0)
    refine hK _ _ HX1.out ?_
    clear hK K
    refine held_two21 9 11 (by kernel_rfl) rfl rfl (by kernel_rfl) (by kernel_rfl) (fun K hK => ?_) (fun K hK => ?_)
    · skip
      go_simp
      go_wp2_with (go_at_call 35; refine Calls.mono (HGY.out _) ?_; rintro e x2 ⟨rfl, hb⟩; have HX2 : Hid (Below U.heap.size U x2) := HX1.out.trans (hb.mono HX1.out.size); clear hb HX1)
      refine hK _ _ HX2.out ?_
      clear hK K
      refine wpAnyH_take (i := 10) (v := .agg #[.int .i64 gx, .int .i64 gy, .slice none 0 0]) rfl (by kernel_rfl) (by kernel_rfl) (by kernel_rfl) (fun _ _ _ h => h) (Or.inl ⟨by kernel_rfl, fun w9 h9 => ?_⟩) HX2.out ?_
      · go_simp
      refine held_one 11 (by kernel_rfl) rfl (by kernel_rfl) fun K hK => ?_
      have hb : Below x2.heap.size x2 (x2.alloc (.cells #[.int .i64 0, .int .i64 0, .slice none 0 0] 29)) := bx1 _ _
      have HX3 : Hid (Below U.heap.size U (x2.alloc (.cells #[.int .i64 0, .int .i64 0, .slice none 0 0] 29))) := HX2.out.trans (hb.mono HX2.out.size)
      have HP3 : Hid (LG U (x2.alloc (.cells #[.int .i64 0, .int .i64 0, .slice none 0 0] 29)) x2.heap.size #[.int .i64 0, .int .i64 0, .slice none 0 0] 29) := ⟨HX3.out, heap_new _ _, HX2.out.size⟩
      clear hb HX2
      go_simp
      refine hK _ _ HX3.out ?_
      clear hK K
      generalize (x2.alloc (.cells #[.int .i64 0, .int .i64 0, .slice none 0 0] 29)) = x3 at *
      generalize x2.heap.size = p3 at *
      have HP9 : Hid (LG U (((x3.setCell ⟨p3, 0, none⟩ (.int .i64 gx)).setCell ⟨p3, 1, none⟩ (.int .i64 gy)).setCell ⟨p3, 2, none⟩ (.slice none 0 0)) p3 #[.int .i64 gx, .int .i64 gy, .slice none 0 0] 29) := HP3.out.set3 _ _ _
      have kp0 := HP3.out.cel 0 _ rfl
      have kp1 := HP3.out.cel 1 _ rfl
      have kp2 := HP3.out.cel 2 _ rfl
      have fp := HP3.out.frz
      have pl3 := HP3.out.lt
      refine held_one 12 (by kernel_rfl) rfl (by kernel_rfl) fun K hK => ?_
      go_simp
      go_wp2
      refine hK _ _ HP9.out.bel ?_
      clear hK K kp0 kp1 kp2 fp pl3 HP3 HX3
      generalize (((x3.setCell ⟨p3, 0, none⟩ (.int .i64 gx)).setCell ⟨p3, 1, none⟩ (.int .i64 gy)).setCell ⟨p3, 2, none⟩ (.slice none 0 0)) = y9 at *
      refine wpAnyH_done (by kernel_rfl) ?_ _
      go_simp
      obtain ⟨q9, hq9⟩ : ∃ q, y9.heap.size = q := ⟨_, rfl⟩
      have HQ9 : Hid (p3 < q9) := (show p3 < q9 by have := HP9.out.lt; omega)
      have HQY : Hid (q9 ≤ y9.heap.size) := (show q9 ≤ _ by omega)
      clear hq9
      go_upto_region 5 with fail
      go_loopw [4] (fun i wr => ∃ (k : Nat) (a4 : Option Addr) (c4 : Nat), k ≤ dvn z.body ∧ i = .int .i64 ((k * 4 : Nat) : Int) ∧ LG U wr p3 #[.int .i64 gx, .int .i64 gy, .slice a4 k c4] 29 ∧ wr.ownsRow q9 49 3 (.slice a4 k c4) k (dvR (dvl z.body k)) ∧ q9 ≤ wr.heap.size) (fun i _ => 100 - (intOf i).toNat)
      case atStart => exact ⟨0, none, 0, Nat.zero_le _, rfl, HP9.out, World.ownsRow_nil _ _ _ _, HQY.out⟩
      case round =>
        obtain ⟨k, a4, c4, hk, rfl, hpw, hown, hqs⟩ := hrel
        have HPW : Hid (LG U wr p3 #[.int .i64 gx, .int .i64 gy, .slice a4 k c4] 29) := hpw
        have HO : Hid (wr.ownsRow q9 49 3 (.slice a4 k c4) k (dvR (dvl z.body k))) := hown
        have HQS : Hid (q9 ≤ wr.heap.size) := hqs
        clear hpw hown hqs HP9 HQY
        obtain ⟨p0, p1, p2, pl⟩ := HCU.out _ HPW.out.bel
        have HKN : Hid (((k * 4 : Nat) : Int) + 4 ≤ (z.body.size : Int) ↔ k < dvn z.body) := HND.out k hk
        have hkb : k ≤ 16 := by have := HN.out; omega
        by_cases hlt : k < dvn z.body
        · have hle : ((k * 4 : Nat) : Int) + 4 ≤ (z.body.size : Int) := HKN.out.2 hlt
          have HWZ : Hid (∀ (i : Int) u, i = ((k * 4 : Nat) : Int) → Calls Try.prog 35 #[.string z.body, .int .i64 i] u fun e w' => e = .returned (.int .i64 (gwV z.body (k * 4))) ∧ Below u.heap.size u w') := fun i u hi => HGZ.out k i u hlt hi
          have hgb := gwV_b z.body (k * 4)
          have HSU : Hid (dvl z.body (k + 1) = dvl z.body k ++ [dvX (gwV z.body (k * 4))]) := dvl_succ _ _
          generalize gwV z.body (k * 4) = v at *
          have HKK : Hid (((k * 4 : Nat) : Int) = (k : Int) * 4) := (show _ = _ by omega)
          obtain ⟨j, hj⟩ : ∃ j : Nat, k * 4 = j := ⟨_, rfl⟩
          have HJ : Hid (k * 4 = j) := hj
          rw [hj] at hle HWZ
          rw [hj]
          have hjb : j ≤ 64 := by omega
          clear hj HKN
          go_wp2_with fail
          refine Calls.mono (HWZ.out _ _ (by omega)) ?_
          rintro e u1 ⟨rfl, hb⟩
          have HPX : Hid (LG U u1 p3 #[.int .i64 gx, .int .i64 gy, .slice a4 k c4] 29) := HPW.out.step hb
          have HO1 : Hid (u1.ownsRow q9 49 3 (.slice a4 k c4) k (dvR (dvl z.body k))) := own_belowN HO.out hb
          have HQ1 : Hid (q9 ≤ u1.heap.size) := (show q9 ≤ _ by have := HQS.out; have := hb.size; omega)
          clear hb HPW HO HQS p0 p1 p2 pl
          have m0 := HPX.out.cel 0 _ rfl
          have m1 := HPX.out.cel 1 _ rfl
          have m2 := HPX.out.cel 2 _ rfl
          have ml := HPX.out.lt
          have HAP : Hid _ := appDV HO1.out HQ1.out (by omega) (dvX v)
          simp only [dvX] at HAP
          have HSV : Hid (dvl z.body (k + 1) = dvl z.body k ++ [⟨v / 16777216, v % 65536, v / 65536 % 256⟩]) := HSU.out
          go_wp2_with (at_builtin; (refine wl_append_exB rfl _ _ 27 rfl _ _ rfl rfl HAP.out ?_; rintro v' u' ⟨ho, hg9⟩; obtain ⟨a5, c5, rfl⟩ := dv_sl ho; have HO2 : Hid (u'.ownsRow q9 49 3 (.slice a5 (k + 1) c5) (k + 1) (dvR (dvl z.body (k + 1)))) := (by rw [HSV.out]; exact ho); have HP2 : Hid (LG U u' p3 #[.int .i64 gx, .int .i64 gy, .slice a4 k c4] 29) := ((HPX.out.step (bx1 _ _)).growD hg9 (fun e => by have := (HO1.out.lt _ e).1; have := HQ9.out; omega) (fun j2 hj2 => by have := (HO1.out.lt _ hj2).1; have := HQ9.out; have := HPX.out.ge; omega)); have HQ2 : Hid (q9 ≤ u'.heap.size) := (show q9 ≤ _ by have h1 := HQ1.out; have h2 := hg9.size; simp at h2; omega); clear ho hg9 m0 m1 m2 ml; have n2 := HP2.out.cel 2 _ rfl; have nf := HP2.out.frz 2; have nl := HP2.out.lt))
          have hk9 : ∀ (x : World) (k o : Nat) (y : Value) (a : Nat), k ≠ a → (x.setCell ⟨a, o, none⟩ y).heap[k]? = x.heap[k]? := fun x k o y a h => Below.heap_setCell _ _ _ _ (by simpa using h)
          exact ⟨⟨k + 1, a5, c5, hlt, (by have := HJ.out; refine congrArg (Value.int .i64) ?_; omega), HP2.out.setC2 _, own_heapN HO2.out (fun j2 hj2 => by have := HQ9.out; rw [hk9 _ _ _ _ _ (by omega)]) (Nat.le_refl _), (by have := HQ2.out; simpa [World.setCell] using this)⟩, (by simp [intOf]; omega)⟩
        · have hke : k = dvn z.body := by omega
          have hnle : ¬ (((k * 4 : Nat) : Int) + 4 ≤ (z.body.size : Int)) := fun hh => hlt (HKN.out.1 hh)
          have HO9 : Hid (DVrow wr (.slice a4 (dvn z.body) c4) (dvl z.body (dvn z.body))) := DVrow.of (B := q9) (by rw [dvl_len, ← hke]; exact HO.out)
          have HOW : Hid (wr.ownsRow q9 49 3 (.slice a4 (dvn z.body) c4) (dvn z.body) (dvR (dvl z.body (dvn z.body)))) := (by rw [← hke]; exact HO.out)
          rw [hke] at HPW
          have HKD : Hid (k = dvn z.body) := hke
          obtain ⟨j, hj⟩ : ∃ j : Nat, k * 4 = j := ⟨_, rfl⟩
          rw [hj] at hnle
          rw [hj]
          have hjb : j ≤ 64 := by omega
          clear hj hke HO HKN HQS hlt hk
          have HLD : Hid ((dvl z.body (dvn z.body)).length = dvn z.body) := dvl_len _ _
          generalize dvl z.body (dvn z.body) = ds at *
          generalize dvn z.body = n at *
          have m0 := HPW.out.cel 0 _ rfl
          have m1 := HPW.out.cel 1 _ rfl
          have m2 := HPW.out.cel 2 _ rfl
          have ml := HPW.out.lt
          go_wp2_with fail
          refine Calls.mono (HTO.out _ _ _ HO9.out) ?_
          rintro e v1 ⟨tv, rfl, ho, hb⟩
          obtain ⟨a6, c6, rfl⟩ := ft_sl ho
          have HT1 : Hid (FTrow v1 (.slice a6 tt.length c6) tt) := FTrow.of ho
          have HPV : Hid (LG U v1 p3 #[.int .i64 gx, .int .i64 gy, .slice a4 n c4] 29) := HPW.out.step hb
          have HOV : Hid (v1.ownsRow q9 49 3 (.slice a4 n c4) n (dvR ds)) := own_belowN HOW.out hb
          clear ho hb HPW HOW HO9 m0 m1 m2 ml p0 p1 p2 pl
          have HWQ : Hid (w.heap.size ≤ q9 ∧ b2 < q9) := (show _ ∧ _ by have := HQ9.out; have := HPV.out.ge; have := HU.out.bel.size; have := HU.out.lt; omega)
          by_cases ht3 : tt.length = 3
          rotate_left
          · have E2 : Hid (R = boZ) := (show R = boZ by rw [E.out, tsq_no (fun e => ht3 (by rw [e]; rfl))]; rfl)
            have hd : ((tt.length : Int) != 3) = true := by simp; omega
            clear E
            go_upto_region 10 with fail
            have HV0 : Hid (Below v1.heap.size v1 v1.drew) := bdn (Below.refl _ _) 1
            have HPD : Hid (LG U v1.drew p3 #[.int .i64 gx, .int .i64 gy, .slice a4 n c4] 29) := HPV.out.drew
            have HOD : Hid (v1.drew.ownsRow q9 49 3 (.slice a4 n c4) n (dvR ds)) := HOV.out
            have HSB : Hid ((fun w9 => Below v1.heap.size v1 w9) v1.drew) := HV0.out
            refine wp_region_held (S := fun w9 => Below v1.heap.size v1 w9) (by kernel_rfl) ?_
            change wpAnyH _ _ _ _ _ _ _ _ (World.drew _)
            refine wpAnyH_take (i := 0) (v := .slice a6 tt.length c6) rfl (by kernel_rfl) (by kernel_rfl) (by kernel_rfl) (fun _ _ _ h => h) (Or.inl ⟨by kernel_rfl, fun w9 h9 => ?_⟩) HSB.out ?_
            · go_simp
            refine wpAnyH_take (i := 1) (v := .int .i64 (tt.length : Nat)) rfl (by kernel_rfl) (by kernel_rfl) (by kernel_rfl) (fun _ _ _ h => h) (Or.inl ⟨by kernel_rfl, fun w9 h9 => ?_⟩) HSB.out ?_
            · go_simp
            refine wpAnyH_take (i := 2) (v := .bool true) rfl (by kernel_rfl) (by kernel_rfl) (by kernel_rfl) (fun _ _ _ h => h) (Or.inl ⟨by kernel_rfl, fun w9 h9 => ?_⟩) HSB.out ?_
            · go_simp
            refine wpAnyH_take (i := 3) (v := .bool true) rfl (by kernel_rfl) (by kernel_rfl) (by kernel_rfl) (fun _ _ _ h => h) (Or.inl ⟨by kernel_rfl, fun w9 h9 => ?_⟩) HSB.out ?_
            · go_simp
            refine wpAnyH_take (i := 4) (v := undef) rfl (by kernel_rfl) (by kernel_rfl) (by kernel_rfl) (fun _ _ _ h => h) (Or.inr ⟨by kernel_rfl, rfl⟩) HSB.out ?_
            refine wpAnyH_take (i := 5) (v := undef) rfl (by kernel_rfl) (by kernel_rfl) (by kernel_rfl) (fun _ _ _ h => h) (Or.inr ⟨by kernel_rfl, rfl⟩) HSB.out ?_
            refine wpAnyH_take (i := 6) (v := undef) rfl (by kernel_rfl) (by kernel_rfl) (by kernel_rfl) (fun _ _ _ h => h) (Or.inr ⟨by kernel_rfl, rfl⟩) HSB.out ?_
            refine wpAnyH_take (i := 7) (v := undef) rfl (by kernel_rfl) (by kernel_rfl) (by kernel_rfl) (fun _ _ _ h => h) (Or.inr ⟨by kernel_rfl, rfl⟩) HSB.out ?_
            refine wpAnyH_take (i := 8) (v := undef) rfl (by kernel_rfl) (by kernel_rfl) (by kernel_rfl) (fun _ _ _ h => h) (Or.inr ⟨by kernel_rfl, rfl⟩) HSB.out ?_
            refine wpAnyH_take (i := 9) (v := undef) rfl (by kernel_rfl) (by kernel_rfl) (by kernel_rfl) (fun _ _ _ h => h) (Or.inr ⟨by kernel_rfl, rfl⟩) HSB.out ?_
            refine wpAnyH_take (i := 10) (v := undef) rfl (by kernel_rfl) (by kernel_rfl) (by kernel_rfl) (fun _ _ _ h => h) (Or.inr ⟨by kernel_rfl, rfl⟩) HSB.out ?_
            refine wpAnyH_take (i := 11) (v := .bool true) rfl (by kernel_rfl) (by kernel_rfl) (by kernel_rfl) (fun _ _ _ h => h) (Or.inl ⟨by kernel_rfl, fun w9 h9 => ?_⟩) HSB.out ?_
            · go_simp
            refine wpAnyH_take (i := 12) (v := .bool true) rfl (by kernel_rfl) (by kernel_rfl) (by kernel_rfl) (fun _ _ _ h => h) (Or.inl ⟨by kernel_rfl, fun w9 h9 => ?_⟩) HSB.out ?_
            · go_simp
            refine wpAnyH_take (i := 13) (v := undef) rfl (by kernel_rfl) (by kernel_rfl) (by kernel_rfl) (fun _ _ _ h => h) (Or.inr ⟨by kernel_rfl, rfl⟩) HSB.out ?_
            refine wpAnyH_take (i := 14) (v := undef) rfl (by kernel_rfl) (by kernel_rfl) (by kernel_rfl) (fun _ _ _ h => h) (Or.inr ⟨by kernel_rfl, rfl⟩) HSB.out ?_
            refine wpAnyH_take (i := 15) (v := undef) rfl (by kernel_rfl) (by kernel_rfl) (by kernel_rfl) (fun _ _ _ h => h) (Or.inr ⟨by kernel_rfl, rfl⟩) HSB.out ?_
            refine wpAnyH_take (i := 16) (v := undef) rfl (by kernel_rfl) (by kernel_rfl) (by kernel_rfl) (fun _ _ _ h => h) (Or.inr ⟨by kernel_rfl, rfl⟩) HSB.out ?_
            refine wpAnyH_take (i := 17) (v := undef) rfl (by kernel_rfl) (by kernel_rfl) (by kernel_rfl) (fun _ _ _ h => h) (Or.inr ⟨by kernel_rfl, rfl⟩) HSB.out ?_
            refine wpAnyH_take (i := 18) (v := undef) rfl (by kernel_rfl) (by kernel_rfl) (by kernel_rfl) (fun _ _ _ h => h) (Or.inr ⟨by kernel_rfl, rfl⟩) HSB.out ?_
            refine wpAnyH_take (i := 19) (v := undef) rfl (by kernel_rfl) (by kernel_rfl) (by kernel_rfl) (fun _ _ _ h => h) (Or.inr ⟨by kernel_rfl, rfl⟩) HSB.out ?_
            refine wpAnyH_take (i := 20) (v := .bool true) rfl (by kernel_rfl) (by kernel_rfl) (by kernel_rfl) (fun _ _ _ h => h) (Or.inl ⟨by kernel_rfl, fun w9 h9 => ?_⟩) HSB.out ?_
            · go_simp
            refine wpAnyH_take (i := 21) (v := .bool true) rfl (by kernel_rfl) (by kernel_rfl) (by kernel_rfl) (fun _ _ _ h => h) (Or.inl ⟨by kernel_rfl, fun w9 h9 => ?_⟩) HSB.out ?_
            · go_simp
            refine wpAnyH_take (i := 22) (v := undef) rfl (by kernel_rfl) (by kernel_rfl) (by kernel_rfl) (fun _ _ _ h => h) (Or.inr ⟨by kernel_rfl, rfl⟩) HSB.out ?_
            refine wpAnyH_take (i := 23) (v := undef) rfl (by kernel_rfl) (by kernel_rfl) (by kernel_rfl) (fun _ _ _ h => h) (Or.inr ⟨by kernel_rfl, rfl⟩) HSB.out ?_
            refine wpAnyH_take (i := 24) (v := undef) rfl (by kernel_rfl) (by kernel_rfl) (by kernel_rfl) (fun _ _ _ h => h) (Or.inr ⟨by kernel_rfl, rfl⟩) HSB.out ?_
            refine wpAnyH_take (i := 25) (v := undef) rfl (by kernel_rfl) (by kernel_rfl) (by kernel_rfl) (fun _ _ _ h => h) (Or.inr ⟨by kernel_rfl, rfl⟩) HSB.out ?_
            refine wpAnyH_take (i := 26) (v := undef) rfl (by kernel_rfl) (by kernel_rfl) (by kernel_rfl) (fun _ _ _ h => h) (Or.inr ⟨by kernel_rfl, rfl⟩) HSB.out ?_
            refine wpAnyH_take (i := 27) (v := undef) rfl (by kernel_rfl) (by kernel_rfl) (by kernel_rfl) (fun _ _ _ h => h) (Or.inr ⟨by kernel_rfl, rfl⟩) HSB.out ?_
            refine wpAnyH_take (i := 28) (v := undef) rfl (by kernel_rfl) (by kernel_rfl) (by kernel_rfl) (fun _ _ _ h => h) (Or.inr ⟨by kernel_rfl, rfl⟩) HSB.out ?_
            refine wpAnyH_take (i := 29) (v := .bool true) rfl (by kernel_rfl) (by kernel_rfl) (by kernel_rfl) (fun _ _ _ h => h) (Or.inl ⟨by kernel_rfl, fun w9 h9 => ?_⟩) HSB.out ?_
            · go_simp
            refine wpAnyH_done (by kernel_rfl) ?_ _
            go_simp
            generalize v1.drew = v2 at *
            have HB11 : Hid (LG w v2 b2 #[.bool false, .int .i64 0, .int .i64 0, .slice none 0 0] 41) := HU.out.step HPD.out.bel
            have k0 := HB11.out.cel 0 _ rfl
            have k1 := HB11.out.cel 1 _ rfl
            have k2 := HB11.out.cel 2 _ rfl
            have k3 := HB11.out.cel 3 _ rfl
            have f0 := HB11.out.frz 0
            have f1 := HB11.out.frz 1
            have f2 := HB11.out.frz 2
            have f3 := HB11.out.frz 3
            have kl := HB11.out.lt
            go_wp2
            refine bodyPost_ret (v := boA boZ (.slice none 0 0)) ?_ rfl ⟨_, by rw [E2.out], by rw [E2.out]; exact World.ownsRow_nil _ _ _ _, ?_⟩
            · simp [results, Try.results18, go_sem, boA, boZ, k0, k1, k2, k3]
            · first | exact (((HB11.out.bel.setCell HB11.out.ge _).setCell HB11.out.ge _).setCell HB11.out.ge _).setCell HB11.out.ge _ | exact belCast HB0.out ((((HB11.out.bel.setCell HB11.out.ge _).setCell HB11.out.ge _).setCell HB11.out.ge _).setCell HB11.out.ge _)
          obtain ⟨x', y', z', rfl⟩ := listF3 ht3
          have ET : Hid (tsq [x', y', z'] [x, y, z] = (teq x' x && (teq y' y && (teq z' z && true)))) := rfl
          simp only [List.length_cons, List.length_nil] at HT1 ⊢
          obtain ⟨g6, o6, cp6, hv6, _, hg6, hc6⟩ := HT1.out.resolve_left (fun h => by simp at h)
          injection hv6 with hv7 hv8 hv9
          subst hv7 hv9
          have HC6 : Hid (∀ u, Below v1.heap.size v1 u → (u.cell? ⟨g6, o6, none⟩ = some (.string x'.name) ∧ u.cell? ⟨g6, o6 + 1, none⟩ = some (.int .i64 x'.rev) ∧ u.cell? ⟨g6, o6 + 2, none⟩ = some (.string x'.body)) ∧ (u.cell? ⟨g6, o6 + 3, none⟩ = some (.string y'.name) ∧ u.cell? ⟨g6, o6 + 4, none⟩ = some (.int .i64 y'.rev) ∧ u.cell? ⟨g6, o6 + 5, none⟩ = some (.string y'.body)) ∧ (u.cell? ⟨g6, o6 + 6, none⟩ = some (.string z'.name) ∧ u.cell? ⟨g6, o6 + 7, none⟩ = some (.int .i64 z'.rev) ∧ u.cell? ⟨g6, o6 + 8, none⟩ = some (.string z'.body)) ∧ g6 < u.heap.size) := (fun u hu => by
            have c0 := hc6.below hu hg6 0 (by simp)
            have c1 := hc6.below hu hg6 1 (by simp)
            have c2 := hc6.below hu hg6 2 (by simp)
            simp only [Nat.zero_mul, Nat.add_zero, Nat.one_mul] at c0 c1 c2
            exact ⟨c0, c1, c2, Nat.lt_of_lt_of_le hg6 hu.size⟩)
          clear hc6 hv8 ht3 HT1
          cases hX : teq x' x
          · have E2 : Hid (R = boZ) := (show R = boZ by rw [E.out, ET.out, hX]; rfl)
            clear E ET
            go_upto_region 10 with fail
            have HV0 : Hid (Below v1.heap.size v1 v1.drew) := bdn (Below.refl _ _) 1
            have HPD : Hid (LG U v1.drew p3 #[.int .i64 gx, .int .i64 gy, .slice a4 n c4] 29) := HPV.out.drew
            have HOD : Hid (v1.drew.ownsRow q9 49 3 (.slice a4 n c4) n (dvR ds)) := HOV.out
            have HAV : Hid (∀ u, Below v1.heap.size v1 u → Below U.heap.size U u) := fun u hu => HPV.out.bel.trans (hu.mono HPV.out.bel.size)
            have HSB : Hid ((fun w9 => Below v1.heap.size v1 w9) v1.drew) := HV0.out
            refine wp_region_held (S := fun w9 => Below v1.heap.size v1 w9) (by kernel_rfl) ?_
            change wpAnyH _ _ _ _ _ _ _ _ (World.drew _)
            refine wpAnyH_take (i := 0) (v := .slice (some ⟨g6, o6, none⟩) 3 c6) rfl (by kernel_rfl) (by kernel_rfl) (by kernel_rfl) (fun _ _ _ h => h) (Or.inl ⟨by kernel_rfl, fun w9 h9 => ?_⟩) HSB.out ?_
            · go_simp
            refine wpAnyH_take (i := 1) (v := .int .i64 3) rfl (by kernel_rfl) (by kernel_rfl) (by kernel_rfl) (fun _ _ _ h => h) (Or.inl ⟨by kernel_rfl, fun w9 h9 => ?_⟩) HSB.out ?_
            · go_simp
            refine wpAnyH_take (i := 2) (v := .bool false) rfl (by kernel_rfl) (by kernel_rfl) (by kernel_rfl) (fun _ _ _ h => h) (Or.inl ⟨by kernel_rfl, fun w9 h9 => ?_⟩) HSB.out ?_
            · go_simp
            refine wpAnyH_take (i := 3) (v := .bool false) rfl (by kernel_rfl) (by kernel_rfl) (by kernel_rfl) (fun _ _ _ h => h) (Or.inl ⟨by kernel_rfl, fun w9 h9 => ?_⟩) HSB.out ?_
            · go_simp
            refine wpAnyH_take (i := 4) (v := .slice (some ⟨g6, o6, none⟩) 3 c6) rfl (by kernel_rfl) (by kernel_rfl) (by kernel_rfl) (fun _ _ _ h => h) (Or.inl ⟨by kernel_rfl, fun w9 h9 => ?_⟩) HSB.out ?_
            · go_simp
            refine wpAnyH_take (i := 5) (v := .pointer (some ⟨g6, o6, none⟩)) rfl (by kernel_rfl) (by kernel_rfl) (by kernel_rfl) (fun _ _ _ h => h) (Or.inl ⟨by kernel_rfl, fun w9 h9 => ?_⟩) HSB.out ?_
            · go_simp
            refine wpAnyH_take (i := 6) (v := .agg #[.string x'.name, .int .i64 x'.rev, .string x'.body]) rfl (by kernel_rfl) (by kernel_rfl) (by kernel_rfl) (fun _ _ _ h => h) (Or.inl ⟨by kernel_rfl, fun w9 h9 => ?_⟩) HSB.out ?_
            · obtain ⟨⟨c0, c1, c2⟩, ⟨c3, c4_, c5⟩, ⟨c6_, c7, c8⟩, cl⟩ := HC6.out _ h9; obtain ⟨⟨e0, e1, e2⟩, ⟨e3, e4, e5⟩, ⟨e6, e7, e8⟩, el⟩ := HAU.out _ (HAV.out _ h9); go_simp
            refine wpAnyH_take (i := 7) (v := .slice (some ⟨g, o, none⟩) 3 cap) rfl (by kernel_rfl) (by kernel_rfl) (by kernel_rfl) (fun _ _ _ h => h) (Or.inl ⟨by kernel_rfl, fun w9 h9 => ?_⟩) HSB.out ?_
            · go_simp
            refine wpAnyH_take (i := 8) (v := .pointer (some ⟨g, o, none⟩)) rfl (by kernel_rfl) (by kernel_rfl) (by kernel_rfl) (fun _ _ _ h => h) (Or.inl ⟨by kernel_rfl, fun w9 h9 => ?_⟩) HSB.out ?_
            · go_simp
            refine wpAnyH_take (i := 9) (v := .agg #[.string x.name, .int .i64 x.rev, .string x.body]) rfl (by kernel_rfl) (by kernel_rfl) (by kernel_rfl) (fun _ _ _ h => h) (Or.inl ⟨by kernel_rfl, fun w9 h9 => ?_⟩) HSB.out ?_
            · obtain ⟨⟨c0, c1, c2⟩, ⟨c3, c4_, c5⟩, ⟨c6_, c7, c8⟩, cl⟩ := HC6.out _ h9; obtain ⟨⟨e0, e1, e2⟩, ⟨e3, e4, e5⟩, ⟨e6, e7, e8⟩, el⟩ := HAU.out _ (HAV.out _ h9); go_simp
            refine wpAnyH_take (i := 10) (v := .bool true) rfl (by kernel_rfl) (by kernel_rfl) (by kernel_rfl) (fun _ _ _ h => h) (Or.inl ⟨by kernel_rfl, fun w9 h9 => ?_⟩) HSB.out ?_
            · have hf := fun u => neqFT x' x u; rw [hX] at hf; go_simp
            refine wpAnyH_take (i := 11) (v := .bool true) rfl (by kernel_rfl) (by kernel_rfl) (by kernel_rfl) (fun _ _ _ h => h) (Or.inl ⟨by kernel_rfl, fun w9 h9 => ?_⟩) HSB.out ?_
            · go_simp
            refine wpAnyH_take (i := 12) (v := .bool true) rfl (by kernel_rfl) (by kernel_rfl) (by kernel_rfl) (fun _ _ _ h => h) (Or.inl ⟨by kernel_rfl, fun w9 h9 => ?_⟩) HSB.out ?_
            · go_simp
            refine wpAnyH_take (i := 13) (v := undef) rfl (by kernel_rfl) (by kernel_rfl) (by kernel_rfl) (fun _ _ _ h => h) (Or.inr ⟨by kernel_rfl, rfl⟩) HSB.out ?_
            refine wpAnyH_take (i := 14) (v := undef) rfl (by kernel_rfl) (by kernel_rfl) (by kernel_rfl) (fun _ _ _ h => h) (Or.inr ⟨by kernel_rfl, rfl⟩) HSB.out ?_
            refine wpAnyH_take (i := 15) (v := undef) rfl (by kernel_rfl) (by kernel_rfl) (by kernel_rfl) (fun _ _ _ h => h) (Or.inr ⟨by kernel_rfl, rfl⟩) HSB.out ?_
            refine wpAnyH_take (i := 16) (v := undef) rfl (by kernel_rfl) (by kernel_rfl) (by kernel_rfl) (fun _ _ _ h => h) (Or.inr ⟨by kernel_rfl, rfl⟩) HSB.out ?_
            refine wpAnyH_take (i := 17) (v := undef) rfl (by kernel_rfl) (by kernel_rfl) (by kernel_rfl) (fun _ _ _ h => h) (Or.inr ⟨by kernel_rfl, rfl⟩) HSB.out ?_
            refine wpAnyH_take (i := 18) (v := undef) rfl (by kernel_rfl) (by kernel_rfl) (by kernel_rfl) (fun _ _ _ h => h) (Or.inr ⟨by kernel_rfl, rfl⟩) HSB.out ?_
            refine wpAnyH_take (i := 19) (v := undef) rfl (by kernel_rfl) (by kernel_rfl) (by kernel_rfl) (fun _ _ _ h => h) (Or.inr ⟨by kernel_rfl, rfl⟩) HSB.out ?_
            refine wpAnyH_take (i := 20) (v := .bool true) rfl (by kernel_rfl) (by kernel_rfl) (by kernel_rfl) (fun _ _ _ h => h) (Or.inl ⟨by kernel_rfl, fun w9 h9 => ?_⟩) HSB.out ?_
            · go_simp
            refine wpAnyH_take (i := 21) (v := .bool true) rfl (by kernel_rfl) (by kernel_rfl) (by kernel_rfl) (fun _ _ _ h => h) (Or.inl ⟨by kernel_rfl, fun w9 h9 => ?_⟩) HSB.out ?_
            · go_simp
            refine wpAnyH_take (i := 22) (v := undef) rfl (by kernel_rfl) (by kernel_rfl) (by kernel_rfl) (fun _ _ _ h => h) (Or.inr ⟨by kernel_rfl, rfl⟩) HSB.out ?_
            refine wpAnyH_take (i := 23) (v := undef) rfl (by kernel_rfl) (by kernel_rfl) (by kernel_rfl) (fun _ _ _ h => h) (Or.inr ⟨by kernel_rfl, rfl⟩) HSB.out ?_
            refine wpAnyH_take (i := 24) (v := undef) rfl (by kernel_rfl) (by kernel_rfl) (by kernel_rfl) (fun _ _ _ h => h) (Or.inr ⟨by kernel_rfl, rfl⟩) HSB.out ?_
            refine wpAnyH_take (i := 25) (v := undef) rfl (by kernel_rfl) (by kernel_rfl) (by kernel_rfl) (fun _ _ _ h => h) (Or.inr ⟨by kernel_rfl, rfl⟩) HSB.out ?_
            refine wpAnyH_take (i := 26) (v := undef) rfl (by kernel_rfl) (by kernel_rfl) (by kernel_rfl) (fun _ _ _ h => h) (Or.inr ⟨by kernel_rfl, rfl⟩) HSB.out ?_
            refine wpAnyH_take (i := 27) (v := undef) rfl (by kernel_rfl) (by kernel_rfl) (by kernel_rfl) (fun _ _ _ h => h) (Or.inr ⟨by kernel_rfl, rfl⟩) HSB.out ?_
            refine wpAnyH_take (i := 28) (v := undef) rfl (by kernel_rfl) (by kernel_rfl) (by kernel_rfl) (fun _ _ _ h => h) (Or.inr ⟨by kernel_rfl, rfl⟩) HSB.out ?_
            refine wpAnyH_take (i := 29) (v := .bool true) rfl (by kernel_rfl) (by kernel_rfl) (by kernel_rfl) (fun _ _ _ h => h) (Or.inl ⟨by kernel_rfl, fun w9 h9 => ?_⟩) HSB.out ?_
            · go_simp
            refine wpAnyH_done (by kernel_rfl) ?_ _
            go_simp
            generalize v1.drew = v2 at *
            have HB11 : Hid (LG w v2 b2 #[.bool false, .int .i64 0, .int .i64 0, .slice none 0 0] 41) := HU.out.step HPD.out.bel
            have k0 := HB11.out.cel 0 _ rfl
            have k1 := HB11.out.cel 1 _ rfl
            have k2 := HB11.out.cel 2 _ rfl
            have k3 := HB11.out.cel 3 _ rfl
            have f0 := HB11.out.frz 0
            have f1 := HB11.out.frz 1
            have f2 := HB11.out.frz 2
            have f3 := HB11.out.frz 3
            have kl := HB11.out.lt
            go_wp2
            refine bodyPost_ret (v := boA boZ (.slice none 0 0)) ?_ rfl ⟨_, by rw [E2.out], by rw [E2.out]; exact World.ownsRow_nil _ _ _ _, ?_⟩
            · simp [results, Try.results18, go_sem, boA, boZ, k0, k1, k2, k3]
            · first | exact (((HB11.out.bel.setCell HB11.out.ge _).setCell HB11.out.ge _).setCell HB11.out.ge _).setCell HB11.out.ge _ | exact belCast HB0.out ((((HB11.out.bel.setCell HB11.out.ge _).setCell HB11.out.ge _).setCell HB11.out.ge _).setCell HB11.out.ge _)
          cases hY : teq y' y
          · have E2 : Hid (R = boZ) := (show R = boZ by rw [E.out, ET.out, hX, hY]; rfl)
            clear E ET
            go_upto_region 10 with fail
            have HV0 : Hid (Below v1.heap.size v1 v1.drew) := bdn (Below.refl _ _) 1
            have HPD : Hid (LG U v1.drew p3 #[.int .i64 gx, .int .i64 gy, .slice a4 n c4] 29) := HPV.out.drew
            have HOD : Hid (v1.drew.ownsRow q9 49 3 (.slice a4 n c4) n (dvR ds)) := HOV.out
            have HAV : Hid (∀ u, Below v1.heap.size v1 u → Below U.heap.size U u) := fun u hu => HPV.out.bel.trans (hu.mono HPV.out.bel.size)
            have HSB : Hid ((fun w9 => Below v1.heap.size v1 w9) v1.drew) := HV0.out
            refine wp_region_held (S := fun w9 => Below v1.heap.size v1 w9) (by kernel_rfl) ?_
            change wpAnyH _ _ _ _ _ _ _ _ (World.drew _)
            refine wpAnyH_take (i := 0) (v := .slice (some ⟨g6, o6, none⟩) 3 c6) rfl (by kernel_rfl) (by kernel_rfl) (by kernel_rfl) (fun _ _ _ h => h) (Or.inl ⟨by kernel_rfl, fun w9 h9 => ?_⟩) HSB.out ?_
            · go_simp
            refine wpAnyH_take (i := 1) (v := .int .i64 3) rfl (by kernel_rfl) (by kernel_rfl) (by kernel_rfl) (fun _ _ _ h => h) (Or.inl ⟨by kernel_rfl, fun w9 h9 => ?_⟩) HSB.out ?_
            · go_simp
            refine wpAnyH_take (i := 2) (v := .bool false) rfl (by kernel_rfl) (by kernel_rfl) (by kernel_rfl) (fun _ _ _ h => h) (Or.inl ⟨by kernel_rfl, fun w9 h9 => ?_⟩) HSB.out ?_
            · go_simp
            refine wpAnyH_take (i := 3) (v := .bool false) rfl (by kernel_rfl) (by kernel_rfl) (by kernel_rfl) (fun _ _ _ h => h) (Or.inl ⟨by kernel_rfl, fun w9 h9 => ?_⟩) HSB.out ?_
            · go_simp
            refine wpAnyH_take (i := 4) (v := .slice (some ⟨g6, o6, none⟩) 3 c6) rfl (by kernel_rfl) (by kernel_rfl) (by kernel_rfl) (fun _ _ _ h => h) (Or.inl ⟨by kernel_rfl, fun w9 h9 => ?_⟩) HSB.out ?_
            · go_simp
            refine wpAnyH_take (i := 5) (v := .pointer (some ⟨g6, o6, none⟩)) rfl (by kernel_rfl) (by kernel_rfl) (by kernel_rfl) (fun _ _ _ h => h) (Or.inl ⟨by kernel_rfl, fun w9 h9 => ?_⟩) HSB.out ?_
            · go_simp
            refine wpAnyH_take (i := 6) (v := .agg #[.string x'.name, .int .i64 x'.rev, .string x'.body]) rfl (by kernel_rfl) (by kernel_rfl) (by kernel_rfl) (fun _ _ _ h => h) (Or.inl ⟨by kernel_rfl, fun w9 h9 => ?_⟩) HSB.out ?_
            · obtain ⟨⟨c0, c1, c2⟩, ⟨c3, c4_, c5⟩, ⟨c6_, c7, c8⟩, cl⟩ := HC6.out _ h9; obtain ⟨⟨e0, e1, e2⟩, ⟨e3, e4, e5⟩, ⟨e6, e7, e8⟩, el⟩ := HAU.out _ (HAV.out _ h9); go_simp
            refine wpAnyH_take (i := 7) (v := .slice (some ⟨g, o, none⟩) 3 cap) rfl (by kernel_rfl) (by kernel_rfl) (by kernel_rfl) (fun _ _ _ h => h) (Or.inl ⟨by kernel_rfl, fun w9 h9 => ?_⟩) HSB.out ?_
            · go_simp
            refine wpAnyH_take (i := 8) (v := .pointer (some ⟨g, o, none⟩)) rfl (by kernel_rfl) (by kernel_rfl) (by kernel_rfl) (fun _ _ _ h => h) (Or.inl ⟨by kernel_rfl, fun w9 h9 => ?_⟩) HSB.out ?_
            · go_simp
            refine wpAnyH_take (i := 9) (v := .agg #[.string x.name, .int .i64 x.rev, .string x.body]) rfl (by kernel_rfl) (by kernel_rfl) (by kernel_rfl) (fun _ _ _ h => h) (Or.inl ⟨by kernel_rfl, fun w9 h9 => ?_⟩) HSB.out ?_
            · obtain ⟨⟨c0, c1, c2⟩, ⟨c3, c4_, c5⟩, ⟨c6_, c7, c8⟩, cl⟩ := HC6.out _ h9; obtain ⟨⟨e0, e1, e2⟩, ⟨e3, e4, e5⟩, ⟨e6, e7, e8⟩, el⟩ := HAU.out _ (HAV.out _ h9); go_simp
            refine wpAnyH_take (i := 10) (v := .bool false) rfl (by kernel_rfl) (by kernel_rfl) (by kernel_rfl) (fun _ _ _ h => h) (Or.inl ⟨by kernel_rfl, fun w9 h9 => ?_⟩) HSB.out ?_
            · have hf := fun u => neqFT x' x u; rw [hX] at hf; go_simp
            refine wpAnyH_take (i := 11) (v := .bool false) rfl (by kernel_rfl) (by kernel_rfl) (by kernel_rfl) (fun _ _ _ h => h) (Or.inl ⟨by kernel_rfl, fun w9 h9 => ?_⟩) HSB.out ?_
            · go_simp
            refine wpAnyH_take (i := 12) (v := .bool false) rfl (by kernel_rfl) (by kernel_rfl) (by kernel_rfl) (fun _ _ _ h => h) (Or.inl ⟨by kernel_rfl, fun w9 h9 => ?_⟩) HSB.out ?_
            · go_simp
            refine wpAnyH_take (i := 13) (v := .slice (some ⟨g6, o6, none⟩) 3 c6) rfl (by kernel_rfl) (by kernel_rfl) (by kernel_rfl) (fun _ _ _ h => h) (Or.inl ⟨by kernel_rfl, fun w9 h9 => ?_⟩) HSB.out ?_
            · go_simp
            refine wpAnyH_take (i := 14) (v := .pointer (some ⟨g6, o6 + 3, none⟩)) rfl (by kernel_rfl) (by kernel_rfl) (by kernel_rfl) (fun _ _ _ h => h) (Or.inl ⟨by kernel_rfl, fun w9 h9 => ?_⟩) HSB.out ?_
            · go_simp
            refine wpAnyH_take (i := 15) (v := .agg #[.string y'.name, .int .i64 y'.rev, .string y'.body]) rfl (by kernel_rfl) (by kernel_rfl) (by kernel_rfl) (fun _ _ _ h => h) (Or.inl ⟨by kernel_rfl, fun w9 h9 => ?_⟩) HSB.out ?_
            · obtain ⟨⟨c0, c1, c2⟩, ⟨c3, c4_, c5⟩, ⟨c6_, c7, c8⟩, cl⟩ := HC6.out _ h9; obtain ⟨⟨e0, e1, e2⟩, ⟨e3, e4, e5⟩, ⟨e6, e7, e8⟩, el⟩ := HAU.out _ (HAV.out _ h9); go_simp
            refine wpAnyH_take (i := 16) (v := .slice (some ⟨g, o, none⟩) 3 cap) rfl (by kernel_rfl) (by kernel_rfl) (by kernel_rfl) (fun _ _ _ h => h) (Or.inl ⟨by kernel_rfl, fun w9 h9 => ?_⟩) HSB.out ?_
            · go_simp
            refine wpAnyH_take (i := 17) (v := .pointer (some ⟨g, o + 3, none⟩)) rfl (by kernel_rfl) (by kernel_rfl) (by kernel_rfl) (fun _ _ _ h => h) (Or.inl ⟨by kernel_rfl, fun w9 h9 => ?_⟩) HSB.out ?_
            · go_simp
            refine wpAnyH_take (i := 18) (v := .agg #[.string y.name, .int .i64 y.rev, .string y.body]) rfl (by kernel_rfl) (by kernel_rfl) (by kernel_rfl) (fun _ _ _ h => h) (Or.inl ⟨by kernel_rfl, fun w9 h9 => ?_⟩) HSB.out ?_
            · obtain ⟨⟨c0, c1, c2⟩, ⟨c3, c4_, c5⟩, ⟨c6_, c7, c8⟩, cl⟩ := HC6.out _ h9; obtain ⟨⟨e0, e1, e2⟩, ⟨e3, e4, e5⟩, ⟨e6, e7, e8⟩, el⟩ := HAU.out _ (HAV.out _ h9); go_simp
            refine wpAnyH_take (i := 19) (v := .bool true) rfl (by kernel_rfl) (by kernel_rfl) (by kernel_rfl) (fun _ _ _ h => h) (Or.inl ⟨by kernel_rfl, fun w9 h9 => ?_⟩) HSB.out ?_
            · have hf := fun u => neqFT y' y u; rw [hY] at hf; go_simp
            refine wpAnyH_take (i := 20) (v := .bool true) rfl (by kernel_rfl) (by kernel_rfl) (by kernel_rfl) (fun _ _ _ h => h) (Or.inl ⟨by kernel_rfl, fun w9 h9 => ?_⟩) HSB.out ?_
            · go_simp
            refine wpAnyH_take (i := 21) (v := .bool true) rfl (by kernel_rfl) (by kernel_rfl) (by kernel_rfl) (fun _ _ _ h => h) (Or.inl ⟨by kernel_rfl, fun w9 h9 => ?_⟩) HSB.out ?_
            · go_simp
            refine wpAnyH_take (i := 22) (v := undef) rfl (by kernel_rfl) (by kernel_rfl) (by kernel_rfl) (fun _ _ _ h => h) (Or.inr ⟨by kernel_rfl, rfl⟩) HSB.out ?_
            refine wpAnyH_take (i := 23) (v := undef) rfl (by kernel_rfl) (by kernel_rfl) (by kernel_rfl) (fun _ _ _ h => h) (Or.inr ⟨by kernel_rfl, rfl⟩) HSB.out ?_
            refine wpAnyH_take (i := 24) (v := undef) rfl (by kernel_rfl) (by kernel_rfl) (by kernel_rfl) (fun _ _ _ h => h) (Or.inr ⟨by kernel_rfl, rfl⟩) HSB.out ?_
            refine wpAnyH_take (i := 25) (v := undef) rfl (by kernel_rfl) (by kernel_rfl) (by kernel_rfl) (fun _ _ _ h => h) (Or.inr ⟨by kernel_rfl, rfl⟩) HSB.out ?_
            refine wpAnyH_take (i := 26) (v := undef) rfl (by kernel_rfl) (by kernel_rfl) (by kernel_rfl) (fun _ _ _ h => h) (Or.inr ⟨by kernel_rfl, rfl⟩) HSB.out ?_
            refine wpAnyH_take (i := 27) (v := undef) rfl (by kernel_rfl) (by kernel_rfl) (by kernel_rfl) (fun _ _ _ h => h) (Or.inr ⟨by kernel_rfl, rfl⟩) HSB.out ?_
            refine wpAnyH_take (i := 28) (v := undef) rfl (by kernel_rfl) (by kernel_rfl) (by kernel_rfl) (fun _ _ _ h => h) (Or.inr ⟨by kernel_rfl, rfl⟩) HSB.out ?_
            refine wpAnyH_take (i := 29) (v := .bool true) rfl (by kernel_rfl) (by kernel_rfl) (by kernel_rfl) (fun _ _ _ h => h) (Or.inl ⟨by kernel_rfl, fun w9 h9 => ?_⟩) HSB.out ?_
            · go_simp
            refine wpAnyH_done (by kernel_rfl) ?_ _
            go_simp
            generalize v1.drew = v2 at *
            have HB11 : Hid (LG w v2 b2 #[.bool false, .int .i64 0, .int .i64 0, .slice none 0 0] 41) := HU.out.step HPD.out.bel
            have k0 := HB11.out.cel 0 _ rfl
            have k1 := HB11.out.cel 1 _ rfl
            have k2 := HB11.out.cel 2 _ rfl
            have k3 := HB11.out.cel 3 _ rfl
            have f0 := HB11.out.frz 0
            have f1 := HB11.out.frz 1
            have f2 := HB11.out.frz 2
            have f3 := HB11.out.frz 3
            have kl := HB11.out.lt
            go_wp2
            refine bodyPost_ret (v := boA boZ (.slice none 0 0)) ?_ rfl ⟨_, by rw [E2.out], by rw [E2.out]; exact World.ownsRow_nil _ _ _ _, ?_⟩
            · simp [results, Try.results18, go_sem, boA, boZ, k0, k1, k2, k3]
            · first | exact (((HB11.out.bel.setCell HB11.out.ge _).setCell HB11.out.ge _).setCell HB11.out.ge _).setCell HB11.out.ge _ | exact belCast HB0.out ((((HB11.out.bel.setCell HB11.out.ge _).setCell HB11.out.ge _).setCell HB11.out.ge _).setCell HB11.out.ge _)
          cases hZ : teq z' z
          · have E2 : Hid (R = boZ) := (show R = boZ by rw [E.out, ET.out, hX, hY, hZ]; rfl)
            clear E ET
            go_upto_region 10 with fail
            have HV0 : Hid (Below v1.heap.size v1 v1.drew) := bdn (Below.refl _ _) 1
            have HPD : Hid (LG U v1.drew p3 #[.int .i64 gx, .int .i64 gy, .slice a4 n c4] 29) := HPV.out.drew
            have HOD : Hid (v1.drew.ownsRow q9 49 3 (.slice a4 n c4) n (dvR ds)) := HOV.out
            have HAV : Hid (∀ u, Below v1.heap.size v1 u → Below U.heap.size U u) := fun u hu => HPV.out.bel.trans (hu.mono HPV.out.bel.size)
            have HSB : Hid ((fun w9 => Below v1.heap.size v1 w9) v1.drew) := HV0.out
            refine wp_region_held (S := fun w9 => Below v1.heap.size v1 w9) (by kernel_rfl) ?_
            change wpAnyH _ _ _ _ _ _ _ _ (World.drew _)
            refine wpAnyH_take (i := 0) (v := .slice (some ⟨g6, o6, none⟩) 3 c6) rfl (by kernel_rfl) (by kernel_rfl) (by kernel_rfl) (fun _ _ _ h => h) (Or.inl ⟨by kernel_rfl, fun w9 h9 => ?_⟩) HSB.out ?_
            · go_simp
            refine wpAnyH_take (i := 1) (v := .int .i64 3) rfl (by kernel_rfl) (by kernel_rfl) (by kernel_rfl) (fun _ _ _ h => h) (Or.inl ⟨by kernel_rfl, fun w9 h9 => ?_⟩) HSB.out ?_
            · go_simp
            refine wpAnyH_take (i := 2) (v := .bool false) rfl (by kernel_rfl) (by kernel_rfl) (by kernel_rfl) (fun _ _ _ h => h) (Or.inl ⟨by kernel_rfl, fun w9 h9 => ?_⟩) HSB.out ?_
            · go_simp
            refine wpAnyH_take (i := 3) (v := .bool false) rfl (by kernel_rfl) (by kernel_rfl) (by kernel_rfl) (fun _ _ _ h => h) (Or.inl ⟨by kernel_rfl, fun w9 h9 => ?_⟩) HSB.out ?_
            · go_simp
            refine wpAnyH_take (i := 4) (v := .slice (some ⟨g6, o6, none⟩) 3 c6) rfl (by kernel_rfl) (by kernel_rfl) (by kernel_rfl) (fun _ _ _ h => h) (Or.inl ⟨by kernel_rfl, fun w9 h9 => ?_⟩) HSB.out ?_
            · go_simp
            refine wpAnyH_take (i := 5) (v := .pointer (some ⟨g6, o6, none⟩)) rfl (by kernel_rfl) (by kernel_rfl) (by kernel_rfl) (fun _ _ _ h => h) (Or.inl ⟨by kernel_rfl, fun w9 h9 => ?_⟩) HSB.out ?_
            · go_simp
            refine wpAnyH_take (i := 6) (v := .agg #[.string x'.name, .int .i64 x'.rev, .string x'.body]) rfl (by kernel_rfl) (by kernel_rfl) (by kernel_rfl) (fun _ _ _ h => h) (Or.inl ⟨by kernel_rfl, fun w9 h9 => ?_⟩) HSB.out ?_
            · obtain ⟨⟨c0, c1, c2⟩, ⟨c3, c4_, c5⟩, ⟨c6_, c7, c8⟩, cl⟩ := HC6.out _ h9; obtain ⟨⟨e0, e1, e2⟩, ⟨e3, e4, e5⟩, ⟨e6, e7, e8⟩, el⟩ := HAU.out _ (HAV.out _ h9); go_simp
            refine wpAnyH_take (i := 7) (v := .slice (some ⟨g, o, none⟩) 3 cap) rfl (by kernel_rfl) (by kernel_rfl) (by kernel_rfl) (fun _ _ _ h => h) (Or.inl ⟨by kernel_rfl, fun w9 h9 => ?_⟩) HSB.out ?_
            · go_simp
            refine wpAnyH_take (i := 8) (v := .pointer (some ⟨g, o, none⟩)) rfl (by kernel_rfl) (by kernel_rfl) (by kernel_rfl) (fun _ _ _ h => h) (Or.inl ⟨by kernel_rfl, fun w9 h9 => ?_⟩) HSB.out ?_
            · go_simp
            refine wpAnyH_take (i := 9) (v := .agg #[.string x.name, .int .i64 x.rev, .string x.body]) rfl (by kernel_rfl) (by kernel_rfl) (by kernel_rfl) (fun _ _ _ h => h) (Or.inl ⟨by kernel_rfl, fun w9 h9 => ?_⟩) HSB.out ?_
            · obtain ⟨⟨c0, c1, c2⟩, ⟨c3, c4_, c5⟩, ⟨c6_, c7, c8⟩, cl⟩ := HC6.out _ h9; obtain ⟨⟨e0, e1, e2⟩, ⟨e3, e4, e5⟩, ⟨e6, e7, e8⟩, el⟩ := HAU.out _ (HAV.out _ h9); go_simp
            refine wpAnyH_take (i := 10) (v := .bool false) rfl (by kernel_rfl) (by kernel_rfl) (by kernel_rfl) (fun _ _ _ h => h) (Or.inl ⟨by kernel_rfl, fun w9 h9 => ?_⟩) HSB.out ?_
            · have hf := fun u => neqFT x' x u; rw [hX] at hf; go_simp
            refine wpAnyH_take (i := 11) (v := .bool false) rfl (by kernel_rfl) (by kernel_rfl) (by kernel_rfl) (fun _ _ _ h => h) (Or.inl ⟨by kernel_rfl, fun w9 h9 => ?_⟩) HSB.out ?_
            · go_simp
            refine wpAnyH_take (i := 12) (v := .bool false) rfl (by kernel_rfl) (by kernel_rfl) (by kernel_rfl) (fun _ _ _ h => h) (Or.inl ⟨by kernel_rfl, fun w9 h9 => ?_⟩) HSB.out ?_
            · go_simp
            refine wpAnyH_take (i := 13) (v := .slice (some ⟨g6, o6, none⟩) 3 c6) rfl (by kernel_rfl) (by kernel_rfl) (by kernel_rfl) (fun _ _ _ h => h) (Or.inl ⟨by kernel_rfl, fun w9 h9 => ?_⟩) HSB.out ?_
            · go_simp
            refine wpAnyH_take (i := 14) (v := .pointer (some ⟨g6, o6 + 3, none⟩)) rfl (by kernel_rfl) (by kernel_rfl) (by kernel_rfl) (fun _ _ _ h => h) (Or.inl ⟨by kernel_rfl, fun w9 h9 => ?_⟩) HSB.out ?_
            · go_simp
            refine wpAnyH_take (i := 15) (v := .agg #[.string y'.name, .int .i64 y'.rev, .string y'.body]) rfl (by kernel_rfl) (by kernel_rfl) (by kernel_rfl) (fun _ _ _ h => h) (Or.inl ⟨by kernel_rfl, fun w9 h9 => ?_⟩) HSB.out ?_
            · obtain ⟨⟨c0, c1, c2⟩, ⟨c3, c4_, c5⟩, ⟨c6_, c7, c8⟩, cl⟩ := HC6.out _ h9; obtain ⟨⟨e0, e1, e2⟩, ⟨e3, e4, e5⟩, ⟨e6, e7, e8⟩, el⟩ := HAU.out _ (HAV.out _ h9); go_simp
            refine wpAnyH_take (i := 16) (v := .slice (some ⟨g, o, none⟩) 3 cap) rfl (by kernel_rfl) (by kernel_rfl) (by kernel_rfl) (fun _ _ _ h => h) (Or.inl ⟨by kernel_rfl, fun w9 h9 => ?_⟩) HSB.out ?_
            · go_simp
            refine wpAnyH_take (i := 17) (v := .pointer (some ⟨g, o + 3, none⟩)) rfl (by kernel_rfl) (by kernel_rfl) (by kernel_rfl) (fun _ _ _ h => h) (Or.inl ⟨by kernel_rfl, fun w9 h9 => ?_⟩) HSB.out ?_
            · go_simp
            refine wpAnyH_take (i := 18) (v := .agg #[.string y.name, .int .i64 y.rev, .string y.body]) rfl (by kernel_rfl) (by kernel_rfl) (by kernel_rfl) (fun _ _ _ h => h) (Or.inl ⟨by kernel_rfl, fun w9 h9 => ?_⟩) HSB.out ?_
            · obtain ⟨⟨c0, c1, c2⟩, ⟨c3, c4_, c5⟩, ⟨c6_, c7, c8⟩, cl⟩ := HC6.out _ h9; obtain ⟨⟨e0, e1, e2⟩, ⟨e3, e4, e5⟩, ⟨e6, e7, e8⟩, el⟩ := HAU.out _ (HAV.out _ h9); go_simp
            refine wpAnyH_take (i := 19) (v := .bool false) rfl (by kernel_rfl) (by kernel_rfl) (by kernel_rfl) (fun _ _ _ h => h) (Or.inl ⟨by kernel_rfl, fun w9 h9 => ?_⟩) HSB.out ?_
            · have hf := fun u => neqFT y' y u; rw [hY] at hf; go_simp
            refine wpAnyH_take (i := 20) (v := .bool false) rfl (by kernel_rfl) (by kernel_rfl) (by kernel_rfl) (fun _ _ _ h => h) (Or.inl ⟨by kernel_rfl, fun w9 h9 => ?_⟩) HSB.out ?_
            · go_simp
            refine wpAnyH_take (i := 21) (v := .bool false) rfl (by kernel_rfl) (by kernel_rfl) (by kernel_rfl) (fun _ _ _ h => h) (Or.inl ⟨by kernel_rfl, fun w9 h9 => ?_⟩) HSB.out ?_
            · go_simp
            refine wpAnyH_take (i := 22) (v := .slice (some ⟨g6, o6, none⟩) 3 c6) rfl (by kernel_rfl) (by kernel_rfl) (by kernel_rfl) (fun _ _ _ h => h) (Or.inl ⟨by kernel_rfl, fun w9 h9 => ?_⟩) HSB.out ?_
            · go_simp
            refine wpAnyH_take (i := 23) (v := .pointer (some ⟨g6, o6 + 6, none⟩)) rfl (by kernel_rfl) (by kernel_rfl) (by kernel_rfl) (fun _ _ _ h => h) (Or.inl ⟨by kernel_rfl, fun w9 h9 => ?_⟩) HSB.out ?_
            · go_simp
            refine wpAnyH_take (i := 24) (v := .agg #[.string z'.name, .int .i64 z'.rev, .string z'.body]) rfl (by kernel_rfl) (by kernel_rfl) (by kernel_rfl) (fun _ _ _ h => h) (Or.inl ⟨by kernel_rfl, fun w9 h9 => ?_⟩) HSB.out ?_
            · obtain ⟨⟨c0, c1, c2⟩, ⟨c3, c4_, c5⟩, ⟨c6_, c7, c8⟩, cl⟩ := HC6.out _ h9; obtain ⟨⟨e0, e1, e2⟩, ⟨e3, e4, e5⟩, ⟨e6, e7, e8⟩, el⟩ := HAU.out _ (HAV.out _ h9); go_simp
            refine wpAnyH_take (i := 25) (v := .slice (some ⟨g, o, none⟩) 3 cap) rfl (by kernel_rfl) (by kernel_rfl) (by kernel_rfl) (fun _ _ _ h => h) (Or.inl ⟨by kernel_rfl, fun w9 h9 => ?_⟩) HSB.out ?_
            · go_simp
            refine wpAnyH_take (i := 26) (v := .pointer (some ⟨g, o + 6, none⟩)) rfl (by kernel_rfl) (by kernel_rfl) (by kernel_rfl) (fun _ _ _ h => h) (Or.inl ⟨by kernel_rfl, fun w9 h9 => ?_⟩) HSB.out ?_
            · go_simp
            refine wpAnyH_take (i := 27) (v := .agg #[.string z.name, .int .i64 z.rev, .string z.body]) rfl (by kernel_rfl) (by kernel_rfl) (by kernel_rfl) (fun _ _ _ h => h) (Or.inl ⟨by kernel_rfl, fun w9 h9 => ?_⟩) HSB.out ?_
            · obtain ⟨⟨c0, c1, c2⟩, ⟨c3, c4_, c5⟩, ⟨c6_, c7, c8⟩, cl⟩ := HC6.out _ h9; obtain ⟨⟨e0, e1, e2⟩, ⟨e3, e4, e5⟩, ⟨e6, e7, e8⟩, el⟩ := HAU.out _ (HAV.out _ h9); go_simp
            refine wpAnyH_take (i := 28) (v := .bool true) rfl (by kernel_rfl) (by kernel_rfl) (by kernel_rfl) (fun _ _ _ h => h) (Or.inl ⟨by kernel_rfl, fun w9 h9 => ?_⟩) HSB.out ?_
            · have hf := fun u => neqFT z' z u; rw [hZ] at hf; go_simp
            refine wpAnyH_take (i := 29) (v := .bool true) rfl (by kernel_rfl) (by kernel_rfl) (by kernel_rfl) (fun _ _ _ h => h) (Or.inl ⟨by kernel_rfl, fun w9 h9 => ?_⟩) HSB.out ?_
            · go_simp
            refine wpAnyH_done (by kernel_rfl) ?_ _
            go_simp
            generalize v1.drew = v2 at *
            have HB11 : Hid (LG w v2 b2 #[.bool false, .int .i64 0, .int .i64 0, .slice none 0 0] 41) := HU.out.step HPD.out.bel
            have k0 := HB11.out.cel 0 _ rfl
            have k1 := HB11.out.cel 1 _ rfl
            have k2 := HB11.out.cel 2 _ rfl
            have k3 := HB11.out.cel 3 _ rfl
            have f0 := HB11.out.frz 0
            have f1 := HB11.out.frz 1
            have f2 := HB11.out.frz 2
            have f3 := HB11.out.frz 3
            have kl := HB11.out.lt
            go_wp2
            refine bodyPost_ret (v := boA boZ (.slice none 0 0)) ?_ rfl ⟨_, by rw [E2.out], by rw [E2.out]; exact World.ownsRow_nil _ _ _ _, ?_⟩
            · simp [results, Try.results18, go_sem, boA, boZ, k0, k1, k2, k3]
            · first | exact (((HB11.out.bel.setCell HB11.out.ge _).setCell HB11.out.ge _).setCell HB11.out.ge _).setCell HB11.out.ge _ | exact belCast HB0.out ((((HB11.out.bel.setCell HB11.out.ge _).setCell HB11.out.ge _).setCell HB11.out.ge _).setCell HB11.out.ge _)
          have E2 : Hid (R = ⟨true, gx, gy, ds⟩) := (show R = _ by rw [E.out, ET.out, hX, hY, hZ]; rfl)
          clear E ET
          go_upto_region 10 with fail
          have HV0 : Hid (Below v1.heap.size v1 v1.drew) := bdn (Below.refl _ _) 1
          have HPD : Hid (LG U v1.drew p3 #[.int .i64 gx, .int .i64 gy, .slice a4 n c4] 29) := HPV.out.drew
          have HOD : Hid (v1.drew.ownsRow q9 49 3 (.slice a4 n c4) n (dvR ds)) := HOV.out
          have HAV : Hid (∀ u, Below v1.heap.size v1 u → Below U.heap.size U u) := fun u hu => HPV.out.bel.trans (hu.mono HPV.out.bel.size)
          have HSB : Hid ((fun w9 => Below v1.heap.size v1 w9) v1.drew) := HV0.out
          refine wp_region_held (S := fun w9 => Below v1.heap.size v1 w9) (by kernel_rfl) ?_
          change wpAnyH _ _ _ _ _ _ _ _ (World.drew _)
          refine wpAnyH_take (i := 0) (v := .slice (some ⟨g6, o6, none⟩) 3 c6) rfl (by kernel_rfl) (by kernel_rfl) (by kernel_rfl) (fun _ _ _ h => h) (Or.inl ⟨by kernel_rfl, fun w9 h9 => ?_⟩) HSB.out ?_
          · go_simp
          refine wpAnyH_take (i := 1) (v := .int .i64 3) rfl (by kernel_rfl) (by kernel_rfl) (by kernel_rfl) (fun _ _ _ h => h) (Or.inl ⟨by kernel_rfl, fun w9 h9 => ?_⟩) HSB.out ?_
          · go_simp
          refine wpAnyH_take (i := 2) (v := .bool false) rfl (by kernel_rfl) (by kernel_rfl) (by kernel_rfl) (fun _ _ _ h => h) (Or.inl ⟨by kernel_rfl, fun w9 h9 => ?_⟩) HSB.out ?_
          · go_simp
          refine wpAnyH_take (i := 3) (v := .bool false) rfl (by kernel_rfl) (by kernel_rfl) (by kernel_rfl) (fun _ _ _ h => h) (Or.inl ⟨by kernel_rfl, fun w9 h9 => ?_⟩) HSB.out ?_
          · go_simp
          refine wpAnyH_take (i := 4) (v := .slice (some ⟨g6, o6, none⟩) 3 c6) rfl (by kernel_rfl) (by kernel_rfl) (by kernel_rfl) (fun _ _ _ h => h) (Or.inl ⟨by kernel_rfl, fun w9 h9 => ?_⟩) HSB.out ?_
          · go_simp
          refine wpAnyH_take (i := 5) (v := .pointer (some ⟨g6, o6, none⟩)) rfl (by kernel_rfl) (by kernel_rfl) (by kernel_rfl) (fun _ _ _ h => h) (Or.inl ⟨by kernel_rfl, fun w9 h9 => ?_⟩) HSB.out ?_
          · go_simp
          refine wpAnyH_take (i := 6) (v := .agg #[.string x'.name, .int .i64 x'.rev, .string x'.body]) rfl (by kernel_rfl) (by kernel_rfl) (by kernel_rfl) (fun _ _ _ h => h) (Or.inl ⟨by kernel_rfl, fun w9 h9 => ?_⟩) HSB.out ?_
          · obtain ⟨⟨c0, c1, c2⟩, ⟨c3, c4_, c5⟩, ⟨c6_, c7, c8⟩, cl⟩ := HC6.out _ h9; obtain ⟨⟨e0, e1, e2⟩, ⟨e3, e4, e5⟩, ⟨e6, e7, e8⟩, el⟩ := HAU.out _ (HAV.out _ h9); go_simp
          refine wpAnyH_take (i := 7) (v := .slice (some ⟨g, o, none⟩) 3 cap) rfl (by kernel_rfl) (by kernel_rfl) (by kernel_rfl) (fun _ _ _ h => h) (Or.inl ⟨by kernel_rfl, fun w9 h9 => ?_⟩) HSB.out ?_
          · go_simp
          refine wpAnyH_take (i := 8) (v := .pointer (some ⟨g, o, none⟩)) rfl (by kernel_rfl) (by kernel_rfl) (by kernel_rfl) (fun _ _ _ h => h) (Or.inl ⟨by kernel_rfl, fun w9 h9 => ?_⟩) HSB.out ?_
          · go_simp
          refine wpAnyH_take (i := 9) (v := .agg #[.string x.name, .int .i64 x.rev, .string x.body]) rfl (by kernel_rfl) (by kernel_rfl) (by kernel_rfl) (fun _ _ _ h => h) (Or.inl ⟨by kernel_rfl, fun w9 h9 => ?_⟩) HSB.out ?_
          · obtain ⟨⟨c0, c1, c2⟩, ⟨c3, c4_, c5⟩, ⟨c6_, c7, c8⟩, cl⟩ := HC6.out _ h9; obtain ⟨⟨e0, e1, e2⟩, ⟨e3, e4, e5⟩, ⟨e6, e7, e8⟩, el⟩ := HAU.out _ (HAV.out _ h9); go_simp
          refine wpAnyH_take (i := 10) (v := .bool false) rfl (by kernel_rfl) (by kernel_rfl) (by kernel_rfl) (fun _ _ _ h => h) (Or.inl ⟨by kernel_rfl, fun w9 h9 => ?_⟩) HSB.out ?_
          · have hf := fun u => neqFT x' x u; rw [hX] at hf; go_simp
          refine wpAnyH_take (i := 11) (v := .bool false) rfl (by kernel_rfl) (by kernel_rfl) (by kernel_rfl) (fun _ _ _ h => h) (Or.inl ⟨by kernel_rfl, fun w9 h9 => ?_⟩) HSB.out ?_
          · go_simp
          refine wpAnyH_take (i := 12) (v := .bool false) rfl (by kernel_rfl) (by kernel_rfl) (by kernel_rfl) (fun _ _ _ h => h) (Or.inl ⟨by kernel_rfl, fun w9 h9 => ?_⟩) HSB.out ?_
          · go_simp
          refine wpAnyH_take (i := 13) (v := .slice (some ⟨g6, o6, none⟩) 3 c6) rfl (by kernel_rfl) (by kernel_rfl) (by kernel_rfl) (fun _ _ _ h => h) (Or.inl ⟨by kernel_rfl, fun w9 h9 => ?_⟩) HSB.out ?_
          · go_simp
          refine wpAnyH_take (i := 14) (v := .pointer (some ⟨g6, o6 + 3, none⟩)) rfl (by kernel_rfl) (by kernel_rfl) (by kernel_rfl) (fun _ _ _ h => h) (Or.inl ⟨by kernel_rfl, fun w9 h9 => ?_⟩) HSB.out ?_
          · go_simp
          refine wpAnyH_take (i := 15) (v := .agg #[.string y'.name, .int .i64 y'.rev, .string y'.body]) rfl (by kernel_rfl) (by kernel_rfl) (by kernel_rfl) (fun _ _ _ h => h) (Or.inl ⟨by kernel_rfl, fun w9 h9 => ?_⟩) HSB.out ?_
          · obtain ⟨⟨c0, c1, c2⟩, ⟨c3, c4_, c5⟩, ⟨c6_, c7, c8⟩, cl⟩ := HC6.out _ h9; obtain ⟨⟨e0, e1, e2⟩, ⟨e3, e4, e5⟩, ⟨e6, e7, e8⟩, el⟩ := HAU.out _ (HAV.out _ h9); go_simp
          refine wpAnyH_take (i := 16) (v := .slice (some ⟨g, o, none⟩) 3 cap) rfl (by kernel_rfl) (by kernel_rfl) (by kernel_rfl) (fun _ _ _ h => h) (Or.inl ⟨by kernel_rfl, fun w9 h9 => ?_⟩) HSB.out ?_
          · go_simp
          refine wpAnyH_take (i := 17) (v := .pointer (some ⟨g, o + 3, none⟩)) rfl (by kernel_rfl) (by kernel_rfl) (by kernel_rfl) (fun _ _ _ h => h) (Or.inl ⟨by kernel_rfl, fun w9 h9 => ?_⟩) HSB.out ?_
          · go_simp
          refine wpAnyH_take (i := 18) (v := .agg #[.string y.name, .int .i64 y.rev, .string y.body]) rfl (by kernel_rfl) (by kernel_rfl) (by kernel_rfl) (fun _ _ _ h => h) (Or.inl ⟨by kernel_rfl, fun w9 h9 => ?_⟩) HSB.out ?_
          · obtain ⟨⟨c0, c1, c2⟩, ⟨c3, c4_, c5⟩, ⟨c6_, c7, c8⟩, cl⟩ := HC6.out _ h9; obtain ⟨⟨e0, e1, e2⟩, ⟨e3, e4, e5⟩, ⟨e6, e7, e8⟩, el⟩ := HAU.out _ (HAV.out _ h9); go_simp
          refine wpAnyH_take (i := 19) (v := .bool false) rfl (by kernel_rfl) (by kernel_rfl) (by kernel_rfl) (fun _ _ _ h => h) (Or.inl ⟨by kernel_rfl, fun w9 h9 => ?_⟩) HSB.out ?_
          · have hf := fun u => neqFT y' y u; rw [hY] at hf; go_simp
          refine wpAnyH_take (i := 20) (v := .bool false) rfl (by kernel_rfl) (by kernel_rfl) (by kernel_rfl) (fun _ _ _ h => h) (Or.inl ⟨by kernel_rfl, fun w9 h9 => ?_⟩) HSB.out ?_
          · go_simp
          refine wpAnyH_take (i := 21) (v := .bool false) rfl (by kernel_rfl) (by kernel_rfl) (by kernel_rfl) (fun _ _ _ h => h) (Or.inl ⟨by kernel_rfl, fun w9 h9 => ?_⟩) HSB.out ?_
          · go_simp
          refine wpAnyH_take (i := 22) (v := .slice (some ⟨g6, o6, none⟩) 3 c6) rfl (by kernel_rfl) (by kernel_rfl) (by kernel_rfl) (fun _ _ _ h => h) (Or.inl ⟨by kernel_rfl, fun w9 h9 => ?_⟩) HSB.out ?_
          · go_simp
          refine wpAnyH_take (i := 23) (v := .pointer (some ⟨g6, o6 + 6, none⟩)) rfl (by kernel_rfl) (by kernel_rfl) (by kernel_rfl) (fun _ _ _ h => h) (Or.inl ⟨by kernel_rfl, fun w9 h9 => ?_⟩) HSB.out ?_
          · go_simp
          refine wpAnyH_take (i := 24) (v := .agg #[.string z'.name, .int .i64 z'.rev, .string z'.body]) rfl (by kernel_rfl) (by kernel_rfl) (by kernel_rfl) (fun _ _ _ h => h) (Or.inl ⟨by kernel_rfl, fun w9 h9 => ?_⟩) HSB.out ?_
          · obtain ⟨⟨c0, c1, c2⟩, ⟨c3, c4_, c5⟩, ⟨c6_, c7, c8⟩, cl⟩ := HC6.out _ h9; obtain ⟨⟨e0, e1, e2⟩, ⟨e3, e4, e5⟩, ⟨e6, e7, e8⟩, el⟩ := HAU.out _ (HAV.out _ h9); go_simp
          refine wpAnyH_take (i := 25) (v := .slice (some ⟨g, o, none⟩) 3 cap) rfl (by kernel_rfl) (by kernel_rfl) (by kernel_rfl) (fun _ _ _ h => h) (Or.inl ⟨by kernel_rfl, fun w9 h9 => ?_⟩) HSB.out ?_
          · go_simp
          refine wpAnyH_take (i := 26) (v := .pointer (some ⟨g, o + 6, none⟩)) rfl (by kernel_rfl) (by kernel_rfl) (by kernel_rfl) (fun _ _ _ h => h) (Or.inl ⟨by kernel_rfl, fun w9 h9 => ?_⟩) HSB.out ?_
          · go_simp
          refine wpAnyH_take (i := 27) (v := .agg #[.string z.name, .int .i64 z.rev, .string z.body]) rfl (by kernel_rfl) (by kernel_rfl) (by kernel_rfl) (fun _ _ _ h => h) (Or.inl ⟨by kernel_rfl, fun w9 h9 => ?_⟩) HSB.out ?_
          · obtain ⟨⟨c0, c1, c2⟩, ⟨c3, c4_, c5⟩, ⟨c6_, c7, c8⟩, cl⟩ := HC6.out _ h9; obtain ⟨⟨e0, e1, e2⟩, ⟨e3, e4, e5⟩, ⟨e6, e7, e8⟩, el⟩ := HAU.out _ (HAV.out _ h9); go_simp
          refine wpAnyH_take (i := 28) (v := .bool false) rfl (by kernel_rfl) (by kernel_rfl) (by kernel_rfl) (fun _ _ _ h => h) (Or.inl ⟨by kernel_rfl, fun w9 h9 => ?_⟩) HSB.out ?_
          · have hf := fun u => neqFT z' z u; rw [hZ] at hf; go_simp
          refine wpAnyH_take (i := 29) (v := .bool false) rfl (by kernel_rfl) (by kernel_rfl) (by kernel_rfl) (fun _ _ _ h => h) (Or.inl ⟨by kernel_rfl, fun w9 h9 => ?_⟩) HSB.out ?_
          · go_simp
          refine wpAnyH_done (by kernel_rfl) ?_ _
          go_simp
          generalize v1.drew = v2 at *
          have HB11 : Hid (LG w v2 b2 #[.bool false, .int .i64 0, .int .i64 0, .slice none 0 0] 41) := HU.out.step HPD.out.bel
          have k0 := HB11.out.cel 0 _ rfl
          have k1 := HB11.out.cel 1 _ rfl
          have k2 := HB11.out.cel 2 _ rfl
          have k3 := HB11.out.cel 3 _ rfl
          have f0 := HB11.out.frz 0
          have f1 := HB11.out.frz 1
          have f2 := HB11.out.frz 2
          have f3 := HB11.out.frz 3
          have kl := HB11.out.lt
          have m0 := HPD.out.cel 0 _ rfl
          have m1 := HPD.out.cel 1 _ rfl
          have m2 := HPD.out.cel 2 _ rfl
          have ml := HPD.out.lt
          go_wp2
          have hk : ∀ (x : World) (k o : Nat) (y : Value) (a : Nat), k ≠ a → (x.setCell ⟨a, o, none⟩ y).heap[k]? = x.heap[k]? := fun x k o y a h => Below.heap_setCell _ _ _ _ (by simpa using h)
          refine bodyPost_ret (v := boA ⟨true, gx, gy, ds⟩ (.slice a4 n c4)) ?_ rfl ⟨_, by rw [E2.out], by rw [E2.out]; show World.ownsRow _ _ _ _ _ ds.length (dvR ds); rw [HLD.out]; first | exact own_heapN HOD.out (fun k hk2 => by have := HWQ.out.2; repeat rw [hk _ _ _ _ _ (by omega)]) HWQ.out.1 | (rw [← HB0.out]; exact own_heapN HOD.out (fun k hk2 => by have := HWQ.out.2; repeat rw [hk _ _ _ _ _ (by omega)]) HWQ.out.1), ?_⟩
          · simp [results, Try.results18, go_sem, boA, k0, k1, k2, k3]
          · first | exact (((HB11.out.bel.setCell HB11.out.ge _).setCell HB11.out.ge _).setCell HB11.out.ge _).setCell HB11.out.ge _ | exact belCast HB0.out ((((HB11.out.bel.setCell HB11.out.ge _).setCell HB11.out.ge _).setCell HB11.out.ge _).setCell HB11.out.ge _)
    · skip
      have hb : Below x1.heap.size x1 (x1.alloc (.cells #[.int .i64 0, .int .i64 0, .slice none 0 0] 29)) := bx1 _ _
      have HX2 : Hid (Below U.heap.size U (x1.alloc (.cells #[.int .i64 0, .int .i64 0, .slice none 0 0] 29))) := HX1.out.trans (hb.mono HX1.out.size)
      have HP2 : Hid (LG U (x1.alloc (.cells #[.int .i64 0, .int .i64 0, .slice none 0 0] 29)) x1.heap.size #[.int .i64 0, .int .i64 0, .slice none 0 0] 29) := ⟨HX2.out, heap_new _ _, HX1.out.size⟩
      clear hb HX1
      go_simp
      refine hK _ _ HX2.out ?_
      clear hK K
      generalize (x1.alloc (.cells #[.int .i64 0, .int .i64 0, .slice none 0 0] 29)) = x2 at *
      generalize x1.heap.size = p3 at *
      refine held_one 9 (by kernel_rfl) rfl (by kernel_rfl) fun K hK => ?_
      go_simp
      go_wp2_with (go_at_call 35; refine Calls.mono (HGY.out _) ?_; rintro e x3 ⟨rfl, hb⟩; have HX3 : Hid (Below U.heap.size U x3) := HX2.out.trans (hb.mono HX2.out.size); have HP3 : Hid (LG U x3 p3 #[.int .i64 0, .int .i64 0, .slice none 0 0] 29) := HP2.out.step hb; clear hb HX2 HP2)
      refine hK _ _ HX3.out ?_
      clear hK K
      refine wpAnyH_take (i := 10) (v := .agg #[.int .i64 gx, .int .i64 gy, .slice none 0 0]) rfl (by kernel_rfl) (by kernel_rfl) (by kernel_rfl) (fun _ _ _ h => h) (Or.inl ⟨by kernel_rfl, fun w9 h9 => ?_⟩) HX3.out ?_
      · go_simp
      have HP9 : Hid (LG U (((x3.setCell ⟨p3, 0, none⟩ (.int .i64 gx)).setCell ⟨p3, 1, none⟩ (.int .i64 gy)).setCell ⟨p3, 2, none⟩ (.slice none 0 0)) p3 #[.int .i64 gx, .int .i64 gy, .slice none 0 0] 29) := HP3.out.set3 _ _ _
      have kp0 := HP3.out.cel 0 _ rfl
      have kp1 := HP3.out.cel 1 _ rfl
      have kp2 := HP3.out.cel 2 _ rfl
      have fp := HP3.out.frz
      have pl3 := HP3.out.lt
      refine held_one 12 (by kernel_rfl) rfl (by kernel_rfl) fun K hK => ?_
      go_simp
      go_wp2
      refine hK _ _ HP9.out.bel ?_
      clear hK K kp0 kp1 kp2 fp pl3 HP3 HX3
      generalize (((x3.setCell ⟨p3, 0, none⟩ (.int .i64 gx)).setCell ⟨p3, 1, none⟩ (.int .i64 gy)).setCell ⟨p3, 2, none⟩ (.slice none 0 0)) = y9 at *
      refine wpAnyH_done (by kernel_rfl) ?_ _
      go_simp
      obtain ⟨q9, hq9⟩ : ∃ q, y9.heap.size = q := ⟨_, rfl⟩
      have HQ9 : Hid (p3 < q9) := (show p3 < q9 by have := HP9.out.lt; omega)
      have HQY : Hid (q9 ≤ y9.heap.size) := (show q9 ≤ _ by omega)
      clear hq9
      go_upto_region 5 with fail
      go_loopw [4] (fun i wr => ∃ (k : Nat) (a4 : Option Addr) (c4 : Nat), k ≤ dvn z.body ∧ i = .int .i64 ((k * 4 : Nat) : Int) ∧ LG U wr p3 #[.int .i64 gx, .int .i64 gy, .slice a4 k c4] 29 ∧ wr.ownsRow q9 49 3 (.slice a4 k c4) k (dvR (dvl z.body k)) ∧ q9 ≤ wr.heap.size) (fun i _ => 100 - (intOf i).toNat)
      case atStart => exact ⟨0, none, 0, Nat.zero_le _, rfl, HP9.out, World.ownsRow_nil _ _ _ _, HQY.out⟩
      case round =>
        obtain ⟨k, a4, c4, hk, rfl, hpw, hown, hqs⟩ := hrel
        have HPW : Hid (LG U wr p3 #[.int .i64 gx, .int .i64 gy, .slice a4 k c4] 29) := hpw
        have HO : Hid (wr.ownsRow q9 49 3 (.slice a4 k c4) k (dvR (dvl z.body k))) := hown
        have HQS : Hid (q9 ≤ wr.heap.size) := hqs
        clear hpw hown hqs HP9 HQY
        obtain ⟨p0, p1, p2, pl⟩ := HCU.out _ HPW.out.bel
        have HKN : Hid (((k * 4 : Nat) : Int) + 4 ≤ (z.body.size : Int) ↔ k < dvn z.body) := HND.out k hk
        have hkb : k ≤ 16 := by have := HN.out; omega
        by_cases hlt : k < dvn z.body
        · have hle : ((k * 4 : Nat) : Int) + 4 ≤ (z.body.size : Int) := HKN.out.2 hlt
          have HWZ : Hid (∀ (i : Int) u, i = ((k * 4 : Nat) : Int) → Calls Try.prog 35 #[.string z.body, .int .i64 i] u fun e w' => e = .returned (.int .i64 (gwV z.body (k * 4))) ∧ Below u.heap.size u w') := fun i u hi => HGZ.out k i u hlt hi
          have hgb := gwV_b z.body (k * 4)
          have HSU : Hid (dvl z.body (k + 1) = dvl z.body k ++ [dvX (gwV z.body (k * 4))]) := dvl_succ _ _
          generalize gwV z.body (k * 4) = v at *
          have HKK : Hid (((k * 4 : Nat) : Int) = (k : Int) * 4) := (show _ = _ by omega)
          obtain ⟨j, hj⟩ : ∃ j : Nat, k * 4 = j := ⟨_, rfl⟩
          have HJ : Hid (k * 4 = j) := hj
          rw [hj] at hle HWZ
          rw [hj]
          have hjb : j ≤ 64 := by omega
          clear hj HKN
          go_wp2_with fail
          refine Calls.mono (HWZ.out _ _ (by omega)) ?_
          rintro e u1 ⟨rfl, hb⟩
          have HPX : Hid (LG U u1 p3 #[.int .i64 gx, .int .i64 gy, .slice a4 k c4] 29) := HPW.out.step hb
          have HO1 : Hid (u1.ownsRow q9 49 3 (.slice a4 k c4) k (dvR (dvl z.body k))) := own_belowN HO.out hb
          have HQ1 : Hid (q9 ≤ u1.heap.size) := (show q9 ≤ _ by have := HQS.out; have := hb.size; omega)
          clear hb HPW HO HQS p0 p1 p2 pl
          have m0 := HPX.out.cel 0 _ rfl
          have m1 := HPX.out.cel 1 _ rfl
          have m2 := HPX.out.cel 2 _ rfl
          have ml := HPX.out.lt
          have HAP : Hid _ := appDV HO1.out HQ1.out (by omega) (dvX v)
          simp only [dvX] at HAP
          have HSV : Hid (dvl z.body (k + 1) = dvl z.body k ++ [⟨v / 16777216, v % 65536, v / 65536 % 256⟩]) := HSU.out
          go_wp2_with (at_builtin; (refine wl_append_exB rfl _ _ 27 rfl _ _ rfl rfl HAP.out ?_; rintro v' u' ⟨ho, hg9⟩; obtain ⟨a5, c5, rfl⟩ := dv_sl ho; have HO2 : Hid (u'.ownsRow q9 49 3 (.slice a5 (k + 1) c5) (k + 1) (dvR (dvl z.body (k + 1)))) := (by rw [HSV.out]; exact ho); have HP2 : Hid (LG U u' p3 #[.int .i64 gx, .int .i64 gy, .slice a4 k c4] 29) := ((HPX.out.step (bx1 _ _)).growD hg9 (fun e => by have := (HO1.out.lt _ e).1; have := HQ9.out; omega) (fun j2 hj2 => by have := (HO1.out.lt _ hj2).1; have := HQ9.out; have := HPX.out.ge; omega)); have HQ2 : Hid (q9 ≤ u'.heap.size) := (show q9 ≤ _ by have h1 := HQ1.out; have h2 := hg9.size; simp at h2; omega); clear ho hg9 m0 m1 m2 ml; have n2 := HP2.out.cel 2 _ rfl; have nf := HP2.out.frz 2; have nl := HP2.out.lt))
          have hk9 : ∀ (x : World) (k o : Nat) (y : Value) (a : Nat), k ≠ a → (x.setCell ⟨a, o, none⟩ y).heap[k]? = x.heap[k]? := fun x k o y a h => Below.heap_setCell _ _ _ _ (by simpa using h)
          exact ⟨⟨k + 1, a5, c5, hlt, (by have := HJ.out; refine congrArg (Value.int .i64) ?_; omega), HP2.out.setC2 _, own_heapN HO2.out (fun j2 hj2 => by have := HQ9.out; rw [hk9 _ _ _ _ _ (by omega)]) (Nat.le_refl _), (by have := HQ2.out; simpa [World.setCell] using this)⟩, (by simp [intOf]; omega)⟩
        · have hke : k = dvn z.body := by omega
          have hnle : ¬ (((k * 4 : Nat) : Int) + 4 ≤ (z.body.size : Int)) := fun hh => hlt (HKN.out.1 hh)
          have HO9 : Hid (DVrow wr (.slice a4 (dvn z.body) c4) (dvl z.body (dvn z.body))) := DVrow.of (B := q9) (by rw [dvl_len, ← hke]; exact HO.out)
          have HOW : Hid (wr.ownsRow q9 49 3 (.slice a4 (dvn z.body) c4) (dvn z.body) (dvR (dvl z.body (dvn z.body)))) := (by rw [← hke]; exact HO.out)
          rw [hke] at HPW
          have HKD : Hid (k = dvn z.body) := hke
          obtain ⟨j, hj⟩ : ∃ j : Nat, k * 4 = j := ⟨_, rfl⟩
          rw [hj] at hnle
          rw [hj]
          have hjb : j ≤ 64 := by omega
          clear hj hke HO HKN HQS hlt hk
          have HLD : Hid ((dvl z.body (dvn z.body)).length = dvn z.body) := dvl_len _ _
          generalize dvl z.body (dvn z.body) = ds at *
          generalize dvn z.body = n at *
          have m0 := HPW.out.cel 0 _ rfl
          have m1 := HPW.out.cel 1 _ rfl
          have m2 := HPW.out.cel 2 _ rfl
          have ml := HPW.out.lt
          go_wp2_with fail
          refine Calls.mono (HTO.out _ _ _ HO9.out) ?_
          rintro e v1 ⟨tv, rfl, ho, hb⟩
          obtain ⟨a6, c6, rfl⟩ := ft_sl ho
          have HT1 : Hid (FTrow v1 (.slice a6 tt.length c6) tt) := FTrow.of ho
          have HPV : Hid (LG U v1 p3 #[.int .i64 gx, .int .i64 gy, .slice a4 n c4] 29) := HPW.out.step hb
          have HOV : Hid (v1.ownsRow q9 49 3 (.slice a4 n c4) n (dvR ds)) := own_belowN HOW.out hb
          clear ho hb HPW HOW HO9 m0 m1 m2 ml p0 p1 p2 pl
          have HWQ : Hid (w.heap.size ≤ q9 ∧ b2 < q9) := (show _ ∧ _ by have := HQ9.out; have := HPV.out.ge; have := HU.out.bel.size; have := HU.out.lt; omega)
          by_cases ht3 : tt.length = 3
          rotate_left
          · have E2 : Hid (R = boZ) := (show R = boZ by rw [E.out, tsq_no (fun e => ht3 (by rw [e]; rfl))]; rfl)
            have hd : ((tt.length : Int) != 3) = true := by simp; omega
            clear E
            go_upto_region 10 with fail
            have HV0 : Hid (Below v1.heap.size v1 v1.drew) := bdn (Below.refl _ _) 1
            have HPD : Hid (LG U v1.drew p3 #[.int .i64 gx, .int .i64 gy, .slice a4 n c4] 29) := HPV.out.drew
            have HOD : Hid (v1.drew.ownsRow q9 49 3 (.slice a4 n c4) n (dvR ds)) := HOV.out
            have HSB : Hid ((fun w9 => Below v1.heap.size v1 w9) v1.drew) := HV0.out
            refine wp_region_held (S := fun w9 => Below v1.heap.size v1 w9) (by kernel_rfl) ?_
            change wpAnyH _ _ _ _ _ _ _ _ (World.drew _)
            refine wpAnyH_take (i := 0) (v := .slice a6 tt.length c6) rfl (by kernel_rfl) (by kernel_rfl) (by kernel_rfl) (fun _ _ _ h => h) (Or.inl ⟨by kernel_rfl, fun w9 h9 => ?_⟩) HSB.out ?_
            · go_simp
            refine wpAnyH_take (i := 1) (v := .int .i64 (tt.length : Nat)) rfl (by kernel_rfl) (by kernel_rfl) (by kernel_rfl) (fun _ _ _ h => h) (Or.inl ⟨by kernel_rfl, fun w9 h9 => ?_⟩) HSB.out ?_
            · go_simp
            refine wpAnyH_take (i := 2) (v := .bool true) rfl (by kernel_rfl) (by kernel_rfl) (by kernel_rfl) (fun _ _ _ h => h) (Or.inl ⟨by kernel_rfl, fun w9 h9 => ?_⟩) HSB.out ?_
            · go_simp
            refine wpAnyH_take (i := 3) (v := .bool true) rfl (by kernel_rfl) (by kernel_rfl) (by kernel_rfl) (fun _ _ _ h => h) (Or.inl ⟨by kernel_rfl, fun w9 h9 => ?_⟩) HSB.out ?_
            · go_simp
            refine wpAnyH_take (i := 4) (v := undef) rfl (by kernel_rfl) (by kernel_rfl) (by kernel_rfl) (fun _ _ _ h => h) (Or.inr ⟨by kernel_rfl, rfl⟩) HSB.out ?_
            refine wpAnyH_take (i := 5) (v := undef) rfl (by kernel_rfl) (by kernel_rfl) (by kernel_rfl) (fun _ _ _ h => h) (Or.inr ⟨by kernel_rfl, rfl⟩) HSB.out ?_
            refine wpAnyH_take (i := 6) (v := undef) rfl (by kernel_rfl) (by kernel_rfl) (by kernel_rfl) (fun _ _ _ h => h) (Or.inr ⟨by kernel_rfl, rfl⟩) HSB.out ?_
            refine wpAnyH_take (i := 7) (v := undef) rfl (by kernel_rfl) (by kernel_rfl) (by kernel_rfl) (fun _ _ _ h => h) (Or.inr ⟨by kernel_rfl, rfl⟩) HSB.out ?_
            refine wpAnyH_take (i := 8) (v := undef) rfl (by kernel_rfl) (by kernel_rfl) (by kernel_rfl) (fun _ _ _ h => h) (Or.inr ⟨by kernel_rfl, rfl⟩) HSB.out ?_
            refine wpAnyH_take (i := 9) (v := undef) rfl (by kernel_rfl) (by kernel_rfl) (by kernel_rfl) (fun _ _ _ h => h) (Or.inr ⟨by kernel_rfl, rfl⟩) HSB.out ?_
            refine wpAnyH_take (i := 10) (v := undef) rfl (by kernel_rfl) (by kernel_rfl) (by kernel_rfl) (fun _ _ _ h => h) (Or.inr ⟨by kernel_rfl, rfl⟩) HSB.out ?_
            refine wpAnyH_take (i := 11) (v := .bool true) rfl (by kernel_rfl) (by kernel_rfl) (by kernel_rfl) (fun _ _ _ h => h) (Or.inl ⟨by kernel_rfl, fun w9 h9 => ?_⟩) HSB.out ?_
            · go_simp
            refine wpAnyH_take (i := 12) (v := .bool true) rfl (by kernel_rfl) (by kernel_rfl) (by kernel_rfl) (fun _ _ _ h => h) (Or.inl ⟨by kernel_rfl, fun w9 h9 => ?_⟩) HSB.out ?_
            · go_simp
            refine wpAnyH_take (i := 13) (v := undef) rfl (by kernel_rfl) (by kernel_rfl) (by kernel_rfl) (fun _ _ _ h => h) (Or.inr ⟨by kernel_rfl, rfl⟩) HSB.out ?_
            refine wpAnyH_take (i := 14) (v := undef) rfl (by kernel_rfl) (by kernel_rfl) (by kernel_rfl) (fun _ _ _ h => h) (Or.inr ⟨by kernel_rfl, rfl⟩) HSB.out ?_
            refine wpAnyH_take (i := 15) (v := undef) rfl (by kernel_rfl) (by kernel_rfl) (by kernel_rfl) (fun _ _ _ h => h) (Or.inr ⟨by kernel_rfl, rfl⟩) HSB.out ?_
            refine wpAnyH_take (i := 16) (v := undef) rfl (by kernel_rfl) (by kernel_rfl) (by kernel_rfl) (fun _ _ _ h => h) (Or.inr ⟨by kernel_rfl, rfl⟩) HSB.out ?_
            refine wpAnyH_take (i := 17) (v := undef) rfl (by kernel_rfl) (by kernel_rfl) (by kernel_rfl) (fun _ _ _ h => h) (Or.inr ⟨by kernel_rfl, rfl⟩) HSB.out ?_
            refine wpAnyH_take (i := 18) (v := undef) rfl (by kernel_rfl) (by kernel_rfl) (by kernel_rfl) (fun _ _ _ h => h) (Or.inr ⟨by kernel_rfl, rfl⟩) HSB.out ?_
            refine wpAnyH_take (i := 19) (v := undef) rfl (by kernel_rfl) (by kernel_rfl) (by kernel_rfl) (fun _ _ _ h => h) (Or.inr ⟨by kernel_rfl, rfl⟩) HSB.out ?_
            refine wpAnyH_take (i := 20) (v := .bool true) rfl (by kernel_rfl) (by kernel_rfl) (by kernel_rfl) (fun _ _ _ h => h) (Or.inl ⟨by kernel_rfl, fun w9 h9 => ?_⟩) HSB.out ?_
            · go_simp
            refine wpAnyH_take (i := 21) (v := .bool true) rfl (by kernel_rfl) (by kernel_rfl) (by kernel_rfl) (fun _ _ _ h => h) (Or.inl ⟨by kernel_rfl, fun w9 h9 => ?_⟩) HSB.out ?_
            · go_simp
            refine wpAnyH_take (i := 22) (v := undef) rfl (by kernel_rfl) (by kernel_rfl) (by kernel_rfl) (fun _ _ _ h => h) (Or.inr ⟨by kernel_rfl, rfl⟩) HSB.out ?_
            refine wpAnyH_take (i := 23) (v := undef) rfl (by kernel_rfl) (by kernel_rfl) (by kernel_rfl) (fun _ _ _ h => h) (Or.inr ⟨by kernel_rfl, rfl⟩) HSB.out ?_
            refine wpAnyH_take (i := 24) (v := undef) rfl (by kernel_rfl) (by kernel_rfl) (by kernel_rfl) (fun _ _ _ h => h) (Or.inr ⟨by kernel_rfl, rfl⟩) HSB.out ?_
            refine wpAnyH_take (i := 25) (v := undef) rfl (by kernel_rfl) (by kernel_rfl) (by kernel_rfl) (fun _ _ _ h => h) (Or.inr ⟨by kernel_rfl, rfl⟩) HSB.out ?_
            refine wpAnyH_take (i := 26) (v := undef) rfl (by kernel_rfl) (by kernel_rfl) (by kernel_rfl) (fun _ _ _ h => h) (Or.inr ⟨by kernel_rfl, rfl⟩) HSB.out ?_
            refine wpAnyH_take (i := 27) (v := undef) rfl (by kernel_rfl) (by kernel_rfl) (by kernel_rfl) (fun _ _ _ h => h) (Or.inr ⟨by kernel_rfl, rfl⟩) HSB.out ?_
            refine wpAnyH_take (i := 28) (v := undef) rfl (by kernel_rfl) (by kernel_rfl) (by kernel_rfl) (fun _ _ _ h => h) (Or.inr ⟨by kernel_rfl, rfl⟩) HSB.out ?_
            refine wpAnyH_take (i := 29) (v := .bool true) rfl (by kernel_rfl) (by kernel_rfl) (by kernel_rfl) (fun _ _ _ h => h) (Or.inl ⟨by kernel_rfl, fun w9 h9 => ?_⟩) HSB.out ?_
            · go_simp
            refine wpAnyH_done (by kernel_rfl) ?_ _
            go_simp
            generalize v1.drew = v2 at *
            have HB11 : Hid (LG w v2 b2 #[.bool false, .int .i64 0, .int .i64 0, .slice none 0 0] 41) := HU.out.step HPD.out.bel
            have k0 := HB11.out.cel 0 _ rfl
            have k1 := HB11.out.cel 1 _ rfl
            have k2 := HB11.out.cel 2 _ rfl
            have k3 := HB11.out.cel 3 _ rfl
            have f0 := HB11.out.frz 0
            have f1 := HB11.out.frz 1
            have f2 := HB11.out.frz 2
            have f3 := HB11.out.frz 3
            have kl := HB11.out.lt
            go_wp2
            refine bodyPost_ret (v := boA boZ (.slice none 0 0)) ?_ rfl ⟨_, by rw [E2.out], by rw [E2.out]; exact World.ownsRow_nil _ _ _ _, ?_⟩
            · simp [results, Try.results18, go_sem, boA, boZ, k0, k1, k2, k3]
            · first | exact (((HB11.out.bel.setCell HB11.out.ge _).setCell HB11.out.ge _).setCell HB11.out.ge _).setCell HB11.out.ge _ | exact belCast HB0.out ((((HB11.out.bel.setCell HB11.out.ge _).setCell HB11.out.ge _).setCell HB11.out.ge _).setCell HB11.out.ge _)
          obtain ⟨x', y', z', rfl⟩ := listF3 ht3
          have ET : Hid (tsq [x', y', z'] [x, y, z] = (teq x' x && (teq y' y && (teq z' z && true)))) := rfl
          simp only [List.length_cons, List.length_nil] at HT1 ⊢
          obtain ⟨g6, o6, cp6, hv6, _, hg6, hc6⟩ := HT1.out.resolve_left (fun h => by simp at h)
          injection hv6 with hv7 hv8 hv9
          subst hv7 hv9
          have HC6 : Hid (∀ u, Below v1.heap.size v1 u → (u.cell? ⟨g6, o6, none⟩ = some (.string x'.name) ∧ u.cell? ⟨g6, o6 + 1, none⟩ = some (.int .i64 x'.rev) ∧ u.cell? ⟨g6, o6 + 2, none⟩ = some (.string x'.body)) ∧ (u.cell? ⟨g6, o6 + 3, none⟩ = some (.string y'.name) ∧ u.cell? ⟨g6, o6 + 4, none⟩ = some (.int .i64 y'.rev) ∧ u.cell? ⟨g6, o6 + 5, none⟩ = some (.string y'.body)) ∧ (u.cell? ⟨g6, o6 + 6, none⟩ = some (.string z'.name) ∧ u.cell? ⟨g6, o6 + 7, none⟩ = some (.int .i64 z'.rev) ∧ u.cell? ⟨g6, o6 + 8, none⟩ = some (.string z'.body)) ∧ g6 < u.heap.size) := (fun u hu => by
            have c0 := hc6.below hu hg6 0 (by simp)
            have c1 := hc6.below hu hg6 1 (by simp)
            have c2 := hc6.below hu hg6 2 (by simp)
            simp only [Nat.zero_mul, Nat.add_zero, Nat.one_mul] at c0 c1 c2
            exact ⟨c0, c1, c2, Nat.lt_of_lt_of_le hg6 hu.size⟩)
          clear hc6 hv8 ht3 HT1
          cases hX : teq x' x
          · have E2 : Hid (R = boZ) := (show R = boZ by rw [E.out, ET.out, hX]; rfl)
            clear E ET
            go_upto_region 10 with fail
            have HV0 : Hid (Below v1.heap.size v1 v1.drew) := bdn (Below.refl _ _) 1
            have HPD : Hid (LG U v1.drew p3 #[.int .i64 gx, .int .i64 gy, .slice a4 n c4] 29) := HPV.out.drew
            have HOD : Hid (v1.drew.ownsRow q9 49 3 (.slice a4 n c4) n (dvR ds)) := HOV.out
            have HAV : Hid (∀ u, Below v1.heap.size v1 u → Below U.heap.size U u) := fun u hu => HPV.out.bel.trans (hu.mono HPV.out.bel.size)
            have HSB : Hid ((fun w9 => Below v1.heap.size v1 w9) v1.drew) := HV0.out
            refine wp_region_held (S := fun w9 => Below v1.heap.size v1 w9) (by kernel_rfl) ?_
            change wpAnyH _ _ _ _ _ _ _ _ (World.drew _)
            refine wpAnyH_take (i := 0) (v := .slice (some ⟨g6, o6, none⟩) 3 c6) rfl (by kernel_rfl) (by kernel_rfl) (by kernel_rfl) (fun _ _ _ h => h) (Or.inl ⟨by kernel_rfl, fun w9 h9 => ?_⟩) HSB.out ?_
            · go_simp
            refine wpAnyH_take (i := 1) (v := .int .i64 3) rfl (by kernel_rfl) (by kernel_rfl) (by kernel_rfl) (fun _ _ _ h => h) (Or.inl ⟨by kernel_rfl, fun w9 h9 => ?_⟩) HSB.out ?_
            · go_simp
            refine wpAnyH_take (i := 2) (v := .bool false) rfl (by kernel_rfl) (by kernel_rfl) (by kernel_rfl) (fun _ _ _ h => h) (Or.inl ⟨by kernel_rfl, fun w9 h9 => ?_⟩) HSB.out ?_
            · go_simp
            refine wpAnyH_take (i := 3) (v := .bool false) rfl (by kernel_rfl) (by kernel_rfl) (by kernel_rfl) (fun _ _ _ h => h) (Or.inl ⟨by kernel_rfl, fun w9 h9 => ?_⟩) HSB.out ?_
            · go_simp
            refine wpAnyH_take (i := 4) (v := .slice (some ⟨g6, o6, none⟩) 3 c6) rfl (by kernel_rfl) (by kernel_rfl) (by kernel_rfl) (fun _ _ _ h => h) (Or.inl ⟨by kernel_rfl, fun w9 h9 => ?_⟩) HSB.out ?_
            · go_simp
            refine wpAnyH_take (i := 5) (v := .pointer (some ⟨g6, o6, none⟩)) rfl (by kernel_rfl) (by kernel_rfl) (by kernel_rfl) (fun _ _ _ h => h) (Or.inl ⟨by kernel_rfl, fun w9 h9 => ?_⟩) HSB.out ?_
            · go_simp
            refine wpAnyH_take (i := 6) (v := .agg #[.string x'.name, .int .i64 x'.rev, .string x'.body]) rfl (by kernel_rfl) (by kernel_rfl) (by kernel_rfl) (fun _ _ _ h => h) (Or.inl ⟨by kernel_rfl, fun w9 h9 => ?_⟩) HSB.out ?_
            · obtain ⟨⟨c0, c1, c2⟩, ⟨c3, c4_, c5⟩, ⟨c6_, c7, c8⟩, cl⟩ := HC6.out _ h9; obtain ⟨⟨e0, e1, e2⟩, ⟨e3, e4, e5⟩, ⟨e6, e7, e8⟩, el⟩ := HAU.out _ (HAV.out _ h9); go_simp
            refine wpAnyH_take (i := 7) (v := .slice (some ⟨g, o, none⟩) 3 cap) rfl (by kernel_rfl) (by kernel_rfl) (by kernel_rfl) (fun _ _ _ h => h) (Or.inl ⟨by kernel_rfl, fun w9 h9 => ?_⟩) HSB.out ?_
            · go_simp
            refine wpAnyH_take (i := 8) (v := .pointer (some ⟨g, o, none⟩)) rfl (by kernel_rfl) (by kernel_rfl) (by kernel_rfl) (fun _ _ _ h => h) (Or.inl ⟨by kernel_rfl, fun w9 h9 => ?_⟩) HSB.out ?_
            · go_simp
            refine wpAnyH_take (i := 9) (v := .agg #[.string x.name, .int .i64 x.rev, .string x.body]) rfl (by kernel_rfl) (by kernel_rfl) (by kernel_rfl) (fun _ _ _ h => h) (Or.inl ⟨by kernel_rfl, fun w9 h9 => ?_⟩) HSB.out ?_
            · obtain ⟨⟨c0, c1, c2⟩, ⟨c3, c4_, c5⟩, ⟨c6_, c7, c8⟩, cl⟩ := HC6.out _ h9; obtain ⟨⟨e0, e1, e2⟩, ⟨e3, e4, e5⟩, ⟨e6, e7, e8⟩, el⟩ := HAU.out _ (HAV.out _ h9); go_simp
            refine wpAnyH_take (i := 10) (v := .bool true) rfl (by kernel_rfl) (by kernel_rfl) (by kernel_rfl) (fun _ _ _ h => h) (Or.inl ⟨by kernel_rfl, fun w9 h9 => ?_⟩) HSB.out ?_
            · have hf := fun u => neqFT x' x u; rw [hX] at hf; go_simp
            refine wpAnyH_take (i := 11) (v := .bool true) rfl (by kernel_rfl) (by kernel_rfl) (by kernel_rfl) (fun _ _ _ h => h) (Or.inl ⟨by kernel_rfl, fun w9 h9 => ?_⟩) HSB.out ?_
            · go_simp
            refine wpAnyH_take (i := 12) (v := .bool true) rfl (by kernel_rfl) (by kernel_rfl) (by kernel_rfl) (fun _ _ _ h => h) (Or.inl ⟨by kernel_rfl, fun w9 h9 => ?_⟩) HSB.out ?_
            · go_simp
            refine wpAnyH_take (i := 13) (v := undef) rfl (by kernel_rfl) (by kernel_rfl) (by kernel_rfl) (fun _ _ _ h => h) (Or.inr ⟨by kernel_rfl, rfl⟩) HSB.out ?_
            refine wpAnyH_take (i := 14) (v := undef) rfl (by kernel_rfl) (by kernel_rfl) (by kernel_rfl) (fun _ _ _ h => h) (Or.inr ⟨by kernel_rfl, rfl⟩) HSB.out ?_
            refine wpAnyH_take (i := 15) (v := undef) rfl (by kernel_rfl) (by kernel_rfl) (by kernel_rfl) (fun _ _ _ h => h) (Or.inr ⟨by kernel_rfl, rfl⟩) HSB.out ?_
            refine wpAnyH_take (i := 16) (v := undef) rfl (by kernel_rfl) (by kernel_rfl) (by kernel_rfl) (fun _ _ _ h => h) (Or.inr ⟨by kernel_rfl, rfl⟩) HSB.out ?_
            refine wpAnyH_take (i := 17) (v := undef) rfl (by kernel_rfl) (by kernel_rfl) (by kernel_rfl) (fun _ _ _ h => h) (Or.inr ⟨by kernel_rfl, rfl⟩) HSB.out ?_
            refine wpAnyH_take (i := 18) (v := undef) rfl (by kernel_rfl) (by kernel_rfl) (by kernel_rfl) (fun _ _ _ h => h) (Or.inr ⟨by kernel_rfl, rfl⟩) HSB.out ?_
            refine wpAnyH_take (i := 19) (v := undef) rfl (by kernel_rfl) (by kernel_rfl) (by kernel_rfl) (fun _ _ _ h => h) (Or.inr ⟨by kernel_rfl, rfl⟩) HSB.out ?_
            refine wpAnyH_take (i := 20) (v := .bool true) rfl (by kernel_rfl) (by kernel_rfl) (by kernel_rfl) (fun _ _ _ h => h) (Or.inl ⟨by kernel_rfl, fun w9 h9 => ?_⟩) HSB.out ?_
            · go_simp
            refine wpAnyH_take (i := 21) (v := .bool true) rfl (by kernel_rfl) (by kernel_rfl) (by kernel_rfl) (fun _ _ _ h => h) (Or.inl ⟨by kernel_rfl, fun w9 h9 => ?_⟩) HSB.out ?_
            · go_simp
            refine wpAnyH_take (i := 22) (v := undef) rfl (by kernel_rfl) (by kernel_rfl) (by kernel_rfl) (fun _ _ _ h => h) (Or.inr ⟨by kernel_rfl, rfl⟩) HSB.out ?_
            refine wpAnyH_take (i := 23) (v := undef) rfl (by kernel_rfl) (by kernel_rfl) (by kernel_rfl) (fun _ _ _ h => h) (Or.inr ⟨by kernel_rfl, rfl⟩) HSB.out ?_
            refine wpAnyH_take (i := 24) (v := undef) rfl (by kernel_rfl) (by kernel_rfl) (by kernel_rfl) (fun _ _ _ h => h) (Or.inr ⟨by kernel_rfl, rfl⟩) HSB.out ?_
            refine wpAnyH_take (i := 25) (v := undef) rfl (by kernel_rfl) (by kernel_rfl) (by kernel_rfl) (fun _ _ _ h => h) (Or.inr ⟨by kernel_rfl, rfl⟩) HSB.out ?_
            refine wpAnyH_take (i := 26) (v := undef) rfl (by kernel_rfl) (by kernel_rfl) (by kernel_rfl) (fun _ _ _ h => h) (Or.inr ⟨by kernel_rfl, rfl⟩) HSB.out ?_
            refine wpAnyH_take (i := 27) (v := undef) rfl (by kernel_rfl) (by kernel_rfl) (by kernel_rfl) (fun _ _ _ h => h) (Or.inr ⟨by kernel_rfl, rfl⟩) HSB.out ?_
            refine wpAnyH_take (i := 28) (v := undef) rfl (by kernel_rfl) (by kernel_rfl) (by kernel_rfl) (fun _ _ _ h => h) (Or.inr ⟨by kernel_rfl, rfl⟩) HSB.out ?_
            refine wpAnyH_take (i := 29) (v := .bool true) rfl (by kernel_rfl) (by kernel_rfl) (by kernel_rfl) (fun _ _ _ h => h) (Or.inl ⟨by kernel_rfl, fun w9 h9 => ?_⟩) HSB.out ?_
            · go_simp
            refine wpAnyH_done (by kernel_rfl) ?_ _
            go_simp
            generalize v1.drew = v2 at *
            have HB11 : Hid (LG w v2 b2 #[.bool false, .int .i64 0, .int .i64 0, .slice none 0 0] 41) := HU.out.step HPD.out.bel
            have k0 := HB11.out.cel 0 _ rfl
            have k1 := HB11.out.cel 1 _ rfl
            have k2 := HB11.out.cel 2 _ rfl
            have k3 := HB11.out.cel 3 _ rfl
            have f0 := HB11.out.frz 0
            have f1 := HB11.out.frz 1
            have f2 := HB11.out.frz 2
            have f3 := HB11.out.frz 3
            have kl := HB11.out.lt
            go_wp2
            refine bodyPost_ret (v := boA boZ (.slice none 0 0)) ?_ rfl ⟨_, by rw [E2.out], by rw [E2.out]; exact World.ownsRow_nil _ _ _ _, ?_⟩
            · simp [results, Try.results18, go_sem, boA, boZ, k0, k1, k2, k3]
            · first | exact (((HB11.out.bel.setCell HB11.out.ge _).setCell HB11.out.ge _).setCell HB11.out.ge _).setCell HB11.out.ge _ | exact belCast HB0.out ((((HB11.out.bel.setCell HB11.out.ge _).setCell HB11.out.ge _).setCell HB11.out.ge _).setCell HB11.out.ge _)
          cases hY : teq y' y
          · have E2 : Hid (R = boZ) := (show R = boZ by rw [E.out, ET.out, hX, hY]; rfl)
            clear E ET
            go_upto_region 10 with fail
            have HV0 : Hid (Below v1.heap.size v1 v1.drew) := bdn (Below.refl _ _) 1
            have HPD : Hid (LG U v1.drew p3 #[.int .i64 gx, .int .i64 gy, .slice a4 n c4] 29) := HPV.out.drew
            have HOD : Hid (v1.drew.ownsRow q9 49 3 (.slice a4 n c4) n (dvR ds)) := HOV.out
            have HAV : Hid (∀ u, Below v1.heap.size v1 u → Below U.heap.size U u) := fun u hu => HPV.out.bel.trans (hu.mono HPV.out.bel.size)
            have HSB : Hid ((fun w9 => Below v1.heap.size v1 w9) v1.drew) := HV0.out
            refine wp_region_held (S := fun w9 => Below v1.heap.size v1 w9) (by kernel_rfl) ?_
            change wpAnyH _ _ _ _ _ _ _ _ (World.drew _)
            refine wpAnyH_take (i := 0) (v := .slice (some ⟨g6, o6, none⟩) 3 c6) rfl (by kernel_rfl) (by kernel_rfl) (by kernel_rfl) (fun _ _ _ h => h) (Or.inl ⟨by kernel_rfl, fun w9 h9 => ?_⟩) HSB.out ?_
            · go_simp
            refine wpAnyH_take (i := 1) (v := .int .i64 3) rfl (by kernel_rfl) (by kernel_rfl) (by kernel_rfl) (fun _ _ _ h => h) (Or.inl ⟨by kernel_rfl, fun w9 h9 => ?_⟩) HSB.out ?_
            · go_simp
            refine wpAnyH_take (i := 2) (v := .bool false) rfl (by kernel_rfl) (by kernel_rfl) (by kernel_rfl) (fun _ _ _ h => h) (Or.inl ⟨by kernel_rfl, fun w9 h9 => ?_⟩) HSB.out ?_
            · go_simp
            refine wpAnyH_take (i := 3) (v := .bool false) rfl (by kernel_rfl) (by kernel_rfl) (by kernel_rfl) (fun _ _ _ h => h) (Or.inl ⟨by kernel_rfl, fun w9 h9 => ?_⟩) HSB.out ?_
            · go_simp
            refine wpAnyH_take (i := 4) (v := .slice (some ⟨g6, o6, none⟩) 3 c6) rfl (by kernel_rfl) (by kernel_rfl) (by kernel_rfl) (fun _ _ _ h => h) (Or.inl ⟨by kernel_rfl, fun w9 h9 => ?_⟩) HSB.out ?_
            · go_simp
            refine wpAnyH_take (i := 5) (v := .pointer (some ⟨g6, o6, none⟩)) rfl (by kernel_rfl) (by kernel_rfl) (by kernel_rfl) (fun _ _ _ h => h) (Or.inl ⟨by kernel_rfl, fun w9 h9 => ?_⟩) HSB.out ?_
            · go_simp
            refine wpAnyH_take (i := 6) (v := .agg #[.string x'.name, .int .i64 x'.rev, .string x'.body]) rfl (by kernel_rfl) (by kernel_rfl) (by kernel_rfl) (fun _ _ _ h => h) (Or.inl ⟨by kernel_rfl, fun w9 h9 => ?_⟩) HSB.out ?_
            · obtain ⟨⟨c0, c1, c2⟩, ⟨c3, c4_, c5⟩, ⟨c6_, c7, c8⟩, cl⟩ := HC6.out _ h9; obtain ⟨⟨e0, e1, e2⟩, ⟨e3, e4, e5⟩, ⟨e6, e7, e8⟩, el⟩ := HAU.out _ (HAV.out _ h9); go_simp
            refine wpAnyH_take (i := 7) (v := .slice (some ⟨g, o, none⟩) 3 cap) rfl (by kernel_rfl) (by kernel_rfl) (by kernel_rfl) (fun _ _ _ h => h) (Or.inl ⟨by kernel_rfl, fun w9 h9 => ?_⟩) HSB.out ?_
            · go_simp
            refine wpAnyH_take (i := 8) (v := .pointer (some ⟨g, o, none⟩)) rfl (by kernel_rfl) (by kernel_rfl) (by kernel_rfl) (fun _ _ _ h => h) (Or.inl ⟨by kernel_rfl, fun w9 h9 => ?_⟩) HSB.out ?_
            · go_simp
            refine wpAnyH_take (i := 9) (v := .agg #[.string x.name, .int .i64 x.rev, .string x.body]) rfl (by kernel_rfl) (by kernel_rfl) (by kernel_rfl) (fun _ _ _ h => h) (Or.inl ⟨by kernel_rfl, fun w9 h9 => ?_⟩) HSB.out ?_
            · obtain ⟨⟨c0, c1, c2⟩, ⟨c3, c4_, c5⟩, ⟨c6_, c7, c8⟩, cl⟩ := HC6.out _ h9; obtain ⟨⟨e0, e1, e2⟩, ⟨e3, e4, e5⟩, ⟨e6, e7, e8⟩, el⟩ := HAU.out _ (HAV.out _ h9); go_simp
            refine wpAnyH_take (i := 10) (v := .bool false) rfl (by kernel_rfl) (by kernel_rfl) (by kernel_rfl) (fun _ _ _ h => h) (Or.inl ⟨by kernel_rfl, fun w9 h9 => ?_⟩) HSB.out ?_
            · have hf := fun u => neqFT x' x u; rw [hX] at hf; go_simp
            refine wpAnyH_take (i := 11) (v := .bool false) rfl (by kernel_rfl) (by kernel_rfl) (by kernel_rfl) (fun _ _ _ h => h) (Or.inl ⟨by kernel_rfl, fun w9 h9 => ?_⟩) HSB.out ?_
            · go_simp
            refine wpAnyH_take (i := 12) (v := .bool false) rfl (by kernel_rfl) (by kernel_rfl) (by kernel_rfl) (fun _ _ _ h => h) (Or.inl ⟨by kernel_rfl, fun w9 h9 => ?_⟩) HSB.out ?_
            · go_simp
            refine wpAnyH_take (i := 13) (v := .slice (some ⟨g6, o6, none⟩) 3 c6) rfl (by kernel_rfl) (by kernel_rfl) (by kernel_rfl) (fun _ _ _ h => h) (Or.inl ⟨by kernel_rfl, fun w9 h9 => ?_⟩) HSB.out ?_
            · go_simp
            refine wpAnyH_take (i := 14) (v := .pointer (some ⟨g6, o6 + 3, none⟩)) rfl (by kernel_rfl) (by kernel_rfl) (by kernel_rfl) (fun _ _ _ h => h) (Or.inl ⟨by kernel_rfl, fun w9 h9 => ?_⟩) HSB.out ?_
            · go_simp
            refine wpAnyH_take (i := 15) (v := .agg #[.string y'.name, .int .i64 y'.rev, .string y'.body]) rfl (by kernel_rfl) (by kernel_rfl) (by kernel_rfl) (fun _ _ _ h => h) (Or.inl ⟨by kernel_rfl, fun w9 h9 => ?_⟩) HSB.out ?_
            · obtain ⟨⟨c0, c1, c2⟩, ⟨c3, c4_, c5⟩, ⟨c6_, c7, c8⟩, cl⟩ := HC6.out _ h9; obtain ⟨⟨e0, e1, e2⟩, ⟨e3, e4, e5⟩, ⟨e6, e7, e8⟩, el⟩ := HAU.out _ (HAV.out _ h9); go_simp
            refine wpAnyH_take (i := 16) (v := .slice (some ⟨g, o, none⟩) 3 cap) rfl (by kernel_rfl) (by kernel_rfl) (by kernel_rfl) (fun _ _ _ h => h) (Or.inl ⟨by kernel_rfl, fun w9 h9 => ?_⟩) HSB.out ?_
            · go_simp
            refine wpAnyH_take (i := 17) (v := .pointer (some ⟨g, o + 3, none⟩)) rfl (by kernel_rfl) (by kernel_rfl) (by kernel_rfl) (fun _ _ _ h => h) (Or.inl ⟨by kernel_rfl, fun w9 h9 => ?_⟩) HSB.out ?_
            · go_simp
            refine wpAnyH_take (i := 18) (v := .agg #[.string y.name, .int .i64 y.rev, .string y.body]) rfl (by kernel_rfl) (by kernel_rfl) (by kernel_rfl) (fun _ _ _ h => h) (Or.inl ⟨by kernel_rfl, fun w9 h9 => ?_⟩) HSB.out ?_
            · obtain ⟨⟨c0, c1, c2⟩, ⟨c3, c4_, c5⟩, ⟨c6_, c7, c8⟩, cl⟩ := HC6.out _ h9; obtain ⟨⟨e0, e1, e2⟩, ⟨e3, e4, e5⟩, ⟨e6, e7, e8⟩, el⟩ := HAU.out _ (HAV.out _ h9); go_simp
            refine wpAnyH_take (i := 19) (v := .bool true) rfl (by kernel_rfl) (by kernel_rfl) (by kernel_rfl) (fun _ _ _ h => h) (Or.inl ⟨by kernel_rfl, fun w9 h9 => ?_⟩) HSB.out ?_
            · have hf := fun u => neqFT y' y u; rw [hY] at hf; go_simp
            refine wpAnyH_take (i := 20) (v := .bool true) rfl (by kernel_rfl) (by kernel_rfl) (by kernel_rfl) (fun _ _ _ h => h) (Or.inl ⟨by kernel_rfl, fun w9 h9 => ?_⟩) HSB.out ?_
            · go_simp
            refine wpAnyH_take (i := 21) (v := .bool true) rfl (by kernel_rfl) (by kernel_rfl) (by kernel_rfl) (fun _ _ _ h => h) (Or.inl ⟨by kernel_rfl, fun w9 h9 => ?_⟩) HSB.out ?_
            · go_simp
            refine wpAnyH_take (i := 22) (v := undef) rfl (by kernel_rfl) (by kernel_rfl) (by kernel_rfl) (fun _ _ _ h => h) (Or.inr ⟨by kernel_rfl, rfl⟩) HSB.out ?_
            refine wpAnyH_take (i := 23) (v := undef) rfl (by kernel_rfl) (by kernel_rfl) (by kernel_rfl) (fun _ _ _ h => h) (Or.inr ⟨by kernel_rfl, rfl⟩) HSB.out ?_
            refine wpAnyH_take (i := 24) (v := undef) rfl (by kernel_rfl) (by kernel_rfl) (by kernel_rfl) (fun _ _ _ h => h) (Or.inr ⟨by kernel_rfl, rfl⟩) HSB.out ?_
            refine wpAnyH_take (i := 25) (v := undef) rfl (by kernel_rfl) (by kernel_rfl) (by kernel_rfl) (fun _ _ _ h => h) (Or.inr ⟨by kernel_rfl, rfl⟩) HSB.out ?_
            refine wpAnyH_take (i := 26) (v := undef) rfl (by kernel_rfl) (by kernel_rfl) (by kernel_rfl) (fun _ _ _ h => h) (Or.inr ⟨by kernel_rfl, rfl⟩) HSB.out ?_
            refine wpAnyH_take (i := 27) (v := undef) rfl (by kernel_rfl) (by kernel_rfl) (by kernel_rfl) (fun _ _ _ h => h) (Or.inr ⟨by kernel_rfl, rfl⟩) HSB.out ?_
            refine wpAnyH_take (i := 28) (v := undef) rfl (by kernel_rfl) (by kernel_rfl) (by kernel_rfl) (fun _ _ _ h => h) (Or.inr ⟨by kernel_rfl, rfl⟩) HSB.out ?_
            refine wpAnyH_take (i := 29) (v := .bool true) rfl (by kernel_rfl) (by kernel_rfl) (by kernel_rfl) (fun _ _ _ h => h) (Or.inl ⟨by kernel_rfl, fun w9 h9 => ?_⟩) HSB.out ?_
            · go_simp
            refine wpAnyH_done (by kernel_rfl) ?_ _
            go_simp
            generalize v1.drew = v2 at *
            have HB11 : Hid (LG w v2 b2 #[.bool false, .int .i64 0, .int .i64 0, .slice none 0 0] 41) := HU.out.step HPD.out.bel
            have k0 := HB11.out.cel 0 _ rfl
            have k1 := HB11.out.cel 1 _ rfl
            have k2 := HB11.out.cel 2 _ rfl
            have k3 := HB11.out.cel 3 _ rfl
            have f0 := HB11.out.frz 0
            have f1 := HB11.out.frz 1
            have f2 := HB11.out.frz 2
            have f3 := HB11.out.frz 3
            have kl := HB11.out.lt
            go_wp2
            refine bodyPost_ret (v := boA boZ (.slice none 0 0)) ?_ rfl ⟨_, by rw [E2.out], by rw [E2.out]; exact World.ownsRow_nil _ _ _ _, ?_⟩
            · simp [results, Try.results18, go_sem, boA, boZ, k0, k1, k2, k3]
            · first | exact (((HB11.out.bel.setCell HB11.out.ge _).setCell HB11.out.ge _).setCell HB11.out.ge _).setCell HB11.out.ge _ | exact belCast HB0.out ((((HB11.out.bel.setCell HB11.out.ge _).setCell HB11.out.ge _).setCell HB11.out.ge _).setCell HB11.out.ge _)
          cases hZ : teq z' z
          · have E2 : Hid (R = boZ) := (show R = boZ by rw [E.out, ET.out, hX, hY, hZ]; rfl)
            clear E ET
            go_upto_region 10 with fail
            have HV0 : Hid (Below v1.heap.size v1 v1.drew) := bdn (Below.refl _ _) 1
            have HPD : Hid (LG U v1.drew p3 #[.int .i64 gx, .int .i64 gy, .slice a4 n c4] 29) := HPV.out.drew
            have HOD : Hid (v1.drew.ownsRow q9 49 3 (.slice a4 n c4) n (dvR ds)) := HOV.out
            have HAV : Hid (∀ u, Below v1.heap.size v1 u → Below U.heap.size U u) := fun u hu => HPV.out.bel.trans (hu.mono HPV.out.bel.size)
            have HSB : Hid ((fun w9 => Below v1.heap.size v1 w9) v1.drew) := HV0.out
            refine wp_region_held (S := fun w9 => Below v1.heap.size v1 w9) (by kernel_rfl) ?_
            change wpAnyH _ _ _ _ _ _ _ _ (World.drew _)
            refine wpAnyH_take (i := 0) (v := .slice (some ⟨g6, o6, none⟩) 3 c6) rfl (by kernel_rfl) (by kernel_rfl) (by kernel_rfl) (fun _ _ _ h => h) (Or.inl ⟨by kernel_rfl, fun w9 h9 => ?_⟩) HSB.out ?_
            · go_simp
            refine wpAnyH_take (i := 1) (v := .int .i64 3) rfl (by kernel_rfl) (by kernel_rfl) (by kernel_rfl) (fun _ _ _ h => h) (Or.inl ⟨by kernel_rfl, fun w9 h9 => ?_⟩) HSB.out ?_
            · go_simp
            refine wpAnyH_take (i := 2) (v := .bool false) rfl (by kernel_rfl) (by kernel_rfl) (by kernel_rfl) (fun _ _ _ h => h) (Or.inl ⟨by kernel_rfl, fun w9 h9 => ?_⟩) HSB.out ?_
            · go_simp
            refine wpAnyH_take (i := 3) (v := .bool false) rfl (by kernel_rfl) (by kernel_rfl) (by kernel_rfl) (fun _ _ _ h => h) (Or.inl ⟨by kernel_rfl, fun w9 h9 => ?_⟩) HSB.out ?_
            · go_simp
            refine wpAnyH_take (i := 4) (v := .slice (some ⟨g6, o6, none⟩) 3 c6) rfl (by kernel_rfl) (by kernel_rfl) (by kernel_rfl) (fun _ _ _ h => h) (Or.inl ⟨by kernel_rfl, fun w9 h9 => ?_⟩) HSB.out ?_
            · go_simp
            refine wpAnyH_take (i := 5) (v := .pointer (some ⟨g6, o6, none⟩)) rfl (by kernel_rfl) (by kernel_rfl) (by kernel_rfl) (fun _ _ _ h => h) (Or.inl ⟨by kernel_rfl, fun w9 h9 => ?_⟩) HSB.out ?_
            · go_simp
            refine wpAnyH_take (i := 6) (v := .agg #[.string x'.name, .int .i64 x'.rev, .string x'.body]) rfl (by kernel_rfl) (by kernel_rfl) (by kernel_rfl) (fun _ _ _ h => h) (Or.inl ⟨by kernel_rfl, fun w9 h9 => ?_⟩) HSB.out ?_
            · obtain ⟨⟨c0, c1, c2⟩, ⟨c3, c4_, c5⟩, ⟨c6_, c7, c8⟩, cl⟩ := HC6.out _ h9; obtain ⟨⟨e0, e1, e2⟩, ⟨e3, e4, e5⟩, ⟨e6, e7, e8⟩, el⟩ := HAU.out _ (HAV.out _ h9); go_simp
            refine wpAnyH_take (i := 7) (v := .slice (some ⟨g, o, none⟩) 3 cap) rfl (by kernel_rfl) (by kernel_rfl) (by kernel_rfl) (fun _ _ _ h => h) (Or.inl ⟨by kernel_rfl, fun w9 h9 => ?_⟩) HSB.out ?_
            · go_simp
            refine wpAnyH_take (i := 8) (v := .pointer (some ⟨g, o, none⟩)) rfl (by kernel_rfl) (by kernel_rfl) (by kernel_rfl) (fun _ _ _ h => h) (Or.inl ⟨by kernel_rfl, fun w9 h9 => ?_⟩) HSB.out ?_
            · go_simp
            refine wpAnyH_take (i := 9) (v := .agg #[.string x.name, .int .i64 x.rev, .string x.body]) rfl (by kernel_rfl) (by kernel_rfl) (by kernel_rfl) (fun _ _ _ h => h) (Or.inl ⟨by kernel_rfl, fun w9 h9 => ?_⟩) HSB.out ?_
            · obtain ⟨⟨c0, c1, c2⟩, ⟨c3, c4_, c5⟩, ⟨c6_, c7, c8⟩, cl⟩ := HC6.out _ h9; obtain ⟨⟨e0, e1, e2⟩, ⟨e3, e4, e5⟩, ⟨e6, e7, e8⟩, el⟩ := HAU.out _ (HAV.out _ h9); go_simp
            refine wpAnyH_take (i := 10) (v := .bool false) rfl (by kernel_rfl) (by kernel_rfl) (by kernel_rfl) (fun _ _ _ h => h) (Or.inl ⟨by kernel_rfl, fun w9 h9 => ?_⟩) HSB.out ?_
            · have hf := fun u => neqFT x' x u; rw [hX] at hf; go_simp
            refine wpAnyH_take (i := 11) (v := .bool false) rfl (by kernel_rfl) (by kernel_rfl) (by kernel_rfl) (fun _ _ _ h => h) (Or.inl ⟨by kernel_rfl, fun w9 h9 => ?_⟩) HSB.out ?_
            · go_simp
            refine wpAnyH_take (i := 12) (v := .bool false) rfl (by kernel_rfl) (by kernel_rfl) (by kernel_rfl) (fun _ _ _ h => h) (Or.inl ⟨by kernel_rfl, fun w9 h9 => ?_⟩) HSB.out ?_
            · go_simp
            refine wpAnyH_take (i := 13) (v := .slice (some ⟨g6, o6, none⟩) 3 c6) rfl (by kernel_rfl) (by kernel_rfl) (by kernel_rfl) (fun _ _ _ h => h) (Or.inl ⟨by kernel_rfl, fun w9 h9 => ?_⟩) HSB.out ?_
            · go_simp
            refine wpAnyH_take (i := 14) (v := .pointer (some ⟨g6, o6 + 3, none⟩)) rfl (by kernel_rfl) (by kernel_rfl) (by kernel_rfl) (fun _ _ _ h => h) (Or.inl ⟨by kernel_rfl, fun w9 h9 => ?_⟩) HSB.out ?_
            · go_simp
            refine wpAnyH_take (i := 15) (v := .agg #[.string y'.name, .int .i64 y'.rev, .string y'.body]) rfl (by kernel_rfl) (by kernel_rfl) (by kernel_rfl) (fun _ _ _ h => h) (Or.inl ⟨by kernel_rfl, fun w9 h9 => ?_⟩) HSB.out ?_
            · obtain ⟨⟨c0, c1, c2⟩, ⟨c3, c4_, c5⟩, ⟨c6_, c7, c8⟩, cl⟩ := HC6.out _ h9; obtain ⟨⟨e0, e1, e2⟩, ⟨e3, e4, e5⟩, ⟨e6, e7, e8⟩, el⟩ := HAU.out _ (HAV.out _ h9); go_simp
            refine wpAnyH_take (i := 16) (v := .slice (some ⟨g, o, none⟩) 3 cap) rfl (by kernel_rfl) (by kernel_rfl) (by kernel_rfl) (fun _ _ _ h => h) (Or.inl ⟨by kernel_rfl, fun w9 h9 => ?_⟩) HSB.out ?_
            · go_simp
            refine wpAnyH_take (i := 17) (v := .pointer (some ⟨g, o + 3, none⟩)) rfl (by kernel_rfl) (by kernel_rfl) (by kernel_rfl) (fun _ _ _ h => h) (Or.inl ⟨by kernel_rfl, fun w9 h9 => ?_⟩) HSB.out ?_
            · go_simp
            refine wpAnyH_take (i := 18) (v := .agg #[.string y.name, .int .i64 y.rev, .string y.body]) rfl (by kernel_rfl) (by kernel_rfl) (by kernel_rfl) (fun _ _ _ h => h) (Or.inl ⟨by kernel_rfl, fun w9 h9 => ?_⟩) HSB.out ?_
            · obtain ⟨⟨c0, c1, c2⟩, ⟨c3, c4_, c5⟩, ⟨c6_, c7, c8⟩, cl⟩ := HC6.out _ h9; obtain ⟨⟨e0, e1, e2⟩, ⟨e3, e4, e5⟩, ⟨e6, e7, e8⟩, el⟩ := HAU.out _ (HAV.out _ h9); go_simp
            refine wpAnyH_take (i := 19) (v := .bool false) rfl (by kernel_rfl) (by kernel_rfl) (by kernel_rfl) (fun _ _ _ h => h) (Or.inl ⟨by kernel_rfl, fun w9 h9 => ?_⟩) HSB.out ?_
            · have hf := fun u => neqFT y' y u; rw [hY] at hf; go_simp
            refine wpAnyH_take (i := 20) (v := .bool false) rfl (by kernel_rfl) (by kernel_rfl) (by kernel_rfl) (fun _ _ _ h => h) (Or.inl ⟨by kernel_rfl, fun w9 h9 => ?_⟩) HSB.out ?_
            · go_simp
            refine wpAnyH_take (i := 21) (v := .bool false) rfl (by kernel_rfl) (by kernel_rfl) (by kernel_rfl) (fun _ _ _ h => h) (Or.inl ⟨by kernel_rfl, fun w9 h9 => ?_⟩) HSB.out ?_
            · go_simp
            refine wpAnyH_take (i := 22) (v := .slice (some ⟨g6, o6, none⟩) 3 c6) rfl (by kernel_rfl) (by kernel_rfl) (by kernel_rfl) (fun _ _ _ h => h) (Or.inl ⟨by kernel_rfl, fun w9 h9 => ?_⟩) HSB.out ?_
            · go_simp
            refine wpAnyH_take (i := 23) (v := .pointer (some ⟨g6, o6 + 6, none⟩)) rfl (by kernel_rfl) (by kernel_rfl) (by kernel_rfl) (fun _ _ _ h => h) (Or.inl ⟨by kernel_rfl, fun w9 h9 => ?_⟩) HSB.out ?_
            · go_simp
            refine wpAnyH_take (i := 24) (v := .agg #[.string z'.name, .int .i64 z'.rev, .string z'.body]) rfl (by kernel_rfl) (by kernel_rfl) (by kernel_rfl) (fun _ _ _ h => h) (Or.inl ⟨by kernel_rfl, fun w9 h9 => ?_⟩) HSB.out ?_
            · obtain ⟨⟨c0, c1, c2⟩, ⟨c3, c4_, c5⟩, ⟨c6_, c7, c8⟩, cl⟩ := HC6.out _ h9; obtain ⟨⟨e0, e1, e2⟩, ⟨e3, e4, e5⟩, ⟨e6, e7, e8⟩, el⟩ := HAU.out _ (HAV.out _ h9); go_simp
            refine wpAnyH_take (i := 25) (v := .slice (some ⟨g, o, none⟩) 3 cap) rfl (by kernel_rfl) (by kernel_rfl) (by kernel_rfl) (fun _ _ _ h => h) (Or.inl ⟨by kernel_rfl, fun w9 h9 => ?_⟩) HSB.out ?_
            · go_simp
            refine wpAnyH_take (i := 26) (v := .pointer (some ⟨g, o + 6, none⟩)) rfl (by kernel_rfl) (by kernel_rfl) (by kernel_rfl) (fun _ _ _ h => h) (Or.inl ⟨by kernel_rfl, fun w9 h9 => ?_⟩) HSB.out ?_
            · go_simp
            refine wpAnyH_take (i := 27) (v := .agg #[.string z.name, .int .i64 z.rev, .string z.body]) rfl (by kernel_rfl) (by kernel_rfl) (by kernel_rfl) (fun _ _ _ h => h) (Or.inl ⟨by kernel_rfl, fun w9 h9 => ?_⟩) HSB.out ?_
            · obtain ⟨⟨c0, c1, c2⟩, ⟨c3, c4_, c5⟩, ⟨c6_, c7, c8⟩, cl⟩ := HC6.out _ h9; obtain ⟨⟨e0, e1, e2⟩, ⟨e3, e4, e5⟩, ⟨e6, e7, e8⟩, el⟩ := HAU.out _ (HAV.out _ h9); go_simp
            refine wpAnyH_take (i := 28) (v := .bool true) rfl (by kernel_rfl) (by kernel_rfl) (by kernel_rfl) (fun _ _ _ h => h) (Or.inl ⟨by kernel_rfl, fun w9 h9 => ?_⟩) HSB.out ?_
            · have hf := fun u => neqFT z' z u; rw [hZ] at hf; go_simp
            refine wpAnyH_take (i := 29) (v := .bool true) rfl (by kernel_rfl) (by kernel_rfl) (by kernel_rfl) (fun _ _ _ h => h) (Or.inl ⟨by kernel_rfl, fun w9 h9 => ?_⟩) HSB.out ?_
            · go_simp
            refine wpAnyH_done (by kernel_rfl) ?_ _
            go_simp
            generalize v1.drew = v2 at *
            have HB11 : Hid (LG w v2 b2 #[.bool false, .int .i64 0, .int .i64 0, .slice none 0 0] 41) := HU.out.step HPD.out.bel
            have k0 := HB11.out.cel 0 _ rfl
            have k1 := HB11.out.cel 1 _ rfl
            have k2 := HB11.out.cel 2 _ rfl
            have k3 := HB11.out.cel 3 _ rfl
            have f0 := HB11.out.frz 0
            have f1 := HB11.out.frz 1
            have f2 := HB11.out.frz 2
            have f3 := HB11.out.frz 3
            have kl := HB11.out.lt
            go_wp2
            refine bodyPost_ret (v := boA boZ (.slice none 0 0)) ?_ rfl ⟨_, by rw [E2.out], by rw [E2.out]; exact World.ownsRow_nil _ _ _ _, ?_⟩
            · simp [results, Try.results18, go_sem, boA, boZ, k0, k1, k2, k3]
            · first | exact (((HB11.out.bel.setCell HB11.out.ge _).setCell HB11.out.ge _).setCell HB11.out.ge _).setCell HB11.out.ge _ | exact belCast HB0.out ((((HB11.out.bel.setCell HB11.out.ge _).setCell HB11.out.ge _).setCell HB11.out.ge _).setCell HB11.out.ge _)
          have E2 : Hid (R = ⟨true, gx, gy, ds⟩) := (show R = _ by rw [E.out, ET.out, hX, hY, hZ]; rfl)
          clear E ET
          go_upto_region 10 with fail
          have HV0 : Hid (Below v1.heap.size v1 v1.drew) := bdn (Below.refl _ _) 1
          have HPD : Hid (LG U v1.drew p3 #[.int .i64 gx, .int .i64 gy, .slice a4 n c4] 29) := HPV.out.drew
          have HOD : Hid (v1.drew.ownsRow q9 49 3 (.slice a4 n c4) n (dvR ds)) := HOV.out
          have HAV : Hid (∀ u, Below v1.heap.size v1 u → Below U.heap.size U u) := fun u hu => HPV.out.bel.trans (hu.mono HPV.out.bel.size)
          have HSB : Hid ((fun w9 => Below v1.heap.size v1 w9) v1.drew) := HV0.out
          refine wp_region_held (S := fun w9 => Below v1.heap.size v1 w9) (by kernel_rfl) ?_
          change wpAnyH _ _ _ _ _ _ _ _ (World.drew _)
          refine wpAnyH_take (i := 0) (v := .slice (some ⟨g6, o6, none⟩) 3 c6) rfl (by kernel_rfl) (by kernel_rfl) (by kernel_rfl) (fun _ _ _ h => h) (Or.inl ⟨by kernel_rfl, fun w9 h9 => ?_⟩) HSB.out ?_
          · go_simp
          refine wpAnyH_take (i := 1) (v := .int .i64 3) rfl (by kernel_rfl) (by kernel_rfl) (by kernel_rfl) (fun _ _ _ h => h) (Or.inl ⟨by kernel_rfl, fun w9 h9 => ?_⟩) HSB.out ?_
          · go_simp
          refine wpAnyH_take (i := 2) (v := .bool false) rfl (by kernel_rfl) (by kernel_rfl) (by kernel_rfl) (fun _ _ _ h => h) (Or.inl ⟨by kernel_rfl, fun w9 h9 => ?_⟩) HSB.out ?_
          · go_simp
          refine wpAnyH_take (i := 3) (v := .bool false) rfl (by kernel_rfl) (by kernel_rfl) (by kernel_rfl) (fun _ _ _ h => h) (Or.inl ⟨by kernel_rfl, fun w9 h9 => ?_⟩) HSB.out ?_
          · go_simp
          refine wpAnyH_take (i := 4) (v := .slice (some ⟨g6, o6, none⟩) 3 c6) rfl (by kernel_rfl) (by kernel_rfl) (by kernel_rfl) (fun _ _ _ h => h) (Or.inl ⟨by kernel_rfl, fun w9 h9 => ?_⟩) HSB.out ?_
          · go_simp
          refine wpAnyH_take (i := 5) (v := .pointer (some ⟨g6, o6, none⟩)) rfl (by kernel_rfl) (by kernel_rfl) (by kernel_rfl) (fun _ _ _ h => h) (Or.inl ⟨by kernel_rfl, fun w9 h9 => ?_⟩) HSB.out ?_
          · go_simp
          refine wpAnyH_take (i := 6) (v := .agg #[.string x'.name, .int .i64 x'.rev, .string x'.body]) rfl (by kernel_rfl) (by kernel_rfl) (by kernel_rfl) (fun _ _ _ h => h) (Or.inl ⟨by kernel_rfl, fun w9 h9 => ?_⟩) HSB.out ?_
          · obtain ⟨⟨c0, c1, c2⟩, ⟨c3, c4_, c5⟩, ⟨c6_, c7, c8⟩, cl⟩ := HC6.out _ h9; obtain ⟨⟨e0, e1, e2⟩, ⟨e3, e4, e5⟩, ⟨e6, e7, e8⟩, el⟩ := HAU.out _ (HAV.out _ h9); go_simp
          refine wpAnyH_take (i := 7) (v := .slice (some ⟨g, o, none⟩) 3 cap) rfl (by kernel_rfl) (by kernel_rfl) (by kernel_rfl) (fun _ _ _ h => h) (Or.inl ⟨by kernel_rfl, fun w9 h9 => ?_⟩) HSB.out ?_
          · go_simp
          refine wpAnyH_take (i := 8) (v := .pointer (some ⟨g, o, none⟩)) rfl (by kernel_rfl) (by kernel_rfl) (by kernel_rfl) (fun _ _ _ h => h) (Or.inl ⟨by kernel_rfl, fun w9 h9 => ?_⟩) HSB.out ?_
          · go_simp
          refine wpAnyH_take (i := 9) (v := .agg #[.string x.name, .int .i64 x.rev, .string x.body]) rfl (by kernel_rfl) (by kernel_rfl) (by kernel_rfl) (fun _ _ _ h => h) (Or.inl ⟨by kernel_rfl, fun w9 h9 => ?_⟩) HSB.out ?_
          · obtain ⟨⟨c0, c1, c2⟩, ⟨c3, c4_, c5⟩, ⟨c6_, c7, c8⟩, cl⟩ := HC6.out _ h9; obtain ⟨⟨e0, e1, e2⟩, ⟨e3, e4, e5⟩, ⟨e6, e7, e8⟩, el⟩ := HAU.out _ (HAV.out _ h9); go_simp
          refine wpAnyH_take (i := 10) (v := .bool false) rfl (by kernel_rfl) (by kernel_rfl) (by kernel_rfl) (fun _ _ _ h => h) (Or.inl ⟨by kernel_rfl, fun w9 h9 => ?_⟩) HSB.out ?_
          · have hf := fun u => neqFT x' x u; rw [hX] at hf; go_simp
          refine wpAnyH_take (i := 11) (v := .bool false) rfl (by kernel_rfl) (by kernel_rfl) (by kernel_rfl) (fun _ _ _ h => h) (Or.inl ⟨by kernel_rfl, fun w9 h9 => ?_⟩) HSB.out ?_
          · go_simp
          refine wpAnyH_take (i := 12) (v := .bool false) rfl (by kernel_rfl) (by kernel_rfl) (by kernel_rfl) (fun _ _ _ h => h) (Or.inl ⟨by kernel_rfl, fun w9 h9 => ?_⟩) HSB.out ?_
          · go_simp
          refine wpAnyH_take (i := 13) (v := .slice (some ⟨g6, o6, none⟩) 3 c6) rfl (by kernel_rfl) (by kernel_rfl) (by kernel_rfl) (fun _ _ _ h => h) (Or.inl ⟨by kernel_rfl, fun w9 h9 => ?_⟩) HSB.out ?_
          · go_simp
          refine wpAnyH_take (i := 14) (v := .pointer (some ⟨g6, o6 + 3, none⟩)) rfl (by kernel_rfl) (by kernel_rfl) (by kernel_rfl) (fun _ _ _ h => h) (Or.inl ⟨by kernel_rfl, fun w9 h9 => ?_⟩) HSB.out ?_
          · go_simp
          refine wpAnyH_take (i := 15) (v := .agg #[.string y'.name, .int .i64 y'.rev, .string y'.body]) rfl (by kernel_rfl) (by kernel_rfl) (by kernel_rfl) (fun _ _ _ h => h) (Or.inl ⟨by kernel_rfl, fun w9 h9 => ?_⟩) HSB.out ?_
          · obtain ⟨⟨c0, c1, c2⟩, ⟨c3, c4_, c5⟩, ⟨c6_, c7, c8⟩, cl⟩ := HC6.out _ h9; obtain ⟨⟨e0, e1, e2⟩, ⟨e3, e4, e5⟩, ⟨e6, e7, e8⟩, el⟩ := HAU.out _ (HAV.out _ h9); go_simp
          refine wpAnyH_take (i := 16) (v := .slice (some ⟨g, o, none⟩) 3 cap) rfl (by kernel_rfl) (by kernel_rfl) (by kernel_rfl) (fun _ _ _ h => h) (Or.inl ⟨by kernel_rfl, fun w9 h9 => ?_⟩) HSB.out ?_
          · go_simp
          refine wpAnyH_take (i := 17) (v := .pointer (some ⟨g, o + 3, none⟩)) rfl (by kernel_rfl) (by kernel_rfl) (by kernel_rfl) (fun _ _ _ h => h) (Or.inl ⟨by kernel_rfl, fun w9 h9 => ?_⟩) HSB.out ?_
          · go_simp
          refine wpAnyH_take (i := 18) (v := .agg #[.string y.name, .int .i64 y.rev, .string y.body]) rfl (by kernel_rfl) (by kernel_rfl) (by kernel_rfl) (fun _ _ _ h => h) (Or.inl ⟨by kernel_rfl, fun w9 h9 => ?_⟩) HSB.out ?_
          · obtain ⟨⟨c0, c1, c2⟩, ⟨c3, c4_, c5⟩, ⟨c6_, c7, c8⟩, cl⟩ := HC6.out _ h9; obtain ⟨⟨e0, e1, e2⟩, ⟨e3, e4, e5⟩, ⟨e6, e7, e8⟩, el⟩ := HAU.out _ (HAV.out _ h9); go_simp
          refine wpAnyH_take (i := 19) (v := .bool false) rfl (by kernel_rfl) (by kernel_rfl) (by kernel_rfl) (fun _ _ _ h => h) (Or.inl ⟨by kernel_rfl, fun w9 h9 => ?_⟩) HSB.out ?_
          · have hf := fun u => neqFT y' y u; rw [hY] at hf; go_simp
          refine wpAnyH_take (i := 20) (v := .bool false) rfl (by kernel_rfl) (by kernel_rfl) (by kernel_rfl) (fun _ _ _ h => h) (Or.inl ⟨by kernel_rfl, fun w9 h9 => ?_⟩) HSB.out ?_
          · go_simp
          refine wpAnyH_take (i := 21) (v := .bool false) rfl (by kernel_rfl) (by kernel_rfl) (by kernel_rfl) (fun _ _ _ h => h) (Or.inl ⟨by kernel_rfl, fun w9 h9 => ?_⟩) HSB.out ?_
          · go_simp
          refine wpAnyH_take (i := 22) (v := .slice (some ⟨g6, o6, none⟩) 3 c6) rfl (by kernel_rfl) (by kernel_rfl) (by kernel_rfl) (fun _ _ _ h => h) (Or.inl ⟨by kernel_rfl, fun w9 h9 => ?_⟩) HSB.out ?_
          · go_simp
          refine wpAnyH_take (i := 23) (v := .pointer (some ⟨g6, o6 + 6, none⟩)) rfl (by kernel_rfl) (by kernel_rfl) (by kernel_rfl) (fun _ _ _ h => h) (Or.inl ⟨by kernel_rfl, fun w9 h9 => ?_⟩) HSB.out ?_
          · go_simp
          refine wpAnyH_take (i := 24) (v := .agg #[.string z'.name, .int .i64 z'.rev, .string z'.body]) rfl (by kernel_rfl) (by kernel_rfl) (by kernel_rfl) (fun _ _ _ h => h) (Or.inl ⟨by kernel_rfl, fun w9 h9 => ?_⟩) HSB.out ?_
          · obtain ⟨⟨c0, c1, c2⟩, ⟨c3, c4_, c5⟩, ⟨c6_, c7, c8⟩, cl⟩ := HC6.out _ h9; obtain ⟨⟨e0, e1, e2⟩, ⟨e3, e4, e5⟩, ⟨e6, e7, e8⟩, el⟩ := HAU.out _ (HAV.out _ h9); go_simp
          refine wpAnyH_take (i := 25) (v := .slice (some ⟨g, o, none⟩) 3 cap) rfl (by kernel_rfl) (by kernel_rfl) (by kernel_rfl) (fun _ _ _ h => h) (Or.inl ⟨by kernel_rfl, fun w9 h9 => ?_⟩) HSB.out ?_
          · go_simp
          refine wpAnyH_take (i := 26) (v := .pointer (some ⟨g, o + 6, none⟩)) rfl (by kernel_rfl) (by kernel_rfl) (by kernel_rfl) (fun _ _ _ h => h) (Or.inl ⟨by kernel_rfl, fun w9 h9 => ?_⟩) HSB.out ?_
          · go_simp
          refine wpAnyH_take (i := 27) (v := .agg #[.string z.name, .int .i64 z.rev, .string z.body]) rfl (by kernel_rfl) (by kernel_rfl) (by kernel_rfl) (fun _ _ _ h => h) (Or.inl ⟨by kernel_rfl, fun w9 h9 => ?_⟩) HSB.out ?_
          · obtain ⟨⟨c0, c1, c2⟩, ⟨c3, c4_, c5⟩, ⟨c6_, c7, c8⟩, cl⟩ := HC6.out _ h9; obtain ⟨⟨e0, e1, e2⟩, ⟨e3, e4, e5⟩, ⟨e6, e7, e8⟩, el⟩ := HAU.out _ (HAV.out _ h9); go_simp
          refine wpAnyH_take (i := 28) (v := .bool false) rfl (by kernel_rfl) (by kernel_rfl) (by kernel_rfl) (fun _ _ _ h => h) (Or.inl ⟨by kernel_rfl, fun w9 h9 => ?_⟩) HSB.out ?_
          · have hf := fun u => neqFT z' z u; rw [hZ] at hf; go_simp
          refine wpAnyH_take (i := 29) (v := .bool false) rfl (by kernel_rfl) (by kernel_rfl) (by kernel_rfl) (fun _ _ _ h => h) (Or.inl ⟨by kernel_rfl, fun w9 h9 => ?_⟩) HSB.out ?_
          · go_simp
          refine wpAnyH_done (by kernel_rfl) ?_ _
          go_simp
          generalize v1.drew = v2 at *
          have HB11 : Hid (LG w v2 b2 #[.bool false, .int .i64 0, .int .i64 0, .slice none 0 0] 41) := HU.out.step HPD.out.bel
          have k0 := HB11.out.cel 0 _ rfl
          have k1 := HB11.out.cel 1 _ rfl
          have k2 := HB11.out.cel 2 _ rfl
          have k3 := HB11.out.cel 3 _ rfl
          have f0 := HB11.out.frz 0
          have f1 := HB11.out.frz 1
          have f2 := HB11.out.frz 2
          have f3 := HB11.out.frz 3
          have kl := HB11.out.lt
          have m0 := HPD.out.cel 0 _ rfl
          have m1 := HPD.out.cel 1 _ rfl
          have m2 := HPD.out.cel 2 _ rfl
          have ml := HPD.out.lt
          go_wp2
          have hk : ∀ (x : World) (k o : Nat) (y : Value) (a : Nat), k ≠ a → (x.setCell ⟨a, o, none⟩ y).heap[k]? = x.heap[k]? := fun x k o y a h => Below.heap_setCell _ _ _ _ (by simpa using h)
          refine bodyPost_ret (v := boA ⟨true, gx, gy, ds⟩ (.slice a4 n c4)) ?_ rfl ⟨_, by rw [E2.out], by rw [E2.out]; show World.ownsRow _ _ _ _ _ ds.length (dvR ds); rw [HLD.out]; first | exact own_heapN HOD.out (fun k hk2 => by have := HWQ.out.2; repeat rw [hk _ _ _ _ _ (by omega)]) HWQ.out.1 | (rw [← HB0.out]; exact own_heapN HOD.out (fun k hk2 => by have := HWQ.out.2; repeat rw [hk _ _ _ _ _ (by omega)]) HWQ.out.1), ?_⟩
          · simp [results, Try.results18, go_sem, boA, k0, k1, k2, k3]
          · first | exact (((HB11.out.bel.setCell HB11.out.ge _).setCell HB11.out.ge _).setCell HB11.out.ge _).setCell HB11.out.ge _ | exact belCast HB0.out ((((HB11.out.bel.setCell HB11.out.ge _).setCell HB11.out.ge _).setCell HB11.out.ge _).setCell HB11.out.ge _)
  · skip
    have hb : Below x0.heap.size x0 (x0.alloc (.cells #[.int .i64 0, .int .i64 0, .slice none 0 0] 29)) := bx1 _ _
    have HX1 : Hid (Below U.heap.size U (x0.alloc (.cells #[.int .i64 0, .int .i64 0, .slice none 0 0] 29))) := HX0.out.trans (hb.mono HX0.out.size)
    have HP1 : Hid (LG U (x0.alloc (.cells #[.int .i64 0, .int .i64 0, .slice none 0 0] 29)) x0.heap.size #[.int .i64 0, .int .i64 0, .slice none 0 0] 29) := ⟨HX1.out, heap_new _ _, HX0.out.size⟩
    clear hb HX0
    go_simp
    refine hK _ _ HX1.out ?_
    clear hK K
    generalize (x0.alloc (.cells #[.int .i64 0, .int .i64 0, .slice none 0 0] 29)) = x1 at *
    generalize x0.heap.size = p3 at *
    refine held_one 4 (by kernel_rfl) rfl (by kernel_rfl) fun K hK => ?_
    go_simp
    go_wp2_with (go_at_call 35; refine Calls.mono (HGX.out _) ?_; rintro e x2 ⟨rfl, hb⟩; have HX2 : Hid (Below U.heap.size U x2) := HX1.out.trans (hb.mono HX1.out.size); have HP2 : Hid (LG U x2 p3 #[.int .i64 0, .int .i64 0, .slice none 0 0] 29) := HP1.out.step hb; clear hb HX1 HP1)
    refine hK _ _ HX2.out ?_
    clear hK K
    refine held_one 9 (by kernel_rfl) rfl (by kernel_rfl) fun K hK => ?_
    go_simp
    go_wp2_with (go_at_call 35; refine Calls.mono (HGY.out _) ?_; rintro e x3 ⟨rfl, hb⟩; have HX3 : Hid (Below U.heap.size U x3) := HX2.out.trans (hb.mono HX2.out.size); have HP3 : Hid (LG U x3 p3 #[.int .i64 0, .int .i64 0, .slice none 0 0] 29) := HP2.out.step hb; clear hb HX2 HP2)
    refine hK _ _ HX3.out ?_
    clear hK K
    refine wpAnyH_take (i := 10) (v := .agg #[.int .i64 gx, .int .i64 gy, .slice none 0 0]) rfl (by kernel_rfl) (by kernel_rfl) (by kernel_rfl) (fun _ _ _ h => h) (Or.inl ⟨by kernel_rfl, fun w9 h9 => ?_⟩) HX3.out ?_
    · go_simp
    have HP9 : Hid (LG U (((x3.setCell ⟨p3, 0, none⟩ (.int .i64 gx)).setCell ⟨p3, 1, none⟩ (.int .i64 gy)).setCell ⟨p3, 2, none⟩ (.slice none 0 0)) p3 #[.int .i64 gx, .int .i64 gy, .slice none 0 0] 29) := HP3.out.set3 _ _ _
    have kp0 := HP3.out.cel 0 _ rfl
    have kp1 := HP3.out.cel 1 _ rfl
    have kp2 := HP3.out.cel 2 _ rfl
    have fp := HP3.out.frz
    have pl3 := HP3.out.lt
    refine held_one 12 (by kernel_rfl) rfl (by kernel_rfl) fun K hK => ?_
    go_simp
    go_wp2
    refine hK _ _ HP9.out.bel ?_
    clear hK K kp0 kp1 kp2 fp pl3 HP3 HX3
    generalize (((x3.setCell ⟨p3, 0, none⟩ (.int .i64 gx)).setCell ⟨p3, 1, none⟩ (.int .i64 gy)).setCell ⟨p3, 2, none⟩ (.slice none 0 0)) = y9 at *
    refine wpAnyH_done (by kernel_rfl) ?_ _
    go_simp
    obtain ⟨q9, hq9⟩ : ∃ q, y9.heap.size = q := ⟨_, rfl⟩
    have HQ9 : Hid (p3 < q9) := (show p3 < q9 by have := HP9.out.lt; omega)
    have HQY : Hid (q9 ≤ y9.heap.size) := (show q9 ≤ _ by omega)
    clear hq9
    go_upto_region 5 with fail
    go_loopw [4] (fun i wr => ∃ (k : Nat) (a4 : Option Addr) (c4 : Nat), k ≤ dvn z.body ∧ i = .int .i64 ((k * 4 : Nat) : Int) ∧ LG U wr p3 #[.int .i64 gx, .int .i64 gy, .slice a4 k c4] 29 ∧ wr.ownsRow q9 49 3 (.slice a4 k c4) k (dvR (dvl z.body k)) ∧ q9 ≤ wr.heap.size) (fun i _ => 100 - (intOf i).toNat)
    case atStart => exact ⟨0, none, 0, Nat.zero_le _, rfl, HP9.out, World.ownsRow_nil _ _ _ _, HQY.out⟩
    case round =>
      obtain ⟨k, a4, c4, hk, rfl, hpw, hown, hqs⟩ := hrel
      have HPW : Hid (LG U wr p3 #[.int .i64 gx, .int .i64 gy, .slice a4 k c4] 29) := hpw
      have HO : Hid (wr.ownsRow q9 49 3 (.slice a4 k c4) k (dvR (dvl z.body k))) := hown
      have HQS : Hid (q9 ≤ wr.heap.size) := hqs
      clear hpw hown hqs HP9 HQY
      obtain ⟨p0, p1, p2, pl⟩ := HCU.out _ HPW.out.bel
      have HKN : Hid (((k * 4 : Nat) : Int) + 4 ≤ (z.body.size : Int) ↔ k < dvn z.body) := HND.out k hk
      have hkb : k ≤ 16 := by have := HN.out; omega
      by_cases hlt : k < dvn z.body
      · have hle : ((k * 4 : Nat) : Int) + 4 ≤ (z.body.size : Int) := HKN.out.2 hlt
        have HWZ : Hid (∀ (i : Int) u, i = ((k * 4 : Nat) : Int) → Calls Try.prog 35 #[.string z.body, .int .i64 i] u fun e w' => e = .returned (.int .i64 (gwV z.body (k * 4))) ∧ Below u.heap.size u w') := fun i u hi => HGZ.out k i u hlt hi
        have hgb := gwV_b z.body (k * 4)
        have HSU : Hid (dvl z.body (k + 1) = dvl z.body k ++ [dvX (gwV z.body (k * 4))]) := dvl_succ _ _
        generalize gwV z.body (k * 4) = v at *
        have HKK : Hid (((k * 4 : Nat) : Int) = (k : Int) * 4) := (show _ = _ by omega)
        obtain ⟨j, hj⟩ : ∃ j : Nat, k * 4 = j := ⟨_, rfl⟩
        have HJ : Hid (k * 4 = j) := hj
        rw [hj] at hle HWZ
        rw [hj]
        have hjb : j ≤ 64 := by omega
        clear hj HKN
        go_wp2_with fail
        refine Calls.mono (HWZ.out _ _ (by omega)) ?_
        rintro e u1 ⟨rfl, hb⟩
        have HPX : Hid (LG U u1 p3 #[.int .i64 gx, .int .i64 gy, .slice a4 k c4] 29) := HPW.out.step hb
        have HO1 : Hid (u1.ownsRow q9 49 3 (.slice a4 k c4) k (dvR (dvl z.body k))) := own_belowN HO.out hb
        have HQ1 : Hid (q9 ≤ u1.heap.size) := (show q9 ≤ _ by have := HQS.out; have := hb.size; omega)
        clear hb HPW HO HQS p0 p1 p2 pl
        have m0 := HPX.out.cel 0 _ rfl
        have m1 := HPX.out.cel 1 _ rfl
        have m2 := HPX.out.cel 2 _ rfl
        have ml := HPX.out.lt
        have HAP : Hid _ := appDV HO1.out HQ1.out (by omega) (dvX v)
        simp only [dvX] at HAP
        have HSV : Hid (dvl z.body (k + 1) = dvl z.body k ++ [⟨v / 16777216, v % 65536, v / 65536 % 256⟩]) := HSU.out
        go_wp2_with (at_builtin; (refine wl_append_exB rfl _ _ 27 rfl _ _ rfl rfl HAP.out ?_; rintro v' u' ⟨ho, hg9⟩; obtain ⟨a5, c5, rfl⟩ := dv_sl ho; have HO2 : Hid (u'.ownsRow q9 49 3 (.slice a5 (k + 1) c5) (k + 1) (dvR (dvl z.body (k + 1)))) := (by rw [HSV.out]; exact ho); have HP2 : Hid (LG U u' p3 #[.int .i64 gx, .int .i64 gy, .slice a4 k c4] 29) := ((HPX.out.step (bx1 _ _)).growD hg9 (fun e => by have := (HO1.out.lt _ e).1; have := HQ9.out; omega) (fun j2 hj2 => by have := (HO1.out.lt _ hj2).1; have := HQ9.out; have := HPX.out.ge; omega)); have HQ2 : Hid (q9 ≤ u'.heap.size) := (show q9 ≤ _ by have h1 := HQ1.out; have h2 := hg9.size; simp at h2; omega); clear ho hg9 m0 m1 m2 ml; have n2 := HP2.out.cel 2 _ rfl; have nf := HP2.out.frz 2; have nl := HP2.out.lt))
        have hk9 : ∀ (x : World) (k o : Nat) (y : Value) (a : Nat), k ≠ a → (x.setCell ⟨a, o, none⟩ y).heap[k]? = x.heap[k]? := fun x k o y a h => Below.heap_setCell _ _ _ _ (by simpa using h)
        exact ⟨⟨k + 1, a5, c5, hlt, (by have := HJ.out; refine congrArg (Value.int .i64) ?_; omega), HP2.out.setC2 _, own_heapN HO2.out (fun j2 hj2 => by have := HQ9.out; rw [hk9 _ _ _ _ _ (by omega)]) (Nat.le_refl _), (by have := HQ2.out; simpa [World.setCell] using this)⟩, (by simp [intOf]; omega)⟩
      · have hke : k = dvn z.body := by omega
        have hnle : ¬ (((k * 4 : Nat) : Int) + 4 ≤ (z.body.size : Int)) := fun hh => hlt (HKN.out.1 hh)
        have HO9 : Hid (DVrow wr (.slice a4 (dvn z.body) c4) (dvl z.body (dvn z.body))) := DVrow.of (B := q9) (by rw [dvl_len, ← hke]; exact HO.out)
        have HOW : Hid (wr.ownsRow q9 49 3 (.slice a4 (dvn z.body) c4) (dvn z.body) (dvR (dvl z.body (dvn z.body)))) := (by rw [← hke]; exact HO.out)
        rw [hke] at HPW
        have HKD : Hid (k = dvn z.body) := hke
        obtain ⟨j, hj⟩ : ∃ j : Nat, k * 4 = j := ⟨_, rfl⟩
        rw [hj] at hnle
        rw [hj]
        have hjb : j ≤ 64 := by omega
        clear hj hke HO HKN HQS hlt hk
        have HLD : Hid ((dvl z.body (dvn z.body)).length = dvn z.body) := dvl_len _ _
        generalize dvl z.body (dvn z.body) = ds at *
        generalize dvn z.body = n at *
        have m0 := HPW.out.cel 0 _ rfl
        have m1 := HPW.out.cel 1 _ rfl
        have m2 := HPW.out.cel 2 _ rfl
        have ml := HPW.out.lt
        go_wp2_with fail
        refine Calls.mono (HTO.out _ _ _ HO9.out) ?_
        rintro e v1 ⟨tv, rfl, ho, hb⟩
        obtain ⟨a6, c6, rfl⟩ := ft_sl ho
        have HT1 : Hid (FTrow v1 (.slice a6 tt.length c6) tt) := FTrow.of ho
        have HPV : Hid (LG U v1 p3 #[.int .i64 gx, .int .i64 gy, .slice a4 n c4] 29) := HPW.out.step hb
        have HOV : Hid (v1.ownsRow q9 49 3 (.slice a4 n c4) n (dvR ds)) := own_belowN HOW.out hb
        clear ho hb HPW HOW HO9 m0 m1 m2 ml p0 p1 p2 pl
        have HWQ : Hid (w.heap.size ≤ q9 ∧ b2 < q9) := (show _ ∧ _ by have := HQ9.out; have := HPV.out.ge; have := HU.out.bel.size; have := HU.out.lt; omega)
        by_cases ht3 : tt.length = 3
        rotate_left
        · have E2 : Hid (R = boZ) := (show R = boZ by rw [E.out, tsq_no (fun e => ht3 (by rw [e]; rfl))]; rfl)
          have hd : ((tt.length : Int) != 3) = true := by simp; omega
          clear E
          go_upto_region 10 with fail
          have HV0 : Hid (Below v1.heap.size v1 v1.drew) := bdn (Below.refl _ _) 1
          have HPD : Hid (LG U v1.drew p3 #[.int .i64 gx, .int .i64 gy, .slice a4 n c4] 29) := HPV.out.drew
          have HOD : Hid (v1.drew.ownsRow q9 49 3 (.slice a4 n c4) n (dvR ds)) := HOV.out
          have HSB : Hid ((fun w9 => Below v1.heap.size v1 w9) v1.drew) := HV0.out
          refine wp_region_held (S := fun w9 => Below v1.heap.size v1 w9) (by kernel_rfl) ?_
          change wpAnyH _ _ _ _ _ _ _ _ (World.drew _)
          refine wpAnyH_take (i := 0) (v := .slice a6 tt.length c6) rfl (by kernel_rfl) (by kernel_rfl) (by kernel_rfl) (fun _ _ _ h => h) (Or.inl ⟨by kernel_rfl, fun w9 h9 => ?_⟩) HSB.out ?_
          · go_simp
          refine wpAnyH_take (i := 1) (v := .int .i64 (tt.length : Nat)) rfl (by kernel_rfl) (by kernel_rfl) (by kernel_rfl) (fun _ _ _ h => h) (Or.inl ⟨by kernel_rfl, fun w9 h9 => ?_⟩) HSB.out ?_
          · go_simp
          refine wpAnyH_take (i := 2) (v := .bool true) rfl (by kernel_rfl) (by kernel_rfl) (by kernel_rfl) (fun _ _ _ h => h) (Or.inl ⟨by kernel_rfl, fun w9 h9 => ?_⟩) HSB.out ?_
          · go_simp
          refine wpAnyH_take (i := 3) (v := .bool true) rfl (by kernel_rfl) (by kernel_rfl) (by kernel_rfl) (fun _ _ _ h => h) (Or.inl ⟨by kernel_rfl, fun w9 h9 => ?_⟩) HSB.out ?_
          · go_simp
          refine wpAnyH_take (i := 4) (v := undef) rfl (by kernel_rfl) (by kernel_rfl) (by kernel_rfl) (fun _ _ _ h => h) (Or.inr ⟨by kernel_rfl, rfl⟩) HSB.out ?_
          refine wpAnyH_take (i := 5) (v := undef) rfl (by kernel_rfl) (by kernel_rfl) (by kernel_rfl) (fun _ _ _ h => h) (Or.inr ⟨by kernel_rfl, rfl⟩) HSB.out ?_
          refine wpAnyH_take (i := 6) (v := undef) rfl (by kernel_rfl) (by kernel_rfl) (by kernel_rfl) (fun _ _ _ h => h) (Or.inr ⟨by kernel_rfl, rfl⟩) HSB.out ?_
          refine wpAnyH_take (i := 7) (v := undef) rfl (by kernel_rfl) (by kernel_rfl) (by kernel_rfl) (fun _ _ _ h => h) (Or.inr ⟨by kernel_rfl, rfl⟩) HSB.out ?_
          refine wpAnyH_take (i := 8) (v := undef) rfl (by kernel_rfl) (by kernel_rfl) (by kernel_rfl) (fun _ _ _ h => h) (Or.inr ⟨by kernel_rfl, rfl⟩) HSB.out ?_
          refine wpAnyH_take (i := 9) (v := undef) rfl (by kernel_rfl) (by kernel_rfl) (by kernel_rfl) (fun _ _ _ h => h) (Or.inr ⟨by kernel_rfl, rfl⟩) HSB.out ?_
          refine wpAnyH_take (i := 10) (v := undef) rfl (by kernel_rfl) (by kernel_rfl) (by kernel_rfl) (fun _ _ _ h => h) (Or.inr ⟨by kernel_rfl, rfl⟩) HSB.out ?_
          refine wpAnyH_take (i := 11) (v := .bool true) rfl (by kernel_rfl) (by kernel_rfl) (by kernel_rfl) (fun _ _ _ h => h) (Or.inl ⟨by kernel_rfl, fun w9 h9 => ?_⟩) HSB.out ?_
          · go_simp
          refine wpAnyH_take (i := 12) (v := .bool true) rfl (by kernel_rfl) (by kernel_rfl) (by kernel_rfl) (fun _ _ _ h => h) (Or.inl ⟨by kernel_rfl, fun w9 h9 => ?_⟩) HSB.out ?_
          · go_simp
          refine wpAnyH_take (i := 13) (v := undef) rfl (by kernel_rfl) (by kernel_rfl) (by kernel_rfl) (fun _ _ _ h => h) (Or.inr ⟨by kernel_rfl, rfl⟩) HSB.out ?_
          refine wpAnyH_take (i := 14) (v := undef) rfl (by kernel_rfl) (by kernel_rfl) (by kernel_rfl) (fun _ _ _ h => h) (Or.inr ⟨by kernel_rfl, rfl⟩) HSB.out ?_
          refine wpAnyH_take (i := 15) (v := undef) rfl (by kernel_rfl) (by kernel_rfl) (by kernel_rfl) (fun _ _ _ h => h) (Or.inr ⟨by kernel_rfl, rfl⟩) HSB.out ?_
          refine wpAnyH_take (i := 16) (v := undef) rfl (by kernel_rfl) (by kernel_rfl) (by kernel_rfl) (fun _ _ _ h => h) (Or.inr ⟨by kernel_rfl, rfl⟩) HSB.out ?_
          refine wpAnyH_take (i := 17) (v := undef) rfl (by kernel_rfl) (by kernel_rfl) (by kernel_rfl) (fun _ _ _ h => h) (Or.inr ⟨by kernel_rfl, rfl⟩) HSB.out ?_
          refine wpAnyH_take (i := 18) (v := undef) rfl (by kernel_rfl) (by kernel_rfl) (by kernel_rfl) (fun _ _ _ h => h) (Or.inr ⟨by kernel_rfl, rfl⟩) HSB.out ?_
          refine wpAnyH_take (i := 19) (v := undef) rfl (by kernel_rfl) (by kernel_rfl) (by kernel_rfl) (fun _ _ _ h => h) (Or.inr ⟨by kernel_rfl, rfl⟩) HSB.out ?_
          refine wpAnyH_take (i := 20) (v := .bool true) rfl (by kernel_rfl) (by kernel_rfl) (by kernel_rfl) (fun _ _ _ h => h) (Or.inl ⟨by kernel_rfl, fun w9 h9 => ?_⟩) HSB.out ?_
          · go_simp
          refine wpAnyH_take (i := 21) (v := .bool true) rfl (by kernel_rfl) (by kernel_rfl) (by kernel_rfl) (fun _ _ _ h => h) (Or.inl ⟨by kernel_rfl, fun w9 h9 => ?_⟩) HSB.out ?_
          · go_simp
          refine wpAnyH_take (i := 22) (v := undef) rfl (by kernel_rfl) (by kernel_rfl) (by kernel_rfl) (fun _ _ _ h => h) (Or.inr ⟨by kernel_rfl, rfl⟩) HSB.out ?_
          refine wpAnyH_take (i := 23) (v := undef) rfl (by kernel_rfl) (by kernel_rfl) (by kernel_rfl) (fun _ _ _ h => h) (Or.inr ⟨by kernel_rfl, rfl⟩) HSB.out ?_
          refine wpAnyH_take (i := 24) (v := undef) rfl (by kernel_rfl) (by kernel_rfl) (by kernel_rfl) (fun _ _ _ h => h) (Or.inr ⟨by kernel_rfl, rfl⟩) HSB.out ?_
          refine wpAnyH_take (i := 25) (v := undef) rfl (by kernel_rfl) (by kernel_rfl) (by kernel_rfl) (fun _ _ _ h => h) (Or.inr ⟨by kernel_rfl, rfl⟩) HSB.out ?_
          refine wpAnyH_take (i := 26) (v := undef) rfl (by kernel_rfl) (by kernel_rfl) (by kernel_rfl) (fun _ _ _ h => h) (Or.inr ⟨by kernel_rfl, rfl⟩) HSB.out ?_
          refine wpAnyH_take (i := 27) (v := undef) rfl (by kernel_rfl) (by kernel_rfl) (by kernel_rfl) (fun _ _ _ h => h) (Or.inr ⟨by kernel_rfl, rfl⟩) HSB.out ?_
          refine wpAnyH_take (i := 28) (v := undef) rfl (by kernel_rfl) (by kernel_rfl) (by kernel_rfl) (fun _ _ _ h => h) (Or.inr ⟨by kernel_rfl, rfl⟩) HSB.out ?_
          refine wpAnyH_take (i := 29) (v := .bool true) rfl (by kernel_rfl) (by kernel_rfl) (by kernel_rfl) (fun _ _ _ h => h) (Or.inl ⟨by kernel_rfl, fun w9 h9 => ?_⟩) HSB.out ?_
          · go_simp
          refine wpAnyH_done (by kernel_rfl) ?_ _
          go_simp
          generalize v1.drew = v2 at *
          have HB11 : Hid (LG w v2 b2 #[.bool false, .int .i64 0, .int .i64 0, .slice none 0 0] 41) := HU.out.step HPD.out.bel
          have k0 := HB11.out.cel 0 _ rfl
          have k1 := HB11.out.cel 1 _ rfl
          have k2 := HB11.out.cel 2 _ rfl
          have k3 := HB11.out.cel 3 _ rfl
          have f0 := HB11.out.frz 0
          have f1 := HB11.out.frz 1
          have f2 := HB11.out.frz 2
          have f3 := HB11.out.frz 3
          have kl := HB11.out.lt
          go_wp2
          refine bodyPost_ret (v := boA boZ (.slice none 0 0)) ?_ rfl ⟨_, by rw [E2.out], by rw [E2.out]; exact World.ownsRow_nil _ _ _ _, ?_⟩
          · simp [results, Try.results18, go_sem, boA, boZ, k0, k1, k2, k3]
          · first | exact (((HB11.out.bel.setCell HB11.out.ge _).setCell HB11.out.ge _).setCell HB11.out.ge _).setCell HB11.out.ge _ | exact belCast HB0.out ((((HB11.out.bel.setCell HB11.out.ge _).setCell HB11.out.ge _).setCell HB11.out.ge _).setCell HB11.out.ge _)
        obtain ⟨x', y', z', rfl⟩ := listF3 ht3
        have ET : Hid (tsq [x', y', z'] [x, y, z] = (teq x' x && (teq y' y && (teq z' z && true)))) := rfl
        simp only [List.length_cons, List.length_nil] at HT1 ⊢
        obtain ⟨g6, o6, cp6, hv6, _, hg6, hc6⟩ := HT1.out.resolve_left (fun h => by simp at h)
        injection hv6 with hv7 hv8 hv9
        subst hv7 hv9
        have HC6 : Hid (∀ u, Below v1.heap.size v1 u → (u.cell? ⟨g6, o6, none⟩ = some (.string x'.name) ∧ u.cell? ⟨g6, o6 + 1, none⟩ = some (.int .i64 x'.rev) ∧ u.cell? ⟨g6, o6 + 2, none⟩ = some (.string x'.body)) ∧ (u.cell? ⟨g6, o6 + 3, none⟩ = some (.string y'.name) ∧ u.cell? ⟨g6, o6 + 4, none⟩ = some (.int .i64 y'.rev) ∧ u.cell? ⟨g6, o6 + 5, none⟩ = some (.string y'.body)) ∧ (u.cell? ⟨g6, o6 + 6, none⟩ = some (.string z'.name) ∧ u.cell? ⟨g6, o6 + 7, none⟩ = some (.int .i64 z'.rev) ∧ u.cell? ⟨g6, o6 + 8, none⟩ = some (.string z'.body)) ∧ g6 < u.heap.size) := (fun u hu => by
          have c0 := hc6.below hu hg6 0 (by simp)
          have c1 := hc6.below hu hg6 1 (by simp)
          have c2 := hc6.below hu hg6 2 (by simp)
          simp only [Nat.zero_mul, Nat.add_zero, Nat.one_mul] at c0 c1 c2
          exact ⟨c0, c1, c2, Nat.lt_of_lt_of_le hg6 hu.size⟩)
        clear hc6 hv8 ht3 HT1
        cases hX : teq x' x
        · have E2 : Hid (R = boZ) := (show R = boZ by rw [E.out, ET.out, hX]; rfl)
          clear E ET
          go_upto_region 10 with fail
          have HV0 : Hid (Below v1.heap.size v1 v1.drew) := bdn (Below.refl _ _) 1
          have HPD : Hid (LG U v1.drew p3 #[.int .i64 gx, .int .i64 gy, .slice a4 n c4] 29) := HPV.out.drew
          have HOD : Hid (v1.drew.ownsRow q9 49 3 (.slice a4 n c4) n (dvR ds)) := HOV.out
          have HAV : Hid (∀ u, Below v1.heap.size v1 u → Below U.heap.size U u) := fun u hu => HPV.out.bel.trans (hu.mono HPV.out.bel.size)
          have HSB : Hid ((fun w9 => Below v1.heap.size v1 w9) v1.drew) := HV0.out
          refine wp_region_held (S := fun w9 => Below v1.heap.size v1 w9) (by kernel_rfl) ?_
          change wpAnyH _ _ _ _ _ _ _ _ (World.drew _)
          refine wpAnyH_take (i := 0) (v := .slice (some ⟨g6, o6, none⟩) 3 c6) rfl (by kernel_rfl) (by kernel_rfl) (by kernel_rfl) (fun _ _ _ h => h) (Or.inl ⟨by kernel_rfl, fun w9 h9 => ?_⟩) HSB.out ?_
          · go_simp
          refine wpAnyH_take (i := 1) (v := .int .i64 3) rfl (by kernel_rfl) (by kernel_rfl) (by kernel_rfl) (fun _ _ _ h => h) (Or.inl ⟨by kernel_rfl, fun w9 h9 => ?_⟩) HSB.out ?_
          · go_simp
          refine wpAnyH_take (i := 2) (v := .bool false) rfl (by kernel_rfl) (by kernel_rfl) (by kernel_rfl) (fun _ _ _ h => h) (Or.inl ⟨by kernel_rfl, fun w9 h9 => ?_⟩) HSB.out ?_
          · go_simp
          refine wpAnyH_take (i := 3) (v := .bool false) rfl (by kernel_rfl) (by kernel_rfl) (by kernel_rfl) (fun _ _ _ h => h) (Or.inl ⟨by kernel_rfl, fun w9 h9 => ?_⟩) HSB.out ?_
          · go_simp
          refine wpAnyH_take (i := 4) (v := .slice (some ⟨g6, o6, none⟩) 3 c6) rfl (by kernel_rfl) (by kernel_rfl) (by kernel_rfl) (fun _ _ _ h => h) (Or.inl ⟨by kernel_rfl, fun w9 h9 => ?_⟩) HSB.out ?_
          · go_simp
          refine wpAnyH_take (i := 5) (v := .pointer (some ⟨g6, o6, none⟩)) rfl (by kernel_rfl) (by kernel_rfl) (by kernel_rfl) (fun _ _ _ h => h) (Or.inl ⟨by kernel_rfl, fun w9 h9 => ?_⟩) HSB.out ?_
          · go_simp
          refine wpAnyH_take (i := 6) (v := .agg #[.string x'.name, .int .i64 x'.rev, .string x'.body]) rfl (by kernel_rfl) (by kernel_rfl) (by kernel_rfl) (fun _ _ _ h => h) (Or.inl ⟨by kernel_rfl, fun w9 h9 => ?_⟩) HSB.out ?_
          · obtain ⟨⟨c0, c1, c2⟩, ⟨c3, c4_, c5⟩, ⟨c6_, c7, c8⟩, cl⟩ := HC6.out _ h9; obtain ⟨⟨e0, e1, e2⟩, ⟨e3, e4, e5⟩, ⟨e6, e7, e8⟩, el⟩ := HAU.out _ (HAV.out _ h9); go_simp
          refine wpAnyH_take (i := 7) (v := .slice (some ⟨g, o, none⟩) 3 cap) rfl (by kernel_rfl) (by kernel_rfl) (by kernel_rfl) (fun _ _ _ h => h) (Or.inl ⟨by kernel_rfl, fun w9 h9 => ?_⟩) HSB.out ?_
          · go_simp
          refine wpAnyH_take (i := 8) (v := .pointer (some ⟨g, o, none⟩)) rfl (by kernel_rfl) (by kernel_rfl) (by kernel_rfl) (fun _ _ _ h => h) (Or.inl ⟨by kernel_rfl, fun w9 h9 => ?_⟩) HSB.out ?_
          · go_simp
          refine wpAnyH_take (i := 9) (v := .agg #[.string x.name, .int .i64 x.rev, .string x.body]) rfl (by kernel_rfl) (by kernel_rfl) (by kernel_rfl) (fun _ _ _ h => h) (Or.inl ⟨by kernel_rfl, fun w9 h9 => ?_⟩) HSB.out ?_
          · obtain ⟨⟨c0, c1, c2⟩, ⟨c3, c4_, c5⟩, ⟨c6_, c7, c8⟩, cl⟩ := HC6.out _ h9; obtain ⟨⟨e0, e1, e2⟩, ⟨e3, e4, e5⟩, ⟨e6, e7, e8⟩, el⟩ := HAU.out _ (HAV.out _ h9); go_simp
          refine wpAnyH_take (i := 10) (v := .bool true) rfl (by kernel_rfl) (by kernel_rfl) (by kernel_rfl) (fun _ _ _ h => h) (Or.inl ⟨by kernel_rfl, fun w9 h9 => ?_⟩) HSB.out ?_
          · have hf := fun u => neqFT x' x u; rw [hX] at hf; go_simp
          refine wpAnyH_take (i := 11) (v := .bool true) rfl (by kernel_rfl) (by kernel_rfl) (by kernel_rfl) (fun _ _ _ h => h) (Or.inl ⟨by kernel_rfl, fun w9 h9 => ?_⟩) HSB.out ?_
          · go_simp
          refine wpAnyH_take (i := 12) (v := .bool true) rfl (by kernel_rfl) (by kernel_rfl) (by kernel_rfl) (fun _ _ _ h => h) (Or.inl ⟨by kernel_rfl, fun w9 h9 => ?_⟩) HSB.out ?_
          · go_simp
          refine wpAnyH_take (i := 13) (v := undef) rfl (by kernel_rfl) (by kernel_rfl) (by kernel_rfl) (fun _ _ _ h => h) (Or.inr ⟨by kernel_rfl, rfl⟩) HSB.out ?_
          refine wpAnyH_take (i := 14) (v := undef) rfl (by kernel_rfl) (by kernel_rfl) (by kernel_rfl) (fun _ _ _ h => h) (Or.inr ⟨by kernel_rfl, rfl⟩) HSB.out ?_
          refine wpAnyH_take (i := 15) (v := undef) rfl (by kernel_rfl) (by kernel_rfl) (by kernel_rfl) (fun _ _ _ h => h) (Or.inr ⟨by kernel_rfl, rfl⟩) HSB.out ?_
          refine wpAnyH_take (i := 16) (v := undef) rfl (by kernel_rfl) (by kernel_rfl) (by kernel_rfl) (fun _ _ _ h => h) (Or.inr ⟨by kernel_rfl, rfl⟩) HSB.out ?_
          refine wpAnyH_take (i := 17) (v := undef) rfl (by kernel_rfl) (by kernel_rfl) (by kernel_rfl) (fun _ _ _ h => h) (Or.inr ⟨by kernel_rfl, rfl⟩) HSB.out ?_
          refine wpAnyH_take (i := 18) (v := undef) rfl (by kernel_rfl) (by kernel_rfl) (by kernel_rfl) (fun _ _ _ h => h) (Or.inr ⟨by kernel_rfl, rfl⟩) HSB.out ?_
          refine wpAnyH_take (i := 19) (v := undef) rfl (by kernel_rfl) (by kernel_rfl) (by kernel_rfl) (fun _ _ _ h => h) (Or.inr ⟨by kernel_rfl, rfl⟩) HSB.out ?_
          refine wpAnyH_take (i := 20) (v := .bool true) rfl (by kernel_rfl) (by kernel_rfl) (by kernel_rfl) (fun _ _ _ h => h) (Or.inl ⟨by kernel_rfl, fun w9 h9 => ?_⟩) HSB.out ?_
          · go_simp
          refine wpAnyH_take (i := 21) (v := .bool true) rfl (by kernel_rfl) (by kernel_rfl) (by kernel_rfl) (fun _ _ _ h => h) (Or.inl ⟨by kernel_rfl, fun w9 h9 => ?_⟩) HSB.out ?_
          · go_simp
          refine wpAnyH_take (i := 22) (v := undef) rfl (by kernel_rfl) (by kernel_rfl) (by kernel_rfl) (fun _ _ _ h => h) (Or.inr ⟨by kernel_rfl, rfl⟩) HSB.out ?_
          refine wpAnyH_take (i := 23) (v := undef) rfl (by kernel_rfl) (by kernel_rfl) (by kernel_rfl) (fun _ _ _ h => h) (Or.inr ⟨by kernel_rfl, rfl⟩) HSB.out ?_
          refine wpAnyH_take (i := 24) (v := undef) rfl (by kernel_rfl) (by kernel_rfl) (by kernel_rfl) (fun _ _ _ h => h) (Or.inr ⟨by kernel_rfl, rfl⟩) HSB.out ?_
          refine wpAnyH_take (i := 25) (v := undef) rfl (by kernel_rfl) (by kernel_rfl) (by kernel_rfl) (fun _ _ _ h => h) (Or.inr ⟨by kernel_rfl, rfl⟩) HSB.out ?_
          refine wpAnyH_take (i := 26) (v := undef) rfl (by kernel_rfl) (by kernel_rfl) (by kernel_rfl) (fun _ _ _ h => h) (Or.inr ⟨by kernel_rfl, rfl⟩) HSB.out ?_
          refine wpAnyH_take (i := 27) (v := undef) rfl (by kernel_rfl) (by kernel_rfl) (by kernel_rfl) (fun _ _ _ h => h) (Or.inr ⟨by kernel_rfl, rfl⟩) HSB.out ?_
          refine wpAnyH_take (i := 28) (v := undef) rfl (by kernel_rfl) (by kernel_rfl) (by kernel_rfl) (fun _ _ _ h => h) (Or.inr ⟨by kernel_rfl, rfl⟩) HSB.out ?_
          refine wpAnyH_take (i := 29) (v := .bool true) rfl (by kernel_rfl) (by kernel_rfl) (by kernel_rfl) (fun _ _ _ h => h) (Or.inl ⟨by kernel_rfl, fun w9 h9 => ?_⟩) HSB.out ?_
          · go_simp
          refine wpAnyH_done (by kernel_rfl) ?_ _
          go_simp
          generalize v1.drew = v2 at *
          have HB11 : Hid (LG w v2 b2 #[.bool false, .int .i64 0, .int .i64 0, .slice none 0 0] 41) := HU.out.step HPD.out.bel
          have k0 := HB11.out.cel 0 _ rfl
          have k1 := HB11.out.cel 1 _ rfl
          have k2 := HB11.out.cel 2 _ rfl
          have k3 := HB11.out.cel 3 _ rfl
          have f0 := HB11.out.frz 0
          have f1 := HB11.out.frz 1
          have f2 := HB11.out.frz 2
          have f3 := HB11.out.frz 3
          have kl := HB11.out.lt
          go_wp2
          refine bodyPost_ret (v := boA boZ (.slice none 0 0)) ?_ rfl ⟨_, by rw [E2.out], by rw [E2.out]; exact World.ownsRow_nil _ _ _ _, ?_⟩
          · simp [results, Try.results18, go_sem, boA, boZ, k0, k1, k2, k3]
          · first | exact (((HB11.out.bel.setCell HB11.out.ge _).setCell HB11.out.ge _).setCell HB11.out.ge _).setCell HB11.out.ge _ | exact belCast HB0.out ((((HB11.out.bel.setCell HB11.out.ge _).setCell HB11.out.ge _).setCell HB11.out.ge _).setCell HB11.out.ge _)
        cases hY : teq y' y
        · have E2 : Hid (R = boZ) := (show R = boZ by rw [E.out, ET.out, hX, hY]; rfl)
          clear E ET
          go_upto_region 10 with fail
          have HV0 : Hid (Below v1.heap.size v1 v1.drew) := bdn (Below.refl _ _) 1
          have HPD : Hid (LG U v1.drew p3 #[.int .i64 gx, .int .i64 gy, .slice a4 n c4] 29) := HPV.out.drew
          have HOD : Hid (v1.drew.ownsRow q9 49 3 (.slice a4 n c4) n (dvR ds)) := HOV.out
          have HAV : Hid (∀ u, Below v1.heap.size v1 u → Below U.heap.size U u) := fun u hu => HPV.out.bel.trans (hu.mono HPV.out.bel.size)
          have HSB : Hid ((fun w9 => Below v1.heap.size v1 w9) v1.drew) := HV0.out
          refine wp_region_held (S := fun w9 => Below v1.heap.size v1 w9) (by kernel_rfl) ?_
          change wpAnyH _ _ _ _ _ _ _ _ (World.drew _)
          refine wpAnyH_take (i := 0) (v := .slice (some ⟨g6, o6, none⟩) 3 c6) rfl (by kernel_rfl) (by kernel_rfl) (by kernel_rfl) (fun _ _ _ h => h) (Or.inl ⟨by kernel_rfl, fun w9 h9 => ?_⟩) HSB.out ?_
          · go_simp
          refine wpAnyH_take (i := 1) (v := .int .i64 3) rfl (by kernel_rfl) (by kernel_rfl) (by kernel_rfl) (fun _ _ _ h => h) (Or.inl ⟨by kernel_rfl, fun w9 h9 => ?_⟩) HSB.out ?_
          · go_simp
          refine wpAnyH_take (i := 2) (v := .bool false) rfl (by kernel_rfl) (by kernel_rfl) (by kernel_rfl) (fun _ _ _ h => h) (Or.inl ⟨by kernel_rfl, fun w9 h9 => ?_⟩) HSB.out ?_
          · go_simp
          refine wpAnyH_take (i := 3) (v := .bool false) rfl (by kernel_rfl) (by kernel_rfl) (by kernel_rfl) (fun _ _ _ h => h) (Or.inl ⟨by kernel_rfl, fun w9 h9 => ?_⟩) HSB.out ?_
          · go_simp
          refine wpAnyH_take (i := 4) (v := .slice (some ⟨g6, o6, none⟩) 3 c6) rfl (by kernel_rfl) (by kernel_rfl) (by kernel_rfl) (fun _ _ _ h => h) (Or.inl ⟨by kernel_rfl, fun w9 h9 => ?_⟩) HSB.out ?_
          · go_simp
          refine wpAnyH_take (i := 5) (v := .pointer (some ⟨g6, o6, none⟩)) rfl (by kernel_rfl) (by kernel_rfl) (by kernel_rfl) (fun _ _ _ h => h) (Or.inl ⟨by kernel_rfl, fun w9 h9 => ?_⟩) HSB.out ?_
          · go_simp
          refine wpAnyH_take (i := 6) (v := .agg #[.string x'.name, .int .i64 x'.rev, .string x'.body]) rfl (by kernel_rfl) (by kernel_rfl) (by kernel_rfl) (fun _ _ _ h => h) (Or.inl ⟨by kernel_rfl, fun w9 h9 => ?_⟩) HSB.out ?_
          · obtain ⟨⟨c0, c1, c2⟩, ⟨c3, c4_, c5⟩, ⟨c6_, c7, c8⟩, cl⟩ := HC6.out _ h9; obtain ⟨⟨e0, e1, e2⟩, ⟨e3, e4, e5⟩, ⟨e6, e7, e8⟩, el⟩ := HAU.out _ (HAV.out _ h9); go_simp
          refine wpAnyH_take (i := 7) (v := .slice (some ⟨g, o, none⟩) 3 cap) rfl (by kernel_rfl) (by kernel_rfl) (by kernel_rfl) (fun _ _ _ h => h) (Or.inl ⟨by kernel_rfl, fun w9 h9 => ?_⟩) HSB.out ?_
          · go_simp
          refine wpAnyH_take (i := 8) (v := .pointer (some ⟨g, o, none⟩)) rfl (by kernel_rfl) (by kernel_rfl) (by kernel_rfl) (fun _ _ _ h => h) (Or.inl ⟨by kernel_rfl, fun w9 h9 => ?_⟩) HSB.out ?_
          · go_simp
          refine wpAnyH_take (i := 9) (v := .agg #[.string x.name, .int .i64 x.rev, .string x.body]) rfl (by kernel_rfl) (by kernel_rfl) (by kernel_rfl) (fun _ _ _ h => h) (Or.inl ⟨by kernel_rfl, fun w9 h9 => ?_⟩) HSB.out ?_
          · obtain ⟨⟨c0, c1, c2⟩, ⟨c3, c4_, c5⟩, ⟨c6_, c7, c8⟩, cl⟩ := HC6.out _ h9; obtain ⟨⟨e0, e1, e2⟩, ⟨e3, e4, e5⟩, ⟨e6, e7, e8⟩, el⟩ := HAU.out _ (HAV.out _ h9); go_simp
          refine wpAnyH_take (i := 10) (v := .bool false) rfl (by kernel_rfl) (by kernel_rfl) (by kernel_rfl) (fun _ _ _ h => h) (Or.inl ⟨by kernel_rfl, fun w9 h9 => ?_⟩) HSB.out ?_
          · have hf := fun u => neqFT x' x u; rw [hX] at hf; go_simp
          refine wpAnyH_take (i := 11) (v := .bool false) rfl (by kernel_rfl) (by kernel_rfl) (by kernel_rfl) (fun _ _ _ h => h) (Or.inl ⟨by kernel_rfl, fun w9 h9 => ?_⟩) HSB.out ?_
          · go_simp
          refine wpAnyH_take (i := 12) (v := .bool false) rfl (by kernel_rfl) (by kernel_rfl) (by kernel_rfl) (fun _ _ _ h => h) (Or.inl ⟨by kernel_rfl, fun w9 h9 => ?_⟩) HSB.out ?_
          · go_simp
          refine wpAnyH_take (i := 13) (v := .slice (some ⟨g6, o6, none⟩) 3 c6) rfl (by kernel_rfl) (by kernel_rfl) (by kernel_rfl) (fun _ _ _ h => h) (Or.inl ⟨by kernel_rfl, fun w9 h9 => ?_⟩) HSB.out ?_
          · go_simp
          refine wpAnyH_take (i := 14) (v := .pointer (some ⟨g6, o6 + 3, none⟩)) rfl (by kernel_rfl) (by kernel_rfl) (by kernel_rfl) (fun _ _ _ h => h) (Or.inl ⟨by kernel_rfl, fun w9 h9 => ?_⟩) HSB.out ?_
          · go_simp
          refine wpAnyH_take (i := 15) (v := .agg #[.string y'.name, .int .i64 y'.rev, .string y'.body]) rfl (by kernel_rfl) (by kernel_rfl) (by kernel_rfl) (fun _ _ _ h => h) (Or.inl ⟨by kernel_rfl, fun w9 h9 => ?_⟩) HSB.out ?_
          · obtain ⟨⟨c0, c1, c2⟩, ⟨c3, c4_, c5⟩, ⟨c6_, c7, c8⟩, cl⟩ := HC6.out _ h9; obtain ⟨⟨e0, e1, e2⟩, ⟨e3, e4, e5⟩, ⟨e6, e7, e8⟩, el⟩ := HAU.out _ (HAV.out _ h9); go_simp
          refine wpAnyH_take (i := 16) (v := .slice (some ⟨g, o, none⟩) 3 cap) rfl (by kernel_rfl) (by kernel_rfl) (by kernel_rfl) (fun _ _ _ h => h) (Or.inl ⟨by kernel_rfl, fun w9 h9 => ?_⟩) HSB.out ?_
          · go_simp
          refine wpAnyH_take (i := 17) (v := .pointer (some ⟨g, o + 3, none⟩)) rfl (by kernel_rfl) (by kernel_rfl) (by kernel_rfl) (fun _ _ _ h => h) (Or.inl ⟨by kernel_rfl, fun w9 h9 => ?_⟩) HSB.out ?_
          · go_simp
          refine wpAnyH_take (i := 18) (v := .agg #[.string y.name, .int .i64 y.rev, .string y.body]) rfl (by kernel_rfl) (by kernel_rfl) (by kernel_rfl) (fun _ _ _ h => h) (Or.inl ⟨by kernel_rfl, fun w9 h9 => ?_⟩) HSB.out ?_
          · obtain ⟨⟨c0, c1, c2⟩, ⟨c3, c4_, c5⟩, ⟨c6_, c7, c8⟩, cl⟩ := HC6.out _ h9; obtain ⟨⟨e0, e1, e2⟩, ⟨e3, e4, e5⟩, ⟨e6, e7, e8⟩, el⟩ := HAU.out _ (HAV.out _ h9); go_simp
          refine wpAnyH_take (i := 19) (v := .bool true) rfl (by kernel_rfl) (by kernel_rfl) (by kernel_rfl) (fun _ _ _ h => h) (Or.inl ⟨by kernel_rfl, fun w9 h9 => ?_⟩) HSB.out ?_
          · have hf := fun u => neqFT y' y u; rw [hY] at hf; go_simp
          refine wpAnyH_take (i := 20) (v := .bool true) rfl (by kernel_rfl) (by kernel_rfl) (by kernel_rfl) (fun _ _ _ h => h) (Or.inl ⟨by kernel_rfl, fun w9 h9 => ?_⟩) HSB.out ?_
          · go_simp
          refine wpAnyH_take (i := 21) (v := .bool true) rfl (by kernel_rfl) (by kernel_rfl) (by kernel_rfl) (fun _ _ _ h => h) (Or.inl ⟨by kernel_rfl, fun w9 h9 => ?_⟩) HSB.out ?_
          · go_simp
          refine wpAnyH_take (i := 22) (v := undef) rfl (by kernel_rfl) (by kernel_rfl) (by kernel_rfl) (fun _ _ _ h => h) (Or.inr ⟨by kernel_rfl, rfl⟩) HSB.out ?_
          refine wpAnyH_take (i := 23) (v := undef) rfl (by kernel_rfl) (by kernel_rfl) (by kernel_rfl) (fun _ _ _ h => h) (Or.inr ⟨by kernel_rfl, rfl⟩) HSB.out ?_
          refine wpAnyH_take (i := 24) (v := undef) rfl (by kernel_rfl) (by kernel_rfl) (by kernel_rfl) (fun _ _ _ h => h) (Or.inr ⟨by kernel_rfl, rfl⟩) HSB.out ?_
          refine wpAnyH_take (i := 25) (v := undef) rfl (by kernel_rfl) (by kernel_rfl) (by kernel_rfl) (fun _ _ _ h => h) (Or.inr ⟨by kernel_rfl, rfl⟩) HSB.out ?_
          refine wpAnyH_take (i := 26) (v := undef) rfl (by kernel_rfl) (by kernel_rfl) (by kernel_rfl) (fun _ _ _ h => h) (Or.inr ⟨by kernel_rfl, rfl⟩) HSB.out ?_
          refine wpAnyH_take (i := 27) (v := undef) rfl (by kernel_rfl) (by kernel_rfl) (by kernel_rfl) (fun _ _ _ h => h) (Or.inr ⟨by kernel_rfl, rfl⟩) HSB.out ?_
          refine wpAnyH_take (i := 28) (v := undef) rfl (by kernel_rfl) (by kernel_rfl) (by kernel_rfl) (fun _ _ _ h => h) (Or.inr ⟨by kernel_rfl, rfl⟩) HSB.out ?_
          refine wpAnyH_take (i := 29) (v := .bool true) rfl (by kernel_rfl) (by kernel_rfl) (by kernel_rfl) (fun _ _ _ h => h) (Or.inl ⟨by kernel_rfl, fun w9 h9 => ?_⟩) HSB.out ?_
          · go_simp
          refine wpAnyH_done (by kernel_rfl) ?_ _
          go_simp
          generalize v1.drew = v2 at *
          have HB11 : Hid (LG w v2 b2 #[.bool false, .int .i64 0, .int .i64 0, .slice none 0 0] 41) := HU.out.step HPD.out.bel
          have k0 := HB11.out.cel 0 _ rfl
          have k1 := HB11.out.cel 1 _ rfl
          have k2 := HB11.out.cel 2 _ rfl
          have k3 := HB11.out.cel 3 _ rfl
          have f0 := HB11.out.frz 0
          have f1 := HB11.out.frz 1
          have f2 := HB11.out.frz 2
          have f3 := HB11.out.frz 3
          have kl := HB11.out.lt
          go_wp2
          refine bodyPost_ret (v := boA boZ (.slice none 0 0)) ?_ rfl ⟨_, by rw [E2.out], by rw [E2.out]; exact World.ownsRow_nil _ _ _ _, ?_⟩
          · simp [results, Try.results18, go_sem, boA, boZ, k0, k1, k2, k3]
          · first | exact (((HB11.out.bel.setCell HB11.out.ge _).setCell HB11.out.ge _).setCell HB11.out.ge _).setCell HB11.out.ge _ | exact belCast HB0.out ((((HB11.out.bel.setCell HB11.out.ge _).setCell HB11.out.ge _).setCell HB11.out.ge _).setCell HB11.out.ge _)
        cases hZ : teq z' z
        · have E2 : Hid (R = boZ) := (show R = boZ by rw [E.out, ET.out, hX, hY, hZ]; rfl)
          clear E ET
          go_upto_region 10 with fail
          have HV0 : Hid (Below v1.heap.size v1 v1.drew) := bdn (Below.refl _ _) 1
          have HPD : Hid (LG U v1.drew p3 #[.int .i64 gx, .int .i64 gy, .slice a4 n c4] 29) := HPV.out.drew
          have HOD : Hid (v1.drew.ownsRow q9 49 3 (.slice a4 n c4) n (dvR ds)) := HOV.out
          have HAV : Hid (∀ u, Below v1.heap.size v1 u → Below U.heap.size U u) := fun u hu => HPV.out.bel.trans (hu.mono HPV.out.bel.size)
          have HSB : Hid ((fun w9 => Below v1.heap.size v1 w9) v1.drew) := HV0.out
          refine wp_region_held (S := fun w9 => Below v1.heap.size v1 w9) (by kernel_rfl) ?_
          change wpAnyH _ _ _ _ _ _ _ _ (World.drew _)
          refine wpAnyH_take (i := 0) (v := .slice (some ⟨g6, o6, none⟩) 3 c6) rfl (by kernel_rfl) (by kernel_rfl) (by kernel_rfl) (fun _ _ _ h => h) (Or.inl ⟨by kernel_rfl, fun w9 h9 => ?_⟩) HSB.out ?_
          · go_simp
          refine wpAnyH_take (i := 1) (v := .int .i64 3) rfl (by kernel_rfl) (by kernel_rfl) (by kernel_rfl) (fun _ _ _ h => h) (Or.inl ⟨by kernel_rfl, fun w9 h9 => ?_⟩) HSB.out ?_
          · go_simp
          refine wpAnyH_take (i := 2) (v := .bool false) rfl (by kernel_rfl) (by kernel_rfl) (by kernel_rfl) (fun _ _ _ h => h) (Or.inl ⟨by kernel_rfl, fun w9 h9 => ?_⟩) HSB.out ?_
          · go_simp
          refine wpAnyH_take (i := 3) (v := .bool false) rfl (by kernel_rfl) (by kernel_rfl) (by kernel_rfl) (fun _ _ _ h => h) (Or.inl ⟨by kernel_rfl, fun w9 h9 => ?_⟩) HSB.out ?_
          · go_simp
          refine wpAnyH_take (i := 4) (v := .slice (some ⟨g6, o6, none⟩) 3 c6) rfl (by kernel_rfl) (by kernel_rfl) (by kernel_rfl) (fun _ _ _ h => h) (Or.inl ⟨by kernel_rfl, fun w9 h9 => ?_⟩) HSB.out ?_
          · go_simp
          refine wpAnyH_take (i := 5) (v := .pointer (some ⟨g6, o6, none⟩)) rfl (by kernel_rfl) (by kernel_rfl) (by kernel_rfl) (fun _ _ _ h => h) (Or.inl ⟨by kernel_rfl, fun w9 h9 => ?_⟩) HSB.out ?_
          · go_simp
          refine wpAnyH_take (i := 6) (v := .agg #[.string x'.name, .int .i64 x'.rev, .string x'.body]) rfl (by kernel_rfl) (by kernel_rfl) (by kernel_rfl) (fun _ _ _ h => h) (Or.inl ⟨by kernel_rfl, fun w9 h9 => ?_⟩) HSB.out ?_
          · obtain ⟨⟨c0, c1, c2⟩, ⟨c3, c4_, c5⟩, ⟨c6_, c7, c8⟩, cl⟩ := HC6.out _ h9; obtain ⟨⟨e0, e1, e2⟩, ⟨e3, e4, e5⟩, ⟨e6, e7, e8⟩, el⟩ := HAU.out _ (HAV.out _ h9); go_simp
          refine wpAnyH_take (i := 7) (v := .slice (some ⟨g, o, none⟩) 3 cap) rfl (by kernel_rfl) (by kernel_rfl) (by kernel_rfl) (fun _ _ _ h => h) (Or.inl ⟨by kernel_rfl, fun w9 h9 => ?_⟩) HSB.out ?_
          · go_simp
          refine wpAnyH_take (i := 8) (v := .pointer (some ⟨g, o, none⟩)) rfl (by kernel_rfl) (by kernel_rfl) (by kernel_rfl) (fun _ _ _ h => h) (Or.inl ⟨by kernel_rfl, fun w9 h9 => ?_⟩) HSB.out ?_
          · go_simp
          refine wpAnyH_take (i := 9) (v := .agg #[.string x.name, .int .i64 x.rev, .string x.body]) rfl (by kernel_rfl) (by kernel_rfl) (by kernel_rfl) (fun _ _ _ h => h) (Or.inl ⟨by kernel_rfl, fun w9 h9 => ?_⟩) HSB.out ?_
          · obtain ⟨⟨c0, c1, c2⟩, ⟨c3, c4_, c5⟩, ⟨c6_, c7, c8⟩, cl⟩ := HC6.out _ h9; obtain ⟨⟨e0, e1, e2⟩, ⟨e3, e4, e5⟩, ⟨e6, e7, e8⟩, el⟩ := HAU.out _ (HAV.out _ h9); go_simp
          refine wpAnyH_take (i := 10) (v := .bool false) rfl (by kernel_rfl) (by kernel_rfl) (by kernel_rfl) (fun _ _ _ h => h) (Or.inl ⟨by kernel_rfl, fun w9 h9 => ?_⟩) HSB.out ?_
          · have hf := fun u => neqFT x' x u; rw [hX] at hf; go_simp
          refine wpAnyH_take (i := 11) (v := .bool false) rfl (by kernel_rfl) (by kernel_rfl) (by kernel_rfl) (fun _ _ _ h => h) (Or.inl ⟨by kernel_rfl, fun w9 h9 => ?_⟩) HSB.out ?_
          · go_simp
          refine wpAnyH_take (i := 12) (v := .bool false) rfl (by kernel_rfl) (by kernel_rfl) (by kernel_rfl) (fun _ _ _ h => h) (Or.inl ⟨by kernel_rfl, fun w9 h9 => ?_⟩) HSB.out ?_
          · go_simp
          refine wpAnyH_take (i := 13) (v := .slice (some ⟨g6, o6, none⟩) 3 c6) rfl (by kernel_rfl) (by kernel_rfl) (by kernel_rfl) (fun _ _ _ h => h) (Or.inl ⟨by kernel_rfl, fun w9 h9 => ?_⟩) HSB.out ?_
          · go_simp
          refine wpAnyH_take (i := 14) (v := .pointer (some ⟨g6, o6 + 3, none⟩)) rfl (by kernel_rfl) (by kernel_rfl) (by kernel_rfl) (fun _ _ _ h => h) (Or.inl ⟨by kernel_rfl, fun w9 h9 => ?_⟩) HSB.out ?_
          · go_simp
          refine wpAnyH_take (i := 15) (v := .agg #[.string y'.name, .int .i64 y'.rev, .string y'.body]) rfl (by kernel_rfl) (by kernel_rfl) (by kernel_rfl) (fun _ _ _ h => h) (Or.inl ⟨by kernel_rfl, fun w9 h9 => ?_⟩) HSB.out ?_
          · obtain ⟨⟨c0, c1, c2⟩, ⟨c3, c4_, c5⟩, ⟨c6_, c7, c8⟩, cl⟩ := HC6.out _ h9; obtain ⟨⟨e0, e1, e2⟩, ⟨e3, e4, e5⟩, ⟨e6, e7, e8⟩, el⟩ := HAU.out _ (HAV.out _ h9); go_simp
          refine wpAnyH_take (i := 16) (v := .slice (some ⟨g, o, none⟩) 3 cap) rfl (by kernel_rfl) (by kernel_rfl) (by kernel_rfl) (fun _ _ _ h => h) (Or.inl ⟨by kernel_rfl, fun w9 h9 => ?_⟩) HSB.out ?_
          · go_simp
          refine wpAnyH_take (i := 17) (v := .pointer (some ⟨g, o + 3, none⟩)) rfl (by kernel_rfl) (by kernel_rfl) (by kernel_rfl) (fun _ _ _ h => h) (Or.inl ⟨by kernel_rfl, fun w9 h9 => ?_⟩) HSB.out ?_
          · go_simp
          refine wpAnyH_take (i := 18) (v := .agg #[.string y.name, .int .i64 y.rev, .string y.body]) rfl (by kernel_rfl) (by kernel_rfl) (by kernel_rfl) (fun _ _ _ h => h) (Or.inl ⟨by kernel_rfl, fun w9 h9 => ?_⟩) HSB.out ?_
          · obtain ⟨⟨c0, c1, c2⟩, ⟨c3, c4_, c5⟩, ⟨c6_, c7, c8⟩, cl⟩ := HC6.out _ h9; obtain ⟨⟨e0, e1, e2⟩, ⟨e3, e4, e5⟩, ⟨e6, e7, e8⟩, el⟩ := HAU.out _ (HAV.out _ h9); go_simp
          refine wpAnyH_take (i := 19) (v := .bool false) rfl (by kernel_rfl) (by kernel_rfl) (by kernel_rfl) (fun _ _ _ h => h) (Or.inl ⟨by kernel_rfl, fun w9 h9 => ?_⟩) HSB.out ?_
          · have hf := fun u => neqFT y' y u; rw [hY] at hf; go_simp
          refine wpAnyH_take (i := 20) (v := .bool false) rfl (by kernel_rfl) (by kernel_rfl) (by kernel_rfl) (fun _ _ _ h => h) (Or.inl ⟨by kernel_rfl, fun w9 h9 => ?_⟩) HSB.out ?_
          · go_simp
          refine wpAnyH_take (i := 21) (v := .bool false) rfl (by kernel_rfl) (by kernel_rfl) (by kernel_rfl) (fun _ _ _ h => h) (Or.inl ⟨by kernel_rfl, fun w9 h9 => ?_⟩) HSB.out ?_
          · go_simp
          refine wpAnyH_take (i := 22) (v := .slice (some ⟨g6, o6, none⟩) 3 c6) rfl (by kernel_rfl) (by kernel_rfl) (by kernel_rfl) (fun _ _ _ h => h) (Or.inl ⟨by kernel_rfl, fun w9 h9 => ?_⟩) HSB.out ?_
          · go_simp
          refine wpAnyH_take (i := 23) (v := .pointer (some ⟨g6, o6 + 6, none⟩)) rfl (by kernel_rfl) (by kernel_rfl) (by kernel_rfl) (fun _ _ _ h => h) (Or.inl ⟨by kernel_rfl, fun w9 h9 => ?_⟩) HSB.out ?_
          · go_simp
          refine wpAnyH_take (i := 24) (v := .agg #[.string z'.name, .int .i64 z'.rev, .string z'.body]) rfl (by kernel_rfl) (by kernel_rfl) (by kernel_rfl) (fun _ _ _ h => h) (Or.inl ⟨by kernel_rfl, fun w9 h9 => ?_⟩) HSB.out ?_
          · obtain ⟨⟨c0, c1, c2⟩, ⟨c3, c4_, c5⟩, ⟨c6_, c7, c8⟩, cl⟩ := HC6.out _ h9; obtain ⟨⟨e0, e1, e2⟩, ⟨e3, e4, e5⟩, ⟨e6, e7, e8⟩, el⟩ := HAU.out _ (HAV.out _ h9); go_simp
          refine wpAnyH_take (i := 25) (v := .slice (some ⟨g, o, none⟩) 3 cap) rfl (by kernel_rfl) (by kernel_rfl) (by kernel_rfl) (fun _ _ _ h => h) (Or.inl ⟨by kernel_rfl, fun w9 h9 => ?_⟩) HSB.out ?_
          · go_simp
          refine wpAnyH_take (i := 26) (v := .pointer (some ⟨g, o + 6, none⟩)) rfl (by kernel_rfl) (by kernel_rfl) (by kernel_rfl) (fun _ _ _ h => h) (Or.inl ⟨by kernel_rfl, fun w9 h9 => ?_⟩) HSB.out ?_
          · go_simp
          refine wpAnyH_take (i := 27) (v := .agg #[.string z.name, .int .i64 z.rev, .string z.body]) rfl (by kernel_rfl) (by kernel_rfl) (by kernel_rfl) (fun _ _ _ h => h) (Or.inl ⟨by kernel_rfl, fun w9 h9 => ?_⟩) HSB.out ?_
          · obtain ⟨⟨c0, c1, c2⟩, ⟨c3, c4_, c5⟩, ⟨c6_, c7, c8⟩, cl⟩ := HC6.out _ h9; obtain ⟨⟨e0, e1, e2⟩, ⟨e3, e4, e5⟩, ⟨e6, e7, e8⟩, el⟩ := HAU.out _ (HAV.out _ h9); go_simp
          refine wpAnyH_take (i := 28) (v := .bool true) rfl (by kernel_rfl) (by kernel_rfl) (by kernel_rfl) (fun _ _ _ h => h) (Or.inl ⟨by kernel_rfl, fun w9 h9 => ?_⟩) HSB.out ?_
          · have hf := fun u => neqFT z' z u; rw [hZ] at hf; go_simp
          refine wpAnyH_take (i := 29) (v := .bool true) rfl (by kernel_rfl) (by kernel_rfl) (by kernel_rfl) (fun _ _ _ h => h) (Or.inl ⟨by kernel_rfl, fun w9 h9 => ?_⟩) HSB.out ?_
          · go_simp
          refine wpAnyH_done (by kernel_rfl) ?_ _
          go_simp
          generalize v1.drew = v2 at *
          have HB11 : Hid (LG w v2 b2 #[.bool false, .int .i64 0, .int .i64 0, .slice none 0 0] 41) := HU.out.step HPD.out.bel
          have k0 := HB11.out.cel 0 _ rfl
          have k1 := HB11.out.cel 1 _ rfl
          have k2 := HB11.out.cel 2 _ rfl
          have k3 := HB11.out.cel 3 _ rfl
          have f0 := HB11.out.frz 0
          have f1 := HB11.out.frz 1
          have f2 := HB11.out.frz 2
          have f3 := HB11.out.frz 3
          have kl := HB11.out.lt
          go_wp2
          refine bodyPost_ret (v := boA boZ (.slice none 0 0)) ?_ rfl ⟨_, by rw [E2.out], by rw [E2.out]; exact World.ownsRow_nil _ _ _ _, ?_⟩
          · simp [results, Try.results18, go_sem, boA, boZ, k0, k1, k2, k3]
          · first | exact (((HB11.out.bel.setCell HB11.out.ge _).setCell HB11.out.ge _).setCell HB11.out.ge _).setCell HB11.out.ge _ | exact belCast HB0.out ((((HB11.out.bel.setCell HB11.out.ge _).setCell HB11.out.ge _).setCell HB11.out.ge _).setCell HB11.out.ge _)
        have E2 : Hid (R = ⟨true, gx, gy, ds⟩) := (show R = _ by rw [E.out, ET.out, hX, hY, hZ]; rfl)
        clear E ET
        go_upto_region 10 with fail
        have HV0 : Hid (Below v1.heap.size v1 v1.drew) := bdn (Below.refl _ _) 1
        have HPD : Hid (LG U v1.drew p3 #[.int .i64 gx, .int .i64 gy, .slice a4 n c4] 29) := HPV.out.drew
        have HOD : Hid (v1.drew.ownsRow q9 49 3 (.slice a4 n c4) n (dvR ds)) := HOV.out
        have HAV : Hid (∀ u, Below v1.heap.size v1 u → Below U.heap.size U u) := fun u hu => HPV.out.bel.trans (hu.mono HPV.out.bel.size)
        have HSB : Hid ((fun w9 => Below v1.heap.size v1 w9) v1.drew) := HV0.out
        refine wp_region_held (S := fun w9 => Below v1.heap.size v1 w9) (by kernel_rfl) ?_
        change wpAnyH _ _ _ _ _ _ _ _ (World.drew _)
        refine wpAnyH_take (i := 0) (v := .slice (some ⟨g6, o6, none⟩) 3 c6) rfl (by kernel_rfl) (by kernel_rfl) (by kernel_rfl) (fun _ _ _ h => h) (Or.inl ⟨by kernel_rfl, fun w9 h9 => ?_⟩) HSB.out ?_
        · go_simp
        refine wpAnyH_take (i := 1) (v := .int .i64 3) rfl (by kernel_rfl) (by kernel_rfl) (by kernel_rfl) (fun _ _ _ h => h) (Or.inl ⟨by kernel_rfl, fun w9 h9 => ?_⟩) HSB.out ?_
        · go_simp
        refine wpAnyH_take (i := 2) (v := .bool false) rfl (by kernel_rfl) (by kernel_rfl) (by kernel_rfl) (fun _ _ _ h => h) (Or.inl ⟨by kernel_rfl, fun w9 h9 => ?_⟩) HSB.out ?_
        · go_simp
        refine wpAnyH_take (i := 3) (v := .bool false) rfl (by kernel_rfl) (by kernel_rfl) (by kernel_rfl) (fun _ _ _ h => h) (Or.inl ⟨by kernel_rfl, fun w9 h9 => ?_⟩) HSB.out ?_
        · go_simp
        refine wpAnyH_take (i := 4) (v := .slice (some ⟨g6, o6, none⟩) 3 c6) rfl (by kernel_rfl) (by kernel_rfl) (by kernel_rfl) (fun _ _ _ h => h) (Or.inl ⟨by kernel_rfl, fun w9 h9 => ?_⟩) HSB.out ?_
        · go_simp
        refine wpAnyH_take (i := 5) (v := .pointer (some ⟨g6, o6, none⟩)) rfl (by kernel_rfl) (by kernel_rfl) (by kernel_rfl) (fun _ _ _ h => h) (Or.inl ⟨by kernel_rfl, fun w9 h9 => ?_⟩) HSB.out ?_
        · go_simp
        refine wpAnyH_take (i := 6) (v := .agg #[.string x'.name, .int .i64 x'.rev, .string x'.body]) rfl (by kernel_rfl) (by kernel_rfl) (by kernel_rfl) (fun _ _ _ h => h) (Or.inl ⟨by kernel_rfl, fun w9 h9 => ?_⟩) HSB.out ?_
        · obtain ⟨⟨c0, c1, c2⟩, ⟨c3, c4_, c5⟩, ⟨c6_, c7, c8⟩, cl⟩ := HC6.out _ h9; obtain ⟨⟨e0, e1, e2⟩, ⟨e3, e4, e5⟩, ⟨e6, e7, e8⟩, el⟩ := HAU.out _ (HAV.out _ h9); go_simp
        refine wpAnyH_take (i := 7) (v := .slice (some ⟨g, o, none⟩) 3 cap) rfl (by kernel_rfl) (by kernel_rfl) (by kernel_rfl) (fun _ _ _ h => h) (Or.inl ⟨by kernel_rfl, fun w9 h9 => ?_⟩) HSB.out ?_
        · go_simp
        refine wpAnyH_take (i := 8) (v := .pointer (some ⟨g, o, none⟩)) rfl (by kernel_rfl) (by kernel_rfl) (by kernel_rfl) (fun _ _ _ h => h) (Or.inl ⟨by kernel_rfl, fun w9 h9 => ?_⟩) HSB.out ?_
        · go_simp
        refine wpAnyH_take (i := 9) (v := .agg #[.string x.name, .int .i64 x.rev, .string x.body]) rfl (by kernel_rfl) (by kernel_rfl) (by kernel_rfl) (fun _ _ _ h => h) (Or.inl ⟨by kernel_rfl, fun w9 h9 => ?_⟩) HSB.out ?_
        · obtain ⟨⟨c0, c1, c2⟩, ⟨c3, c4_, c5⟩, ⟨c6_, c7, c8⟩, cl⟩ := HC6.out _ h9; obtain ⟨⟨e0, e1, e2⟩, ⟨e3, e4, e5⟩, ⟨e6, e7, e8⟩, el⟩ := HAU.out _ (HAV.out _ h9); go_simp
        refine wpAnyH_take (i := 10) (v := .bool false) rfl (by kernel_rfl) (by kernel_rfl) (by kernel_rfl) (fun _ _ _ h => h) (Or.inl ⟨by kernel_rfl, fun w9 h9 => ?_⟩) HSB.out ?_
        · have hf := fun u => neqFT x' x u; rw [hX] at hf; go_simp
        refine wpAnyH_take (i := 11) (v := .bool false) rfl (by kernel_rfl) (by kernel_rfl) (by kernel_rfl) (fun _ _ _ h => h) (Or.inl ⟨by kernel_rfl, fun w9 h9 => ?_⟩) HSB.out ?_
        · go_simp
        refine wpAnyH_take (i := 12) (v := .bool false) rfl (by kernel_rfl) (by kernel_rfl) (by kernel_rfl) (fun _ _ _ h => h) (Or.inl ⟨by kernel_rfl, fun w9 h9 => ?_⟩) HSB.out ?_
        · go_simp
        refine wpAnyH_take (i := 13) (v := .slice (some ⟨g6, o6, none⟩) 3 c6) rfl (by kernel_rfl) (by kernel_rfl) (by kernel_rfl) (fun _ _ _ h => h) (Or.inl ⟨by kernel_rfl, fun w9 h9 => ?_⟩) HSB.out ?_
        · go_simp
        refine wpAnyH_take (i := 14) (v := .pointer (some ⟨g6, o6 + 3, none⟩)) rfl (by kernel_rfl) (by kernel_rfl) (by kernel_rfl) (fun _ _ _ h => h) (Or.inl ⟨by kernel_rfl, fun w9 h9 => ?_⟩) HSB.out ?_
        · go_simp
        refine wpAnyH_take (i := 15) (v := .agg #[.string y'.name, .int .i64 y'.rev, .string y'.body]) rfl (by kernel_rfl) (by kernel_rfl) (by kernel_rfl) (fun _ _ _ h => h) (Or.inl ⟨by kernel_rfl, fun w9 h9 => ?_⟩) HSB.out ?_
        · obtain ⟨⟨c0, c1, c2⟩, ⟨c3, c4_, c5⟩, ⟨c6_, c7, c8⟩, cl⟩ := HC6.out _ h9; obtain ⟨⟨e0, e1, e2⟩, ⟨e3, e4, e5⟩, ⟨e6, e7, e8⟩, el⟩ := HAU.out _ (HAV.out _ h9); go_simp
        refine wpAnyH_take (i := 16) (v := .slice (some ⟨g, o, none⟩) 3 cap) rfl (by kernel_rfl) (by kernel_rfl) (by kernel_rfl) (fun _ _ _ h => h) (Or.inl ⟨by kernel_rfl, fun w9 h9 => ?_⟩) HSB.out ?_
        · go_simp
        refine wpAnyH_take (i := 17) (v := .pointer (some ⟨g, o + 3, none⟩)) rfl (by kernel_rfl) (by kernel_rfl) (by kernel_rfl) (fun _ _ _ h => h) (Or.inl ⟨by kernel_rfl, fun w9 h9 => ?_⟩) HSB.out ?_
        · go_simp
        refine wpAnyH_take (i := 18) (v := .agg #[.string y.name, .int .i64 y.rev, .string y.body]) rfl (by kernel_rfl) (by kernel_rfl) (by kernel_rfl) (fun _ _ _ h => h) (Or.inl ⟨by kernel_rfl, fun w9 h9 => ?_⟩) HSB.out ?_
        · obtain ⟨⟨c0, c1, c2⟩, ⟨c3, c4_, c5⟩, ⟨c6_, c7, c8⟩, cl⟩ := HC6.out _ h9; obtain ⟨⟨e0, e1, e2⟩, ⟨e3, e4, e5⟩, ⟨e6, e7, e8⟩, el⟩ := HAU.out _ (HAV.out _ h9); go_simp
        refine wpAnyH_take (i := 19) (v := .bool false) rfl (by kernel_rfl) (by kernel_rfl) (by kernel_rfl) (fun _ _ _ h => h) (Or.inl ⟨by kernel_rfl, fun w9 h9 => ?_⟩) HSB.out ?_
        · have hf := fun u => neqFT y' y u; rw [hY] at hf; go_simp
        refine wpAnyH_take (i := 20) (v := .bool false) rfl (by kernel_rfl) (by kernel_rfl) (by kernel_rfl) (fun _ _ _ h => h) (Or.inl ⟨by kernel_rfl, fun w9 h9 => ?_⟩) HSB.out ?_
        · go_simp
        refine wpAnyH_take (i := 21) (v := .bool false) rfl (by kernel_rfl) (by kernel_rfl) (by kernel_rfl) (fun _ _ _ h => h) (Or.inl ⟨by kernel_rfl, fun w9 h9 => ?_⟩) HSB.out ?_
        · go_simp
        refine wpAnyH_take (i := 22) (v := .slice (some ⟨g6, o6, none⟩) 3 c6) rfl (by kernel_rfl) (by kernel_rfl) (by kernel_rfl) (fun _ _ _ h => h) (Or.inl ⟨by kernel_rfl, fun w9 h9 => ?_⟩) HSB.out ?_
        · go_simp
        refine wpAnyH_take (i := 23) (v := .pointer (some ⟨g6, o6 + 6, none⟩)) rfl (by kernel_rfl) (by kernel_rfl) (by kernel_rfl) (fun _ _ _ h => h) (Or.inl ⟨by kernel_rfl, fun w9 h9 => ?_⟩) HSB.out ?_
        · go_simp
        refine wpAnyH_take (i := 24) (v := .agg #[.string z'.name, .int .i64 z'.rev, .string z'.body]) rfl (by kernel_rfl) (by kernel_rfl) (by kernel_rfl) (fun _ _ _ h => h) (Or.inl ⟨by kernel_rfl, fun w9 h9 => ?_⟩) HSB.out ?_
        · obtain ⟨⟨c0, c1, c2⟩, ⟨c3, c4_, c5⟩, ⟨c6_, c7, c8⟩, cl⟩ := HC6.out _ h9; obtain ⟨⟨e0, e1, e2⟩, ⟨e3, e4, e5⟩, ⟨e6, e7, e8⟩, el⟩ := HAU.out _ (HAV.out _ h9); go_simp
        refine wpAnyH_take (i := 25) (v := .slice (some ⟨g, o, none⟩) 3 cap) rfl (by kernel_rfl) (by kernel_rfl) (by kernel_rfl) (fun _ _ _ h => h) (Or.inl ⟨by kernel_rfl, fun w9 h9 => ?_⟩) HSB.out ?_
        · go_simp
        refine wpAnyH_take (i := 26) (v := .pointer (some ⟨g, o + 6, none⟩)) rfl (by kernel_rfl) (by kernel_rfl) (by kernel_rfl) (fun _ _ _ h => h) (Or.inl ⟨by kernel_rfl, fun w9 h9 => ?_⟩) HSB.out ?_
        · go_simp
        refine wpAnyH_take (i := 27) (v := .agg #[.string z.name, .int .i64 z.rev, .string z.body]) rfl (by kernel_rfl) (by kernel_rfl) (by kernel_rfl) (fun _ _ _ h => h) (Or.inl ⟨by kernel_rfl, fun w9 h9 => ?_⟩) HSB.out ?_
        · obtain ⟨⟨c0, c1, c2⟩, ⟨c3, c4_, c5⟩, ⟨c6_, c7, c8⟩, cl⟩ := HC6.out _ h9; obtain ⟨⟨e0, e1, e2⟩, ⟨e3, e4, e5⟩, ⟨e6, e7, e8⟩, el⟩ := HAU.out _ (HAV.out _ h9); go_simp
        refine wpAnyH_take (i := 28) (v := .bool false) rfl (by kernel_rfl) (by kernel_rfl) (by kernel_rfl) (fun _ _ _ h => h) (Or.inl ⟨by kernel_rfl, fun w9 h9 => ?_⟩) HSB.out ?_
        · have hf := fun u => neqFT z' z u; rw [hZ] at hf; go_simp
        refine wpAnyH_take (i := 29) (v := .bool false) rfl (by kernel_rfl) (by kernel_rfl) (by kernel_rfl) (fun _ _ _ h => h) (Or.inl ⟨by kernel_rfl, fun w9 h9 => ?_⟩) HSB.out ?_
        · go_simp
        refine wpAnyH_done (by kernel_rfl) ?_ _
        go_simp
        generalize v1.drew = v2 at *
        have HB11 : Hid (LG w v2 b2 #[.bool false, .int .i64 0, .int .i64 0, .slice none 0 0] 41) := HU.out.step HPD.out.bel
        have k0 := HB11.out.cel 0 _ rfl
        have k1 := HB11.out.cel 1 _ rfl
        have k2 := HB11.out.cel 2 _ rfl
        have k3 := HB11.out.cel 3 _ rfl
        have f0 := HB11.out.frz 0
        have f1 := HB11.out.frz 1
        have f2 := HB11.out.frz 2
        have f3 := HB11.out.frz 3
        have kl := HB11.out.lt
        have m0 := HPD.out.cel 0 _ rfl
        have m1 := HPD.out.cel 1 _ rfl
        have m2 := HPD.out.cel 2 _ rfl
        have ml := HPD.out.lt
        go_wp2
        have hk : ∀ (x : World) (k o : Nat) (y : Value) (a : Nat), k ≠ a → (x.setCell ⟨a, o, none⟩ y).heap[k]? = x.heap[k]? := fun x k o y a h => Below.heap_setCell _ _ _ _ (by simpa using h)
        refine bodyPost_ret (v := boA ⟨true, gx, gy, ds⟩ (.slice a4 n c4)) ?_ rfl ⟨_, by rw [E2.out], by rw [E2.out]; show World.ownsRow _ _ _ _ _ ds.length (dvR ds); rw [HLD.out]; first | exact own_heapN HOD.out (fun k hk2 => by have := HWQ.out.2; repeat rw [hk _ _ _ _ _ (by omega)]) HWQ.out.1 | (rw [← HB0.out]; exact own_heapN HOD.out (fun k hk2 => by have := HWQ.out.2; repeat rw [hk _ _ _ _ _ (by omega)]) HWQ.out.1), ?_⟩
        · simp [results, Try.results18, go_sem, boA, k0, k1, k2, k3]
        · first | exact (((HB11.out.bel.setCell HB11.out.ge _).setCell HB11.out.ge _).setCell HB11.out.ge _).setCell HB11.out.ge _ | exact belCast HB0.out ((((HB11.out.bel.setCell HB11.out.ge _).setCell HB11.out.ge _).setCell HB11.out.ge _).setCell HB11.out.ge _)
end Go.Proofs.Ytlpkkclmcgnapaa
