import Derived.Test.YtlpkkclmcgnapaaBo1
import Derived.Test.YtlpkkclmcgnapaaBd3
namespace Go.Proofs.Ytlpkkclmcgnapaa
open Go.ChangeShapes Go.WideShapes Go.ChangeAt Go.RowKit

theorem LG.set3 {w u : World} {b t : Nat} {x0 x1 x2 : Value} (h : LG w u b #[x0, x1, x2] t) (y0 y1 y2 : Value) : LG w (((u.setCell ⟨b, 0, none⟩ y0).setCell ⟨b, 1, none⟩ y1).setCell ⟨b, 2, none⟩ y2) b #[y0, y1, y2] t := by
  refine ⟨((h.bel.setCell h.ge _).setCell h.ge _).setCell h.ge _, ?_, h.ge⟩
  have h2 := h.box
  simp [World.setCell, Array.getElem?_modify, h2]
theorem LG.below {w u : World} {b t : Nat} {cs : Array Value} (h : LG w u b cs t) {v : World} (hb : Below u.heap.size u v) : LG w v b cs t := h.step hb
theorem belCast {w u : World} {B B' : Nat} (h : B = B') (hb : Below B w u) : Below B' w u := by
  rw [← h]
  exact hb
structure BO where
  good : Bool
  f : Int
  c : Int
  ds : List DV
def boZ : BO := ⟨false, 0, 0, []⟩
def boT (x y z : FT) : List FT := tbV (gwV x.body 0) (gwV y.body 0) (dvl z.body (dvn z.body))
def boV : List FT → BO
  | [x, y, z] => if tsq (boT x y z) [x, y, z] = true then ⟨true, gwV x.body 0, gwV y.body 0, dvl z.body (dvn z.body)⟩ else boZ
  | _ => boZ
def boA (o : BO) (v : Value) : Value := .agg #[.bool o.good, .int .i64 o.f, .int .i64 o.c, v]
theorem boV_no {ts : List FT} (h : ¬ ts.length = 3) : boV ts = boZ := by
  match ts, h with
  | [], _ => rfl
  | [_], _ => rfl
  | [_, _], _ => rfl
  | [_, _, _], h => exact absurd rfl h
  | _ :: _ :: _ :: _ :: _, _ => rfl
theorem boV_len (ts : List FT) : (boV ts).ds.length ≤ 16 := by
  unfold boV
  split
  · split
    · rw [dvl_len]
      unfold dvn
      omega
    · simp [boZ]
  · simp [boZ]
set_option maxRecDepth 100000 in
set_option maxHeartbeats 4000000 in
theorem implBO_any {w : World} {ao : Option Addr} {cap : Nat} {ts : List FT} (h : FTrow w (.slice ao ts.length cap) ts) (hz : ∀ t ∈ ts, t.body.size ≤ 1048576) : Calls Try.prog 20 #[.slice ao ts.length cap] w fun e w' => ∃ v, e = .returned (boA (boV ts) v) ∧ w'.ownsRow w.heap.size 49 3 v (boV ts).ds.length (dvR (boV ts).ds) ∧ Below w.heap.size w w' := by
  have HR : Hid (FTrow w (.slice ao ts.length cap) ts) := h
  have HL0 : Hid (LG w (w.alloc (.cells #[.bool false, .int .i64 0, .int .i64 0, .slice none 0 0] 41)) w.heap.size #[.bool false, .int .i64 0, .int .i64 0, .slice none 0 0] 41) := LG.new w _ _
  clear h
  by_cases h3 : ts.length = 3
  rotate_left
  · have E : Hid (boV ts = boZ) := boV_no h3
    have hd : ((ts.length : Int) != 3) = true := by simp; omega
    go_enter Try.func20, Try.ntmps20
    go_upto_region 1 with fail
    generalize (w.alloc (.cells #[.bool false, .int .i64 0, .int .i64 0, .slice none 0 0] 41)) = u0 at *
    generalize hb0 : w.heap.size = b2 at HL0 ⊢
    have k0 := HL0.out.cel 0 _ rfl
    have k1 := HL0.out.cel 1 _ rfl
    have k2 := HL0.out.cel 2 _ rfl
    have k3 := HL0.out.cel 3 _ rfl
    have f0 := HL0.out.frz 0
    have f1 := HL0.out.frz 1
    have f2 := HL0.out.frz 2
    have f3 := HL0.out.frz 3
    have kl := HL0.out.lt
    go_wp2
    refine bodyPost_ret (v := boA boZ (.slice none 0 0)) ?_ rfl ⟨_, by rw [E.out], by rw [E.out]; exact World.ownsRow_nil _ _ _ _, ?_⟩
    · simp [results, Try.results20, go_sem, boA, boZ, k0, k1, k2, k3]
    · first | exact (((HL0.out.bel.setCell HL0.out.ge _).setCell HL0.out.ge _).setCell HL0.out.ge _).setCell HL0.out.ge _ | exact hb0 ▸ (((HL0.out.bel.setCell HL0.out.ge _).setCell HL0.out.ge _).setCell HL0.out.ge _).setCell HL0.out.ge _
  obtain ⟨x, y, z, rfl⟩ := listF3 h3
  have hzz := hz z (by simp)
  simp only [List.length_cons, List.length_nil] at HR ⊢
  obtain ⟨g, o, cp, hv, _, hg, hc⟩ := HR.out.resolve_left (fun h => by simp at h)
  injection hv with hv1 hv2 hv3
  subst hv1 hv3
  have HC : Hid (∀ u, Below w.heap.size w u → u.cell? ⟨g, o + 2, none⟩ = some (.string x.body) ∧ u.cell? ⟨g, o + 5, none⟩ = some (.string y.body) ∧ u.cell? ⟨g, o + 8, none⟩ = some (.string z.body) ∧ g < u.heap.size) := (fun u hu => by
    have c0 := (hc.below hu hg 0 (by simp)).2.2
    have c1 := (hc.below hu hg 1 (by simp)).2.2
    have c2 := (hc.below hu hg 2 (by simp)).2.2
    simp only [Nat.zero_mul, Nat.add_zero, Nat.one_mul] at c0 c1 c2
    exact ⟨c0, c1, c2, Nat.lt_of_lt_of_le hg hu.size⟩)
  have HGX : Hid (∀ u, Calls Try.prog 37 #[.string x.body, .int .i64 0] u fun e w' => ∃ q, e = .returned (.agg #[.bool q, .int .i64 (gwV x.body 0)]) ∧ Below u.heap.size u w') := fun u => gw_any x.body 0 u
  have HGY : Hid (∀ u, Calls Try.prog 37 #[.string y.body, .int .i64 0] u fun e w' => ∃ q, e = .returned (.agg #[.bool q, .int .i64 (gwV y.body 0)]) ∧ Below u.heap.size u w') := fun u => gw_any y.body 0 u
  have HGD : Hid (∀ u, Calls Try.prog 38 #[.string z.body] u fun e w' => ∃ v, e = .returned v ∧ w'.ownsRow u.heap.size 49 3 v (dvn z.body) (dvR (dvl z.body (dvn z.body))) ∧ Below u.heap.size u w') := fun u => devicesOf_any z.body u hzz
  have HLD : Hid ((dvl z.body (dvn z.body)).length = dvn z.body) := dvl_len _ _
  have E : Hid (boV [x, y, z] = if tsq (tbV (gwV x.body 0) (gwV y.body 0) (dvl z.body (dvn z.body))) [x, y, z] = true then ⟨true, gwV x.body 0, gwV y.body 0, (dvl z.body (dvn z.body))⟩ else boZ) := rfl
  have HLT : Hid ((tbV (gwV x.body 0) (gwV y.body 0) (dvl z.body (dvn z.body))).length ≤ 3) := tbV_len _ _ _
  generalize hX : gwV x.body 0 = gx at *
  generalize hY : gwV y.body 0 = gy at *
  generalize hD : (dvl z.body (dvn z.body)) = ds at *
  generalize dvn z.body = n at *
  obtain rfl : ds.length = n := HLD.out
  have HTO : Hid (∀ u a4 c4, DVrow u (.slice a4 ds.length c4) ds → Calls Try.prog 12 #[.agg #[.int .i64 gx, .int .i64 gy, .slice a4 ds.length c4]] u fun e w' => ∃ v, e = .returned v ∧ w'.ownsRow u.heap.size 56 3 v (tbV gx gy ds).length (ftR (tbV gx gy ds)) ∧ Below u.heap.size u w') := fun u a4 c4 hx => implTO_any hx
  generalize tbV gx gy ds = tt at *
  generalize boV [x, y, z] = R at *
  clear hX hY hD HLD hzz hz h3 hc hv2
  go_enter Try.func20, Try.ntmps20
  go_upto_region 3 with fail
  generalize (w.alloc (.cells #[.bool false, .int .i64 0, .int .i64 0, .slice none 0 0] 41)) = u0 at *
  generalize hb0 : w.heap.size = b2 at HL0 ⊢
  have HB0 : Hid (w.heap.size = b2) := hb0
  clear hb0
  have HU : Hid (LG w u0.drew b2 #[.bool false, .int .i64 0, .int .i64 0, .slice none 0 0] 41) := HL0.out.drew
  have HB0_ : Hid (Below u0.drew.heap.size u0.drew u0.drew) := Below.refl _ _
  clear HL0
  refine wp_region_held (S := fun w9 => Below u0.drew.heap.size u0.drew w9) (by kernel_rfl) ?_
  change wpAnyH _ _ _ _ _ _ _ _ (World.drew _)
  have HCU : Hid (∀ u, Below u0.drew.heap.size u0.drew u → u.cell? ⟨g, o + 2, none⟩ = some (.string x.body) ∧ u.cell? ⟨g, o + 5, none⟩ = some (.string y.body) ∧ u.cell? ⟨g, o + 8, none⟩ = some (.string z.body) ∧ g < u.heap.size) := fun u hu => HC.out u (HU.out.bel.trans (hu.mono HU.out.bel.size))
  have HRU : Hid (∀ u, Below u0.drew.heap.size u0.drew u → FTrow u (.slice (some ⟨g, o, none⟩) 3 cap) [x, y, z]) := fun u hu => HR.out.below (HU.out.bel.trans (hu.mono HU.out.bel.size))
  generalize u0.drew = U at *
  have HX0 : Hid (Below U.heap.size U U) := HB0_.out
  obtain ⟨x0, hx0⟩ : ∃ x0, U = x0 := ⟨_, rfl⟩
  have HX0 : Hid (Below U.heap.size U x0) := (show _ by rw [← hx0]; exact Below.refl _ _)
  conv => arg 9; rw [hx0]
  clear hx0 HC HR HB0_
  refine wpAnyH_take (i := 0) (v := .slice (some ⟨g, o, none⟩) 3 cap) rfl (by kernel_rfl) (by kernel_rfl) (by kernel_rfl) (fun _ _ _ h => h) (Or.inl ⟨by kernel_rfl, fun w9 h9 => ?_⟩) HX0.out ?_
  · go_simp
  refine wpAnyH_take (i := 1) (v := .pointer (some ⟨g, o, none⟩)) rfl (by kernel_rfl) (by kernel_rfl) (by kernel_rfl) (fun _ _ _ h => h) (Or.inl ⟨by kernel_rfl, fun w9 h9 => ?_⟩) HX0.out ?_
  · go_simp
  refine wpAnyH_take (i := 2) (v := .pointer (some ⟨g, o + 2, none⟩)) rfl (by kernel_rfl) (by kernel_rfl) (by kernel_rfl) (fun _ _ _ h => h) (Or.inl ⟨by kernel_rfl, fun w9 h9 => ?_⟩) HX0.out ?_
  · go_simp
  refine wpAnyH_take (i := 3) (v := .string x.body) rfl (by kernel_rfl) (by kernel_rfl) (by kernel_rfl) (fun _ _ _ h => h) (Or.inl ⟨by kernel_rfl, fun w9 h9 => ?_⟩) HX0.out ?_
  · obtain ⟨p0, p1, p2, pl⟩ := HCU.out _ h9; clear h9; go_simp
  refine wpAnyH_take (i := 6) (v := .slice (some ⟨g, o, none⟩) 3 cap) rfl (by kernel_rfl) (by kernel_rfl) (by kernel_rfl) (fun _ _ _ h => h) (Or.inl ⟨by kernel_rfl, fun w9 h9 => ?_⟩) HX0.out ?_
  · go_simp
  refine wpAnyH_take (i := 7) (v := .pointer (some ⟨g, o + 3, none⟩)) rfl (by kernel_rfl) (by kernel_rfl) (by kernel_rfl) (fun _ _ _ h => h) (Or.inl ⟨by kernel_rfl, fun w9 h9 => ?_⟩) HX0.out ?_
  · go_simp
  refine wpAnyH_take (i := 8) (v := .pointer (some ⟨g, o + 5, none⟩)) rfl (by kernel_rfl) (by kernel_rfl) (by kernel_rfl) (fun _ _ _ h => h) (Or.inl ⟨by kernel_rfl, fun w9 h9 => ?_⟩) HX0.out ?_
  · go_simp
  refine wpAnyH_take (i := 9) (v := .string y.body) rfl (by kernel_rfl) (by kernel_rfl) (by kernel_rfl) (fun _ _ _ h => h) (Or.inl ⟨by kernel_rfl, fun w9 h9 => ?_⟩) HX0.out ?_
  · obtain ⟨p0, p1, p2, pl⟩ := HCU.out _ h9; clear h9; go_simp
  refine wpAnyH_take (i := 12) (v := .slice (some ⟨g, o, none⟩) 3 cap) rfl (by kernel_rfl) (by kernel_rfl) (by kernel_rfl) (fun _ _ _ h => h) (Or.inl ⟨by kernel_rfl, fun w9 h9 => ?_⟩) HX0.out ?_
  · go_simp
  refine wpAnyH_take (i := 13) (v := .pointer (some ⟨g, o + 6, none⟩)) rfl (by kernel_rfl) (by kernel_rfl) (by kernel_rfl) (fun _ _ _ h => h) (Or.inl ⟨by kernel_rfl, fun w9 h9 => ?_⟩) HX0.out ?_
  · go_simp
  refine wpAnyH_take (i := 14) (v := .pointer (some ⟨g, o + 8, none⟩)) rfl (by kernel_rfl) (by kernel_rfl) (by kernel_rfl) (fun _ _ _ h => h) (Or.inl ⟨by kernel_rfl, fun w9 h9 => ?_⟩) HX0.out ?_
  · go_simp
  refine wpAnyH_take (i := 15) (v := .string z.body) rfl (by kernel_rfl) (by kernel_rfl) (by kernel_rfl) (fun _ _ _ h => h) (Or.inl ⟨by kernel_rfl, fun w9 h9 => ?_⟩) HX0.out ?_
  · obtain ⟨p0, p1, p2, pl⟩ := HCU.out _ h9; clear h9; go_simp
  refine held_two21 4 18 (by kernel_rfl) rfl rfl (by kernel_rfl) (by kernel_rfl) (fun K hK => ?_) (fun K hK => ?_)
  · skip
    go_simp
    go_wp2_with (go_at_call 37; refine Calls.mono (HGX.out _) ?_; rintro e x1 ⟨gg4, rfl, hb⟩; have HX1 : Hid (Below U.heap.size U x1) := HX0.out.trans (hb.mono HX0.out.size); clear hb HX0)
    refine hK _ _ HX1.out ?_
    clear hK K
    refine wpAnyH_take (i := 5) (v := .int .i64 gx) rfl (by kernel_rfl) (by kernel_rfl) (by kernel_rfl) (fun _ _ _ h => h) (Or.inl ⟨by kernel_rfl, fun w9 h9 => ?_⟩) HX1.out ?_
    · have hf := fun u => fld1W gg4 gx u; go_simp
    refine held_two21 10 18 (by kernel_rfl) rfl rfl (by kernel_rfl) (by kernel_rfl) (fun K hK => ?_) (fun K hK => ?_)
    · skip
      go_simp
      go_wp2_with (go_at_call 37; refine Calls.mono (HGY.out _) ?_; rintro e x2 ⟨gg10, rfl, hb⟩; have HX2 : Hid (Below U.heap.size U x2) := HX1.out.trans (hb.mono HX1.out.size); clear hb HX1)
      refine hK _ _ HX2.out ?_
      clear hK K
      refine wpAnyH_take (i := 11) (v := .int .i64 gy) rfl (by kernel_rfl) (by kernel_rfl) (by kernel_rfl) (fun _ _ _ h => h) (Or.inl ⟨by kernel_rfl, fun w9 h9 => ?_⟩) HX2.out ?_
      · have hf := fun u => fld1W gg10 gy u; go_simp
      refine held_two21 16 18 (by kernel_rfl) rfl rfl (by kernel_rfl) (by kernel_rfl) (fun K hK => ?_) (fun K hK => ?_)
      · skip
        go_simp
        go_wp2_with (go_at_call 38; refine Calls.mono (HGD.out _) ?_; rintro e x3 ⟨dv, rfl, ho, hb⟩; obtain ⟨a4, c4, rfl⟩ := dv_sl ho; have HX3 : Hid (Below U.heap.size U x3) := HX2.out.trans (hb.mono HX2.out.size); have HD3 : Hid (x3.ownsRow U.heap.size 49 3 (.slice a4 ds.length c4) ds.length (dvR ds)) := own_weakN ho HX2.out.size; clear ho; clear hb HX2)
        refine hK _ _ HX3.out ?_
        clear hK K
        refine wpAnyH_take (i := 17) (v := .agg #[.int .i64 gx, .int .i64 gy, .slice a4 ds.length c4]) rfl (by kernel_rfl) (by kernel_rfl) (by kernel_rfl) (fun _ _ _ h => h) (Or.inl ⟨by kernel_rfl, fun w9 h9 => ?_⟩) HX3.out ?_
        · go_simp
        refine held_one 18 (by kernel_rfl) rfl (by kernel_rfl) fun K hK => ?_
        have hb : Below x3.heap.size x3 (x3.alloc (.cells #[.int .i64 0, .int .i64 0, .slice none 0 0] 29)) := bx1 _ _
        have HX4 : Hid (Below U.heap.size U (x3.alloc (.cells #[.int .i64 0, .int .i64 0, .slice none 0 0] 29))) := HX3.out.trans (hb.mono HX3.out.size)
        have HP4 : Hid (LG U (x3.alloc (.cells #[.int .i64 0, .int .i64 0, .slice none 0 0] 29)) x3.heap.size #[.int .i64 0, .int .i64 0, .slice none 0 0] 29) := ⟨HX4.out, heap_new _ _, HX3.out.size⟩
        have HD4 : Hid ((x3.alloc (.cells #[.int .i64 0, .int .i64 0, .slice none 0 0] 29)).ownsRow U.heap.size 49 3 (.slice a4 ds.length c4) ds.length (dvR ds)) := own_belowN HD3.out hb
        have HNE : Hid (∀ k, (Value.slice a4 ds.length c4).ownBlock = some k → k ≠ x3.heap.size) := (fun k hk => by have := (HD3.out.lt k hk).2; omega)
        clear HD3
        clear hb HX3
        go_simp
        refine hK _ _ HX4.out ?_
        clear hK K
        generalize (x3.alloc (.cells #[.int .i64 0, .int .i64 0, .slice none 0 0] 29)) = x4 at *
        generalize x3.heap.size = p3 at *
        have HP9 : Hid (LG U (((x4.setCell ⟨p3, 0, none⟩ (.int .i64 gx)).setCell ⟨p3, 1, none⟩ (.int .i64 gy)).setCell ⟨p3, 2, none⟩ (.slice a4 ds.length c4)) p3 #[.int .i64 gx, .int .i64 gy, .slice a4 ds.length c4] 29) := HP4.out.set3 _ _ _
        have hk : ∀ (x : World) (k o : Nat) (y : Value) (a : Nat), k ≠ a → (x.setCell ⟨a, o, none⟩ y).heap[k]? = x.heap[k]? := fun x k o y a h => Below.heap_setCell _ _ _ _ (by simpa using h)
        have HD9 : Hid ((((x4.setCell ⟨p3, 0, none⟩ (.int .i64 gx)).setCell ⟨p3, 1, none⟩ (.int .i64 gy)).setCell ⟨p3, 2, none⟩ (.slice a4 ds.length c4)).ownsRow U.heap.size 49 3 (.slice a4 ds.length c4) ds.length (dvR ds)) := (show _ from World.ownsRow.kept HD4.out (row := some p3) ⟨(HP9.out.bel.os).trans HX4.out.os.symm, (HP9.out.bel.tape).trans HX4.out.tape.symm, (HP9.out.bel.output).trans HX4.out.output.symm, by simp [World.setCell], fun k hk1 hk2 => by repeat rw [hk _ _ _ _ _ (fun e => hk2 (congrArg some e))]⟩ (by
          rcases hq : (Value.slice a4 ds.length c4).ownBlock with _ | k1
          · exact .inl rfl
          · exact .inr (fun e => HNE.out k1 hq (Option.some.inj e))))
        have kp0 := HP4.out.cel 0 _ rfl
        have kp1 := HP4.out.cel 1 _ rfl
        have kp2 := HP4.out.cel 2 _ rfl
        have fp := HP4.out.frz
        have pl3 := HP4.out.lt
        clear hk
        refine held_one 19 (by kernel_rfl) rfl (by kernel_rfl) fun K hK => ?_
        go_simp
        go_wp2
        refine hK _ _ HP9.out.bel ?_
        clear hK K kp0 kp1 kp2 fp pl3 HP4 HD4 HX4 HNE
        generalize (((x4.setCell ⟨p3, 0, none⟩ (.int .i64 gx)).setCell ⟨p3, 1, none⟩ (.int .i64 gy)).setCell ⟨p3, 2, none⟩ (.slice a4 ds.length c4)) = y9 at *
        refine wpAnyH_done (by kernel_rfl) ?_ _
        go_simp
        have k0 := HP9.out.cel 0 _ rfl
        have k1 := HP9.out.cel 1 _ rfl
        have k2 := HP9.out.cel 2 _ rfl
        have kl := HP9.out.lt
        go_wp2_with fail
        refine Calls.mono (HTO.out _ _ _ (DVrow.of HD9.out)) ?_
        rintro e v1 ⟨tv, rfl, ho, hb⟩
        obtain ⟨a6, c6, rfl⟩ := ft_sl ho
        have HT1 : Hid (FTrow v1 (.slice a6 tt.length c6) tt) := FTrow.of ho
        have HP10 : Hid (LG U v1 p3 #[.int .i64 gx, .int .i64 gy, .slice a4 ds.length c4] 29) := HP9.out.step hb
        have HD10 : Hid (v1.ownsRow U.heap.size 49 3 (.slice a4 ds.length c4) ds.length (dvR ds)) := own_belowN HD9.out hb
        clear ho hb HP9 HD9 k0 k1 k2 kl
        have HEQ : Hid (Calls Try.prog 39 #[.slice a6 tt.length c6, .slice (some ⟨g, o, none⟩) 3 cap] v1 fun e w' => e = .returned (.bool (tsq tt [x, y, z])) ∧ Below v1.heap.size v1 w') := equalFT_any HT1.out (HRU.out _ HP10.out.bel) (by have := HLT.out; omega)
        go_wp2_with fail
        refine Calls.mono HEQ.out ?_
        rintro e v2 ⟨rfl, hb⟩
        have HP11 : Hid (LG U v2 p3 #[.int .i64 gx, .int .i64 gy, .slice a4 ds.length c4] 29) := HP10.out.step hb
        have HD11 : Hid (v2.ownsRow U.heap.size 49 3 (.slice a4 ds.length c4) ds.length (dvR ds)) := own_belowN HD10.out hb
        clear hb HP10 HD10 HT1 HEQ
        have HB11 : Hid (LG w v2 b2 #[.bool false, .int .i64 0, .int .i64 0, .slice none 0 0] 41) := HU.out.step HP11.out.bel
        have HLU : Hid (b2 < U.heap.size) := HU.out.lt
        have HWU : Hid (w.heap.size ≤ U.heap.size) := HU.out.bel.size
        have k0 := HB11.out.cel 0 _ rfl
        have k1 := HB11.out.cel 1 _ rfl
        have k2 := HB11.out.cel 2 _ rfl
        have k3 := HB11.out.cel 3 _ rfl
        have f0 := HB11.out.frz 0
        have f1 := HB11.out.frz 1
        have f2 := HB11.out.frz 2
        have f3 := HB11.out.frz 3
        have kl := HB11.out.lt
        cases hq : tsq tt [x, y, z]
        · have E2 : Hid (R = boZ) := (show R = boZ by rw [E.out, hq]; rfl)
          clear E
          go_wp2
          refine bodyPost_ret (v := boA boZ (.slice none 0 0)) ?_ rfl ⟨_, by rw [E2.out], by rw [E2.out]; exact World.ownsRow_nil _ _ _ _, ?_⟩
          · simp [results, Try.results20, go_sem, boA, boZ, k0, k1, k2, k3]
          · first | exact (((HB11.out.bel.setCell HB11.out.ge _).setCell HB11.out.ge _).setCell HB11.out.ge _).setCell HB11.out.ge _ | exact belCast HB0.out ((((HB11.out.bel.setCell HB11.out.ge _).setCell HB11.out.ge _).setCell HB11.out.ge _).setCell HB11.out.ge _)
        · have E2 : Hid (R = ⟨true, gx, gy, ds⟩) := (show R = _ by rw [E.out, hq]; rfl)
          clear E
          have m0 := HP11.out.cel 0 _ rfl
          have m1 := HP11.out.cel 1 _ rfl
          have m2 := HP11.out.cel 2 _ rfl
          have ml := HP11.out.lt
          go_wp2
          have hk : ∀ (x : World) (k o : Nat) (y : Value) (a : Nat), k ≠ a → (x.setCell ⟨a, o, none⟩ y).heap[k]? = x.heap[k]? := fun x k o y a h => Below.heap_setCell _ _ _ _ (by simpa using h)
          refine bodyPost_ret (v := boA ⟨true, gx, gy, ds⟩ (.slice a4 ds.length c4)) ?_ rfl ⟨_, by rw [E2.out], by rw [E2.out]; first | exact own_heapN HD11.out (fun k hk2 => by have := HLU.out; repeat rw [hk _ _ _ _ _ (by omega)]) HWU.out | (rw [← HB0.out]; exact own_heapN HD11.out (fun k hk2 => by have := HLU.out; repeat rw [hk _ _ _ _ _ (by omega)]) HWU.out), ?_⟩
          · simp [results, Try.results20, go_sem, boA, k0, k1, k2, k3]
          · first | exact (((HB11.out.bel.setCell HB11.out.ge _).setCell HB11.out.ge _).setCell HB11.out.ge _).setCell HB11.out.ge _ | exact belCast HB0.out ((((HB11.out.bel.setCell HB11.out.ge _).setCell HB11.out.ge _).setCell HB11.out.ge _).setCell HB11.out.ge _)
      · skip
        have hb : Below x2.heap.size x2 (x2.alloc (.cells #[.int .i64 0, .int .i64 0, .slice none 0 0] 29)) := bx1 _ _
        have HX3 : Hid (Below U.heap.size U (x2.alloc (.cells #[.int .i64 0, .int .i64 0, .slice none 0 0] 29))) := HX2.out.trans (hb.mono HX2.out.size)
        have HP3 : Hid (LG U (x2.alloc (.cells #[.int .i64 0, .int .i64 0, .slice none 0 0] 29)) x2.heap.size #[.int .i64 0, .int .i64 0, .slice none 0 0] 29) := ⟨HX3.out, heap_new _ _, HX2.out.size⟩
        clear hb HX2
        go_simp
        refine hK _ _ HX3.out ?_
        clear hK K
        generalize (x2.alloc (.cells #[.int .i64 0, .int .i64 0, .slice none 0 0] 29)) = x3 at *
        generalize x2.heap.size = p3 at *
        refine held_one 16 (by kernel_rfl) rfl (by kernel_rfl) fun K hK => ?_
        go_simp
        go_wp2_with (go_at_call 38; refine Calls.mono (HGD.out _) ?_; rintro e x4 ⟨dv, rfl, ho, hb⟩; obtain ⟨a4, c4, rfl⟩ := dv_sl ho; have HX4 : Hid (Below U.heap.size U x4) := HX3.out.trans (hb.mono HX3.out.size); have HP4 : Hid (LG U x4 p3 #[.int .i64 0, .int .i64 0, .slice none 0 0] 29) := HP3.out.step hb; have HD4 : Hid (x4.ownsRow U.heap.size 49 3 (.slice a4 ds.length c4) ds.length (dvR ds)) := own_weakN ho HX3.out.size; have HNE : Hid (∀ k, (Value.slice a4 ds.length c4).ownBlock = some k → k ≠ p3) := (fun k hk => by have h1 := (ho.lt k hk).1; have h2 := HP3.out.lt; omega); clear ho; clear hb HX3 HP3)
        refine hK _ _ HX4.out ?_
        clear hK K
        refine wpAnyH_take (i := 17) (v := .agg #[.int .i64 gx, .int .i64 gy, .slice a4 ds.length c4]) rfl (by kernel_rfl) (by kernel_rfl) (by kernel_rfl) (fun _ _ _ h => h) (Or.inl ⟨by kernel_rfl, fun w9 h9 => ?_⟩) HX4.out ?_
        · go_simp
        have HP9 : Hid (LG U (((x4.setCell ⟨p3, 0, none⟩ (.int .i64 gx)).setCell ⟨p3, 1, none⟩ (.int .i64 gy)).setCell ⟨p3, 2, none⟩ (.slice a4 ds.length c4)) p3 #[.int .i64 gx, .int .i64 gy, .slice a4 ds.length c4] 29) := HP4.out.set3 _ _ _
        have hk : ∀ (x : World) (k o : Nat) (y : Value) (a : Nat), k ≠ a → (x.setCell ⟨a, o, none⟩ y).heap[k]? = x.heap[k]? := fun x k o y a h => Below.heap_setCell _ _ _ _ (by simpa using h)
        have HD9 : Hid ((((x4.setCell ⟨p3, 0, none⟩ (.int .i64 gx)).setCell ⟨p3, 1, none⟩ (.int .i64 gy)).setCell ⟨p3, 2, none⟩ (.slice a4 ds.length c4)).ownsRow U.heap.size 49 3 (.slice a4 ds.length c4) ds.length (dvR ds)) := (show _ from World.ownsRow.kept HD4.out (row := some p3) ⟨(HP9.out.bel.os).trans HX4.out.os.symm, (HP9.out.bel.tape).trans HX4.out.tape.symm, (HP9.out.bel.output).trans HX4.out.output.symm, by simp [World.setCell], fun k hk1 hk2 => by repeat rw [hk _ _ _ _ _ (fun e => hk2 (congrArg some e))]⟩ (by
          rcases hq : (Value.slice a4 ds.length c4).ownBlock with _ | k1
          · exact .inl rfl
          · exact .inr (fun e => HNE.out k1 hq (Option.some.inj e))))
        have kp0 := HP4.out.cel 0 _ rfl
        have kp1 := HP4.out.cel 1 _ rfl
        have kp2 := HP4.out.cel 2 _ rfl
        have fp := HP4.out.frz
        have pl3 := HP4.out.lt
        clear hk
        refine held_one 19 (by kernel_rfl) rfl (by kernel_rfl) fun K hK => ?_
        go_simp
        go_wp2
        refine hK _ _ HP9.out.bel ?_
        clear hK K kp0 kp1 kp2 fp pl3 HP4 HD4 HX4 HNE
        generalize (((x4.setCell ⟨p3, 0, none⟩ (.int .i64 gx)).setCell ⟨p3, 1, none⟩ (.int .i64 gy)).setCell ⟨p3, 2, none⟩ (.slice a4 ds.length c4)) = y9 at *
        refine wpAnyH_done (by kernel_rfl) ?_ _
        go_simp
        have k0 := HP9.out.cel 0 _ rfl
        have k1 := HP9.out.cel 1 _ rfl
        have k2 := HP9.out.cel 2 _ rfl
        have kl := HP9.out.lt
        go_wp2_with fail
        refine Calls.mono (HTO.out _ _ _ (DVrow.of HD9.out)) ?_
        rintro e v1 ⟨tv, rfl, ho, hb⟩
        obtain ⟨a6, c6, rfl⟩ := ft_sl ho
        have HT1 : Hid (FTrow v1 (.slice a6 tt.length c6) tt) := FTrow.of ho
        have HP10 : Hid (LG U v1 p3 #[.int .i64 gx, .int .i64 gy, .slice a4 ds.length c4] 29) := HP9.out.step hb
        have HD10 : Hid (v1.ownsRow U.heap.size 49 3 (.slice a4 ds.length c4) ds.length (dvR ds)) := own_belowN HD9.out hb
        clear ho hb HP9 HD9 k0 k1 k2 kl
        have HEQ : Hid (Calls Try.prog 39 #[.slice a6 tt.length c6, .slice (some ⟨g, o, none⟩) 3 cap] v1 fun e w' => e = .returned (.bool (tsq tt [x, y, z])) ∧ Below v1.heap.size v1 w') := equalFT_any HT1.out (HRU.out _ HP10.out.bel) (by have := HLT.out; omega)
        go_wp2_with fail
        refine Calls.mono HEQ.out ?_
        rintro e v2 ⟨rfl, hb⟩
        have HP11 : Hid (LG U v2 p3 #[.int .i64 gx, .int .i64 gy, .slice a4 ds.length c4] 29) := HP10.out.step hb
        have HD11 : Hid (v2.ownsRow U.heap.size 49 3 (.slice a4 ds.length c4) ds.length (dvR ds)) := own_belowN HD10.out hb
        clear hb HP10 HD10 HT1 HEQ
        have HB11 : Hid (LG w v2 b2 #[.bool false, .int .i64 0, .int .i64 0, .slice none 0 0] 41) := HU.out.step HP11.out.bel
        have HLU : Hid (b2 < U.heap.size) := HU.out.lt
        have HWU : Hid (w.heap.size ≤ U.heap.size) := HU.out.bel.size
        have k0 := HB11.out.cel 0 _ rfl
        have k1 := HB11.out.cel 1 _ rfl
        have k2 := HB11.out.cel 2 _ rfl
        have k3 := HB11.out.cel 3 _ rfl
        have f0 := HB11.out.frz 0
        have f1 := HB11.out.frz 1
        have f2 := HB11.out.frz 2
        have f3 := HB11.out.frz 3
        have kl := HB11.out.lt
        cases hq : tsq tt [x, y, z]
        · have E2 : Hid (R = boZ) := (show R = boZ by rw [E.out, hq]; rfl)
          clear E
          go_wp2
          refine bodyPost_ret (v := boA boZ (.slice none 0 0)) ?_ rfl ⟨_, by rw [E2.out], by rw [E2.out]; exact World.ownsRow_nil _ _ _ _, ?_⟩
          · simp [results, Try.results20, go_sem, boA, boZ, k0, k1, k2, k3]
          · first | exact (((HB11.out.bel.setCell HB11.out.ge _).setCell HB11.out.ge _).setCell HB11.out.ge _).setCell HB11.out.ge _ | exact belCast HB0.out ((((HB11.out.bel.setCell HB11.out.ge _).setCell HB11.out.ge _).setCell HB11.out.ge _).setCell HB11.out.ge _)
        · have E2 : Hid (R = ⟨true, gx, gy, ds⟩) := (show R = _ by rw [E.out, hq]; rfl)
          clear E
          have m0 := HP11.out.cel 0 _ rfl
          have m1 := HP11.out.cel 1 _ rfl
          have m2 := HP11.out.cel 2 _ rfl
          have ml := HP11.out.lt
          go_wp2
          have hk : ∀ (x : World) (k o : Nat) (y : Value) (a : Nat), k ≠ a → (x.setCell ⟨a, o, none⟩ y).heap[k]? = x.heap[k]? := fun x k o y a h => Below.heap_setCell _ _ _ _ (by simpa using h)
          refine bodyPost_ret (v := boA ⟨true, gx, gy, ds⟩ (.slice a4 ds.length c4)) ?_ rfl ⟨_, by rw [E2.out], by rw [E2.out]; first | exact own_heapN HD11.out (fun k hk2 => by have := HLU.out; repeat rw [hk _ _ _ _ _ (by omega)]) HWU.out | (rw [← HB0.out]; exact own_heapN HD11.out (fun k hk2 => by have := HLU.out; repeat rw [hk _ _ _ _ _ (by omega)]) HWU.out), ?_⟩
          · simp [results, Try.results20, go_sem, boA, k0, k1, k2, k3]
          · first | exact (((HB11.out.bel.setCell HB11.out.ge _).setCell HB11.out.ge _).setCell HB11.out.ge _).setCell HB11.out.ge _ | exact belCast HB0.out ((((HB11.out.bel.setCell HB11.out.ge _).setCell HB11.out.ge _).setCell HB11.out.ge _).setCell HB11.out.ge _)
    · skip
      have hb : Below x1.heap.size x1 (x1.alloc (.cells #[.int .i64 0, .int .i64 0, .slice none 0 0] 29)) := bx1 _ _
      have HX2 : Hid (Below U.heap.size U (x1.alloc (.cells #[.int .i64 0, .int .i64 0, .slice none 0 0] 29))) := HX1.out.trans (hb.mono HX1.out.size)
      have HP2 : Hid (LG U (x1.alloc (.cells #[.int .i64 0, .int .i64 0, .slice none 0 0] 29)) x1.heap.size #[.int .i64 0, .int .i64 0, .slice none 0 0] 29) := ⟨HX2.out, heap_new _ _, HX1.out.size⟩
      clear hb HX1
      go_simp
      refine hK _ _ HX2.out ?_
      clear hK K
      generalize (x1.alloc (.cells #[.int .i64 0, .int .i64 0, .slice none 0 0] 29)) = x2 at *
      generalize x1.heap.size = p3 at *
      refine held_one 10 (by kernel_rfl) rfl (by kernel_rfl) fun K hK => ?_
      go_simp
      go_wp2_with (go_at_call 37; refine Calls.mono (HGY.out _) ?_; rintro e x3 ⟨gg10, rfl, hb⟩; have HX3 : Hid (Below U.heap.size U x3) := HX2.out.trans (hb.mono HX2.out.size); have HP3 : Hid (LG U x3 p3 #[.int .i64 0, .int .i64 0, .slice none 0 0] 29) := HP2.out.step hb; clear hb HX2 HP2)
      refine hK _ _ HX3.out ?_
      clear hK K
      refine wpAnyH_take (i := 11) (v := .int .i64 gy) rfl (by kernel_rfl) (by kernel_rfl) (by kernel_rfl) (fun _ _ _ h => h) (Or.inl ⟨by kernel_rfl, fun w9 h9 => ?_⟩) HX3.out ?_
      · have hf := fun u => fld1W gg10 gy u; go_simp
      refine held_one 16 (by kernel_rfl) rfl (by kernel_rfl) fun K hK => ?_
      go_simp
      go_wp2_with (go_at_call 38; refine Calls.mono (HGD.out _) ?_; rintro e x4 ⟨dv, rfl, ho, hb⟩; obtain ⟨a4, c4, rfl⟩ := dv_sl ho; have HX4 : Hid (Below U.heap.size U x4) := HX3.out.trans (hb.mono HX3.out.size); have HP4 : Hid (LG U x4 p3 #[.int .i64 0, .int .i64 0, .slice none 0 0] 29) := HP3.out.step hb; have HD4 : Hid (x4.ownsRow U.heap.size 49 3 (.slice a4 ds.length c4) ds.length (dvR ds)) := own_weakN ho HX3.out.size; have HNE : Hid (∀ k, (Value.slice a4 ds.length c4).ownBlock = some k → k ≠ p3) := (fun k hk => by have h1 := (ho.lt k hk).1; have h2 := HP3.out.lt; omega); clear ho; clear hb HX3 HP3)
      refine hK _ _ HX4.out ?_
      clear hK K
      refine wpAnyH_take (i := 17) (v := .agg #[.int .i64 gx, .int .i64 gy, .slice a4 ds.length c4]) rfl (by kernel_rfl) (by kernel_rfl) (by kernel_rfl) (fun _ _ _ h => h) (Or.inl ⟨by kernel_rfl, fun w9 h9 => ?_⟩) HX4.out ?_
      · go_simp
      have HP9 : Hid (LG U (((x4.setCell ⟨p3, 0, none⟩ (.int .i64 gx)).setCell ⟨p3, 1, none⟩ (.int .i64 gy)).setCell ⟨p3, 2, none⟩ (.slice a4 ds.length c4)) p3 #[.int .i64 gx, .int .i64 gy, .slice a4 ds.length c4] 29) := HP4.out.set3 _ _ _
      have hk : ∀ (x : World) (k o : Nat) (y : Value) (a : Nat), k ≠ a → (x.setCell ⟨a, o, none⟩ y).heap[k]? = x.heap[k]? := fun x k o y a h => Below.heap_setCell _ _ _ _ (by simpa using h)
      have HD9 : Hid ((((x4.setCell ⟨p3, 0, none⟩ (.int .i64 gx)).setCell ⟨p3, 1, none⟩ (.int .i64 gy)).setCell ⟨p3, 2, none⟩ (.slice a4 ds.length c4)).ownsRow U.heap.size 49 3 (.slice a4 ds.length c4) ds.length (dvR ds)) := (show _ from World.ownsRow.kept HD4.out (row := some p3) ⟨(HP9.out.bel.os).trans HX4.out.os.symm, (HP9.out.bel.tape).trans HX4.out.tape.symm, (HP9.out.bel.output).trans HX4.out.output.symm, by simp [World.setCell], fun k hk1 hk2 => by repeat rw [hk _ _ _ _ _ (fun e => hk2 (congrArg some e))]⟩ (by
        rcases hq : (Value.slice a4 ds.length c4).ownBlock with _ | k1
        · exact .inl rfl
        · exact .inr (fun e => HNE.out k1 hq (Option.some.inj e))))
      have kp0 := HP4.out.cel 0 _ rfl
      have kp1 := HP4.out.cel 1 _ rfl
      have kp2 := HP4.out.cel 2 _ rfl
      have fp := HP4.out.frz
      have pl3 := HP4.out.lt
      clear hk
      refine held_one 19 (by kernel_rfl) rfl (by kernel_rfl) fun K hK => ?_
      go_simp
      go_wp2
      refine hK _ _ HP9.out.bel ?_
      clear hK K kp0 kp1 kp2 fp pl3 HP4 HD4 HX4 HNE
      generalize (((x4.setCell ⟨p3, 0, none⟩ (.int .i64 gx)).setCell ⟨p3, 1, none⟩ (.int .i64 gy)).setCell ⟨p3, 2, none⟩ (.slice a4 ds.length c4)) = y9 at *
      refine wpAnyH_done (by kernel_rfl) ?_ _
      go_simp
      have k0 := HP9.out.cel 0 _ rfl
      have k1 := HP9.out.cel 1 _ rfl
      have k2 := HP9.out.cel 2 _ rfl
      have kl := HP9.out.lt
      go_wp2_with fail
      refine Calls.mono (HTO.out _ _ _ (DVrow.of HD9.out)) ?_
      rintro e v1 ⟨tv, rfl, ho, hb⟩
      obtain ⟨a6, c6, rfl⟩ := ft_sl ho
      have HT1 : Hid (FTrow v1 (.slice a6 tt.length c6) tt) := FTrow.of ho
      have HP10 : Hid (LG U v1 p3 #[.int .i64 gx, .int .i64 gy, .slice a4 ds.length c4] 29) := HP9.out.step hb
      have HD10 : Hid (v1.ownsRow U.heap.size 49 3 (.slice a4 ds.length c4) ds.length (dvR ds)) := own_belowN HD9.out hb
      clear ho hb HP9 HD9 k0 k1 k2 kl
      have HEQ : Hid (Calls Try.prog 39 #[.slice a6 tt.length c6, .slice (some ⟨g, o, none⟩) 3 cap] v1 fun e w' => e = .returned (.bool (tsq tt [x, y, z])) ∧ Below v1.heap.size v1 w') := equalFT_any HT1.out (HRU.out _ HP10.out.bel) (by have := HLT.out; omega)
      go_wp2_with fail
      refine Calls.mono HEQ.out ?_
      rintro e v2 ⟨rfl, hb⟩
      have HP11 : Hid (LG U v2 p3 #[.int .i64 gx, .int .i64 gy, .slice a4 ds.length c4] 29) := HP10.out.step hb
      have HD11 : Hid (v2.ownsRow U.heap.size 49 3 (.slice a4 ds.length c4) ds.length (dvR ds)) := own_belowN HD10.out hb
      clear hb HP10 HD10 HT1 HEQ
      have HB11 : Hid (LG w v2 b2 #[.bool false, .int .i64 0, .int .i64 0, .slice none 0 0] 41) := HU.out.step HP11.out.bel
      have HLU : Hid (b2 < U.heap.size) := HU.out.lt
      have HWU : Hid (w.heap.size ≤ U.heap.size) := HU.out.bel.size
      have k0 := HB11.out.cel 0 _ rfl
      have k1 := HB11.out.cel 1 _ rfl
      have k2 := HB11.out.cel 2 _ rfl
      have k3 := HB11.out.cel 3 _ rfl
      have f0 := HB11.out.frz 0
      have f1 := HB11.out.frz 1
      have f2 := HB11.out.frz 2
      have f3 := HB11.out.frz 3
      have kl := HB11.out.lt
      cases hq : tsq tt [x, y, z]
      · have E2 : Hid (R = boZ) := (show R = boZ by rw [E.out, hq]; rfl)
        clear E
        go_wp2
        refine bodyPost_ret (v := boA boZ (.slice none 0 0)) ?_ rfl ⟨_, by rw [E2.out], by rw [E2.out]; exact World.ownsRow_nil _ _ _ _, ?_⟩
        · simp [results, Try.results20, go_sem, boA, boZ, k0, k1, k2, k3]
        · first | exact (((HB11.out.bel.setCell HB11.out.ge _).setCell HB11.out.ge _).setCell HB11.out.ge _).setCell HB11.out.ge _ | exact belCast HB0.out ((((HB11.out.bel.setCell HB11.out.ge _).setCell HB11.out.ge _).setCell HB11.out.ge _).setCell HB11.out.ge _)
      · have E2 : Hid (R = ⟨true, gx, gy, ds⟩) := (show R = _ by rw [E.out, hq]; rfl)
        clear E
        have m0 := HP11.out.cel 0 _ rfl
        have m1 := HP11.out.cel 1 _ rfl
        have m2 := HP11.out.cel 2 _ rfl
        have ml := HP11.out.lt
        go_wp2
        have hk : ∀ (x : World) (k o : Nat) (y : Value) (a : Nat), k ≠ a → (x.setCell ⟨a, o, none⟩ y).heap[k]? = x.heap[k]? := fun x k o y a h => Below.heap_setCell _ _ _ _ (by simpa using h)
        refine bodyPost_ret (v := boA ⟨true, gx, gy, ds⟩ (.slice a4 ds.length c4)) ?_ rfl ⟨_, by rw [E2.out], by rw [E2.out]; first | exact own_heapN HD11.out (fun k hk2 => by have := HLU.out; repeat rw [hk _ _ _ _ _ (by omega)]) HWU.out | (rw [← HB0.out]; exact own_heapN HD11.out (fun k hk2 => by have := HLU.out; repeat rw [hk _ _ _ _ _ (by omega)]) HWU.out), ?_⟩
        · simp [results, Try.results20, go_sem, boA, k0, k1, k2, k3]
        · first | exact (((HB11.out.bel.setCell HB11.out.ge _).setCell HB11.out.ge _).setCell HB11.out.ge _).setCell HB11.out.ge _ | exact belCast HB0.out ((((HB11.out.bel.setCell HB11.out.ge _).setCell HB11.out.ge _).setCell HB11.out.ge _).setCell HB11.out.ge _)
  · skip
    have hb : Below x0.heap.size x0 (x0.alloc (.cells #[.int .i64 0, .int .i64 0, .slice none 0 0] 29)) := bx1 _ _
    have HX1 : Hid (Below U.heap.size U (x0.alloc (.cells #[.int .i64 0, .int .i64 0, .slice none 0 0] 29))) := HX0.out.trans (hb.mono HX0.out.size)
    have HP1 : Hid (LG U (x0.alloc (.cells #[.int .i64 0, .int .i64 0, .slice none 0 0] 29)) x0.heap.size #[.int .i64 0, .int .i64 0, .slice none 0 0] 29) := ⟨HX1.out, heap_new _ _, HX0.out.size⟩
    clear hb HX0
    go_simp
    refine hK _ _ HX1.out ?_
    clear hK K
    generalize (x0.alloc (.cells #[.int .i64 0, .int .i64 0, .slice none 0 0] 29)) = x1 at *
    generalize x0.heap.size = p3 at *
    refine held_one 4 (by kernel_rfl) rfl (by kernel_rfl) fun K hK => ?_
    go_simp
    go_wp2_with (go_at_call 37; refine Calls.mono (HGX.out _) ?_; rintro e x2 ⟨gg4, rfl, hb⟩; have HX2 : Hid (Below U.heap.size U x2) := HX1.out.trans (hb.mono HX1.out.size); have HP2 : Hid (LG U x2 p3 #[.int .i64 0, .int .i64 0, .slice none 0 0] 29) := HP1.out.step hb; clear hb HX1 HP1)
    refine hK _ _ HX2.out ?_
    clear hK K
    refine wpAnyH_take (i := 5) (v := .int .i64 gx) rfl (by kernel_rfl) (by kernel_rfl) (by kernel_rfl) (fun _ _ _ h => h) (Or.inl ⟨by kernel_rfl, fun w9 h9 => ?_⟩) HX2.out ?_
    · have hf := fun u => fld1W gg4 gx u; go_simp
    refine held_one 10 (by kernel_rfl) rfl (by kernel_rfl) fun K hK => ?_
    go_simp
    go_wp2_with (go_at_call 37; refine Calls.mono (HGY.out _) ?_; rintro e x3 ⟨gg10, rfl, hb⟩; have HX3 : Hid (Below U.heap.size U x3) := HX2.out.trans (hb.mono HX2.out.size); have HP3 : Hid (LG U x3 p3 #[.int .i64 0, .int .i64 0, .slice none 0 0] 29) := HP2.out.step hb; clear hb HX2 HP2)
    refine hK _ _ HX3.out ?_
    clear hK K
    refine wpAnyH_take (i := 11) (v := .int .i64 gy) rfl (by kernel_rfl) (by kernel_rfl) (by kernel_rfl) (fun _ _ _ h => h) (Or.inl ⟨by kernel_rfl, fun w9 h9 => ?_⟩) HX3.out ?_
    · have hf := fun u => fld1W gg10 gy u; go_simp
    refine held_one 16 (by kernel_rfl) rfl (by kernel_rfl) fun K hK => ?_
    go_simp
    go_wp2_with (go_at_call 38; refine Calls.mono (HGD.out _) ?_; rintro e x4 ⟨dv, rfl, ho, hb⟩; obtain ⟨a4, c4, rfl⟩ := dv_sl ho; have HX4 : Hid (Below U.heap.size U x4) := HX3.out.trans (hb.mono HX3.out.size); have HP4 : Hid (LG U x4 p3 #[.int .i64 0, .int .i64 0, .slice none 0 0] 29) := HP3.out.step hb; have HD4 : Hid (x4.ownsRow U.heap.size 49 3 (.slice a4 ds.length c4) ds.length (dvR ds)) := own_weakN ho HX3.out.size; have HNE : Hid (∀ k, (Value.slice a4 ds.length c4).ownBlock = some k → k ≠ p3) := (fun k hk => by have h1 := (ho.lt k hk).1; have h2 := HP3.out.lt; omega); clear ho; clear hb HX3 HP3)
    refine hK _ _ HX4.out ?_
    clear hK K
    refine wpAnyH_take (i := 17) (v := .agg #[.int .i64 gx, .int .i64 gy, .slice a4 ds.length c4]) rfl (by kernel_rfl) (by kernel_rfl) (by kernel_rfl) (fun _ _ _ h => h) (Or.inl ⟨by kernel_rfl, fun w9 h9 => ?_⟩) HX4.out ?_
    · go_simp
    have HP9 : Hid (LG U (((x4.setCell ⟨p3, 0, none⟩ (.int .i64 gx)).setCell ⟨p3, 1, none⟩ (.int .i64 gy)).setCell ⟨p3, 2, none⟩ (.slice a4 ds.length c4)) p3 #[.int .i64 gx, .int .i64 gy, .slice a4 ds.length c4] 29) := HP4.out.set3 _ _ _
    have hk : ∀ (x : World) (k o : Nat) (y : Value) (a : Nat), k ≠ a → (x.setCell ⟨a, o, none⟩ y).heap[k]? = x.heap[k]? := fun x k o y a h => Below.heap_setCell _ _ _ _ (by simpa using h)
    have HD9 : Hid ((((x4.setCell ⟨p3, 0, none⟩ (.int .i64 gx)).setCell ⟨p3, 1, none⟩ (.int .i64 gy)).setCell ⟨p3, 2, none⟩ (.slice a4 ds.length c4)).ownsRow U.heap.size 49 3 (.slice a4 ds.length c4) ds.length (dvR ds)) := (show _ from World.ownsRow.kept HD4.out (row := some p3) ⟨(HP9.out.bel.os).trans HX4.out.os.symm, (HP9.out.bel.tape).trans HX4.out.tape.symm, (HP9.out.bel.output).trans HX4.out.output.symm, by simp [World.setCell], fun k hk1 hk2 => by repeat rw [hk _ _ _ _ _ (fun e => hk2 (congrArg some e))]⟩ (by
      rcases hq : (Value.slice a4 ds.length c4).ownBlock with _ | k1
      · exact .inl rfl
      · exact .inr (fun e => HNE.out k1 hq (Option.some.inj e))))
    have kp0 := HP4.out.cel 0 _ rfl
    have kp1 := HP4.out.cel 1 _ rfl
    have kp2 := HP4.out.cel 2 _ rfl
    have fp := HP4.out.frz
    have pl3 := HP4.out.lt
    clear hk
    refine held_one 19 (by kernel_rfl) rfl (by kernel_rfl) fun K hK => ?_
    go_simp
    go_wp2
    refine hK _ _ HP9.out.bel ?_
    clear hK K kp0 kp1 kp2 fp pl3 HP4 HD4 HX4 HNE
    generalize (((x4.setCell ⟨p3, 0, none⟩ (.int .i64 gx)).setCell ⟨p3, 1, none⟩ (.int .i64 gy)).setCell ⟨p3, 2, none⟩ (.slice a4 ds.length c4)) = y9 at *
    refine wpAnyH_done (by kernel_rfl) ?_ _
    go_simp
    have k0 := HP9.out.cel 0 _ rfl
    have k1 := HP9.out.cel 1 _ rfl
    have k2 := HP9.out.cel 2 _ rfl
    have kl := HP9.out.lt
    go_wp2_with fail
    refine Calls.mono (HTO.out _ _ _ (DVrow.of HD9.out)) ?_
    rintro e v1 ⟨tv, rfl, ho, hb⟩
    obtain ⟨a6, c6, rfl⟩ := ft_sl ho
    have HT1 : Hid (FTrow v1 (.slice a6 tt.length c6) tt) := FTrow.of ho
    have HP10 : Hid (LG U v1 p3 #[.int .i64 gx, .int .i64 gy, .slice a4 ds.length c4] 29) := HP9.out.step hb
    have HD10 : Hid (v1.ownsRow U.heap.size 49 3 (.slice a4 ds.length c4) ds.length (dvR ds)) := own_belowN HD9.out hb
    clear ho hb HP9 HD9 k0 k1 k2 kl
    have HEQ : Hid (Calls Try.prog 39 #[.slice a6 tt.length c6, .slice (some ⟨g, o, none⟩) 3 cap] v1 fun e w' => e = .returned (.bool (tsq tt [x, y, z])) ∧ Below v1.heap.size v1 w') := equalFT_any HT1.out (HRU.out _ HP10.out.bel) (by have := HLT.out; omega)
    go_wp2_with fail
    refine Calls.mono HEQ.out ?_
    rintro e v2 ⟨rfl, hb⟩
    have HP11 : Hid (LG U v2 p3 #[.int .i64 gx, .int .i64 gy, .slice a4 ds.length c4] 29) := HP10.out.step hb
    have HD11 : Hid (v2.ownsRow U.heap.size 49 3 (.slice a4 ds.length c4) ds.length (dvR ds)) := own_belowN HD10.out hb
    clear hb HP10 HD10 HT1 HEQ
    have HB11 : Hid (LG w v2 b2 #[.bool false, .int .i64 0, .int .i64 0, .slice none 0 0] 41) := HU.out.step HP11.out.bel
    have HLU : Hid (b2 < U.heap.size) := HU.out.lt
    have HWU : Hid (w.heap.size ≤ U.heap.size) := HU.out.bel.size
    have k0 := HB11.out.cel 0 _ rfl
    have k1 := HB11.out.cel 1 _ rfl
    have k2 := HB11.out.cel 2 _ rfl
    have k3 := HB11.out.cel 3 _ rfl
    have f0 := HB11.out.frz 0
    have f1 := HB11.out.frz 1
    have f2 := HB11.out.frz 2
    have f3 := HB11.out.frz 3
    have kl := HB11.out.lt
    cases hq : tsq tt [x, y, z]
    · have E2 : Hid (R = boZ) := (show R = boZ by rw [E.out, hq]; rfl)
      clear E
      go_wp2
      refine bodyPost_ret (v := boA boZ (.slice none 0 0)) ?_ rfl ⟨_, by rw [E2.out], by rw [E2.out]; exact World.ownsRow_nil _ _ _ _, ?_⟩
      · simp [results, Try.results20, go_sem, boA, boZ, k0, k1, k2, k3]
      · first | exact (((HB11.out.bel.setCell HB11.out.ge _).setCell HB11.out.ge _).setCell HB11.out.ge _).setCell HB11.out.ge _ | exact belCast HB0.out ((((HB11.out.bel.setCell HB11.out.ge _).setCell HB11.out.ge _).setCell HB11.out.ge _).setCell HB11.out.ge _)
    · have E2 : Hid (R = ⟨true, gx, gy, ds⟩) := (show R = _ by rw [E.out, hq]; rfl)
      clear E
      have m0 := HP11.out.cel 0 _ rfl
      have m1 := HP11.out.cel 1 _ rfl
      have m2 := HP11.out.cel 2 _ rfl
      have ml := HP11.out.lt
      go_wp2
      have hk : ∀ (x : World) (k o : Nat) (y : Value) (a : Nat), k ≠ a → (x.setCell ⟨a, o, none⟩ y).heap[k]? = x.heap[k]? := fun x k o y a h => Below.heap_setCell _ _ _ _ (by simpa using h)
      refine bodyPost_ret (v := boA ⟨true, gx, gy, ds⟩ (.slice a4 ds.length c4)) ?_ rfl ⟨_, by rw [E2.out], by rw [E2.out]; first | exact own_heapN HD11.out (fun k hk2 => by have := HLU.out; repeat rw [hk _ _ _ _ _ (by omega)]) HWU.out | (rw [← HB0.out]; exact own_heapN HD11.out (fun k hk2 => by have := HLU.out; repeat rw [hk _ _ _ _ _ (by omega)]) HWU.out), ?_⟩
      · simp [results, Try.results20, go_sem, boA, k0, k1, k2, k3]
      · first | exact (((HB11.out.bel.setCell HB11.out.ge _).setCell HB11.out.ge _).setCell HB11.out.ge _).setCell HB11.out.ge _ | exact belCast HB0.out ((((HB11.out.bel.setCell HB11.out.ge _).setCell HB11.out.ge _).setCell HB11.out.ge _).setCell HB11.out.ge _)
end Go.Proofs.Ytlpkkclmcgnapaa
