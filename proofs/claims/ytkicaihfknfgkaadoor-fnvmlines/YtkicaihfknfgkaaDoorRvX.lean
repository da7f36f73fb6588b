import Derived.Test.YtkicaihfknfgkaaDoorRv0
import Derived.Laws.ResultCell
import Derived.Test.YtkicaihfknfgkaaDoorNumber
namespace Go.Proofs.YtkicaihfknfgkaaDoor
open Go.ChangeShapes Go.WideShapes Go.ChangeAt Go.RowKit

theorem LG.setK {w u : World} {b t : Nat} {cs : Array Value} (h : LG w u b cs t) (k : Nat) (y : Value) : LG w (u.setCell ⟨b, k, none⟩ y) b (cs.setIfInBounds k y) t :=
  ⟨h.bel.setCell h.ge _, Go.heap_setCell_same u b k cs t y h.box, h.ge⟩
theorem LG.keep {w u : World} {b c t : Nat} {cs : Array Value} (h : LG w u b cs t) (k : Nat) (y : Value) (hc : w.heap.size ≤ c) (hne : b ≠ c) : LG w (u.setCell ⟨c, k, none⟩ y) b cs t :=
  ⟨h.bel.setCell hc _, (Below.heap_setCell _ _ _ _ (by simpa using fun e => hne e)).trans h.box, h.ge⟩
set_option maxRecDepth 100000 in
set_option maxHeartbeats 4000000 in
theorem readVmField_any (m s : ByteArray) {w0 w : World} {b j : Nat} {cs : Array Value} {x : Value} (hl : LG w0 w b cs 23) (hx : cs[j]? = some x) (hs : s.size ≤ 1048576) (ht : Tab w) (hw : 0 < w.heap.size) (he : ErrsAt w) (h1 : 1 < w.heap.size) (h2 : 2 < w.heap.size) :
    Calls Tryd.prog 26 #[.agg #[.string m, .pointer (some ⟨b, j, none⟩)], .string s] w fun e w' => ∃ u, e = .returned (.bool (rfB m s)) ∧ Below w.heap.size w u ∧ w' = u.setCell ⟨b, j, none⟩ (.int .i64 (rfN m s)) := by
  have HC := fun u => cutPrefix_any s m u
  have HN : Hid (∀ u, Below w.heap.size w u → Calls Tryd.prog 36 #[.string (cpB s m)] u fun e w' => e = .returned (.tuple #[.int .i64 (rfN m s), .bool (numP (cpB s m)).2]) ∧ Below u.heap.size u w') := fun u hu => readNumber_any (cpB s m) (by have := cpB_size s m; omega) u (ht.below hu hw) (Nat.lt_of_lt_of_le hw hu.size) (he.below hu h1 h2)
  have HL : Hid (LG w0 w b cs 23) := hl
  have HX : Hid (cs[j]? = some x) := hx
  have HB : Hid (LG w (w.alloc (.cells #[.string m, .pointer (some ⟨b, j, none⟩)] 45)) w.heap.size #[.string m, .pointer (some ⟨b, j, none⟩)] 45) := LG.new w _ _
  have HE : Hid (rfB m s = (beg s m && (numP (cpB s m)).2)) := rfl
  clear ht hw he h1 h2 hs hl hx
  generalize rfB m s = V at *
  generalize rfN m s = Y at *
  generalize (numP (cpB s m)).2 = G at *
  generalize cpB s m = d at *
  cases hb : beg s m
  · rw [hb] at HC HE
    have HE2 : Hid (V = false) := HE.out
    clear HE hb
    go_enter Tryd.func26, Tryd.ntmps26
    go_upto_region 1 with fail
    generalize (w.alloc (.cells #[.string m, .pointer (some ⟨b, j, none⟩)] 45)) = u0 at *
    generalize hbb : w.heap.size = bb at HB ⊢
    have k0 := HB.out.cel 0 _ rfl
    have kl := HB.out.lt
    go_upto_region 3 with (first | (go_at_call 35; refine Calls.mono (HC _) ?_; rintro e u1 ⟨rfl, rfl⟩) | (go_at_call 36; refine Calls.mono (HN.out _ HB.out.bel) ?_; rintro e u2 ⟨rfl, hu⟩; have HB2 : Hid (LG w u2 bb #[.string m, .pointer (some ⟨b, j, none⟩)] 45) := HB.out.step hu; clear hu))
    clear k0 kl HB
    have k1 := HB2.out.cel 1 _ rfl
    have kl := HB2.out.lt
    have HL2 : Hid (LG w0 u2 b cs 23) := HL.out.step HB2.out.bel
    have q0 := HL2.out.cel j _ HX.out
    have q1 := HL2.out.frz j
    have ql := HL2.out.lt
    go_wp2
    go_ret
    exact ⟨_, ret_bool HE2.out.symm, hbb ▸ HB2.out.bel, rfl⟩
  · rw [hb] at HC HE
    have HE2 : Hid (V = G) := (show V = G by rw [HE.out]; rfl)
    clear HE hb
    go_enter Tryd.func26, Tryd.ntmps26
    go_upto_region 1 with fail
    generalize (w.alloc (.cells #[.string m, .pointer (some ⟨b, j, none⟩)] 45)) = u0 at *
    generalize hbb : w.heap.size = bb at HB ⊢
    have k0 := HB.out.cel 0 _ rfl
    have kl := HB.out.lt
    go_upto_region 3 with (first | (go_at_call 35; refine Calls.mono (HC _) ?_; rintro e u1 ⟨rfl, rfl⟩) | (go_at_call 36; refine Calls.mono (HN.out _ HB.out.bel) ?_; rintro e u2 ⟨rfl, hu⟩; have HB2 : Hid (LG w u2 bb #[.string m, .pointer (some ⟨b, j, none⟩)] 45) := HB.out.step hu; clear hu))
    clear k0 kl HB
    have k1 := HB2.out.cel 1 _ rfl
    have kl := HB2.out.lt
    have HL2 : Hid (LG w0 u2 b cs 23) := HL.out.step HB2.out.bel
    have q0 := HL2.out.cel j _ HX.out
    have q1 := HL2.out.frz j
    have ql := HL2.out.lt
    go_wp2
    go_ret
    exact ⟨_, ret_bool HE2.out.symm, hbb ▸ HB2.out.bel, rfl⟩

def vmV (x : VMC) : Value := .agg #[.string x.name, .int .i64 x.tenant, .int .i64 x.cpu, .int .i64 x.mem, .int .i64 x.zone, .int .i64 x.apart, .string x.node, .int .i64 x.epoch]
theorem rw_len {ws : List ByteArray} (h : ¬ ws.length = 6) : rwB ws = false ∧ rwV ws = vmc0 := by
  have e : rwB ws = false := by unfold rwB; rw [decide_eq_false h]; rfl
  exact ⟨e, by unfold rwV; rw [e]; rfl⟩
theorem rw_no {ws : List ByteArray} (h : rwA ws = false) : rwB ws = false ∧ rwV ws = vmc0 := by
  have e : rwB ws = false := by unfold rwB; rw [h]; simp
  exact ⟨e, by unfold rwV; rw [e]; rfl⟩
theorem rw_one {ws : List ByteArray} (hl : ws.length = 6) (h : rwA ws = true) (B : Bool) (hb : vmB 8 (rvM ws) = B) : rwB ws = B ∧ rwV ws = if B = true then rvM ws else vmc0 := by
  have e : rwB ws = B := by unfold rwB; rw [h, hb, decide_eq_true hl]; simp
  exact ⟨e, by unfold rwV; rw [e]⟩
set_option maxRecDepth 100000 in
set_option maxHeartbeats 16000000 in
theorem readVmWords_any {w : World} {v : Value} {ws : List ByteArray} (hr : Srow w v ws) (hl : ws.length ≤ 1048576) (hs : ∀ x ∈ ws, x.size ≤ 1048576) (ht : Tab w) (hw : 0 < w.heap.size) (he : ErrsAt w) (h1 : 1 < w.heap.size) (h2 : 2 < w.heap.size) :
    Calls Tryd.prog 14 #[v] w fun e w' => e = .returned (.tuple #[.agg #[.string (rwV ws).name, .int .i64 (rwV ws).tenant, .int .i64 (rwV ws).cpu, .int .i64 (rwV ws).mem, .int .i64 (rwV ws).zone, .int .i64 (rwV ws).apart, .string (rwV ws).node, .int .i64 (rwV ws).epoch], .bool (rwB ws)]) ∧ Below w.heap.size w w' := by
  have HF : Hid (∀ b u, Calls Tryd.prog 19 #[.pointer (some ⟨b, 0, none⟩)] u fun e w' => e = .returned (.slice (some ⟨u.heap.size, 0, none⟩) 5 5) ∧ LG u w' u.heap.size #[.string ⟨#[116, 101, 110, 97, 110, 116, 61]⟩, .pointer (some ⟨b, 1, none⟩), .string ⟨#[99, 112, 117, 61]⟩, .pointer (some ⟨b, 2, none⟩), .string ⟨#[109, 101, 109, 61]⟩, .pointer (some ⟨b, 3, none⟩), .string ⟨#[122, 111, 110, 101, 61]⟩, .pointer (some ⟨b, 4, none⟩), .string ⟨#[97, 112, 97, 114, 116, 61]⟩, .pointer (some ⟨b, 5, none⟩)] 45) := fun b u => fields_any b u
  have HL0 : Hid (LG w (w.alloc (.cells #[.string ⟨#[]⟩, .int .i64 0, .int .i64 0, .int .i64 0, .int .i64 0, .int .i64 0, .string ⟨#[]⟩, .int .i64 0] 23)) w.heap.size #[.string ⟨#[]⟩, .int .i64 0, .int .i64 0, .int .i64 0, .int .i64 0, .int .i64 0, .string ⟨#[]⟩, .int .i64 0] 23) := LG.new w _ _
  obtain ⟨av, cv, rfl⟩ := hr.sl
  have hk0 : (0 : Int) ≤ (ws.length : Int) := by omega
  have hk1 : (ws.length : Int) ≤ 1048576 := by omega
  by_cases hsix : ws.length = 6
  rotate_left
  · obtain ⟨e1, e2⟩ := rw_len hsix
    have E1 : Hid (rwB ws = false) := e1
    have E2 : Hid (rwV ws = vmc0) := e2
    have hne : ¬ ((ws.length : Int) = 6) := by omega
    clear hr hs ht hw he h1 h2 e1 e2
    generalize rwB ws = RB at *
    generalize rwV ws = RV at *
    clear hsix
    generalize ws.length = n at *
    have hd : ((n : Int) != 6) = true := by simpa using hne
    go_enter Tryd.func14, Tryd.ntmps14
    go_upto_region 1 with fail
    generalize (w.alloc (.cells #[.string ⟨#[]⟩, .int .i64 0, .int .i64 0, .int .i64 0, .int .i64 0, .int .i64 0, .string ⟨#[]⟩, .int .i64 0] 23)) = u0 at *
    generalize hbb : w.heap.size = b0 at HL0 ⊢
    have HB9 : Hid (w.heap.size = b0) := hbb
    clear hbb
    go_upto_region 2 with (go_at_call 19; refine Calls.mono (HF.out _ _) ?_; rintro e u1 ⟨rfl, hx⟩; have HL1 : Hid (LG w u1 b0 #[.string ⟨#[]⟩, .int .i64 0, .int .i64 0, .int .i64 0, .int .i64 0, .int .i64 0, .string ⟨#[]⟩, .int .i64 0] 23) := HL0.out.step hx.bel; clear hx)
    have k0 := HL1.out.cel 0 _ rfl
    have k1 := HL1.out.cel 1 _ rfl
    have k2 := HL1.out.cel 2 _ rfl
    have k3 := HL1.out.cel 3 _ rfl
    have k4 := HL1.out.cel 4 _ rfl
    have k5 := HL1.out.cel 5 _ rfl
    have k6 := HL1.out.cel 6 _ rfl
    have k7 := HL1.out.cel 7 _ rfl
    have kl := HL1.out.lt
    have kf := HL1.out.frz
    go_wp2
    refine bodyPost_ret (v := .tuple #[.agg #[.string ⟨#[]⟩, .int .i64 0, .int .i64 0, .int .i64 0, .int .i64 0, .int .i64 0, .string ⟨#[]⟩, .int .i64 0], .bool false]) ?_ rfl ⟨by rw [E1.out, E2.out]; rfl, ?_⟩
    · simp only [results, Tryd.results14, go_sem]
      simp [go_sem, k0, k1, k2, k3, k4, k5, k6, k7]
    · rw [HB9.out]
      have hb9 := HL1.out.bel
      rw [HB9.out] at hb9
      repeat refine Below.setCell ?_ (by simp only; omega) _
      exact hb9
  obtain ⟨g1, o1, cap, hv, hcp, hg1, hsat⟩ := hr.resolve_left (fun h => by rw [h.1] at hsix; simp at hsix)
  injection hv with hv1 hv2 hv3
  subst hv1 hv3
  have HWD : Hid (∀ u, Below w.heap.size w u → ∀ k, k < 6 → u.cell? ⟨g1, o1 + k, none⟩ = some (.string (wd ws k))) := (by
    intro u hu k hk
    have h9 := hsat k (by omega)
    rw [World.cell?_of_block (hu.block g1 hg1), h9]
    unfold wd
    rw [List.getD_eq_getElem?_getD, List.getElem?_eq_getElem (by omega)]
    rfl)
  have HLW : Hid (∀ u, Below w.heap.size w u → g1 < u.heap.size) := fun u hu => Nat.lt_of_lt_of_le hg1 hu.size
  have HSZ : Hid (∀ k, (wd ws k).size ≤ 1048576) := (by
    intro k
    unfold wd
    rw [List.getD_eq_getElem?_getD]
    cases hk : ws[k]? with
    | none => exact Nat.zero_le _
    | some x => exact hs x (List.mem_of_getElem? hk))
  have HRF : Hid (∀ (m s : ByteArray) (u : World) (b j : Nat) (cs : Array Value) (x : Value), s.size ≤ 1048576 → LG w u b cs 23 → cs[j]? = some x → Calls Tryd.prog 26 #[.agg #[.string m, .pointer (some ⟨b, j, none⟩)], .string s] u fun e w' => ∃ u2, e = .returned (.bool (rfB m s)) ∧ Below u.heap.size u u2 ∧ w' = u2.setCell ⟨b, j, none⟩ (.int .i64 (rfN m s))) :=
    fun m s u b j cs x hz hl hx => readVmField_any m s hl hx hz (ht.below hl.bel hw) (Nat.lt_of_lt_of_le hw hl.bel.size) (he.below hl.bel h1 h2) (Nat.lt_of_lt_of_le h1 hl.bel.size) (Nat.lt_of_lt_of_le h2 hl.bel.size)
  have HIO : Hid (∀ (x : VMC) (u : World), Calls Tryd.prog 18 #[.agg #[.string x.name, .int .i64 x.tenant, .int .i64 x.cpu, .int .i64 x.mem, .int .i64 x.zone, .int .i64 x.apart, .string x.node, .int .i64 x.epoch], .int .i64 8] u fun e w' => e = .returned (.bool (vmB 8 x)) ∧ Below u.heap.size u w') := fun x u => vmOne_any x 8 (by decide) u
  have HAL : Hid (rwA ws = (rfB vk0 (wd ws 1) && rfB vk1 (wd ws 2) && rfB vk2 (wd ws 3) && rfB vk3 (wd ws 4) && rfB vk4 (wd ws 5))) := rfl
  have HRM : Hid (rvM ws = ⟨wd ws 0, rfN vk0 (wd ws 1), rfN vk1 (wd ws 2), rfN vk2 (wd ws 3), rfN vk3 (wd ws 4), rfN vk4 (wd ws 5), ⟨#[]⟩, 0⟩) := rfl
  have HNO : Hid (rwA ws = false → rwB ws = false ∧ rwV ws = vmc0) := rw_no
  have HON : Hid (rwA ws = true → ∀ B, vmB 8 (rvM ws) = B → rwB ws = B ∧ rwV ws = if B = true then rvM ws else vmc0) := rw_one hsix
  clear hr hs ht hw he h1 h2 hsat hg1 hcp hv2 hl
  rw [hsix] at *
  generalize rwB ws = RB at *
  generalize rwV ws = RV at *
  generalize rwA ws = RA at *
  generalize rvM ws = RM at *
  generalize hW0 : wd ws 0 = W0 at *
  go_enter Tryd.func14, Tryd.ntmps14
  go_upto_region 1 with fail
  generalize (w.alloc (.cells #[.string ⟨#[]⟩, .int .i64 0, .int .i64 0, .int .i64 0, .int .i64 0, .int .i64 0, .string ⟨#[]⟩, .int .i64 0] 23)) = u0 at *
  generalize hbb : w.heap.size = b0 at HL0 ⊢
  have HB9 : Hid (w.heap.size = b0) := hbb
  clear hbb
  go_upto_region 2 with (go_at_call 19; refine Calls.mono (HF.out _ _) ?_; rintro e u1 ⟨rfl, hx⟩; have HL1 : Hid (LG w u1 b0 #[.string ⟨#[]⟩, .int .i64 0, .int .i64 0, .int .i64 0, .int .i64 0, .int .i64 0, .string ⟨#[]⟩, .int .i64 0] 23) := HL0.out.step hx.bel; have HG1 : Hid (LG w u1 u0.heap.size #[.string ⟨#[116, 101, 110, 97, 110, 116, 61]⟩, .pointer (some ⟨b0, 1, none⟩), .string ⟨#[99, 112, 117, 61]⟩, .pointer (some ⟨b0, 2, none⟩), .string ⟨#[109, 101, 109, 61]⟩, .pointer (some ⟨b0, 3, none⟩), .string ⟨#[122, 111, 110, 101, 61]⟩, .pointer (some ⟨b0, 4, none⟩), .string ⟨#[97, 112, 97, 114, 116, 61]⟩, .pointer (some ⟨b0, 5, none⟩)] 45) := ⟨HL0.out.bel.trans (hx.bel.mono HL0.out.bel.size), hx.box, Nat.le_trans HL0.out.bel.size hx.ge⟩; clear hx)
  have HGB : Hid (b0 < u0.heap.size) := HL0.out.lt
  clear HL0
  generalize u0.heap.size = g at *
  have q0 := HWD.out u1 HL1.out.bel 0 (by omega)
  rw [hW0, Nat.add_zero] at q0
  have q1 := HL1.out.cel 0 _ rfl
  have q2 := HL1.out.frz 0
  have ql := HL1.out.lt
  have qg := HLW.out u1 HL1.out.bel
  go_upto_region 5 with fail
  have HL2 : Hid (LG w (u1.setCell ⟨b0, 0, none⟩ (.string W0)) b0 #[.string W0, .int .i64 0, .int .i64 0, .int .i64 0, .int .i64 0, .int .i64 0, .string ⟨#[]⟩, .int .i64 0] 23) := HL1.out.setK 0 (.string W0)
  have HG2 : Hid (LG w (u1.setCell ⟨b0, 0, none⟩ (.string W0)) g #[.string ⟨#[116, 101, 110, 97, 110, 116, 61]⟩, .pointer (some ⟨b0, 1, none⟩), .string ⟨#[99, 112, 117, 61]⟩, .pointer (some ⟨b0, 2, none⟩), .string ⟨#[109, 101, 109, 61]⟩, .pointer (some ⟨b0, 3, none⟩), .string ⟨#[122, 111, 110, 101, 61]⟩, .pointer (some ⟨b0, 4, none⟩), .string ⟨#[97, 112, 97, 114, 116, 61]⟩, .pointer (some ⟨b0, 5, none⟩)] 45) := HG1.out.keep 0 _ HL1.out.ge (by have := HGB.out; omega)
  clear q0 q1 q2 ql qg HL1 HG1
  generalize (u1.setCell ⟨b0, 0, none⟩ (.string W0)) = u2 at *
  generalize hF0 : rfN vk0 (wd ws 1) = F0 at *
  generalize hF1 : rfN vk1 (wd ws 2) = F1 at *
  generalize hF2 : rfN vk2 (wd ws 3) = F2 at *
  generalize hF3 : rfN vk3 (wd ws 4) = F3 at *
  generalize hF4 : rfN vk4 (wd ws 5) = F4 at *
  have HFs : Hid (rfN vk0 (wd ws 1) = F0 ∧ rfN vk1 (wd ws 2) = F1 ∧ rfN vk2 (wd ws 3) = F2 ∧ rfN vk3 (wd ws 4) = F3 ∧ rfN vk4 (wd ws 5) = F4) := ⟨hF0, hF1, hF2, hF3, hF4⟩
  clear hF0 hF1 hF2 hF3 hF4 hW0
  go_wp2
  go_loopw [21] (fun i wr => LG w wr g #[.string ⟨#[116, 101, 110, 97, 110, 116, 61]⟩, .pointer (some ⟨b0, 1, none⟩), .string ⟨#[99, 112, 117, 61]⟩, .pointer (some ⟨b0, 2, none⟩), .string ⟨#[109, 101, 109, 61]⟩, .pointer (some ⟨b0, 3, none⟩), .string ⟨#[122, 111, 110, 101, 61]⟩, .pointer (some ⟨b0, 4, none⟩), .string ⟨#[97, 112, 97, 114, 116, 61]⟩, .pointer (some ⟨b0, 5, none⟩)] 45 ∧ ((i = .int .i64 0 ∧ LG w wr b0 #[.string W0, .int .i64 0, .int .i64 0, .int .i64 0, .int .i64 0, .int .i64 0, .string ⟨#[]⟩, .int .i64 0] 23) ∨ (i = .int .i64 1 ∧ LG w wr b0 #[.string W0, .int .i64 F0, .int .i64 0, .int .i64 0, .int .i64 0, .int .i64 0, .string ⟨#[]⟩, .int .i64 0] 23 ∧ rfB vk0 (wd ws 1) = true) ∨ (i = .int .i64 2 ∧ LG w wr b0 #[.string W0, .int .i64 F0, .int .i64 F1, .int .i64 0, .int .i64 0, .int .i64 0, .string ⟨#[]⟩, .int .i64 0] 23 ∧ rfB vk0 (wd ws 1) = true ∧ rfB vk1 (wd ws 2) = true) ∨ (i = .int .i64 3 ∧ LG w wr b0 #[.string W0, .int .i64 F0, .int .i64 F1, .int .i64 F2, .int .i64 0, .int .i64 0, .string ⟨#[]⟩, .int .i64 0] 23 ∧ rfB vk0 (wd ws 1) = true ∧ rfB vk1 (wd ws 2) = true ∧ rfB vk2 (wd ws 3) = true) ∨ (i = .int .i64 4 ∧ LG w wr b0 #[.string W0, .int .i64 F0, .int .i64 F1, .int .i64 F2, .int .i64 F3, .int .i64 0, .string ⟨#[]⟩, .int .i64 0] 23 ∧ rfB vk0 (wd ws 1) = true ∧ rfB vk1 (wd ws 2) = true ∧ rfB vk2 (wd ws 3) = true ∧ rfB vk3 (wd ws 4) = true) ∨ (i = .int .i64 5 ∧ LG w wr b0 #[.string W0, .int .i64 F0, .int .i64 F1, .int .i64 F2, .int .i64 F3, .int .i64 F4, .string ⟨#[]⟩, .int .i64 0] 23 ∧ rfB vk0 (wd ws 1) = true ∧ rfB vk1 (wd ws 2) = true ∧ rfB vk2 (wd ws 3) = true ∧ rfB vk3 (wd ws 4) = true ∧ rfB vk4 (wd ws 5) = true))) (fun i _ => 5 - (intOf i).toNat)
  case atStart => exact ⟨HG2.out, .inl ⟨rfl, HL2.out⟩⟩
  case round =>
    obtain ⟨hg, hrel⟩ := hrel
    clear HL2 HG2
    have HG : Hid (LG w wr g #[.string ⟨#[116, 101, 110, 97, 110, 116, 61]⟩, .pointer (some ⟨b0, 1, none⟩), .string ⟨#[99, 112, 117, 61]⟩, .pointer (some ⟨b0, 2, none⟩), .string ⟨#[109, 101, 109, 61]⟩, .pointer (some ⟨b0, 3, none⟩), .string ⟨#[122, 111, 110, 101, 61]⟩, .pointer (some ⟨b0, 4, none⟩), .string ⟨#[97, 112, 97, 114, 116, 61]⟩, .pointer (some ⟨b0, 5, none⟩)] 45) := hg
    clear hg
    rcases hrel with ⟨rfl, hlb⟩ | ⟨rfl, hlb, t0⟩ | ⟨rfl, hlb, t0, t1⟩ | ⟨rfl, hlb, t0, t1, t2⟩ | ⟨rfl, hlb, t0, t1, t2, t3⟩ | ⟨rfl, hlb, t0, t1, t2, t3, t4⟩
    · have HT : Hid True := trivial
      obtain ⟨RK, hRK⟩ : ∃ RK, rfB vk0 (wd ws 1) = RK := ⟨_, rfl⟩
      have HRK : Hid (rfB ⟨#[116, 101, 110, 97, 110, 116, 61]⟩ (wd ws 1) = RK) := hRK
      have HFK : Hid (rfN ⟨#[116, 101, 110, 97, 110, 116, 61]⟩ (wd ws 1) = F0) := HFs.out.1
      have q0 := HG.out.cel 0 _ rfl
      have q1 := HG.out.cel 1 _ rfl
      have ql := HG.out.lt
      have HLN : Hid (LG w (wr.alloc (.cells #[.string ⟨#[116, 101, 110, 97, 110, 116, 61]⟩, .pointer (some ⟨b0, 1, none⟩)] 45)) wr.heap.size #[.string ⟨#[116, 101, 110, 97, 110, 116, 61]⟩, .pointer (some ⟨b0, 1, none⟩)] 45 ∧ LG w (wr.alloc (.cells #[.string ⟨#[116, 101, 110, 97, 110, 116, 61]⟩, .pointer (some ⟨b0, 1, none⟩)] 45)) b0 #[.string W0, .int .i64 0, .int .i64 0, .int .i64 0, .int .i64 0, .int .i64 0, .string ⟨#[]⟩, .int .i64 0] 23 ∧ LG w (wr.alloc (.cells #[.string ⟨#[116, 101, 110, 97, 110, 116, 61]⟩, .pointer (some ⟨b0, 1, none⟩)] 45)) g #[.string ⟨#[116, 101, 110, 97, 110, 116, 61]⟩, .pointer (some ⟨b0, 1, none⟩), .string ⟨#[99, 112, 117, 61]⟩, .pointer (some ⟨b0, 2, none⟩), .string ⟨#[109, 101, 109, 61]⟩, .pointer (some ⟨b0, 3, none⟩), .string ⟨#[122, 111, 110, 101, 61]⟩, .pointer (some ⟨b0, 4, none⟩), .string ⟨#[97, 112, 97, 114, 116, 61]⟩, .pointer (some ⟨b0, 5, none⟩)] 45) := ⟨⟨hlb.bel.trans ((bx1 wr _).mono hlb.bel.size), heap_new _ _, hlb.bel.size⟩, hlb.step (bx1 _ _), HG.out.step (bx1 _ _)⟩
      have HBN : Hid (b0 < wr.heap.size) := hlb.lt
      clear hlb
      go_upto_region 8 with fail
      clear q0 q1 ql HG
      generalize (wr.alloc (.cells #[.string ⟨#[116, 101, 110, 97, 110, 116, 61]⟩, .pointer (some ⟨b0, 1, none⟩)] 45)) = v0 at *
      generalize wr.heap.size = bn at *
      have HVB : Hid (LG w v0.drew b0 #[.string W0, .int .i64 0, .int .i64 0, .int .i64 0, .int .i64 0, .int .i64 0, .string ⟨#[]⟩, .int .i64 0] 23) := HLN.out.2.1.drew
      have HSB : Hid (LG w v0.drew bn #[.string ⟨#[116, 101, 110, 97, 110, 116, 61]⟩, .pointer (some ⟨b0, 1, none⟩)] 45 ∧ (∃ cs, LG w v0.drew b0 cs 23) ∧ LG w v0.drew g #[.string ⟨#[116, 101, 110, 97, 110, 116, 61]⟩, .pointer (some ⟨b0, 1, none⟩), .string ⟨#[99, 112, 117, 61]⟩, .pointer (some ⟨b0, 2, none⟩), .string ⟨#[109, 101, 109, 61]⟩, .pointer (some ⟨b0, 3, none⟩), .string ⟨#[122, 111, 110, 101, 61]⟩, .pointer (some ⟨b0, 4, none⟩), .string ⟨#[97, 112, 97, 114, 116, 61]⟩, .pointer (some ⟨b0, 5, none⟩)] 45) := ⟨HLN.out.1.drew, ⟨_, HLN.out.2.1.drew⟩, HLN.out.2.2.drew⟩
      refine wp_region_held (S := fun w9 => LG w w9 bn #[.string ⟨#[116, 101, 110, 97, 110, 116, 61]⟩, .pointer (some ⟨b0, 1, none⟩)] 45 ∧ (∃ cs, LG w w9 b0 cs 23) ∧ LG w w9 g #[.string ⟨#[116, 101, 110, 97, 110, 116, 61]⟩, .pointer (some ⟨b0, 1, none⟩), .string ⟨#[99, 112, 117, 61]⟩, .pointer (some ⟨b0, 2, none⟩), .string ⟨#[109, 101, 109, 61]⟩, .pointer (some ⟨b0, 3, none⟩), .string ⟨#[122, 111, 110, 101, 61]⟩, .pointer (some ⟨b0, 4, none⟩), .string ⟨#[97, 112, 97, 114, 116, 61]⟩, .pointer (some ⟨b0, 5, none⟩)] 45) (by kernel_rfl) ?_
      change wpAnyH _ _ _ _ _ _ _ _ (World.drew _)
      refine wpAnyH_take (i := 0) (v := .agg #[.string ⟨#[116, 101, 110, 97, 110, 116, 61]⟩, .pointer (some ⟨b0, 1, none⟩)]) rfl (by kernel_rfl) (by kernel_rfl) (by kernel_rfl) (fun _ _ _ h => h) (Or.inl ⟨by kernel_rfl, fun w9 h9 => ?_⟩) HSB.out ?_
      · have k0 := h9.1.cel 0 _ rfl; have k1 := h9.1.cel 1 _ rfl; have kl := h9.1.lt; have kw := HWD.out _ h9.1.bel 1 (by omega); have kg := HLW.out _ h9.1.bel; clear h9; go_simp
      refine wpAnyH_take (i := 1) (v := .slice (some ⟨g1, o1, none⟩) 6 cv) rfl (by kernel_rfl) (by kernel_rfl) (by kernel_rfl) (fun _ _ _ h => h) (Or.inl ⟨by kernel_rfl, fun w9 h9 => ?_⟩) HSB.out ?_
      · go_simp
      refine wpAnyH_take (i := 2) (v := .int .i64 0) rfl (by kernel_rfl) (by kernel_rfl) (by kernel_rfl) (fun _ _ _ h => h) (Or.inl ⟨by kernel_rfl, fun w9 h9 => ?_⟩) HSB.out ?_
      · go_simp
      refine wpAnyH_take (i := 3) (v := .int .i64 1) rfl (by kernel_rfl) (by kernel_rfl) (by kernel_rfl) (fun _ _ _ h => h) (Or.inl ⟨by kernel_rfl, fun w9 h9 => ?_⟩) HSB.out ?_
      · go_simp; all_goals first | rfl | decide | (rw [IntKind.wrap_i64]; omega)
      refine wpAnyH_take (i := 4) (v := .pointer (some ⟨g1, o1 + 1, none⟩)) rfl (by kernel_rfl) (by kernel_rfl) (by kernel_rfl) (fun _ _ _ h => h) (Or.inl ⟨by kernel_rfl, fun w9 h9 => ?_⟩) HSB.out ?_
      · go_simp
      refine wpAnyH_take (i := 5) (v := .string (wd ws 1)) rfl (by kernel_rfl) (by kernel_rfl) (by kernel_rfl) (fun _ _ _ h => h) (Or.inl ⟨by kernel_rfl, fun w9 h9 => ?_⟩) HSB.out ?_
      · have k0 := h9.1.cel 0 _ rfl; have k1 := h9.1.cel 1 _ rfl; have kl := h9.1.lt; have kw := HWD.out _ h9.1.bel 1 (by omega); have kg := HLW.out _ h9.1.bel; clear h9; go_simp
      refine held_one 6 (by kernel_rfl) rfl (by kernel_rfl) fun K hK => ?_
      go_simp
      go_wp2_with (go_at_call 26; refine Calls.mono (HRF.out ⟨#[116, 101, 110, 97, 110, 116, 61]⟩ (wd ws 1) _ b0 1 _ _ (HSZ.out _) HVB.out rfl) ?_; rintro e w5 ⟨u5, rfl, hu, rfl⟩; rw [HRK.out, HFK.out])
      have HS5 : Hid (LG w (u5.setCell ⟨b0, 1, none⟩ (.int .i64 F0)) bn #[.string ⟨#[116, 101, 110, 97, 110, 116, 61]⟩, .pointer (some ⟨b0, 1, none⟩)] 45 ∧ LG w (u5.setCell ⟨b0, 1, none⟩ (.int .i64 F0)) b0 #[.string W0, .int .i64 F0, .int .i64 0, .int .i64 0, .int .i64 0, .int .i64 0, .string ⟨#[]⟩, .int .i64 0] 23 ∧ LG w (u5.setCell ⟨b0, 1, none⟩ (.int .i64 F0)) g #[.string ⟨#[116, 101, 110, 97, 110, 116, 61]⟩, .pointer (some ⟨b0, 1, none⟩), .string ⟨#[99, 112, 117, 61]⟩, .pointer (some ⟨b0, 2, none⟩), .string ⟨#[109, 101, 109, 61]⟩, .pointer (some ⟨b0, 3, none⟩), .string ⟨#[122, 111, 110, 101, 61]⟩, .pointer (some ⟨b0, 4, none⟩), .string ⟨#[97, 112, 97, 114, 116, 61]⟩, .pointer (some ⟨b0, 5, none⟩)] 45) := ⟨(HSB.out.1.step hu).keep 1 _ HVB.out.ge (by have := HBN.out; omega), (HVB.out.step hu).setK 1 (.int .i64 F0), (HSB.out.2.2.step hu).keep 1 _ HVB.out.ge (by have := HGB.out; omega)⟩
      clear hu
      refine hK _ _ ⟨HS5.out.1, ⟨_, HS5.out.2.1⟩, HS5.out.2.2⟩ ?_
      clear hK K
      refine wpAnyH_take (i := 7) (v := .bool !RK) rfl (by kernel_rfl) (by kernel_rfl) (by kernel_rfl) (fun _ _ _ h => h) (Or.inl ⟨by kernel_rfl, fun w9 h9 => ?_⟩) ⟨HS5.out.1, ⟨_, HS5.out.2.1⟩, HS5.out.2.2⟩ ?_
      · go_simp
      refine wpAnyH_done (by kernel_rfl) ?_ _
      go_simp
      cases RK
      · have hA : RA = false := (by rw [HAL.out]; have h9 : rfB vk0 (wd ws 1) = false := hRK; rw [h9]; simp)
        obtain ⟨e1, e2⟩ := HNO.out hA
        have E1 : Hid (RB = false) := e1
        have E2 : Hid (RV = vmc0) := e2
        clear e1 e2 hA hRK
        generalize (u5.setCell ⟨b0, 1, none⟩ (.int .i64 F0)) = u6 at *
        have HL1 : Hid (LG w u6 b0 #[.string W0, .int .i64 F0, .int .i64 0, .int .i64 0, .int .i64 0, .int .i64 0, .string ⟨#[]⟩, .int .i64 0] 23) := HS5.out.2.1
        have k0 := HL1.out.cel 0 _ rfl
        have k1 := HL1.out.cel 1 _ rfl
        have k2 := HL1.out.cel 2 _ rfl
        have k3 := HL1.out.cel 3 _ rfl
        have k4 := HL1.out.cel 4 _ rfl
        have k5 := HL1.out.cel 5 _ rfl
        have k6 := HL1.out.cel 6 _ rfl
        have k7 := HL1.out.cel 7 _ rfl
        have kl := HL1.out.lt
        have kf := HL1.out.frz
        go_wp2
        refine bodyPost_ret (v := .tuple #[.agg #[.string ⟨#[]⟩, .int .i64 0, .int .i64 0, .int .i64 0, .int .i64 0, .int .i64 0, .string ⟨#[]⟩, .int .i64 0], .bool false]) ?_ rfl ⟨by rw [E1.out, E2.out]; rfl, ?_⟩
        · simp only [results, Tryd.results14, go_sem]
          simp [go_sem, k0, k1, k2, k3, k4, k5, k6, k7]
        · have hb9 := HL1.out.bel
          rw [HB9.out] at hb9
          first | rw [HB9.out] | skip
          repeat refine Below.setCell ?_ (by simp only; omega) _
          exact hb9
      · generalize (u5.setCell ⟨b0, 1, none⟩ (.int .i64 F0)) = u6 at *
        go_wp2
        exact ⟨⟨HS5.out.2.2, .inr (.inl ⟨rfl, HS5.out.2.1, hRK⟩)⟩, by simp [intOf]⟩
    · have HT : Hid (True ∧ rfB vk0 (wd ws 1) = true) := ⟨trivial, t0⟩
      obtain ⟨RK, hRK⟩ : ∃ RK, rfB vk1 (wd ws 2) = RK := ⟨_, rfl⟩
      have HRK : Hid (rfB ⟨#[99, 112, 117, 61]⟩ (wd ws 2) = RK) := hRK
      have HFK : Hid (rfN ⟨#[99, 112, 117, 61]⟩ (wd ws 2) = F1) := HFs.out.2.1
      have q0 := HG.out.cel 2 _ rfl
      have q1 := HG.out.cel 3 _ rfl
      have ql := HG.out.lt
      have HLN : Hid (LG w (wr.alloc (.cells #[.string ⟨#[99, 112, 117, 61]⟩, .pointer (some ⟨b0, 2, none⟩)] 45)) wr.heap.size #[.string ⟨#[99, 112, 117, 61]⟩, .pointer (some ⟨b0, 2, none⟩)] 45 ∧ LG w (wr.alloc (.cells #[.string ⟨#[99, 112, 117, 61]⟩, .pointer (some ⟨b0, 2, none⟩)] 45)) b0 #[.string W0, .int .i64 F0, .int .i64 0, .int .i64 0, .int .i64 0, .int .i64 0, .string ⟨#[]⟩, .int .i64 0] 23 ∧ LG w (wr.alloc (.cells #[.string ⟨#[99, 112, 117, 61]⟩, .pointer (some ⟨b0, 2, none⟩)] 45)) g #[.string ⟨#[116, 101, 110, 97, 110, 116, 61]⟩, .pointer (some ⟨b0, 1, none⟩), .string ⟨#[99, 112, 117, 61]⟩, .pointer (some ⟨b0, 2, none⟩), .string ⟨#[109, 101, 109, 61]⟩, .pointer (some ⟨b0, 3, none⟩), .string ⟨#[122, 111, 110, 101, 61]⟩, .pointer (some ⟨b0, 4, none⟩), .string ⟨#[97, 112, 97, 114, 116, 61]⟩, .pointer (some ⟨b0, 5, none⟩)] 45) := ⟨⟨hlb.bel.trans ((bx1 wr _).mono hlb.bel.size), heap_new _ _, hlb.bel.size⟩, hlb.step (bx1 _ _), HG.out.step (bx1 _ _)⟩
      have HBN : Hid (b0 < wr.heap.size) := hlb.lt
      clear hlb t0
      go_upto_region 8 with fail
      clear q0 q1 ql HG
      generalize (wr.alloc (.cells #[.string ⟨#[99, 112, 117, 61]⟩, .pointer (some ⟨b0, 2, none⟩)] 45)) = v0 at *
      generalize wr.heap.size = bn at *
      have HVB : Hid (LG w v0.drew b0 #[.string W0, .int .i64 F0, .int .i64 0, .int .i64 0, .int .i64 0, .int .i64 0, .string ⟨#[]⟩, .int .i64 0] 23) := HLN.out.2.1.drew
      have HSB : Hid (LG w v0.drew bn #[.string ⟨#[99, 112, 117, 61]⟩, .pointer (some ⟨b0, 2, none⟩)] 45 ∧ (∃ cs, LG w v0.drew b0 cs 23) ∧ LG w v0.drew g #[.string ⟨#[116, 101, 110, 97, 110, 116, 61]⟩, .pointer (some ⟨b0, 1, none⟩), .string ⟨#[99, 112, 117, 61]⟩, .pointer (some ⟨b0, 2, none⟩), .string ⟨#[109, 101, 109, 61]⟩, .pointer (some ⟨b0, 3, none⟩), .string ⟨#[122, 111, 110, 101, 61]⟩, .pointer (some ⟨b0, 4, none⟩), .string ⟨#[97, 112, 97, 114, 116, 61]⟩, .pointer (some ⟨b0, 5, none⟩)] 45) := ⟨HLN.out.1.drew, ⟨_, HLN.out.2.1.drew⟩, HLN.out.2.2.drew⟩
      refine wp_region_held (S := fun w9 => LG w w9 bn #[.string ⟨#[99, 112, 117, 61]⟩, .pointer (some ⟨b0, 2, none⟩)] 45 ∧ (∃ cs, LG w w9 b0 cs 23) ∧ LG w w9 g #[.string ⟨#[116, 101, 110, 97, 110, 116, 61]⟩, .pointer (some ⟨b0, 1, none⟩), .string ⟨#[99, 112, 117, 61]⟩, .pointer (some ⟨b0, 2, none⟩), .string ⟨#[109, 101, 109, 61]⟩, .pointer (some ⟨b0, 3, none⟩), .string ⟨#[122, 111, 110, 101, 61]⟩, .pointer (some ⟨b0, 4, none⟩), .string ⟨#[97, 112, 97, 114, 116, 61]⟩, .pointer (some ⟨b0, 5, none⟩)] 45) (by kernel_rfl) ?_
      change wpAnyH _ _ _ _ _ _ _ _ (World.drew _)
      refine wpAnyH_take (i := 0) (v := .agg #[.string ⟨#[99, 112, 117, 61]⟩, .pointer (some ⟨b0, 2, none⟩)]) rfl (by kernel_rfl) (by kernel_rfl) (by kernel_rfl) (fun _ _ _ h => h) (Or.inl ⟨by kernel_rfl, fun w9 h9 => ?_⟩) HSB.out ?_
      · have k0 := h9.1.cel 0 _ rfl; have k1 := h9.1.cel 1 _ rfl; have kl := h9.1.lt; have kw := HWD.out _ h9.1.bel 2 (by omega); have kg := HLW.out _ h9.1.bel; clear h9; go_simp
      refine wpAnyH_take (i := 1) (v := .slice (some ⟨g1, o1, none⟩) 6 cv) rfl (by kernel_rfl) (by kernel_rfl) (by kernel_rfl) (fun _ _ _ h => h) (Or.inl ⟨by kernel_rfl, fun w9 h9 => ?_⟩) HSB.out ?_
      · go_simp
      refine wpAnyH_take (i := 2) (v := .int .i64 1) rfl (by kernel_rfl) (by kernel_rfl) (by kernel_rfl) (fun _ _ _ h => h) (Or.inl ⟨by kernel_rfl, fun w9 h9 => ?_⟩) HSB.out ?_
      · go_simp
      refine wpAnyH_take (i := 3) (v := .int .i64 2) rfl (by kernel_rfl) (by kernel_rfl) (by kernel_rfl) (fun _ _ _ h => h) (Or.inl ⟨by kernel_rfl, fun w9 h9 => ?_⟩) HSB.out ?_
      · go_simp; all_goals first | rfl | decide | (rw [IntKind.wrap_i64]; omega)
      refine wpAnyH_take (i := 4) (v := .pointer (some ⟨g1, o1 + 2, none⟩)) rfl (by kernel_rfl) (by kernel_rfl) (by kernel_rfl) (fun _ _ _ h => h) (Or.inl ⟨by kernel_rfl, fun w9 h9 => ?_⟩) HSB.out ?_
      · go_simp
      refine wpAnyH_take (i := 5) (v := .string (wd ws 2)) rfl (by kernel_rfl) (by kernel_rfl) (by kernel_rfl) (fun _ _ _ h => h) (Or.inl ⟨by kernel_rfl, fun w9 h9 => ?_⟩) HSB.out ?_
      · have k0 := h9.1.cel 0 _ rfl; have k1 := h9.1.cel 1 _ rfl; have kl := h9.1.lt; have kw := HWD.out _ h9.1.bel 2 (by omega); have kg := HLW.out _ h9.1.bel; clear h9; go_simp
      refine held_one 6 (by kernel_rfl) rfl (by kernel_rfl) fun K hK => ?_
      go_simp
      go_wp2_with (go_at_call 26; refine Calls.mono (HRF.out ⟨#[99, 112, 117, 61]⟩ (wd ws 2) _ b0 2 _ _ (HSZ.out _) HVB.out rfl) ?_; rintro e w5 ⟨u5, rfl, hu, rfl⟩; rw [HRK.out, HFK.out])
      have HS5 : Hid (LG w (u5.setCell ⟨b0, 2, none⟩ (.int .i64 F1)) bn #[.string ⟨#[99, 112, 117, 61]⟩, .pointer (some ⟨b0, 2, none⟩)] 45 ∧ LG w (u5.setCell ⟨b0, 2, none⟩ (.int .i64 F1)) b0 #[.string W0, .int .i64 F0, .int .i64 F1, .int .i64 0, .int .i64 0, .int .i64 0, .string ⟨#[]⟩, .int .i64 0] 23 ∧ LG w (u5.setCell ⟨b0, 2, none⟩ (.int .i64 F1)) g #[.string ⟨#[116, 101, 110, 97, 110, 116, 61]⟩, .pointer (some ⟨b0, 1, none⟩), .string ⟨#[99, 112, 117, 61]⟩, .pointer (some ⟨b0, 2, none⟩), .string ⟨#[109, 101, 109, 61]⟩, .pointer (some ⟨b0, 3, none⟩), .string ⟨#[122, 111, 110, 101, 61]⟩, .pointer (some ⟨b0, 4, none⟩), .string ⟨#[97, 112, 97, 114, 116, 61]⟩, .pointer (some ⟨b0, 5, none⟩)] 45) := ⟨(HSB.out.1.step hu).keep 2 _ HVB.out.ge (by have := HBN.out; omega), (HVB.out.step hu).setK 2 (.int .i64 F1), (HSB.out.2.2.step hu).keep 2 _ HVB.out.ge (by have := HGB.out; omega)⟩
      clear hu
      refine hK _ _ ⟨HS5.out.1, ⟨_, HS5.out.2.1⟩, HS5.out.2.2⟩ ?_
      clear hK K
      refine wpAnyH_take (i := 7) (v := .bool !RK) rfl (by kernel_rfl) (by kernel_rfl) (by kernel_rfl) (fun _ _ _ h => h) (Or.inl ⟨by kernel_rfl, fun w9 h9 => ?_⟩) ⟨HS5.out.1, ⟨_, HS5.out.2.1⟩, HS5.out.2.2⟩ ?_
      · go_simp
      refine wpAnyH_done (by kernel_rfl) ?_ _
      go_simp
      cases RK
      · have hA : RA = false := (by rw [HAL.out]; have h9 : rfB vk1 (wd ws 2) = false := hRK; rw [h9]; simp)
        obtain ⟨e1, e2⟩ := HNO.out hA
        have E1 : Hid (RB = false) := e1
        have E2 : Hid (RV = vmc0) := e2
        clear e1 e2 hA hRK
        generalize (u5.setCell ⟨b0, 2, none⟩ (.int .i64 F1)) = u6 at *
        have HL1 : Hid (LG w u6 b0 #[.string W0, .int .i64 F0, .int .i64 F1, .int .i64 0, .int .i64 0, .int .i64 0, .string ⟨#[]⟩, .int .i64 0] 23) := HS5.out.2.1
        have k0 := HL1.out.cel 0 _ rfl
        have k1 := HL1.out.cel 1 _ rfl
        have k2 := HL1.out.cel 2 _ rfl
        have k3 := HL1.out.cel 3 _ rfl
        have k4 := HL1.out.cel 4 _ rfl
        have k5 := HL1.out.cel 5 _ rfl
        have k6 := HL1.out.cel 6 _ rfl
        have k7 := HL1.out.cel 7 _ rfl
        have kl := HL1.out.lt
        have kf := HL1.out.frz
        go_wp2
        refine bodyPost_ret (v := .tuple #[.agg #[.string ⟨#[]⟩, .int .i64 0, .int .i64 0, .int .i64 0, .int .i64 0, .int .i64 0, .string ⟨#[]⟩, .int .i64 0], .bool false]) ?_ rfl ⟨by rw [E1.out, E2.out]; rfl, ?_⟩
        · simp only [results, Tryd.results14, go_sem]
          simp [go_sem, k0, k1, k2, k3, k4, k5, k6, k7]
        · have hb9 := HL1.out.bel
          rw [HB9.out] at hb9
          first | rw [HB9.out] | skip
          repeat refine Below.setCell ?_ (by simp only; omega) _
          exact hb9
      · generalize (u5.setCell ⟨b0, 2, none⟩ (.int .i64 F1)) = u6 at *
        go_wp2
        exact ⟨⟨HS5.out.2.2, .inr (.inr (.inl ⟨rfl, HS5.out.2.1, HT.out.2, hRK⟩))⟩, by simp [intOf]⟩
    · have HT : Hid (True ∧ rfB vk0 (wd ws 1) = true ∧ rfB vk1 (wd ws 2) = true) := ⟨trivial, t0, t1⟩
      obtain ⟨RK, hRK⟩ : ∃ RK, rfB vk2 (wd ws 3) = RK := ⟨_, rfl⟩
      have HRK : Hid (rfB ⟨#[109, 101, 109, 61]⟩ (wd ws 3) = RK) := hRK
      have HFK : Hid (rfN ⟨#[109, 101, 109, 61]⟩ (wd ws 3) = F2) := HFs.out.2.2.1
      have q0 := HG.out.cel 4 _ rfl
      have q1 := HG.out.cel 5 _ rfl
      have ql := HG.out.lt
      have HLN : Hid (LG w (wr.alloc (.cells #[.string ⟨#[109, 101, 109, 61]⟩, .pointer (some ⟨b0, 3, none⟩)] 45)) wr.heap.size #[.string ⟨#[109, 101, 109, 61]⟩, .pointer (some ⟨b0, 3, none⟩)] 45 ∧ LG w (wr.alloc (.cells #[.string ⟨#[109, 101, 109, 61]⟩, .pointer (some ⟨b0, 3, none⟩)] 45)) b0 #[.string W0, .int .i64 F0, .int .i64 F1, .int .i64 0, .int .i64 0, .int .i64 0, .string ⟨#[]⟩, .int .i64 0] 23 ∧ LG w (wr.alloc (.cells #[.string ⟨#[109, 101, 109, 61]⟩, .pointer (some ⟨b0, 3, none⟩)] 45)) g #[.string ⟨#[116, 101, 110, 97, 110, 116, 61]⟩, .pointer (some ⟨b0, 1, none⟩), .string ⟨#[99, 112, 117, 61]⟩, .pointer (some ⟨b0, 2, none⟩), .string ⟨#[109, 101, 109, 61]⟩, .pointer (some ⟨b0, 3, none⟩), .string ⟨#[122, 111, 110, 101, 61]⟩, .pointer (some ⟨b0, 4, none⟩), .string ⟨#[97, 112, 97, 114, 116, 61]⟩, .pointer (some ⟨b0, 5, none⟩)] 45) := ⟨⟨hlb.bel.trans ((bx1 wr _).mono hlb.bel.size), heap_new _ _, hlb.bel.size⟩, hlb.step (bx1 _ _), HG.out.step (bx1 _ _)⟩
      have HBN : Hid (b0 < wr.heap.size) := hlb.lt
      clear hlb t0 t1
      go_upto_region 8 with fail
      clear q0 q1 ql HG
      generalize (wr.alloc (.cells #[.string ⟨#[109, 101, 109, 61]⟩, .pointer (some ⟨b0, 3, none⟩)] 45)) = v0 at *
      generalize wr.heap.size = bn at *
      have HVB : Hid (LG w v0.drew b0 #[.string W0, .int .i64 F0, .int .i64 F1, .int .i64 0, .int .i64 0, .int .i64 0, .string ⟨#[]⟩, .int .i64 0] 23) := HLN.out.2.1.drew
      have HSB : Hid (LG w v0.drew bn #[.string ⟨#[109, 101, 109, 61]⟩, .pointer (some ⟨b0, 3, none⟩)] 45 ∧ (∃ cs, LG w v0.drew b0 cs 23) ∧ LG w v0.drew g #[.string ⟨#[116, 101, 110, 97, 110, 116, 61]⟩, .pointer (some ⟨b0, 1, none⟩), .string ⟨#[99, 112, 117, 61]⟩, .pointer (some ⟨b0, 2, none⟩), .string ⟨#[109, 101, 109, 61]⟩, .pointer (some ⟨b0, 3, none⟩), .string ⟨#[122, 111, 110, 101, 61]⟩, .pointer (some ⟨b0, 4, none⟩), .string ⟨#[97, 112, 97, 114, 116, 61]⟩, .pointer (some ⟨b0, 5, none⟩)] 45) := ⟨HLN.out.1.drew, ⟨_, HLN.out.2.1.drew⟩, HLN.out.2.2.drew⟩
      refine wp_region_held (S := fun w9 => LG w w9 bn #[.string ⟨#[109, 101, 109, 61]⟩, .pointer (some ⟨b0, 3, none⟩)] 45 ∧ (∃ cs, LG w w9 b0 cs 23) ∧ LG w w9 g #[.string ⟨#[116, 101, 110, 97, 110, 116, 61]⟩, .pointer (some ⟨b0, 1, none⟩), .string ⟨#[99, 112, 117, 61]⟩, .pointer (some ⟨b0, 2, none⟩), .string ⟨#[109, 101, 109, 61]⟩, .pointer (some ⟨b0, 3, none⟩), .string ⟨#[122, 111, 110, 101, 61]⟩, .pointer (some ⟨b0, 4, none⟩), .string ⟨#[97, 112, 97, 114, 116, 61]⟩, .pointer (some ⟨b0, 5, none⟩)] 45) (by kernel_rfl) ?_
      change wpAnyH _ _ _ _ _ _ _ _ (World.drew _)
      refine wpAnyH_take (i := 0) (v := .agg #[.string ⟨#[109, 101, 109, 61]⟩, .pointer (some ⟨b0, 3, none⟩)]) rfl (by kernel_rfl) (by kernel_rfl) (by kernel_rfl) (fun _ _ _ h => h) (Or.inl ⟨by kernel_rfl, fun w9 h9 => ?_⟩) HSB.out ?_
      · have k0 := h9.1.cel 0 _ rfl; have k1 := h9.1.cel 1 _ rfl; have kl := h9.1.lt; have kw := HWD.out _ h9.1.bel 3 (by omega); have kg := HLW.out _ h9.1.bel; clear h9; go_simp
      refine wpAnyH_take (i := 1) (v := .slice (some ⟨g1, o1, none⟩) 6 cv) rfl (by kernel_rfl) (by kernel_rfl) (by kernel_rfl) (fun _ _ _ h => h) (Or.inl ⟨by kernel_rfl, fun w9 h9 => ?_⟩) HSB.out ?_
      · go_simp
      refine wpAnyH_take (i := 2) (v := .int .i64 2) rfl (by kernel_rfl) (by kernel_rfl) (by kernel_rfl) (fun _ _ _ h => h) (Or.inl ⟨by kernel_rfl, fun w9 h9 => ?_⟩) HSB.out ?_
      · go_simp
      refine wpAnyH_take (i := 3) (v := .int .i64 3) rfl (by kernel_rfl) (by kernel_rfl) (by kernel_rfl) (fun _ _ _ h => h) (Or.inl ⟨by kernel_rfl, fun w9 h9 => ?_⟩) HSB.out ?_
      · go_simp; all_goals first | rfl | decide | (rw [IntKind.wrap_i64]; omega)
      refine wpAnyH_take (i := 4) (v := .pointer (some ⟨g1, o1 + 3, none⟩)) rfl (by kernel_rfl) (by kernel_rfl) (by kernel_rfl) (fun _ _ _ h => h) (Or.inl ⟨by kernel_rfl, fun w9 h9 => ?_⟩) HSB.out ?_
      · go_simp
      refine wpAnyH_take (i := 5) (v := .string (wd ws 3)) rfl (by kernel_rfl) (by kernel_rfl) (by kernel_rfl) (fun _ _ _ h => h) (Or.inl ⟨by kernel_rfl, fun w9 h9 => ?_⟩) HSB.out ?_
      · have k0 := h9.1.cel 0 _ rfl; have k1 := h9.1.cel 1 _ rfl; have kl := h9.1.lt; have kw := HWD.out _ h9.1.bel 3 (by omega); have kg := HLW.out _ h9.1.bel; clear h9; go_simp
      refine held_one 6 (by kernel_rfl) rfl (by kernel_rfl) fun K hK => ?_
      go_simp
      go_wp2_with (go_at_call 26; refine Calls.mono (HRF.out ⟨#[109, 101, 109, 61]⟩ (wd ws 3) _ b0 3 _ _ (HSZ.out _) HVB.out rfl) ?_; rintro e w5 ⟨u5, rfl, hu, rfl⟩; rw [HRK.out, HFK.out])
      have HS5 : Hid (LG w (u5.setCell ⟨b0, 3, none⟩ (.int .i64 F2)) bn #[.string ⟨#[109, 101, 109, 61]⟩, .pointer (some ⟨b0, 3, none⟩)] 45 ∧ LG w (u5.setCell ⟨b0, 3, none⟩ (.int .i64 F2)) b0 #[.string W0, .int .i64 F0, .int .i64 F1, .int .i64 F2, .int .i64 0, .int .i64 0, .string ⟨#[]⟩, .int .i64 0] 23 ∧ LG w (u5.setCell ⟨b0, 3, none⟩ (.int .i64 F2)) g #[.string ⟨#[116, 101, 110, 97, 110, 116, 61]⟩, .pointer (some ⟨b0, 1, none⟩), .string ⟨#[99, 112, 117, 61]⟩, .pointer (some ⟨b0, 2, none⟩), .string ⟨#[109, 101, 109, 61]⟩, .pointer (some ⟨b0, 3, none⟩), .string ⟨#[122, 111, 110, 101, 61]⟩, .pointer (some ⟨b0, 4, none⟩), .string ⟨#[97, 112, 97, 114, 116, 61]⟩, .pointer (some ⟨b0, 5, none⟩)] 45) := ⟨(HSB.out.1.step hu).keep 3 _ HVB.out.ge (by have := HBN.out; omega), (HVB.out.step hu).setK 3 (.int .i64 F2), (HSB.out.2.2.step hu).keep 3 _ HVB.out.ge (by have := HGB.out; omega)⟩
      clear hu
      refine hK _ _ ⟨HS5.out.1, ⟨_, HS5.out.2.1⟩, HS5.out.2.2⟩ ?_
      clear hK K
      refine wpAnyH_take (i := 7) (v := .bool !RK) rfl (by kernel_rfl) (by kernel_rfl) (by kernel_rfl) (fun _ _ _ h => h) (Or.inl ⟨by kernel_rfl, fun w9 h9 => ?_⟩) ⟨HS5.out.1, ⟨_, HS5.out.2.1⟩, HS5.out.2.2⟩ ?_
      · go_simp
      refine wpAnyH_done (by kernel_rfl) ?_ _
      go_simp
      cases RK
      · have hA : RA = false := (by rw [HAL.out]; have h9 : rfB vk2 (wd ws 3) = false := hRK; rw [h9]; simp)
        obtain ⟨e1, e2⟩ := HNO.out hA
        have E1 : Hid (RB = false) := e1
        have E2 : Hid (RV = vmc0) := e2
        clear e1 e2 hA hRK
        generalize (u5.setCell ⟨b0, 3, none⟩ (.int .i64 F2)) = u6 at *
        have HL1 : Hid (LG w u6 b0 #[.string W0, .int .i64 F0, .int .i64 F1, .int .i64 F2, .int .i64 0, .int .i64 0, .string ⟨#[]⟩, .int .i64 0] 23) := HS5.out.2.1
        have k0 := HL1.out.cel 0 _ rfl
        have k1 := HL1.out.cel 1 _ rfl
        have k2 := HL1.out.cel 2 _ rfl
        have k3 := HL1.out.cel 3 _ rfl
        have k4 := HL1.out.cel 4 _ rfl
        have k5 := HL1.out.cel 5 _ rfl
        have k6 := HL1.out.cel 6 _ rfl
        have k7 := HL1.out.cel 7 _ rfl
        have kl := HL1.out.lt
        have kf := HL1.out.frz
        go_wp2
        refine bodyPost_ret (v := .tuple #[.agg #[.string ⟨#[]⟩, .int .i64 0, .int .i64 0, .int .i64 0, .int .i64 0, .int .i64 0, .string ⟨#[]⟩, .int .i64 0], .bool false]) ?_ rfl ⟨by rw [E1.out, E2.out]; rfl, ?_⟩
        · simp only [results, Tryd.results14, go_sem]
          simp [go_sem, k0, k1, k2, k3, k4, k5, k6, k7]
        · have hb9 := HL1.out.bel
          rw [HB9.out] at hb9
          first | rw [HB9.out] | skip
          repeat refine Below.setCell ?_ (by simp only; omega) _
          exact hb9
      · generalize (u5.setCell ⟨b0, 3, none⟩ (.int .i64 F2)) = u6 at *
        go_wp2
        exact ⟨⟨HS5.out.2.2, .inr (.inr (.inr (.inl ⟨rfl, HS5.out.2.1, HT.out.2.1, HT.out.2.2, hRK⟩)))⟩, by simp [intOf]⟩
    · have HT : Hid (True ∧ rfB vk0 (wd ws 1) = true ∧ rfB vk1 (wd ws 2) = true ∧ rfB vk2 (wd ws 3) = true) := ⟨trivial, t0, t1, t2⟩
      obtain ⟨RK, hRK⟩ : ∃ RK, rfB vk3 (wd ws 4) = RK := ⟨_, rfl⟩
      have HRK : Hid (rfB ⟨#[122, 111, 110, 101, 61]⟩ (wd ws 4) = RK) := hRK
      have HFK : Hid (rfN ⟨#[122, 111, 110, 101, 61]⟩ (wd ws 4) = F3) := HFs.out.2.2.2.1
      have q0 := HG.out.cel 6 _ rfl
      have q1 := HG.out.cel 7 _ rfl
      have ql := HG.out.lt
      have HLN : Hid (LG w (wr.alloc (.cells #[.string ⟨#[122, 111, 110, 101, 61]⟩, .pointer (some ⟨b0, 4, none⟩)] 45)) wr.heap.size #[.string ⟨#[122, 111, 110, 101, 61]⟩, .pointer (some ⟨b0, 4, none⟩)] 45 ∧ LG w (wr.alloc (.cells #[.string ⟨#[122, 111, 110, 101, 61]⟩, .pointer (some ⟨b0, 4, none⟩)] 45)) b0 #[.string W0, .int .i64 F0, .int .i64 F1, .int .i64 F2, .int .i64 0, .int .i64 0, .string ⟨#[]⟩, .int .i64 0] 23 ∧ LG w (wr.alloc (.cells #[.string ⟨#[122, 111, 110, 101, 61]⟩, .pointer (some ⟨b0, 4, none⟩)] 45)) g #[.string ⟨#[116, 101, 110, 97, 110, 116, 61]⟩, .pointer (some ⟨b0, 1, none⟩), .string ⟨#[99, 112, 117, 61]⟩, .pointer (some ⟨b0, 2, none⟩), .string ⟨#[109, 101, 109, 61]⟩, .pointer (some ⟨b0, 3, none⟩), .string ⟨#[122, 111, 110, 101, 61]⟩, .pointer (some ⟨b0, 4, none⟩), .string ⟨#[97, 112, 97, 114, 116, 61]⟩, .pointer (some ⟨b0, 5, none⟩)] 45) := ⟨⟨hlb.bel.trans ((bx1 wr _).mono hlb.bel.size), heap_new _ _, hlb.bel.size⟩, hlb.step (bx1 _ _), HG.out.step (bx1 _ _)⟩
      have HBN : Hid (b0 < wr.heap.size) := hlb.lt
      clear hlb t0 t1 t2
      go_upto_region 8 with fail
      clear q0 q1 ql HG
      generalize (wr.alloc (.cells #[.string ⟨#[122, 111, 110, 101, 61]⟩, .pointer (some ⟨b0, 4, none⟩)] 45)) = v0 at *
      generalize wr.heap.size = bn at *
      have HVB : Hid (LG w v0.drew b0 #[.string W0, .int .i64 F0, .int .i64 F1, .int .i64 F2, .int .i64 0, .int .i64 0, .string ⟨#[]⟩, .int .i64 0] 23) := HLN.out.2.1.drew
      have HSB : Hid (LG w v0.drew bn #[.string ⟨#[122, 111, 110, 101, 61]⟩, .pointer (some ⟨b0, 4, none⟩)] 45 ∧ (∃ cs, LG w v0.drew b0 cs 23) ∧ LG w v0.drew g #[.string ⟨#[116, 101, 110, 97, 110, 116, 61]⟩, .pointer (some ⟨b0, 1, none⟩), .string ⟨#[99, 112, 117, 61]⟩, .pointer (some ⟨b0, 2, none⟩), .string ⟨#[109, 101, 109, 61]⟩, .pointer (some ⟨b0, 3, none⟩), .string ⟨#[122, 111, 110, 101, 61]⟩, .pointer (some ⟨b0, 4, none⟩), .string ⟨#[97, 112, 97, 114, 116, 61]⟩, .pointer (some ⟨b0, 5, none⟩)] 45) := ⟨HLN.out.1.drew, ⟨_, HLN.out.2.1.drew⟩, HLN.out.2.2.drew⟩
      refine wp_region_held (S := fun w9 => LG w w9 bn #[.string ⟨#[122, 111, 110, 101, 61]⟩, .pointer (some ⟨b0, 4, none⟩)] 45 ∧ (∃ cs, LG w w9 b0 cs 23) ∧ LG w w9 g #[.string ⟨#[116, 101, 110, 97, 110, 116, 61]⟩, .pointer (some ⟨b0, 1, none⟩), .string ⟨#[99, 112, 117, 61]⟩, .pointer (some ⟨b0, 2, none⟩), .string ⟨#[109, 101, 109, 61]⟩, .pointer (some ⟨b0, 3, none⟩), .string ⟨#[122, 111, 110, 101, 61]⟩, .pointer (some ⟨b0, 4, none⟩), .string ⟨#[97, 112, 97, 114, 116, 61]⟩, .pointer (some ⟨b0, 5, none⟩)] 45) (by kernel_rfl) ?_
      change wpAnyH _ _ _ _ _ _ _ _ (World.drew _)
      refine wpAnyH_take (i := 0) (v := .agg #[.string ⟨#[122, 111, 110, 101, 61]⟩, .pointer (some ⟨b0, 4, none⟩)]) rfl (by kernel_rfl) (by kernel_rfl) (by kernel_rfl) (fun _ _ _ h => h) (Or.inl ⟨by kernel_rfl, fun w9 h9 => ?_⟩) HSB.out ?_
      · have k0 := h9.1.cel 0 _ rfl; have k1 := h9.1.cel 1 _ rfl; have kl := h9.1.lt; have kw := HWD.out _ h9.1.bel 4 (by omega); have kg := HLW.out _ h9.1.bel; clear h9; go_simp
      refine wpAnyH_take (i := 1) (v := .slice (some ⟨g1, o1, none⟩) 6 cv) rfl (by kernel_rfl) (by kernel_rfl) (by kernel_rfl) (fun _ _ _ h => h) (Or.inl ⟨by kernel_rfl, fun w9 h9 => ?_⟩) HSB.out ?_
      · go_simp
      refine wpAnyH_take (i := 2) (v := .int .i64 3) rfl (by kernel_rfl) (by kernel_rfl) (by kernel_rfl) (fun _ _ _ h => h) (Or.inl ⟨by kernel_rfl, fun w9 h9 => ?_⟩) HSB.out ?_
      · go_simp
      refine wpAnyH_take (i := 3) (v := .int .i64 4) rfl (by kernel_rfl) (by kernel_rfl) (by kernel_rfl) (fun _ _ _ h => h) (Or.inl ⟨by kernel_rfl, fun w9 h9 => ?_⟩) HSB.out ?_
      · go_simp; all_goals first | rfl | decide | (rw [IntKind.wrap_i64]; omega)
      refine wpAnyH_take (i := 4) (v := .pointer (some ⟨g1, o1 + 4, none⟩)) rfl (by kernel_rfl) (by kernel_rfl) (by kernel_rfl) (fun _ _ _ h => h) (Or.inl ⟨by kernel_rfl, fun w9 h9 => ?_⟩) HSB.out ?_
      · go_simp
      refine wpAnyH_take (i := 5) (v := .string (wd ws 4)) rfl (by kernel_rfl) (by kernel_rfl) (by kernel_rfl) (fun _ _ _ h => h) (Or.inl ⟨by kernel_rfl, fun w9 h9 => ?_⟩) HSB.out ?_
      · have k0 := h9.1.cel 0 _ rfl; have k1 := h9.1.cel 1 _ rfl; have kl := h9.1.lt; have kw := HWD.out _ h9.1.bel 4 (by omega); have kg := HLW.out _ h9.1.bel; clear h9; go_simp
      refine held_one 6 (by kernel_rfl) rfl (by kernel_rfl) fun K hK => ?_
      go_simp
      go_wp2_with (go_at_call 26; refine Calls.mono (HRF.out ⟨#[122, 111, 110, 101, 61]⟩ (wd ws 4) _ b0 4 _ _ (HSZ.out _) HVB.out rfl) ?_; rintro e w5 ⟨u5, rfl, hu, rfl⟩; rw [HRK.out, HFK.out])
      have HS5 : Hid (LG w (u5.setCell ⟨b0, 4, none⟩ (.int .i64 F3)) bn #[.string ⟨#[122, 111, 110, 101, 61]⟩, .pointer (some ⟨b0, 4, none⟩)] 45 ∧ LG w (u5.setCell ⟨b0, 4, none⟩ (.int .i64 F3)) b0 #[.string W0, .int .i64 F0, .int .i64 F1, .int .i64 F2, .int .i64 F3, .int .i64 0, .string ⟨#[]⟩, .int .i64 0] 23 ∧ LG w (u5.setCell ⟨b0, 4, none⟩ (.int .i64 F3)) g #[.string ⟨#[116, 101, 110, 97, 110, 116, 61]⟩, .pointer (some ⟨b0, 1, none⟩), .string ⟨#[99, 112, 117, 61]⟩, .pointer (some ⟨b0, 2, none⟩), .string ⟨#[109, 101, 109, 61]⟩, .pointer (some ⟨b0, 3, none⟩), .string ⟨#[122, 111, 110, 101, 61]⟩, .pointer (some ⟨b0, 4, none⟩), .string ⟨#[97, 112, 97, 114, 116, 61]⟩, .pointer (some ⟨b0, 5, none⟩)] 45) := ⟨(HSB.out.1.step hu).keep 4 _ HVB.out.ge (by have := HBN.out; omega), (HVB.out.step hu).setK 4 (.int .i64 F3), (HSB.out.2.2.step hu).keep 4 _ HVB.out.ge (by have := HGB.out; omega)⟩
      clear hu
      refine hK _ _ ⟨HS5.out.1, ⟨_, HS5.out.2.1⟩, HS5.out.2.2⟩ ?_
      clear hK K
      refine wpAnyH_take (i := 7) (v := .bool !RK) rfl (by kernel_rfl) (by kernel_rfl) (by kernel_rfl) (fun _ _ _ h => h) (Or.inl ⟨by kernel_rfl, fun w9 h9 => ?_⟩) ⟨HS5.out.1, ⟨_, HS5.out.2.1⟩, HS5.out.2.2⟩ ?_
      · go_simp
      refine wpAnyH_done (by kernel_rfl) ?_ _
      go_simp
      cases RK
      · have hA : RA = false := (by rw [HAL.out]; have h9 : rfB vk3 (wd ws 4) = false := hRK; rw [h9]; simp)
        obtain ⟨e1, e2⟩ := HNO.out hA
        have E1 : Hid (RB = false) := e1
        have E2 : Hid (RV = vmc0) := e2
        clear e1 e2 hA hRK
        generalize (u5.setCell ⟨b0, 4, none⟩ (.int .i64 F3)) = u6 at *
        have HL1 : Hid (LG w u6 b0 #[.string W0, .int .i64 F0, .int .i64 F1, .int .i64 F2, .int .i64 F3, .int .i64 0, .string ⟨#[]⟩, .int .i64 0] 23) := HS5.out.2.1
        have k0 := HL1.out.cel 0 _ rfl
        have k1 := HL1.out.cel 1 _ rfl
        have k2 := HL1.out.cel 2 _ rfl
        have k3 := HL1.out.cel 3 _ rfl
        have k4 := HL1.out.cel 4 _ rfl
        have k5 := HL1.out.cel 5 _ rfl
        have k6 := HL1.out.cel 6 _ rfl
        have k7 := HL1.out.cel 7 _ rfl
        have kl := HL1.out.lt
        have kf := HL1.out.frz
        go_wp2
        refine bodyPost_ret (v := .tuple #[.agg #[.string ⟨#[]⟩, .int .i64 0, .int .i64 0, .int .i64 0, .int .i64 0, .int .i64 0, .string ⟨#[]⟩, .int .i64 0], .bool false]) ?_ rfl ⟨by rw [E1.out, E2.out]; rfl, ?_⟩
        · simp only [results, Tryd.results14, go_sem]
          simp [go_sem, k0, k1, k2, k3, k4, k5, k6, k7]
        · have hb9 := HL1.out.bel
          rw [HB9.out] at hb9
          first | rw [HB9.out] | skip
          repeat refine Below.setCell ?_ (by simp only; omega) _
          exact hb9
      · generalize (u5.setCell ⟨b0, 4, none⟩ (.int .i64 F3)) = u6 at *
        go_wp2
        exact ⟨⟨HS5.out.2.2, .inr (.inr (.inr (.inr (.inl ⟨rfl, HS5.out.2.1, HT.out.2.1, HT.out.2.2.1, HT.out.2.2.2, hRK⟩))))⟩, by simp [intOf]⟩
    · have HT : Hid (True ∧ rfB vk0 (wd ws 1) = true ∧ rfB vk1 (wd ws 2) = true ∧ rfB vk2 (wd ws 3) = true ∧ rfB vk3 (wd ws 4) = true) := ⟨trivial, t0, t1, t2, t3⟩
      obtain ⟨RK, hRK⟩ : ∃ RK, rfB vk4 (wd ws 5) = RK := ⟨_, rfl⟩
      have HRK : Hid (rfB ⟨#[97, 112, 97, 114, 116, 61]⟩ (wd ws 5) = RK) := hRK
      have HFK : Hid (rfN ⟨#[97, 112, 97, 114, 116, 61]⟩ (wd ws 5) = F4) := HFs.out.2.2.2.2
      have q0 := HG.out.cel 8 _ rfl
      have q1 := HG.out.cel 9 _ rfl
      have ql := HG.out.lt
      have HLN : Hid (LG w (wr.alloc (.cells #[.string ⟨#[97, 112, 97, 114, 116, 61]⟩, .pointer (some ⟨b0, 5, none⟩)] 45)) wr.heap.size #[.string ⟨#[97, 112, 97, 114, 116, 61]⟩, .pointer (some ⟨b0, 5, none⟩)] 45 ∧ LG w (wr.alloc (.cells #[.string ⟨#[97, 112, 97, 114, 116, 61]⟩, .pointer (some ⟨b0, 5, none⟩)] 45)) b0 #[.string W0, .int .i64 F0, .int .i64 F1, .int .i64 F2, .int .i64 F3, .int .i64 0, .string ⟨#[]⟩, .int .i64 0] 23 ∧ LG w (wr.alloc (.cells #[.string ⟨#[97, 112, 97, 114, 116, 61]⟩, .pointer (some ⟨b0, 5, none⟩)] 45)) g #[.string ⟨#[116, 101, 110, 97, 110, 116, 61]⟩, .pointer (some ⟨b0, 1, none⟩), .string ⟨#[99, 112, 117, 61]⟩, .pointer (some ⟨b0, 2, none⟩), .string ⟨#[109, 101, 109, 61]⟩, .pointer (some ⟨b0, 3, none⟩), .string ⟨#[122, 111, 110, 101, 61]⟩, .pointer (some ⟨b0, 4, none⟩), .string ⟨#[97, 112, 97, 114, 116, 61]⟩, .pointer (some ⟨b0, 5, none⟩)] 45) := ⟨⟨hlb.bel.trans ((bx1 wr _).mono hlb.bel.size), heap_new _ _, hlb.bel.size⟩, hlb.step (bx1 _ _), HG.out.step (bx1 _ _)⟩
      have HBN : Hid (b0 < wr.heap.size) := hlb.lt
      clear hlb t0 t1 t2 t3
      go_upto_region 8 with fail
      clear q0 q1 ql HG
      generalize (wr.alloc (.cells #[.string ⟨#[97, 112, 97, 114, 116, 61]⟩, .pointer (some ⟨b0, 5, none⟩)] 45)) = v0 at *
      generalize wr.heap.size = bn at *
      have HVB : Hid (LG w v0.drew b0 #[.string W0, .int .i64 F0, .int .i64 F1, .int .i64 F2, .int .i64 F3, .int .i64 0, .string ⟨#[]⟩, .int .i64 0] 23) := HLN.out.2.1.drew
      have HSB : Hid (LG w v0.drew bn #[.string ⟨#[97, 112, 97, 114, 116, 61]⟩, .pointer (some ⟨b0, 5, none⟩)] 45 ∧ (∃ cs, LG w v0.drew b0 cs 23) ∧ LG w v0.drew g #[.string ⟨#[116, 101, 110, 97, 110, 116, 61]⟩, .pointer (some ⟨b0, 1, none⟩), .string ⟨#[99, 112, 117, 61]⟩, .pointer (some ⟨b0, 2, none⟩), .string ⟨#[109, 101, 109, 61]⟩, .pointer (some ⟨b0, 3, none⟩), .string ⟨#[122, 111, 110, 101, 61]⟩, .pointer (some ⟨b0, 4, none⟩), .string ⟨#[97, 112, 97, 114, 116, 61]⟩, .pointer (some ⟨b0, 5, none⟩)] 45) := ⟨HLN.out.1.drew, ⟨_, HLN.out.2.1.drew⟩, HLN.out.2.2.drew⟩
      refine wp_region_held (S := fun w9 => LG w w9 bn #[.string ⟨#[97, 112, 97, 114, 116, 61]⟩, .pointer (some ⟨b0, 5, none⟩)] 45 ∧ (∃ cs, LG w w9 b0 cs 23) ∧ LG w w9 g #[.string ⟨#[116, 101, 110, 97, 110, 116, 61]⟩, .pointer (some ⟨b0, 1, none⟩), .string ⟨#[99, 112, 117, 61]⟩, .pointer (some ⟨b0, 2, none⟩), .string ⟨#[109, 101, 109, 61]⟩, .pointer (some ⟨b0, 3, none⟩), .string ⟨#[122, 111, 110, 101, 61]⟩, .pointer (some ⟨b0, 4, none⟩), .string ⟨#[97, 112, 97, 114, 116, 61]⟩, .pointer (some ⟨b0, 5, none⟩)] 45) (by kernel_rfl) ?_
      change wpAnyH _ _ _ _ _ _ _ _ (World.drew _)
      refine wpAnyH_take (i := 0) (v := .agg #[.string ⟨#[97, 112, 97, 114, 116, 61]⟩, .pointer (some ⟨b0, 5, none⟩)]) rfl (by kernel_rfl) (by kernel_rfl) (by kernel_rfl) (fun _ _ _ h => h) (Or.inl ⟨by kernel_rfl, fun w9 h9 => ?_⟩) HSB.out ?_
      · have k0 := h9.1.cel 0 _ rfl; have k1 := h9.1.cel 1 _ rfl; have kl := h9.1.lt; have kw := HWD.out _ h9.1.bel 5 (by omega); have kg := HLW.out _ h9.1.bel; clear h9; go_simp
      refine wpAnyH_take (i := 1) (v := .slice (some ⟨g1, o1, none⟩) 6 cv) rfl (by kernel_rfl) (by kernel_rfl) (by kernel_rfl) (fun _ _ _ h => h) (Or.inl ⟨by kernel_rfl, fun w9 h9 => ?_⟩) HSB.out ?_
      · go_simp
      refine wpAnyH_take (i := 2) (v := .int .i64 4) rfl (by kernel_rfl) (by kernel_rfl) (by kernel_rfl) (fun _ _ _ h => h) (Or.inl ⟨by kernel_rfl, fun w9 h9 => ?_⟩) HSB.out ?_
      · go_simp
      refine wpAnyH_take (i := 3) (v := .int .i64 5) rfl (by kernel_rfl) (by kernel_rfl) (by kernel_rfl) (fun _ _ _ h => h) (Or.inl ⟨by kernel_rfl, fun w9 h9 => ?_⟩) HSB.out ?_
      · go_simp; all_goals first | rfl | decide | (rw [IntKind.wrap_i64]; omega)
      refine wpAnyH_take (i := 4) (v := .pointer (some ⟨g1, o1 + 5, none⟩)) rfl (by kernel_rfl) (by kernel_rfl) (by kernel_rfl) (fun _ _ _ h => h) (Or.inl ⟨by kernel_rfl, fun w9 h9 => ?_⟩) HSB.out ?_
      · go_simp
      refine wpAnyH_take (i := 5) (v := .string (wd ws 5)) rfl (by kernel_rfl) (by kernel_rfl) (by kernel_rfl) (fun _ _ _ h => h) (Or.inl ⟨by kernel_rfl, fun w9 h9 => ?_⟩) HSB.out ?_
      · have k0 := h9.1.cel 0 _ rfl; have k1 := h9.1.cel 1 _ rfl; have kl := h9.1.lt; have kw := HWD.out _ h9.1.bel 5 (by omega); have kg := HLW.out _ h9.1.bel; clear h9; go_simp
      refine held_one 6 (by kernel_rfl) rfl (by kernel_rfl) fun K hK => ?_
      go_simp
      go_wp2_with (go_at_call 26; refine Calls.mono (HRF.out ⟨#[97, 112, 97, 114, 116, 61]⟩ (wd ws 5) _ b0 5 _ _ (HSZ.out _) HVB.out rfl) ?_; rintro e w5 ⟨u5, rfl, hu, rfl⟩; rw [HRK.out, HFK.out])
      have HS5 : Hid (LG w (u5.setCell ⟨b0, 5, none⟩ (.int .i64 F4)) bn #[.string ⟨#[97, 112, 97, 114, 116, 61]⟩, .pointer (some ⟨b0, 5, none⟩)] 45 ∧ LG w (u5.setCell ⟨b0, 5, none⟩ (.int .i64 F4)) b0 #[.string W0, .int .i64 F0, .int .i64 F1, .int .i64 F2, .int .i64 F3, .int .i64 F4, .string ⟨#[]⟩, .int .i64 0] 23 ∧ LG w (u5.setCell ⟨b0, 5, none⟩ (.int .i64 F4)) g #[.string ⟨#[116, 101, 110, 97, 110, 116, 61]⟩, .pointer (some ⟨b0, 1, none⟩), .string ⟨#[99, 112, 117, 61]⟩, .pointer (some ⟨b0, 2, none⟩), .string ⟨#[109, 101, 109, 61]⟩, .pointer (some ⟨b0, 3, none⟩), .string ⟨#[122, 111, 110, 101, 61]⟩, .pointer (some ⟨b0, 4, none⟩), .string ⟨#[97, 112, 97, 114, 116, 61]⟩, .pointer (some ⟨b0, 5, none⟩)] 45) := ⟨(HSB.out.1.step hu).keep 5 _ HVB.out.ge (by have := HBN.out; omega), (HVB.out.step hu).setK 5 (.int .i64 F4), (HSB.out.2.2.step hu).keep 5 _ HVB.out.ge (by have := HGB.out; omega)⟩
      clear hu
      refine hK _ _ ⟨HS5.out.1, ⟨_, HS5.out.2.1⟩, HS5.out.2.2⟩ ?_
      clear hK K
      refine wpAnyH_take (i := 7) (v := .bool !RK) rfl (by kernel_rfl) (by kernel_rfl) (by kernel_rfl) (fun _ _ _ h => h) (Or.inl ⟨by kernel_rfl, fun w9 h9 => ?_⟩) ⟨HS5.out.1, ⟨_, HS5.out.2.1⟩, HS5.out.2.2⟩ ?_
      · go_simp
      refine wpAnyH_done (by kernel_rfl) ?_ _
      go_simp
      cases RK
      · have hA : RA = false := (by rw [HAL.out]; have h9 : rfB vk4 (wd ws 5) = false := hRK; rw [h9]; simp)
        obtain ⟨e1, e2⟩ := HNO.out hA
        have E1 : Hid (RB = false) := e1
        have E2 : Hid (RV = vmc0) := e2
        clear e1 e2 hA hRK
        generalize (u5.setCell ⟨b0, 5, none⟩ (.int .i64 F4)) = u6 at *
        have HL1 : Hid (LG w u6 b0 #[.string W0, .int .i64 F0, .int .i64 F1, .int .i64 F2, .int .i64 F3, .int .i64 F4, .string ⟨#[]⟩, .int .i64 0] 23) := HS5.out.2.1
        have k0 := HL1.out.cel 0 _ rfl
        have k1 := HL1.out.cel 1 _ rfl
        have k2 := HL1.out.cel 2 _ rfl
        have k3 := HL1.out.cel 3 _ rfl
        have k4 := HL1.out.cel 4 _ rfl
        have k5 := HL1.out.cel 5 _ rfl
        have k6 := HL1.out.cel 6 _ rfl
        have k7 := HL1.out.cel 7 _ rfl
        have kl := HL1.out.lt
        have kf := HL1.out.frz
        go_wp2
        refine bodyPost_ret (v := .tuple #[.agg #[.string ⟨#[]⟩, .int .i64 0, .int .i64 0, .int .i64 0, .int .i64 0, .int .i64 0, .string ⟨#[]⟩, .int .i64 0], .bool false]) ?_ rfl ⟨by rw [E1.out, E2.out]; rfl, ?_⟩
        · simp only [results, Tryd.results14, go_sem]
          simp [go_sem, k0, k1, k2, k3, k4, k5, k6, k7]
        · have hb9 := HL1.out.bel
          rw [HB9.out] at hb9
          first | rw [HB9.out] | skip
          repeat refine Below.setCell ?_ (by simp only; omega) _
          exact hb9
      · generalize (u5.setCell ⟨b0, 5, none⟩ (.int .i64 F4)) = u6 at *
        go_wp2
        exact ⟨⟨HS5.out.2.2, .inr (.inr (.inr (.inr (.inr (⟨rfl, HS5.out.2.1, HT.out.2.1, HT.out.2.2.1, HT.out.2.2.2.1, HT.out.2.2.2.2, hRK⟩)))))⟩, by simp [intOf]⟩
    · have hA : RA = true := (by rw [HAL.out, t0, t1, t2, t3, t4]; rfl)
      have HRM2 : Hid (RM = ⟨W0, F0, F1, F2, F3, F4, ⟨#[]⟩, 0⟩) := HRM.out
      have HON2 : Hid (∀ B, vmB 8 RM = B → RB = B ∧ RV = if B = true then RM else vmc0) := HON.out hA
      obtain ⟨B, hB⟩ : ∃ B, vmB 8 RM = B := ⟨_, rfl⟩
      obtain ⟨e1, e2⟩ := HON2.out B hB
      have E1 : Hid (RB = B) := e1
      have E2 : Hid (RV = if B = true then RM else vmc0) := e2
      have HI : Hid (∀ u : World, Calls Tryd.prog 18 #[.agg #[.string W0, .int .i64 F0, .int .i64 F1, .int .i64 F2, .int .i64 F3, .int .i64 F4, .string ⟨#[]⟩, .int .i64 0], .int .i64 8] u fun e w' => e = .returned (.bool B) ∧ Below u.heap.size u w') := (by
        intro u
        have h9 := HIO.out RM u
        rw [hB, HRM2.out] at h9
        exact h9)
      have HL1 : Hid (LG w wr b0 #[.string W0, .int .i64 F0, .int .i64 F1, .int .i64 F2, .int .i64 F3, .int .i64 F4, .string ⟨#[]⟩, .int .i64 0] 23) := hlb
      clear hlb t0 t1 t2 t3 t4 hA e1 e2 hB
      have k0 := HL1.out.cel 0 _ rfl
      have k1 := HL1.out.cel 1 _ rfl
      have k2 := HL1.out.cel 2 _ rfl
      have k3 := HL1.out.cel 3 _ rfl
      have k4 := HL1.out.cel 4 _ rfl
      have k5 := HL1.out.cel 5 _ rfl
      have k6 := HL1.out.cel 6 _ rfl
      have k7 := HL1.out.cel 7 _ rfl
      have kl := HL1.out.lt
      have kf := HL1.out.frz
      cases B
      · have E3 : Hid (RV = vmc0) := (show RV = vmc0 by rw [E2.out]; rfl)
        go_upto_region 12 with (go_at_call 18; refine Calls.mono (HI.out _) ?_; rintro e u8 ⟨rfl, hb⟩; have HL8 : Hid (LG w u8 b0 #[.string W0, .int .i64 F0, .int .i64 F1, .int .i64 F2, .int .i64 F3, .int .i64 F4, .string ⟨#[]⟩, .int .i64 0] 23) := HL1.out.step hb; clear hb)
        clear k0 k1 k2 k3 k4 k5 k6 k7 kl kf
        have k0 := HL8.out.cel 0 _ rfl
        have k1 := HL8.out.cel 1 _ rfl
        have k2 := HL8.out.cel 2 _ rfl
        have k3 := HL8.out.cel 3 _ rfl
        have k4 := HL8.out.cel 4 _ rfl
        have k5 := HL8.out.cel 5 _ rfl
        have k6 := HL8.out.cel 6 _ rfl
        have k7 := HL8.out.cel 7 _ rfl
        have kl := HL8.out.lt
        have kf := HL8.out.frz
        go_wp2
        refine bodyPost_ret (v := .tuple #[.agg #[.string ⟨#[]⟩, .int .i64 0, .int .i64 0, .int .i64 0, .int .i64 0, .int .i64 0, .string ⟨#[]⟩, .int .i64 0], .bool false]) ?_ rfl ⟨by rw [E1.out, E3.out]; rfl, ?_⟩
        · simp only [results, Tryd.results14, go_sem]
          simp [go_sem, k0, k1, k2, k3, k4, k5, k6, k7]
        · have hb9 := HL8.out.bel
          rw [HB9.out] at hb9
          first | rw [HB9.out] | skip
          repeat refine Below.setCell ?_ (by simp only; omega) _
          exact hb9
      · have E3 : Hid (RV = ⟨W0, F0, F1, F2, F3, F4, ⟨#[]⟩, 0⟩) := (show RV = _ by rw [E2.out, if_pos rfl]; exact HRM2.out)
        go_upto_region 13 with (go_at_call 18; refine Calls.mono (HI.out _) ?_; rintro e u8 ⟨rfl, hb⟩; have HL8 : Hid (LG w u8 b0 #[.string W0, .int .i64 F0, .int .i64 F1, .int .i64 F2, .int .i64 F3, .int .i64 F4, .string ⟨#[]⟩, .int .i64 0] 23) := HL1.out.step hb; clear hb)
        clear k0 k1 k2 k3 k4 k5 k6 k7 kl kf
        have k0 := HL8.out.cel 0 _ rfl
        have k1 := HL8.out.cel 1 _ rfl
        have k2 := HL8.out.cel 2 _ rfl
        have k3 := HL8.out.cel 3 _ rfl
        have k4 := HL8.out.cel 4 _ rfl
        have k5 := HL8.out.cel 5 _ rfl
        have k6 := HL8.out.cel 6 _ rfl
        have k7 := HL8.out.cel 7 _ rfl
        have kl := HL8.out.lt
        have kf := HL8.out.frz
        go_wp2
        refine bodyPost_ret (v := .tuple #[.agg #[.string W0, .int .i64 F0, .int .i64 F1, .int .i64 F2, .int .i64 F3, .int .i64 F4, .string ⟨#[]⟩, .int .i64 0], .bool true]) ?_ rfl ⟨by rw [E1.out, E3.out], ?_⟩
        · simp only [results, Tryd.results14, go_sem]
          simp [go_sem, k0, k1, k2, k3, k4, k5, k6, k7]
        · have hb9 := HL8.out.bel
          rw [HB9.out] at hb9
          first | rw [HB9.out] | skip
          repeat refine Below.setCell ?_ (by simp only; omega) _
          exact hb9

theorem tooLong_any (s : ByteArray) (w : World) :
    Calls Tryd.prog 13 #[.string s] w fun e w' => e = .returned (.bool (decide (65536 < (s.size : Int)))) ∧ w' = w := by
  go_enter Tryd.func13, Tryd.ntmps13
  go_wp2
  go_ret
  exact ⟨rfl, rfl⟩
theorem wd_size {t x : ByteArray} (h : x ∈ splitB t 32) : x.size ≤ t.size := by
  have hk : ∀ k, ∀ y ∈ (spl t 32 k).2, y.size ≤ t.size := by
    intro k
    induction k with
    | zero => intro y hy; simp [spl] at hy
    | succ k ih =>
      intro y hy
      simp only [spl] at hy
      split at hy
      · rcases List.mem_append.1 hy with hy | hy
        · exact ih y hy
        · rw [List.mem_singleton.1 hy, ByteArray.size_extract]; omega
      · exact ih y hy
  unfold splitB at h
  rcases List.mem_append.1 h with h | h
  · exact hk _ x h
  · rw [List.mem_singleton.1 h, ByteArray.size_extract]; omega
theorem splitB_len (t : ByteArray) : (splitB t 32).length ≤ t.size + 1 := by
  have := (spl_le t 32 t.size).2
  unfold splitB
  rw [List.length_append]
  simp
  omega
set_option maxRecDepth 100000 in
set_option maxHeartbeats 8000000 in
theorem implRV_any (t : ByteArray) (w : World) (ht : Tab w) (hw : 0 < w.heap.size) (he : ErrsAt w) (h1 : 1 < w.heap.size) (h2 : 2 < w.heap.size) :
    Calls Tryd.prog 6 #[.string t] w fun e w' => e = .returned (.agg #[.string (rvP t).name, .int .i64 (rvP t).tenant, .int .i64 (rvP t).cpu, .int .i64 (rvP t).mem, .int .i64 (rvP t).zone, .int .i64 (rvP t).apart, .string (rvP t).node, .int .i64 (rvP t).epoch]) ∧ Below w.heap.size w w' := by
  have HL0 : Hid (LG w (w.alloc (.cells #[.string ⟨#[]⟩, .int .i64 0, .int .i64 0, .int .i64 0, .int .i64 0, .int .i64 0, .string ⟨#[]⟩, .int .i64 0] 23)) w.heap.size #[.string ⟨#[]⟩, .int .i64 0, .int .i64 0, .int .i64 0, .int .i64 0, .int .i64 0, .string ⟨#[]⟩, .int .i64 0] 23) := LG.new w _ _
  cases htl : decide (65536 < (t.size : Int))
  · have hlt : t.size ≤ 65536 := by have := of_decide_eq_false htl; omega
    have HE : Hid (rvP t = rwV (splitB t 32)) := (show _ = _ by unfold rvP; rw [if_neg (by omega)])
    have HTL : Hid (∀ u, Calls Tryd.prog 13 #[.string t] u fun e w' => e = .returned (.bool false) ∧ w' = u) := fun u => by have h9 := tooLong_any t u; rw [htl] at h9; exact h9
    have HWO : Hid (∀ u, Calls Tryd.prog 15 #[.string t] u fun e w' => ∃ v, e = .returned v ∧ Srow w' v (splitB t 32) ∧ Below u.heap.size u w') := fun u => Calls.mono (wordsOf_any t u hlt) (by rintro e w' ⟨v, rfl, ho, hb⟩; exact ⟨v, rfl, Srow.of ho, hb⟩)
    have HRW : Hid (∀ u v, Below w.heap.size w u → Srow u v (splitB t 32) → Calls Tryd.prog 14 #[v] u fun e w' => e = .returned (.tuple #[.agg #[.string (rwV (splitB t 32)).name, .int .i64 (rwV (splitB t 32)).tenant, .int .i64 (rwV (splitB t 32)).cpu, .int .i64 (rwV (splitB t 32)).mem, .int .i64 (rwV (splitB t 32)).zone, .int .i64 (rwV (splitB t 32)).apart, .string (rwV (splitB t 32)).node, .int .i64 (rwV (splitB t 32)).epoch], .bool (rwB (splitB t 32))]) ∧ Below u.heap.size u w') := fun u v hu hr => readVmWords_any hr (by have := splitB_len t; omega) (fun x hx => by have := wd_size hx; omega) (ht.below hu hw) (Nat.lt_of_lt_of_le hw hu.size) (he.below hu h1 h2) (Nat.lt_of_lt_of_le h1 hu.size) (Nat.lt_of_lt_of_le h2 hu.size)
    clear ht hw he h1 h2 htl hlt
    generalize rvP t = V at *
    generalize splitB t 32 = ws at *
    have hv : V = rwV ws := HE.out
    subst hv
    clear HE
    generalize rwV ws = x at *
    generalize rwB ws = B at *
    go_enter Tryd.func6, Tryd.ntmps6
    go_upto_region 1 with fail
    generalize (w.alloc (.cells #[.string ⟨#[]⟩, .int .i64 0, .int .i64 0, .int .i64 0, .int .i64 0, .int .i64 0, .string ⟨#[]⟩, .int .i64 0] 23)) = u0 at *
    generalize hbb : w.heap.size = b0 at HL0 ⊢
    have HB9 : Hid (w.heap.size = b0) := hbb
    clear hbb
    go_upto_region 3 with (go_at_call 13; refine Calls.mono (HTL.out _) ?_; rintro e u1 ⟨rfl, rfl⟩)
    go_upto_region 4 with (first
      | (go_at_call 15; refine Calls.mono (HWO.out _) ?_; rintro e u2 ⟨v2, rfl, hr, hb⟩; have HR2 : Hid (Srow u2 v2 ws) := hr; have HL2 : Hid (LG w u2 b0 #[.string ⟨#[]⟩, .int .i64 0, .int .i64 0, .int .i64 0, .int .i64 0, .int .i64 0, .string ⟨#[]⟩, .int .i64 0] 23) := HL0.out.step hb; clear hr hb)
      | (go_at_call 14; refine Calls.mono (HRW.out _ _ HL2.out.bel HR2.out) ?_; rintro e u3 ⟨rfl, hb⟩; have HL3 : Hid (LG w u3 b0 #[.string ⟨#[]⟩, .int .i64 0, .int .i64 0, .int .i64 0, .int .i64 0, .int .i64 0, .string ⟨#[]⟩, .int .i64 0] 23) := HL2.out.step hb; clear hb))
    have HL4 : Hid (LG w (u3.alloc (.cells #[.string x.name, .int .i64 x.tenant, .int .i64 x.cpu, .int .i64 x.mem, .int .i64 x.zone, .int .i64 x.apart, .string x.node, .int .i64 x.epoch] 23)) b0 #[.string ⟨#[]⟩, .int .i64 0, .int .i64 0, .int .i64 0, .int .i64 0, .int .i64 0, .string ⟨#[]⟩, .int .i64 0] 23) := HL3.out.step (bx1 _ _)
    have HX4 : Hid (LG w (u3.alloc (.cells #[.string x.name, .int .i64 x.tenant, .int .i64 x.cpu, .int .i64 x.mem, .int .i64 x.zone, .int .i64 x.apart, .string x.node, .int .i64 x.epoch] 23)) u3.heap.size #[.string x.name, .int .i64 x.tenant, .int .i64 x.cpu, .int .i64 x.mem, .int .i64 x.zone, .int .i64 x.apart, .string x.node, .int .i64 x.epoch] 23) := ⟨HL4.out.bel, heap_new _ _, HL3.out.bel.size⟩
    clear HL3 HL2 HR2 HL0
    generalize (u3.alloc (.cells #[.string x.name, .int .i64 x.tenant, .int .i64 x.cpu, .int .i64 x.mem, .int .i64 x.zone, .int .i64 x.apart, .string x.node, .int .i64 x.epoch] 23)) = u4 at *
    generalize u3.heap.size = b4 at *
    have k0 := HL4.out.cel 0 _ rfl
    have k1 := HL4.out.cel 1 _ rfl
    have k2 := HL4.out.cel 2 _ rfl
    have k3 := HL4.out.cel 3 _ rfl
    have k4 := HL4.out.cel 4 _ rfl
    have k5 := HL4.out.cel 5 _ rfl
    have k6 := HL4.out.cel 6 _ rfl
    have k7 := HL4.out.cel 7 _ rfl
    have kl := HL4.out.lt
    have kf := HL4.out.frz
    have x0 := HX4.out.cel 0 _ rfl
    have x1 := HX4.out.cel 1 _ rfl
    have x2 := HX4.out.cel 2 _ rfl
    have x3 := HX4.out.cel 3 _ rfl
    have x4 := HX4.out.cel 4 _ rfl
    have x5 := HX4.out.cel 5 _ rfl
    have x6 := HX4.out.cel 6 _ rfl
    have x7 := HX4.out.cel 7 _ rfl
    have xl := HX4.out.lt
    go_wp2
    refine bodyPost_ret (v := .agg #[.string x.name, .int .i64 x.tenant, .int .i64 x.cpu, .int .i64 x.mem, .int .i64 x.zone, .int .i64 x.apart, .string x.node, .int .i64 x.epoch]) ?_ rfl ⟨rfl, ?_⟩
    · simp only [results, Tryd.results6, go_sem]
      simp [go_sem, k0, k1, k2, k3, k4, k5, k6, k7]
    · have hb9 := HL4.out.bel
      rw [HB9.out] at hb9
      first | rw [HB9.out] | skip
      repeat refine Below.setCell ?_ (by simp only; omega) _
      exact hb9
  · have hlt : 65536 < t.size := by have := of_decide_eq_true htl; omega
    have HE : Hid (rvP t = vmc0) := (show _ = _ by unfold rvP; rw [if_pos hlt])
    have HTL : Hid (∀ u, Calls Tryd.prog 13 #[.string t] u fun e w' => e = .returned (.bool true) ∧ w' = u) := fun u => by have h9 := tooLong_any t u; rw [htl] at h9; exact h9
    clear ht hw he h1 h2 htl hlt
    generalize rvP t = V at *
    go_enter Tryd.func6, Tryd.ntmps6
    go_upto_region 1 with fail
    generalize (w.alloc (.cells #[.string ⟨#[]⟩, .int .i64 0, .int .i64 0, .int .i64 0, .int .i64 0, .int .i64 0, .string ⟨#[]⟩, .int .i64 0] 23)) = u0 at *
    generalize hbb : w.heap.size = b0 at HL0 ⊢
    have HB9 : Hid (w.heap.size = b0) := hbb
    clear hbb
    have k0 := HL0.out.cel 0 _ rfl
    have k1 := HL0.out.cel 1 _ rfl
    have k2 := HL0.out.cel 2 _ rfl
    have k3 := HL0.out.cel 3 _ rfl
    have k4 := HL0.out.cel 4 _ rfl
    have k5 := HL0.out.cel 5 _ rfl
    have k6 := HL0.out.cel 6 _ rfl
    have k7 := HL0.out.cel 7 _ rfl
    have kl := HL0.out.lt
    have kf := HL0.out.frz
    go_wp2_with (go_at_call 13; refine Calls.mono (HTL.out _) ?_; rintro e u1 ⟨rfl, rfl⟩)
    refine bodyPost_ret (v := .agg #[.string ⟨#[]⟩, .int .i64 0, .int .i64 0, .int .i64 0, .int .i64 0, .int .i64 0, .string ⟨#[]⟩, .int .i64 0]) ?_ rfl ⟨by rw [HE.out]; rfl, ?_⟩
    · simp only [results, Tryd.results6, go_sem]
      simp [go_sem, k0, k1, k2, k3, k4, k5, k6, k7]
    · have hb9 := HL0.out.bel
      rw [HB9.out] at hb9
      first | rw [HB9.out] | skip
      repeat refine Below.setCell ?_ (by simp only; omega) _
      exact hb9
end Go.Proofs.YtkicaihfknfgkaaDoor
