import Derived.Test.YtjaelkagacmpkabLyS
namespace Go.Proofs.Ytjaelkagacmpkab
open Go.ChangeShapes Go.WideShapes Go.ChangeAt Go.RowKit

theorem fr_self (f : ByteArray) (h : f.size = 256) : fr f 0 = f := by
  unfold fr
  simp only [Nat.zero_mul, Nat.zero_add]
  rw [← h]
  exact ByteArray.extract_zero_size
theorem wo_load {op : Oper} {a : Act} {w : World} {K : Act → World → Prop} {Q : Exit → Act → World → Prop} (x : Operand) (ho : op.op = .load 37 x)
    (b : Nat) (f : ByteArray) (hx : a.eval x = .pointer (some ⟨b, 0, none⟩)) (hM : MemAt w b f) (hf : f.size = 256)
    (h : K (a.put op.dst (frA f)) w) : op.wp Try.prog a w K Q := by
  have hl := loadV_fr hM 0 (by omega)
  rw [fr_self f hf, Nat.zero_mul] at hl
  unfold Oper.wp execOp
  simp only [ho, hx, Instr.loadAt, Instr.sureAddr, Sem.run_bind, Sem.run_pure, Result.andThen_ok, hl]
  exact h
theorem wo_store {op : Oper} {a : Act} {w : World} {K : Act → World → Prop} {Q : Exit → Act → World → Prop} (x y : Operand) (ho : op.op = .store 37 x y)
    (b j : Nat) (s f : ByteArray) (hx : a.eval x = .pointer (some ⟨b, j * 256, none⟩)) (hy : a.eval y = frA f) (hM : MemAt w b s) (hf : f.size = 256) (ho2 : j * 256 + 256 ≤ s.size)
    (h : K (a.put op.dst undef) (w.setRow b (mcel (sfr s j f)))) : op.wp Try.prog a w K Q := by
  have hl := storeV_at w b (j * 256) (mcel s) f hM hf (by rw [mcel_size]; exact ho2)
  rw [mcel_sfr] at hl
  unfold Oper.wp execOp
  simp only [ho, hx, hy, Instr.storeAt, Instr.sureAddr, Sem.run_bind, Sem.run_pure, Result.andThen_ok, hl]
  exact h
set_option maxRecDepth 10000 in
theorem store_new (f : ByteArray) : ((zrs 256).toArray.toList.take 0 ++ cells8 f.data.toList ++ (zrs 256).toArray.toList.drop (0 + 256)).toArray = mcel f := by
  have h1 : (zrs 256).drop (0 + 256) = [] := List.drop_of_length_le (by simp [zrs])
  rw [List.take_zero, List.toList_toArray, h1, List.append_nil, List.nil_append]
  rfl
set_option maxRecDepth 100000 in
theorem zeroFrame (w : World) : Sem.run Try.prog (zeroValue 37) w = .ok (.agg (zrs 256).toArray) w := by kernel_rfl
set_option maxRecDepth 100000 in
set_option maxHeartbeats 4000000 in
theorem implLay_any {w : World} {v : Value} {zs : List Int} (m s : ByteArray) (h : Irow w v zs) (hl : zs.length ≤ 1048576) (hm : m.size ≤ 1048576) (hs : s.size ≤ 1048576) :
    Calls Try.prog 11 #[.string m, v, .string s] w fun e w' => e = .returned (.string (lyV zs m s)) ∧ Below w.heap.size w w' := by
  obtain ⟨a1, c1, rfl⟩ := h.sl
  have HR : Hid (Irow w (.slice a1 zs.length c1) zs) := h
  have HP : Hid _ := implPlace_any m s h hl hm hs
  clear h
  rcases plC_or zs m s with hp | hp
  · rw [hp] at HP
    have E : Hid (lyV zs m s = layN zs m s zs.length) := lyV_yes hp
    obtain ⟨q1, q2, q3, q4⟩ := plC_yes hp
    have HO : Hid (FrOk (s.size / 256) zs) := q4
    have b1 := memOk_b2 q1
    have b2 := memOk_b2 q2
    have HMS : Hid (zs.length * 256 = m.size) := (show zs.length * 256 = m.size by omega)
    obtain ⟨n, hn⟩ : ∃ n, s.size / 256 = n := ⟨_, rfl⟩
    have HN : Hid (s.size = n * 256) := (show s.size = n * 256 by omega)
    have HN2 : Hid (n ≤ 256) := (show n ≤ 256 by omega)
    have HZ2 : Hid (zs.length ≤ 256) := (show zs.length ≤ 256 by omega)
    have HR1 : Hid (∀ u : World, Calls Try.prog 20 #[.string s] u fun e w' => e = .returned (mv u.heap.size n) ∧ MemAt w' u.heap.size s ∧ Below u.heap.size u w' ∧ w'.heap.size = u.heap.size + 1) := fun u => readMemory_any s n u HN.out HN2.out
    have HR2 : Hid (∀ u : World, Calls Try.prog 20 #[.string m] u fun e w' => e = .returned (mv u.heap.size zs.length) ∧ MemAt w' u.heap.size m ∧ Below u.heap.size u w' ∧ w'.heap.size = u.heap.size + 1) := fun u => readMemory_any m zs.length u HMS.out.symm HZ2.out
    have hzf := zeroFrame
    unfold mv at HR1 HR2
    clear hp q1 q2 q3 q4 b1 b2 hn
    go_enter Try.func11, Try.ntmps11
    go_wp2_with (first
      | (go_at_call 8; refine Calls.mono HP.out ?_; rintro e u2 ⟨rfl, hu2⟩; have HB : Hid (Below w.heap.size w u2) := hu2; clear hu2 HP)
      | (go_at_call 20; refine Calls.mono (HR1.out _) ?_; rintro e u3 ⟨rfl, hM, hb, hz⟩; have HM3 : Hid (MemAt u3 u2.heap.size s) := hM; have HB3 : Hid (Below w.heap.size w u3) := HB.out.trans (hb.mono HB.out.size); have HZ3 : Hid (u3.heap.size = u2.heap.size + 1) := hz; clear hM hb hz HR1)
      | (go_at_call 20; refine Calls.mono (HR2.out _) ?_; rintro e u4 ⟨rfl, hM, hb, hz⟩; have HM4 : Hid (MemAt u4 u3.heap.size m) := hM; have HM5 : Hid (MemAt u4 u2.heap.size s) := HM3.out.below hb HM3.out.lt; have HB4 : Hid (Below w.heap.size w u4) := HB3.out.trans (hb.mono HB3.out.size); clear hM hb hz HR2 HM3))
    go_loopw [20] (fun i wr => ∃ k : Nat, k ≤ zs.length ∧ i = .int .i64 k ∧ MemAt wr u2.heap.size (layN zs m s k) ∧ MemAt wr u3.heap.size m ∧ Below w.heap.size w wr) (fun i _ => zs.length - (intOf i).toNat)
    case atStart => exact ⟨0, Nat.zero_le _, rfl, HM5.out, HM4.out, HB4.out⟩
    case round =>
      obtain ⟨k, hk, rfl, hM1, hM2, hb⟩ := hrel
      have HW : Hid (Below w.heap.size w wr) := hb
      have HMA : Hid (MemAt wr u2.heap.size (layN zs m s k)) := hM1
      have HMB : Hid (MemAt wr u3.heap.size m) := hM2
      have HLS : Hid ((layN zs m s k).size = s.size) := layN_size HO.out (by have := HMS.out; omega) k hk
      by_cases hlt : k < zs.length
      · obtain ⟨g, o, cap2, hv, hcp, hg, hc⟩ := HR.out.resolve_left (fun h => by rw [h.1] at hlt; simp at hlt)
        injection hv with hv1 hv2 hv3
        subst hv1 hv3
        have d1 := hc.below hb hg k hlt
        have hz := HO.out.at hlt
        have HT : Hid (layN zs m s (k + 1) = sfr (layN zs m s k) zs[k].toNat (fr m k)) := (show layN zs m s (k + 1) = _ by rw [← hz.2.2]; rfl)
        obtain ⟨z, hze⟩ : ∃ z, zs[k] = z := ⟨_, rfl⟩
        rw [hze] at d1 hz HT
        obtain ⟨j, rfl⟩ : ∃ j : Nat, z = (j : Int) := ⟨z.toNat, by omega⟩
        rw [Int.toNat_natCast] at HT
        have HJ : Hid (j * 256 + 256 ≤ (layN zs m s k).size) := (show j * 256 + 256 ≤ _ by rw [HLS.out]; omega)
        have hjn : (j : Int) < (n : Int) := by have := HN.out; omega
        have HKM : Hid (k * 256 + 256 ≤ m.size) := (show k * 256 + 256 ≤ m.size by have := HMS.out; omega)
        have HFS : Hid ((fr m k).size = 256) := fr_size m k HKM.out
        have hk0 : (0 : Int) ≤ (k : Int) := by omega
        have hk1 : (k : Int) < (zs.length : Int) := by omega
        have hgw : g < wr.heap.size := Nat.lt_of_lt_of_le hg hb.size
        clear hc hz hze hb hM1 hM2
        go_wp2_with (first
          | (refine wl_load rfl _ rfl u3.heap.size k m rfl HMB.out HKM.out ?_)
          | (refine wl_store rfl _ _ rfl wr.heap.size 0 _ (fr m k) rfl rfl (MapKept.heap_alloc wr _).1 HFS.out (by simp [zrs]) ?_; rw [store_new, World.setRow_alloc_new]))
        have HMC : Hid (MemAt (wr.alloc (.cells (mcel (fr m k)) 37)) wr.heap.size (fr m k)) := (MapKept.heap_alloc wr _).1
        have hba : Below wr.heap.size wr (wr.alloc (.cells (mcel (fr m k)) 37)) := (Below.refl _ _).alloc (Nat.le_refl _) _
        have HMA2 : Hid (MemAt (wr.alloc (.cells (mcel (fr m k)) 37)) u2.heap.size (layN zs m s k)) := HMA.out.below hba HMA.out.lt
        have HMB2 : Hid (MemAt (wr.alloc (.cells (mcel (fr m k)) 37)) u3.heap.size m) := HMB.out.below hba HMB.out.lt
        have HW2 : Hid (Below w.heap.size w (wr.alloc (.cells (mcel (fr m k)) 37))) := HW.out.trans (hba.mono HW.out.size)
        have d2 : (wr.alloc (.cells (mcel (fr m k)) 37)).cell? ⟨g, o + k, none⟩ = some (.int .i64 (j : Int)) := (World.cell?_of_block (hba.block g hgw)).trans d1
        clear hba d1
        generalize wr.alloc (.cells (mcel (fr m k)) 37) = W at *
        have HMC3 : Hid (MemAt W.drew wr.heap.size (fr m k)) := HMC.out
        have HMB3 : Hid (MemAt W.drew u3.heap.size m) := HMB2.out
        have HW3 : Hid (Below w.heap.size w W.drew) := bdn HW2.out 1
        have HMA3 : Hid (MemAt W.drew u2.heap.size (layN zs m s k)) := HMA2.out
        refine wp_region_any (by kernel_rfl) ?_
        change wpAny _ _ _ _ _ _ _ (World.drew _)
        refine wpAny_take (i := 0) (v := .slice (some ⟨u2.heap.size, 0, none⟩) n n) rfl (by kernel_rfl) (by kernel_rfl) (by kernel_rfl) (fun _ _ _ h => h) (Or.inl ⟨by rfl, fun w9 => ?_⟩) ?_
        · go_simp
        refine wpAny_take (i := 1) (v := .slice (some ⟨g, o, none⟩) zs.length c1) rfl (by kernel_rfl) (by kernel_rfl) (by kernel_rfl) (fun _ _ _ h => h) (Or.inl ⟨by rfl, fun w9 => ?_⟩) ?_
        · go_simp
        refine wpAny_take (i := 2) (v := .int .i64 k) rfl (by kernel_rfl) (by kernel_rfl) (by kernel_rfl) (fun _ _ _ h => h) (Or.inl ⟨by rfl, fun w9 => ?_⟩) ?_
        · go_simp
        refine wpAny_take (i := 3) (v := .pointer (some ⟨g, o + k, none⟩)) rfl (by kernel_rfl) (by kernel_rfl) (by kernel_rfl) (fun _ _ _ h => h) (Or.inl ⟨by rfl, fun w9 => ?_⟩) ?_
        · go_simp
        refine wpAny_ready (rs := [4, 5]) (by kernel_rfl) (by simp) ?_
        refine AllReady.cons rfl (fun K hK => ?_) (AllReady.cons rfl (fun K hK => ?_) AllReady.nil)
        · go_simp
          refine hK _ _ ?_
          clear hK K
          refine wpAny_ready (rs := [5]) (by kernel_rfl) (by simp) ?_
          refine AllReady.cons rfl (fun K hK => ?_) AllReady.nil
          refine wo_load _ rfl wr.heap.size (fr m k) rfl HMC3.out HFS.out ?_
          refine hK _ _ ?_
          clear hK K
          refine wpAny_ready (rs := [6]) (by kernel_rfl) (by simp) ?_
          refine AllReady.cons rfl (fun K hK => ?_) AllReady.nil
          go_simp
          refine hK _ _ ?_
          clear hK K
          refine wpAny_ready (rs := [7]) (by kernel_rfl) (by simp) ?_
          refine AllReady.cons rfl (fun K hK => ?_) AllReady.nil
          refine wo_store _ _ rfl u2.heap.size j _ (fr m k) rfl rfl HMA3.out HFS.out HJ.out ?_
          refine hK _ _ ?_
          clear hK K
          refine wpAny_done (by kernel_rfl) ?_ _
          go_simp
          go_wp2
          refine ⟨⟨k + 1, hlt, by go_num, ?_, ?_, below_setRow HW3.out HB.out.size _⟩, by simp [intOf]; omega⟩
          · rw [HT.out]
            exact setRow_heap W.drew _ _ _ _ _ HMA3.out
          · exact (setRow_other W.drew _ _ _ (by have := HZ3.out; omega)).trans HMB3.out
        · refine wo_load _ rfl wr.heap.size (fr m k) rfl HMC3.out HFS.out ?_
          refine hK _ _ ?_
          clear hK K
          refine wpAny_ready (rs := [4]) (by kernel_rfl) (by simp) ?_
          refine AllReady.cons rfl (fun K hK => ?_) AllReady.nil
          go_simp
          refine hK _ _ ?_
          clear hK K
          refine wpAny_ready (rs := [6]) (by kernel_rfl) (by simp) ?_
          refine AllReady.cons rfl (fun K hK => ?_) AllReady.nil
          go_simp
          refine hK _ _ ?_
          clear hK K
          refine wpAny_ready (rs := [7]) (by kernel_rfl) (by simp) ?_
          refine AllReady.cons rfl (fun K hK => ?_) AllReady.nil
          refine wo_store _ _ rfl u2.heap.size j _ (fr m k) rfl rfl HMA3.out HFS.out HJ.out ?_
          refine hK _ _ ?_
          clear hK K
          refine wpAny_done (by kernel_rfl) ?_ _
          go_simp
          go_wp2
          refine ⟨⟨k + 1, hlt, by go_num, ?_, ?_, below_setRow HW3.out HB.out.size _⟩, by simp [intOf]; omega⟩
          · rw [HT.out]
            exact setRow_heap W.drew _ _ _ _ _ HMA3.out
          · exact (setRow_other W.drew _ _ _ (by have := HZ3.out; omega)).trans HMB3.out
      · obtain rfl : k = zs.length := by omega
        have HT : Hid _ := memText_any u2.heap.size (layN zs m s zs.length) n wr HMA.out (by rw [HLS.out]; exact HN.out) HN2.out
        clear hM1 hM2 hb
        unfold mv at HT
        go_wp2_with (go_at_call 21; refine Calls.mono HT.out ?_; rintro e u5 ⟨rfl, hb⟩; have HB5 : Hid (Below w.heap.size w u5) := HW.out.trans (hb.mono HW.out.size); clear hb HT)
        go_ret
        exact ⟨ret_str E.out.symm, HB5.out⟩
  · rw [hp] at HP
    have E : Hid (lyV zs m s = ⟨#[]⟩) := lyV_no hp
    clear hp
    go_enter Try.func11, Try.ntmps11
    go_wp2_with (go_at_call 8; refine Calls.mono HP.out ?_; rintro e u2 ⟨rfl, hu2⟩; have HB : Hid (Below w.heap.size w u2) := hu2; clear hu2 HP)
    go_ret
    exact ⟨ret_str E.out.symm, HB.out⟩
end Go.Proofs.Ytjaelkagacmpkab
