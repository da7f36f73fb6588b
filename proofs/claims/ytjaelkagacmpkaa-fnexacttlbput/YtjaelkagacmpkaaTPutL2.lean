import Derived.Test.YtjaelkagacmpkaaTPutL1
namespace Go.Proofs.Ytjaelkagacmpkaa
open Go.ChangeShapes Go.WideShapes Go.ChangeAt Go.RowKit

set_option maxRecDepth 100000 in
set_option maxHeartbeats 8000000 in
theorem lawP {w : World} {v : Value} {zs : List TE} (h : TErow w v zs) (nx : Int) (e : TE) (L : List TE) (N : Int) (hm : zs.length ≤ 1048576) (hL : L.length ≤ 1048576) (hS : AnsP 30 zs nx e L N) (hI : AnsP 33 zs nx e L N) :
    Calls Try.prog 6 #[tlA v nx, teA e] w fun r w' => r = .returned (.bool true) ∧ Below w.heap.size w w' := by
  have HT0 : Hid (TS w ((w.alloc (.cells #[v, .int .i64 nx] 51)).alloc (.cells #[.int .i64 e.asid, .int .i64 e.page, .int .i64 e.frame, .int .i64 e.flags, .bool e.large] 53)) v nx zs e []) := TS.new e h
  have HSZ := szTlb_any HT0.out.rw nx 1048576 (by decide) (by decide) (by unfold maxLen; omega)
  rw [if_neg (by omega)] at HSZ
  obtain ⟨r, hr⟩ : ∃ r, (1048576 : Int) - (zs.length : Int) = r := ⟨_, rfl⟩
  have hr0 : ¬ r < 0 := by omega
  rw [hr] at HSZ
  have HZ : Hid _ := HSZ
  have HL : Hid (zs.length ≤ 1048576) := hm
  have HLL : Hid (L.length ≤ 1048576) := hL
  have HAS : Hid (AnsP 30 zs nx e L N) := hS
  have HAI : Hid (AnsP 33 zs nx e L N) := hI
  have hp1 : ¬ (1 + 5 * (zs.length : Int)) < 0 := by omega
  have hp2 : ¬ (1 + 5 * (L.length : Int)) < 0 := by omega
  clear HSZ h hm hL hS hI hr
  unfold tlA at HZ ⊢
  unfold teA
  go_enter Try.func6, Try.ntmps6
  go_upto_region 5 with (go_at_call 29; refine Calls.mono HZ.out ?_; rintro r9 u1 ⟨rfl, hu1⟩; have HU : Hid (TS w u1 v nx zs e []) := HT0.out.step hu1; clear hu1 HZ HT0)
  go_cut [6] (fun s6 wc => ∃ (p6 : Nat) (a6 : Option Addr) (c6 : Nat), s6 = .pointer (some ⟨p6, 0, none⟩) ∧ TS w wc v nx zs e [⟨p6, a6, c6, L.length, L, N⟩])
  case first =>
    have HAF : Hid (AnsP 30 zs nx e L N) := HAS.out
    clear HAS HAI
    have hzT : ∀ u : World, Sem.run Try.prog (zeroValue 57) u = .ok (.agg #[.slice none 0 0, .int .i64 0]) u := fun u => by kernel_rfl
    have HT : Hid (TS w u1.drew v nx zs e []) := HU.out.step (Below.refl _ _).drew
    have HSB : Hid (∀ w' : World, TS w w' v nx zs e [] → w'.cell? ⟨w.heap.size, 0, none⟩ = some v ∧ w'.cell? ⟨w.heap.size, 1, none⟩ = some (.int .i64 nx) ∧ w'.cell? ⟨w.heap.size + 1, 0, none⟩ = some (.int .i64 e.asid) ∧ w'.cell? ⟨w.heap.size + 1, 1, none⟩ = some (.int .i64 e.page) ∧ w'.cell? ⟨w.heap.size + 1, 2, none⟩ = some (.int .i64 e.frame) ∧ w'.cell? ⟨w.heap.size + 1, 3, none⟩ = some (.int .i64 e.flags) ∧ w'.cell? ⟨w.heap.size + 1, 4, none⟩ = some (.bool e.large)) := fun w' hW => by
      obtain ⟨c0, c1⟩ := cel2 hW.b0
      obtain ⟨d0, d1, d2, d3, d4⟩ := cel5 hW.b1
      exact ⟨c0, c1, d0, d1, d2, d3, d4⟩
    refine wp_region_held (S := fun w' => w'.cell? ⟨w.heap.size, 0, none⟩ = some v ∧ w'.cell? ⟨w.heap.size, 1, none⟩ = some (.int .i64 nx) ∧ w'.cell? ⟨w.heap.size + 1, 0, none⟩ = some (.int .i64 e.asid) ∧ w'.cell? ⟨w.heap.size + 1, 1, none⟩ = some (.int .i64 e.page) ∧ w'.cell? ⟨w.heap.size + 1, 2, none⟩ = some (.int .i64 e.frame) ∧ w'.cell? ⟨w.heap.size + 1, 3, none⟩ = some (.int .i64 e.flags) ∧ w'.cell? ⟨w.heap.size + 1, 4, none⟩ = some (.bool e.large)) (by kernel_rfl) ?_
    change wpAnyH _ _ _ _ _ _ _ _ (World.drew _)
    clear HU
    generalize World.drew u1 = s at *
    refine wpAnyH_take (i := 0) (v := .agg #[v, .int .i64 nx]) rfl (by kernel_rfl) (by kernel_rfl) (by kernel_rfl) (fun _ _ _ h => h) (Or.inl ⟨by rfl, fun w9 h9 => ?_⟩) (HSB.out _ HT.out) ?_
    · have h91 := h9.1
      have h92 := h9.2.1
      go_simp
    refine wpAnyH_take (i := 2) (v := .agg #[.int .i64 e.asid, .int .i64 e.page, .int .i64 e.frame, .int .i64 e.flags, .bool e.large]) rfl (by kernel_rfl) (by kernel_rfl) (by kernel_rfl) (fun _ _ _ h => h) (Or.inl ⟨by rfl, fun w9 h9 => ?_⟩) (HSB.out _ HT.out) ?_
    · obtain ⟨_, _, e0, e1, e2, e3, e4⟩ := h9
      go_simp
    have HTS : Hid (TS w s v nx zs e []) := HT.out
    have SB : Hid (Below s.heap.size s s) := Below.refl _ _
    refine wpAnyH_all (rs := [1, 5]) (by kernel_rfl) (by simp) (all_two (held_step rfl (by rfl) fun K hK => ?_) (held_step rfl (by rfl) fun K hK => ?_))
    · have HA := toTlb_any HT.out.rw nx HL.out
      have HAH : Hid _ := HA
      clear HA
      unfold tlA at HAH
      go_simp
      refine Calls.mono HAH.out ?_
      clear HAH
      rintro r W1 ⟨a1, c1, rfl, ho, hb⟩
      have HTN : Hid (TS w W1 v nx zs e []) := HT.out.step hb
      have SBN : Hid (Below s.heap.size s W1) := SB.out.trans (hb.mono SB.out.size)
      have R1 : Hid (W1.ownsRow s.heap.size 60 5 (.slice a1 zs.length c1) zs.length (teR zs)) := te_weak ho SB.out.size
      clear ho hb
      refine hK _ _ (HSB.out _ HTN.out) ?_
      clear hK K
      clear HT SB
      have HT : Hid (TS w W1 v nx zs e []) := HTN.out
      have SB : Hid (Below s.heap.size s W1) := SBN.out
      clear HTN SBN
      refine wpAnyH_all (rs := [3, 5]) (by kernel_rfl) (by simp) (all_two (held_step rfl (by rfl) fun K hK => ?_) (held_step rfl (by rfl) fun K hK => ?_))
      · have HA := toTE_any e W1
        have HAH : Hid _ := HA
        clear HA
        unfold teA at HAH
        go_simp
        refine Calls.mono HAH.out ?_
        clear HAH
        rintro r W2 ⟨rfl, hb⟩
        have R1 : Hid (W2.ownsRow s.heap.size 60 5 (.slice a1 zs.length c1) zs.length (teR zs)) := te_below R1.out hb
        have HTN : Hid (TS w W2 v nx zs e []) := HT.out.step hb
        have SBN : Hid (Below s.heap.size s W2) := SB.out.trans (hb.mono SB.out.size)
        clear hb
        refine hK _ _ (HSB.out _ HTN.out) ?_
        clear hK K
        clear HT SB
        have HT : Hid (TS w W2 v nx zs e []) := HTN.out
        have SB : Hid (Below s.heap.size s W2) := SBN.out
        clear HTN SBN
        refine wpAnyH_all (rs := [4, 5]) (by kernel_rfl) (by simp) (all_two (held_step rfl (by rfl) fun K hK => ?_) (held_step rfl (by rfl) fun K hK => ?_))
        · have HA := HAF.out W2 _ a1 c1 R1.out
          have HAH : Hid _ := HA
          clear HA
          unfold tlA teA at HAH
          go_simp
          refine Calls.mono HAH.out ?_
          clear HAH
          rintro r W3 ⟨a4, c4, rfl, ho, hb⟩
          have R1 : Hid (W3.ownsRow s.heap.size 60 5 (.slice a1 zs.length c1) zs.length (teR zs)) := te_below R1.out hb
          have HTN : Hid (TS w W3 v nx zs e []) := HT.out.step hb
          have SBN : Hid (Below s.heap.size s W3) := SB.out.trans (hb.mono SB.out.size)
          have R4 : Hid (W3.ownsRow s.heap.size 60 5 (.slice a4 L.length c4) L.length (teR L)) := te_weak ho SB.out.size
          clear ho hb
          refine hK _ _ (HSB.out _ HTN.out) ?_
          clear hK K
          clear HT SB
          have HT : Hid (TS w W3 v nx zs e []) := HTN.out
          have SB : Hid (Below s.heap.size s W3) := SBN.out
          clear HTN SBN
          refine wpAnyH_all (rs := [5]) (by kernel_rfl) (by simp) (all_one (held_step rfl (by rfl) fun K hK => ?_))
          have hb : Below W3.heap.size W3 (W3.alloc (.cells #[.slice none 0 0, .int .i64 0] 57)) := (Below.refl _ _).alloc (Nat.le_refl _) _
          have R1 : Hid ((W3.alloc (.cells #[.slice none 0 0, .int .i64 0] 57)).ownsRow s.heap.size 60 5 (.slice a1 zs.length c1) zs.length (teR zs)) := te_below R1.out hb
          have R4o := R4
          have R4 : Hid ((W3.alloc (.cells #[.slice none 0 0, .int .i64 0] 57)).ownsRow s.heap.size 60 5 (.slice a4 L.length c4) L.length (teR L)) := te_below R4.out hb
          have HTN : Hid (TS w (W3.alloc (.cells #[.slice none 0 0, .int .i64 0] 57)) v nx zs e []) := HT.out.step hb
          have SBN : Hid (Below s.heap.size s (W3.alloc (.cells #[.slice none 0 0, .int .i64 0] 57))) := SB.out.trans (hb.mono SB.out.size)
          have R5 : Hid ((W3.alloc (.cells #[.slice none 0 0, .int .i64 0] 57)).heap[W3.heap.size]? = some (.cells #[.slice none 0 0, .int .i64 0] 57 (0, 0))) := heap_new _ _
          have PL : Hid (s.heap.size ≤ W3.heap.size) := SB.out.size
          have D45 : Hid ((Value.slice a4 L.length c4).ownBlock ≠ some W3.heap.size) := fun q => by have := (R4o.out.lt _ q).2; omega
          clear hb
          go_simp
          refine hK _ _ (HSB.out _ HTN.out) ?_
          clear hK K
          generalize W3.alloc (.cells #[.slice none 0 0, .int .i64 0] 57) = W4 at *
          clear HT SB
          have HT : Hid (TS w W4 v nx zs e []) := HTN.out
          have SB : Hid (Below s.heap.size s W4) := SBN.out
          clear HTN SBN
          have HTP : Hid (TS w ((W4.setCell ⟨W3.heap.size, 0, none⟩ (.slice a4 L.length c4)).setCell ⟨W3.heap.size, 1, none⟩ (.int .i64 N)) v nx zs e []) := TS.put HT.out HTS.out (W3.heap.size) _ _ PL.out
          have HFN : Hid (TS w ((W4.setCell ⟨W3.heap.size, 0, none⟩ (.slice a4 L.length c4)).setCell ⟨W3.heap.size, 1, none⟩ (.int .i64 N)) v nx zs e (⟨W3.heap.size, a4, c4, L.length, L, N⟩ :: [])) := TS.add HTP.out HTS.out ⟨W3.heap.size, a4, c4, L.length, L, N⟩ PL.out (own_set (own_set R4.out D45.out) D45.out) (putBoxT R5.out _ _) D45.out
          obtain ⟨k0, k1⟩ := cel2 R5.out
          have kf : ∀ x, W4.frozen? ⟨W3.heap.size, x, none⟩ = false := (fun x => by simp [World.frozen?, R5.out])
          refine wpAnyH_all (rs := [6]) (by kernel_rfl) (by simp) (all_one (held_step rfl (by rfl) fun K hK => ?_))
          go_simp
          refine hK _ _ (HSB.out _ HTP.out) ?_
          clear hK K
          refine wpAnyH_done (by kernel_rfl) ?_ _
          go_simp
          go_wp2
          go_meet
          case rel => exact ⟨W3.heap.size, a4, c4, rfl, HFN.out⟩
        · have hb : Below W2.heap.size W2 (W2.alloc (.cells #[.slice none 0 0, .int .i64 0] 57)) := (Below.refl _ _).alloc (Nat.le_refl _) _
          have R1 : Hid ((W2.alloc (.cells #[.slice none 0 0, .int .i64 0] 57)).ownsRow s.heap.size 60 5 (.slice a1 zs.length c1) zs.length (teR zs)) := te_below R1.out hb
          have HTN : Hid (TS w (W2.alloc (.cells #[.slice none 0 0, .int .i64 0] 57)) v nx zs e []) := HT.out.step hb
          have SBN : Hid (Below s.heap.size s (W2.alloc (.cells #[.slice none 0 0, .int .i64 0] 57))) := SB.out.trans (hb.mono SB.out.size)
          have R5 : Hid ((W2.alloc (.cells #[.slice none 0 0, .int .i64 0] 57)).heap[W2.heap.size]? = some (.cells #[.slice none 0 0, .int .i64 0] 57 (0, 0))) := heap_new _ _
          have PL : Hid (s.heap.size ≤ W2.heap.size) := SB.out.size
          clear hb
          go_simp
          refine hK _ _ (HSB.out _ HTN.out) ?_
          clear hK K
          generalize W2.alloc (.cells #[.slice none 0 0, .int .i64 0] 57) = W3 at *
          clear HT SB
          have HT : Hid (TS w W3 v nx zs e []) := HTN.out
          have SB : Hid (Below s.heap.size s W3) := SBN.out
          clear HTN SBN
          refine wpAnyH_all (rs := [4]) (by kernel_rfl) (by simp) (all_one (held_step rfl (by rfl) fun K hK => ?_))
          have HA := HAF.out W3 _ a1 c1 R1.out
          have HAH : Hid _ := HA
          clear HA
          unfold tlA teA at HAH
          go_simp
          refine Calls.mono HAH.out ?_
          clear HAH
          rintro r W4 ⟨a4, c4, rfl, ho, hb⟩
          have R1 : Hid (W4.ownsRow s.heap.size 60 5 (.slice a1 zs.length c1) zs.length (teR zs)) := te_below R1.out hb
          have R5o := R5
          have R5 : Hid (W4.heap[W2.heap.size]? = some (.cells #[.slice none 0 0, .int .i64 0] 57 (0, 0))) := (hb.block (W2.heap.size) (Array.getElem?_eq_some_iff.1 R5.out).1).trans R5.out
          have HTN : Hid (TS w W4 v nx zs e []) := HT.out.step hb
          have SBN : Hid (Below s.heap.size s W4) := SB.out.trans (hb.mono SB.out.size)
          have R4 : Hid (W4.ownsRow s.heap.size 60 5 (.slice a4 L.length c4) L.length (teR L)) := te_weak ho SB.out.size
          have D45 : Hid ((Value.slice a4 L.length c4).ownBlock ≠ some (W2.heap.size)) := fun q => by have h1 := (ho.lt _ q).1; have h2 := (Array.getElem?_eq_some_iff.1 R5o.out).1; omega
          clear ho hb
          refine hK _ _ (HSB.out _ HTN.out) ?_
          clear hK K
          clear HT SB
          have HT : Hid (TS w W4 v nx zs e []) := HTN.out
          have SB : Hid (Below s.heap.size s W4) := SBN.out
          clear HTN SBN
          have HTP : Hid (TS w ((W4.setCell ⟨W2.heap.size, 0, none⟩ (.slice a4 L.length c4)).setCell ⟨W2.heap.size, 1, none⟩ (.int .i64 N)) v nx zs e []) := TS.put HT.out HTS.out (W2.heap.size) _ _ PL.out
          have HFN : Hid (TS w ((W4.setCell ⟨W2.heap.size, 0, none⟩ (.slice a4 L.length c4)).setCell ⟨W2.heap.size, 1, none⟩ (.int .i64 N)) v nx zs e (⟨W2.heap.size, a4, c4, L.length, L, N⟩ :: [])) := TS.add HTP.out HTS.out ⟨W2.heap.size, a4, c4, L.length, L, N⟩ PL.out (own_set (own_set R4.out D45.out) D45.out) (putBoxT R5.out _ _) D45.out
          obtain ⟨k0, k1⟩ := cel2 R5.out
          have kf : ∀ x, W4.frozen? ⟨W2.heap.size, x, none⟩ = false := (fun x => by simp [World.frozen?, R5.out])
          refine wpAnyH_all (rs := [6]) (by kernel_rfl) (by simp) (all_one (held_step rfl (by rfl) fun K hK => ?_))
          go_simp
          refine hK _ _ (HSB.out _ HTP.out) ?_
          clear hK K
          refine wpAnyH_done (by kernel_rfl) ?_ _
          go_simp
          go_wp2
          go_meet
          case rel => exact ⟨W2.heap.size, a4, c4, rfl, HFN.out⟩
      · have hb : Below W1.heap.size W1 (W1.alloc (.cells #[.slice none 0 0, .int .i64 0] 57)) := (Below.refl _ _).alloc (Nat.le_refl _) _
        have R1 : Hid ((W1.alloc (.cells #[.slice none 0 0, .int .i64 0] 57)).ownsRow s.heap.size 60 5 (.slice a1 zs.length c1) zs.length (teR zs)) := te_below R1.out hb
        have HTN : Hid (TS w (W1.alloc (.cells #[.slice none 0 0, .int .i64 0] 57)) v nx zs e []) := HT.out.step hb
        have SBN : Hid (Below s.heap.size s (W1.alloc (.cells #[.slice none 0 0, .int .i64 0] 57))) := SB.out.trans (hb.mono SB.out.size)
        have R5 : Hid ((W1.alloc (.cells #[.slice none 0 0, .int .i64 0] 57)).heap[W1.heap.size]? = some (.cells #[.slice none 0 0, .int .i64 0] 57 (0, 0))) := heap_new _ _
        have PL : Hid (s.heap.size ≤ W1.heap.size) := SB.out.size
        clear hb
        go_simp
        refine hK _ _ (HSB.out _ HTN.out) ?_
        clear hK K
        generalize W1.alloc (.cells #[.slice none 0 0, .int .i64 0] 57) = W2 at *
        clear HT SB
        have HT : Hid (TS w W2 v nx zs e []) := HTN.out
        have SB : Hid (Below s.heap.size s W2) := SBN.out
        clear HTN SBN
        refine wpAnyH_all (rs := [3]) (by kernel_rfl) (by simp) (all_one (held_step rfl (by rfl) fun K hK => ?_))
        have HA := toTE_any e W2
        have HAH : Hid _ := HA
        clear HA
        unfold teA at HAH
        go_simp
        refine Calls.mono HAH.out ?_
        clear HAH
        rintro r W3 ⟨rfl, hb⟩
        have R1 : Hid (W3.ownsRow s.heap.size 60 5 (.slice a1 zs.length c1) zs.length (teR zs)) := te_below R1.out hb
        have R5o := R5
        have R5 : Hid (W3.heap[W1.heap.size]? = some (.cells #[.slice none 0 0, .int .i64 0] 57 (0, 0))) := (hb.block (W1.heap.size) (Array.getElem?_eq_some_iff.1 R5.out).1).trans R5.out
        have HTN : Hid (TS w W3 v nx zs e []) := HT.out.step hb
        have SBN : Hid (Below s.heap.size s W3) := SB.out.trans (hb.mono SB.out.size)
        clear hb
        refine hK _ _ (HSB.out _ HTN.out) ?_
        clear hK K
        clear HT SB
        have HT : Hid (TS w W3 v nx zs e []) := HTN.out
        have SB : Hid (Below s.heap.size s W3) := SBN.out
        clear HTN SBN
        refine wpAnyH_all (rs := [4]) (by kernel_rfl) (by simp) (all_one (held_step rfl (by rfl) fun K hK => ?_))
        have HA := HAF.out W3 _ a1 c1 R1.out
        have HAH : Hid _ := HA
        clear HA
        unfold tlA teA at HAH
        go_simp
        refine Calls.mono HAH.out ?_
        clear HAH
        rintro r W4 ⟨a4, c4, rfl, ho, hb⟩
        have R1 : Hid (W4.ownsRow s.heap.size 60 5 (.slice a1 zs.length c1) zs.length (teR zs)) := te_below R1.out hb
        have R5o := R5
        have R5 : Hid (W4.heap[W1.heap.size]? = some (.cells #[.slice none 0 0, .int .i64 0] 57 (0, 0))) := (hb.block (W1.heap.size) (Array.getElem?_eq_some_iff.1 R5.out).1).trans R5.out
        have HTN : Hid (TS w W4 v nx zs e []) := HT.out.step hb
        have SBN : Hid (Below s.heap.size s W4) := SB.out.trans (hb.mono SB.out.size)
        have R4 : Hid (W4.ownsRow s.heap.size 60 5 (.slice a4 L.length c4) L.length (teR L)) := te_weak ho SB.out.size
        have D45 : Hid ((Value.slice a4 L.length c4).ownBlock ≠ some (W1.heap.size)) := fun q => by have h1 := (ho.lt _ q).1; have h2 := (Array.getElem?_eq_some_iff.1 R5o.out).1; omega
        clear ho hb
        refine hK _ _ (HSB.out _ HTN.out) ?_
        clear hK K
        clear HT SB
        have HT : Hid (TS w W4 v nx zs e []) := HTN.out
        have SB : Hid (Below s.heap.size s W4) := SBN.out
        clear HTN SBN
        have HTP : Hid (TS w ((W4.setCell ⟨W1.heap.size, 0, none⟩ (.slice a4 L.length c4)).setCell ⟨W1.heap.size, 1, none⟩ (.int .i64 N)) v nx zs e []) := TS.put HT.out HTS.out (W1.heap.size) _ _ PL.out
        have HFN : Hid (TS w ((W4.setCell ⟨W1.heap.size, 0, none⟩ (.slice a4 L.length c4)).setCell ⟨W1.heap.size, 1, none⟩ (.int .i64 N)) v nx zs e (⟨W1.heap.size, a4, c4, L.length, L, N⟩ :: [])) := TS.add HTP.out HTS.out ⟨W1.heap.size, a4, c4, L.length, L, N⟩ PL.out (own_set (own_set R4.out D45.out) D45.out) (putBoxT R5.out _ _) D45.out
        obtain ⟨k0, k1⟩ := cel2 R5.out
        have kf : ∀ x, W4.frozen? ⟨W1.heap.size, x, none⟩ = false := (fun x => by simp [World.frozen?, R5.out])
        refine wpAnyH_all (rs := [6]) (by kernel_rfl) (by simp) (all_one (held_step rfl (by rfl) fun K hK => ?_))
        go_simp
        refine hK _ _ (HSB.out _ HTP.out) ?_
        clear hK K
        refine wpAnyH_done (by kernel_rfl) ?_ _
        go_simp
        go_wp2
        go_meet
        case rel => exact ⟨W1.heap.size, a4, c4, rfl, HFN.out⟩
    · have hb : Below s.heap.size s (s.alloc (.cells #[.slice none 0 0, .int .i64 0] 57)) := (Below.refl _ _).alloc (Nat.le_refl _) _
      have HTN : Hid (TS w (s.alloc (.cells #[.slice none 0 0, .int .i64 0] 57)) v nx zs e []) := HT.out.step hb
      have SBN : Hid (Below s.heap.size s (s.alloc (.cells #[.slice none 0 0, .int .i64 0] 57))) := SB.out.trans (hb.mono SB.out.size)
      have R5 : Hid ((s.alloc (.cells #[.slice none 0 0, .int .i64 0] 57)).heap[s.heap.size]? = some (.cells #[.slice none 0 0, .int .i64 0] 57 (0, 0))) := heap_new _ _
      have PL : Hid (s.heap.size ≤ s.heap.size) := SB.out.size
      clear hb
      go_simp
      refine hK _ _ (HSB.out _ HTN.out) ?_
      clear hK K
      generalize s.alloc (.cells #[.slice none 0 0, .int .i64 0] 57) = W1 at *
      clear HT SB
      have HT : Hid (TS w W1 v nx zs e []) := HTN.out
      have SB : Hid (Below s.heap.size s W1) := SBN.out
      clear HTN SBN
      refine wpAnyH_all (rs := [1]) (by kernel_rfl) (by simp) (all_one (held_step rfl (by rfl) fun K hK => ?_))
      have HA := toTlb_any HT.out.rw nx HL.out
      have HAH : Hid _ := HA
      clear HA
      unfold tlA at HAH
      go_simp
      refine Calls.mono HAH.out ?_
      clear HAH
      rintro r W2 ⟨a1, c1, rfl, ho, hb⟩
      have R5o := R5
      have R5 : Hid (W2.heap[s.heap.size]? = some (.cells #[.slice none 0 0, .int .i64 0] 57 (0, 0))) := (hb.block (s.heap.size) (Array.getElem?_eq_some_iff.1 R5.out).1).trans R5.out
      have HTN : Hid (TS w W2 v nx zs e []) := HT.out.step hb
      have SBN : Hid (Below s.heap.size s W2) := SB.out.trans (hb.mono SB.out.size)
      have R1 : Hid (W2.ownsRow s.heap.size 60 5 (.slice a1 zs.length c1) zs.length (teR zs)) := te_weak ho SB.out.size
      clear ho hb
      refine hK _ _ (HSB.out _ HTN.out) ?_
      clear hK K
      clear HT SB
      have HT : Hid (TS w W2 v nx zs e []) := HTN.out
      have SB : Hid (Below s.heap.size s W2) := SBN.out
      clear HTN SBN
      refine wpAnyH_all (rs := [3]) (by kernel_rfl) (by simp) (all_one (held_step rfl (by rfl) fun K hK => ?_))
      have HA := toTE_any e W2
      have HAH : Hid _ := HA
      clear HA
      unfold teA at HAH
      go_simp
      refine Calls.mono HAH.out ?_
      clear HAH
      rintro r W3 ⟨rfl, hb⟩
      have R1 : Hid (W3.ownsRow s.heap.size 60 5 (.slice a1 zs.length c1) zs.length (teR zs)) := te_below R1.out hb
      have R5o := R5
      have R5 : Hid (W3.heap[s.heap.size]? = some (.cells #[.slice none 0 0, .int .i64 0] 57 (0, 0))) := (hb.block (s.heap.size) (Array.getElem?_eq_some_iff.1 R5.out).1).trans R5.out
      have HTN : Hid (TS w W3 v nx zs e []) := HT.out.step hb
      have SBN : Hid (Below s.heap.size s W3) := SB.out.trans (hb.mono SB.out.size)
      clear hb
      refine hK _ _ (HSB.out _ HTN.out) ?_
      clear hK K
      clear HT SB
      have HT : Hid (TS w W3 v nx zs e []) := HTN.out
      have SB : Hid (Below s.heap.size s W3) := SBN.out
      clear HTN SBN
      refine wpAnyH_all (rs := [4]) (by kernel_rfl) (by simp) (all_one (held_step rfl (by rfl) fun K hK => ?_))
      have HA := HAF.out W3 _ a1 c1 R1.out
      have HAH : Hid _ := HA
      clear HA
      unfold tlA teA at HAH
      go_simp
      refine Calls.mono HAH.out ?_
      clear HAH
      rintro r W4 ⟨a4, c4, rfl, ho, hb⟩
      have R1 : Hid (W4.ownsRow s.heap.size 60 5 (.slice a1 zs.length c1) zs.length (teR zs)) := te_below R1.out hb
      have R5o := R5
      have R5 : Hid (W4.heap[s.heap.size]? = some (.cells #[.slice none 0 0, .int .i64 0] 57 (0, 0))) := (hb.block (s.heap.size) (Array.getElem?_eq_some_iff.1 R5.out).1).trans R5.out
      have HTN : Hid (TS w W4 v nx zs e []) := HT.out.step hb
      have SBN : Hid (Below s.heap.size s W4) := SB.out.trans (hb.mono SB.out.size)
      have R4 : Hid (W4.ownsRow s.heap.size 60 5 (.slice a4 L.length c4) L.length (teR L)) := te_weak ho SB.out.size
      have D45 : Hid ((Value.slice a4 L.length c4).ownBlock ≠ some (s.heap.size)) := fun q => by have h1 := (ho.lt _ q).1; have h2 := (Array.getElem?_eq_some_iff.1 R5o.out).1; omega
      clear ho hb
      refine hK _ _ (HSB.out _ HTN.out) ?_
      clear hK K
      clear HT SB
      have HT : Hid (TS w W4 v nx zs e []) := HTN.out
      have SB : Hid (Below s.heap.size s W4) := SBN.out
      clear HTN SBN
      have HTP : Hid (TS w ((W4.setCell ⟨s.heap.size, 0, none⟩ (.slice a4 L.length c4)).setCell ⟨s.heap.size, 1, none⟩ (.int .i64 N)) v nx zs e []) := TS.put HT.out HTS.out (s.heap.size) _ _ PL.out
      have HFN : Hid (TS w ((W4.setCell ⟨s.heap.size, 0, none⟩ (.slice a4 L.length c4)).setCell ⟨s.heap.size, 1, none⟩ (.int .i64 N)) v nx zs e (⟨s.heap.size, a4, c4, L.length, L, N⟩ :: [])) := TS.add HTP.out HTS.out ⟨s.heap.size, a4, c4, L.length, L, N⟩ PL.out (own_set (own_set R4.out D45.out) D45.out) (putBoxT R5.out _ _) D45.out
      obtain ⟨k0, k1⟩ := cel2 R5.out
      have kf : ∀ x, W4.frozen? ⟨s.heap.size, x, none⟩ = false := (fun x => by simp [World.frozen?, R5.out])
      refine wpAnyH_all (rs := [6]) (by kernel_rfl) (by simp) (all_one (held_step rfl (by rfl) fun K hK => ?_))
      go_simp
      refine hK _ _ (HSB.out _ HTP.out) ?_
      clear hK K
      refine wpAnyH_done (by kernel_rfl) ?_ _
      go_simp
      go_wp2
      go_meet
      case rel => exact ⟨s.heap.size, a4, c4, rfl, HFN.out⟩
  case rest =>
    obtain ⟨p6, a6, c6, rfl, hT⟩ := hcut
    have HU0 : Hid (TS w wc v nx zs e [⟨p6, a6, c6, L.length, L, N⟩]) := hT
    clear hT HU HAS
    obtain ⟨c0, c1⟩ := cel2 HU0.out.b0
    go_upto_region 7 with (go_at_call 31; have HA := toTlb_any HU0.out.rw nx HL.out; unfold tlA at HA; refine Calls.mono HA ?_; clear HA; rintro r9 u2 ⟨a7, c7, rfl, ho, hb⟩; have HU1 : Hid (TS w (u2.alloc (.cells #[.slice a7 zs.length c7, .int .i64 nx] 57)) v nx zs e [⟨u2.heap.size, a7, c7, zs.length, zs, nx⟩, ⟨p6, a6, c6, L.length, L, N⟩]) := ((HU0.out.step hb).step ((Below.refl _ _).alloc (Nat.le_refl _) _)).add HU0.out ⟨u2.heap.size, a7, c7, zs.length, zs, nx⟩ hb.size (te_below ho ((Below.refl _ _).alloc (Nat.le_refl _) _)) (heap_new _ _) (fun q => by have q2 := (ho.lt _ q).2; simp only at q2; omega); clear ho hb c0 c1 HU0)
    generalize u2.alloc (.cells #[.slice a7 zs.length c7, .int .i64 nx] 57) = wd at *
    generalize u2.heap.size = p7 at *
    have HU : Hid (TS w wd v nx zs e [⟨p7, a7, c7, zs.length, zs, nx⟩, ⟨p6, a6, c6, L.length, L, N⟩]) := HU1.out
    clear HU1
    go_cut [8] (fun s8 we => ∃ (p8 : Nat) (a8 : Option Addr) (c8 : Nat), s8 = .pointer (some ⟨p8, 0, none⟩) ∧ TS w we v nx zs e [⟨p8, a8, c8, L.length, L, N⟩, ⟨p7, a7, c7, zs.length, zs, nx⟩, ⟨p6, a6, c6, L.length, L, N⟩])
    case first =>
      have HAF : Hid (AnsP 33 zs nx e L N) := HAI.out
      clear HAI
      have hzT : ∀ u : World, Sem.run Try.prog (zeroValue 57) u = .ok (.agg #[.slice none 0 0, .int .i64 0]) u := fun u => by kernel_rfl
      have HT : Hid (TS w wd.drew v nx zs e [⟨p7, a7, c7, zs.length, zs, nx⟩, ⟨p6, a6, c6, L.length, L, N⟩]) := HU.out.step (Below.refl _ _).drew
      have HSB : Hid (∀ w' : World, TS w w' v nx zs e [⟨p7, a7, c7, zs.length, zs, nx⟩, ⟨p6, a6, c6, L.length, L, N⟩] → w'.cell? ⟨p7, 0, none⟩ = some (.slice a7 zs.length c7) ∧ w'.cell? ⟨p7, 1, none⟩ = some (.int .i64 nx) ∧ w'.cell? ⟨w.heap.size + 1, 0, none⟩ = some (.int .i64 e.asid) ∧ w'.cell? ⟨w.heap.size + 1, 1, none⟩ = some (.int .i64 e.page) ∧ w'.cell? ⟨w.heap.size + 1, 2, none⟩ = some (.int .i64 e.frame) ∧ w'.cell? ⟨w.heap.size + 1, 3, none⟩ = some (.int .i64 e.flags) ∧ w'.cell? ⟨w.heap.size + 1, 4, none⟩ = some (.bool e.large)) := fun w' hW => by
        obtain ⟨c0, c1⟩ := (hW.its ⟨p7, a7, c7, zs.length, zs, nx⟩ (by simp)).cel
        obtain ⟨d0, d1, d2, d3, d4⟩ := cel5 hW.b1
        exact ⟨c0, c1, d0, d1, d2, d3, d4⟩
      refine wp_region_held (S := fun w' => w'.cell? ⟨p7, 0, none⟩ = some (.slice a7 zs.length c7) ∧ w'.cell? ⟨p7, 1, none⟩ = some (.int .i64 nx) ∧ w'.cell? ⟨w.heap.size + 1, 0, none⟩ = some (.int .i64 e.asid) ∧ w'.cell? ⟨w.heap.size + 1, 1, none⟩ = some (.int .i64 e.page) ∧ w'.cell? ⟨w.heap.size + 1, 2, none⟩ = some (.int .i64 e.frame) ∧ w'.cell? ⟨w.heap.size + 1, 3, none⟩ = some (.int .i64 e.flags) ∧ w'.cell? ⟨w.heap.size + 1, 4, none⟩ = some (.bool e.large)) (by kernel_rfl) ?_
      change wpAnyH _ _ _ _ _ _ _ _ (World.drew _)
      clear HU
      generalize World.drew wd = s at *
      refine wpAnyH_take (i := 0) (v := .agg #[.slice a7 zs.length c7, .int .i64 nx]) rfl (by kernel_rfl) (by kernel_rfl) (by kernel_rfl) (fun _ _ _ h => h) (Or.inl ⟨by rfl, fun w9 h9 => ?_⟩) (HSB.out _ HT.out) ?_
      · have h91 := h9.1
        have h92 := h9.2.1
        go_simp
      refine wpAnyH_take (i := 1) (v := .agg #[.int .i64 e.asid, .int .i64 e.page, .int .i64 e.frame, .int .i64 e.flags, .bool e.large]) rfl (by kernel_rfl) (by kernel_rfl) (by kernel_rfl) (fun _ _ _ h => h) (Or.inl ⟨by rfl, fun w9 h9 => ?_⟩) (HSB.out _ HT.out) ?_
      · obtain ⟨_, _, e0, e1, e2, e3, e4⟩ := h9
        go_simp
      have HTS : Hid (TS w s v nx zs e [⟨p7, a7, c7, zs.length, zs, nx⟩, ⟨p6, a6, c6, L.length, L, N⟩]) := HT.out
      have SB : Hid (Below s.heap.size s s) := Below.refl _ _
      refine wpAnyH_all (rs := [2, 4]) (by kernel_rfl) (by simp) (all_two (held_step rfl (by rfl) fun K hK => ?_) (held_step rfl (by rfl) fun K hK => ?_))
      · have HA := toTE_any e s
        have HAH : Hid _ := HA
        clear HA
        unfold teA at HAH
        go_simp
        refine Calls.mono HAH.out ?_
        clear HAH
        rintro r W1 ⟨rfl, hb⟩
        have HTN : Hid (TS w W1 v nx zs e [⟨p7, a7, c7, zs.length, zs, nx⟩, ⟨p6, a6, c6, L.length, L, N⟩]) := HT.out.step hb
        have SBN : Hid (Below s.heap.size s W1) := SB.out.trans (hb.mono SB.out.size)
        clear hb
        refine hK _ _ (HSB.out _ HTN.out) ?_
        clear hK K
        clear HT SB
        have HT : Hid (TS w W1 v nx zs e [⟨p7, a7, c7, zs.length, zs, nx⟩, ⟨p6, a6, c6, L.length, L, N⟩]) := HTN.out
        have SB : Hid (Below s.heap.size s W1) := SBN.out
        clear HTN SBN
        refine wpAnyH_all (rs := [3, 4]) (by kernel_rfl) (by simp) (all_two (held_step rfl (by rfl) fun K hK => ?_) (held_step rfl (by rfl) fun K hK => ?_))
        · have HA := HAF.out W1 _ a7 c7 (HT.out.its ⟨p7, a7, c7, zs.length, zs, nx⟩ (by simp)).row
          have HAH : Hid _ := HA
          clear HA
          unfold tlA teA at HAH
          go_simp
          refine Calls.mono HAH.out ?_
          clear HAH
          rintro r W2 ⟨a4, c4, rfl, ho, hb⟩
          have HTN : Hid (TS w W2 v nx zs e [⟨p7, a7, c7, zs.length, zs, nx⟩, ⟨p6, a6, c6, L.length, L, N⟩]) := HT.out.step hb
          have SBN : Hid (Below s.heap.size s W2) := SB.out.trans (hb.mono SB.out.size)
          have R4 : Hid (W2.ownsRow s.heap.size 60 5 (.slice a4 L.length c4) L.length (teR L)) := te_weak ho SB.out.size
          clear ho hb
          refine hK _ _ (HSB.out _ HTN.out) ?_
          clear hK K
          clear HT SB
          have HT : Hid (TS w W2 v nx zs e [⟨p7, a7, c7, zs.length, zs, nx⟩, ⟨p6, a6, c6, L.length, L, N⟩]) := HTN.out
          have SB : Hid (Below s.heap.size s W2) := SBN.out
          clear HTN SBN
          refine wpAnyH_all (rs := [4]) (by kernel_rfl) (by simp) (all_one (held_step rfl (by rfl) fun K hK => ?_))
          have hb : Below W2.heap.size W2 (W2.alloc (.cells #[.slice none 0 0, .int .i64 0] 57)) := (Below.refl _ _).alloc (Nat.le_refl _) _
          have R4o := R4
          have R4 : Hid ((W2.alloc (.cells #[.slice none 0 0, .int .i64 0] 57)).ownsRow s.heap.size 60 5 (.slice a4 L.length c4) L.length (teR L)) := te_below R4.out hb
          have HTN : Hid (TS w (W2.alloc (.cells #[.slice none 0 0, .int .i64 0] 57)) v nx zs e [⟨p7, a7, c7, zs.length, zs, nx⟩, ⟨p6, a6, c6, L.length, L, N⟩]) := HT.out.step hb
          have SBN : Hid (Below s.heap.size s (W2.alloc (.cells #[.slice none 0 0, .int .i64 0] 57))) := SB.out.trans (hb.mono SB.out.size)
          have R5 : Hid ((W2.alloc (.cells #[.slice none 0 0, .int .i64 0] 57)).heap[W2.heap.size]? = some (.cells #[.slice none 0 0, .int .i64 0] 57 (0, 0))) := heap_new _ _
          have PL : Hid (s.heap.size ≤ W2.heap.size) := SB.out.size
          have D45 : Hid ((Value.slice a4 L.length c4).ownBlock ≠ some W2.heap.size) := fun q => by have := (R4o.out.lt _ q).2; omega
          clear hb
          go_simp
          refine hK _ _ (HSB.out _ HTN.out) ?_
          clear hK K
          generalize W2.alloc (.cells #[.slice none 0 0, .int .i64 0] 57) = W3 at *
          clear HT SB
          have HT : Hid (TS w W3 v nx zs e [⟨p7, a7, c7, zs.length, zs, nx⟩, ⟨p6, a6, c6, L.length, L, N⟩]) := HTN.out
          have SB : Hid (Below s.heap.size s W3) := SBN.out
          clear HTN SBN
          have HTP : Hid (TS w ((W3.setCell ⟨W2.heap.size, 0, none⟩ (.slice a4 L.length c4)).setCell ⟨W2.heap.size, 1, none⟩ (.int .i64 N)) v nx zs e [⟨p7, a7, c7, zs.length, zs, nx⟩, ⟨p6, a6, c6, L.length, L, N⟩]) := TS.put HT.out HTS.out (W2.heap.size) _ _ PL.out
          have HFN : Hid (TS w ((W3.setCell ⟨W2.heap.size, 0, none⟩ (.slice a4 L.length c4)).setCell ⟨W2.heap.size, 1, none⟩ (.int .i64 N)) v nx zs e (⟨W2.heap.size, a4, c4, L.length, L, N⟩ :: [⟨p7, a7, c7, zs.length, zs, nx⟩, ⟨p6, a6, c6, L.length, L, N⟩])) := TS.add HTP.out HTS.out ⟨W2.heap.size, a4, c4, L.length, L, N⟩ PL.out (own_set (own_set R4.out D45.out) D45.out) (putBoxT R5.out _ _) D45.out
          obtain ⟨k0, k1⟩ := cel2 R5.out
          have kf : ∀ x, W3.frozen? ⟨W2.heap.size, x, none⟩ = false := (fun x => by simp [World.frozen?, R5.out])
          refine wpAnyH_all (rs := [5]) (by kernel_rfl) (by simp) (all_one (held_step rfl (by rfl) fun K hK => ?_))
          go_simp
          refine hK _ _ (HSB.out _ HTP.out) ?_
          clear hK K
          refine wpAnyH_done (by kernel_rfl) ?_ _
          go_simp
          go_wp2
          go_meet
          case rel => exact ⟨W2.heap.size, a4, c4, rfl, HFN.out⟩
        · have hb : Below W1.heap.size W1 (W1.alloc (.cells #[.slice none 0 0, .int .i64 0] 57)) := (Below.refl _ _).alloc (Nat.le_refl _) _
          have HTN : Hid (TS w (W1.alloc (.cells #[.slice none 0 0, .int .i64 0] 57)) v nx zs e [⟨p7, a7, c7, zs.length, zs, nx⟩, ⟨p6, a6, c6, L.length, L, N⟩]) := HT.out.step hb
          have SBN : Hid (Below s.heap.size s (W1.alloc (.cells #[.slice none 0 0, .int .i64 0] 57))) := SB.out.trans (hb.mono SB.out.size)
          have R5 : Hid ((W1.alloc (.cells #[.slice none 0 0, .int .i64 0] 57)).heap[W1.heap.size]? = some (.cells #[.slice none 0 0, .int .i64 0] 57 (0, 0))) := heap_new _ _
          have PL : Hid (s.heap.size ≤ W1.heap.size) := SB.out.size
          clear hb
          go_simp
          refine hK _ _ (HSB.out _ HTN.out) ?_
          clear hK K
          generalize W1.alloc (.cells #[.slice none 0 0, .int .i64 0] 57) = W2 at *
          clear HT SB
          have HT : Hid (TS w W2 v nx zs e [⟨p7, a7, c7, zs.length, zs, nx⟩, ⟨p6, a6, c6, L.length, L, N⟩]) := HTN.out
          have SB : Hid (Below s.heap.size s W2) := SBN.out
          clear HTN SBN
          refine wpAnyH_all (rs := [3]) (by kernel_rfl) (by simp) (all_one (held_step rfl (by rfl) fun K hK => ?_))
          have HA := HAF.out W2 _ a7 c7 (HT.out.its ⟨p7, a7, c7, zs.length, zs, nx⟩ (by simp)).row
          have HAH : Hid _ := HA
          clear HA
          unfold tlA teA at HAH
          go_simp
          refine Calls.mono HAH.out ?_
          clear HAH
          rintro r W3 ⟨a4, c4, rfl, ho, hb⟩
          have R5o := R5
          have R5 : Hid (W3.heap[W1.heap.size]? = some (.cells #[.slice none 0 0, .int .i64 0] 57 (0, 0))) := (hb.block (W1.heap.size) (Array.getElem?_eq_some_iff.1 R5.out).1).trans R5.out
          have HTN : Hid (TS w W3 v nx zs e [⟨p7, a7, c7, zs.length, zs, nx⟩, ⟨p6, a6, c6, L.length, L, N⟩]) := HT.out.step hb
          have SBN : Hid (Below s.heap.size s W3) := SB.out.trans (hb.mono SB.out.size)
          have R4 : Hid (W3.ownsRow s.heap.size 60 5 (.slice a4 L.length c4) L.length (teR L)) := te_weak ho SB.out.size
          have D45 : Hid ((Value.slice a4 L.length c4).ownBlock ≠ some (W1.heap.size)) := fun q => by have h1 := (ho.lt _ q).1; have h2 := (Array.getElem?_eq_some_iff.1 R5o.out).1; omega
          clear ho hb
          refine hK _ _ (HSB.out _ HTN.out) ?_
          clear hK K
          clear HT SB
          have HT : Hid (TS w W3 v nx zs e [⟨p7, a7, c7, zs.length, zs, nx⟩, ⟨p6, a6, c6, L.length, L, N⟩]) := HTN.out
          have SB : Hid (Below s.heap.size s W3) := SBN.out
          clear HTN SBN
          have HTP : Hid (TS w ((W3.setCell ⟨W1.heap.size, 0, none⟩ (.slice a4 L.length c4)).setCell ⟨W1.heap.size, 1, none⟩ (.int .i64 N)) v nx zs e [⟨p7, a7, c7, zs.length, zs, nx⟩, ⟨p6, a6, c6, L.length, L, N⟩]) := TS.put HT.out HTS.out (W1.heap.size) _ _ PL.out
          have HFN : Hid (TS w ((W3.setCell ⟨W1.heap.size, 0, none⟩ (.slice a4 L.length c4)).setCell ⟨W1.heap.size, 1, none⟩ (.int .i64 N)) v nx zs e (⟨W1.heap.size, a4, c4, L.length, L, N⟩ :: [⟨p7, a7, c7, zs.length, zs, nx⟩, ⟨p6, a6, c6, L.length, L, N⟩])) := TS.add HTP.out HTS.out ⟨W1.heap.size, a4, c4, L.length, L, N⟩ PL.out (own_set (own_set R4.out D45.out) D45.out) (putBoxT R5.out _ _) D45.out
          obtain ⟨k0, k1⟩ := cel2 R5.out
          have kf : ∀ x, W3.frozen? ⟨W1.heap.size, x, none⟩ = false := (fun x => by simp [World.frozen?, R5.out])
          refine wpAnyH_all (rs := [5]) (by kernel_rfl) (by simp) (all_one (held_step rfl (by rfl) fun K hK => ?_))
          go_simp
          refine hK _ _ (HSB.out _ HTP.out) ?_
          clear hK K
          refine wpAnyH_done (by kernel_rfl) ?_ _
          go_simp
          go_wp2
          go_meet
          case rel => exact ⟨W1.heap.size, a4, c4, rfl, HFN.out⟩
      · have hb : Below s.heap.size s (s.alloc (.cells #[.slice none 0 0, .int .i64 0] 57)) := (Below.refl _ _).alloc (Nat.le_refl _) _
        have HTN : Hid (TS w (s.alloc (.cells #[.slice none 0 0, .int .i64 0] 57)) v nx zs e [⟨p7, a7, c7, zs.length, zs, nx⟩, ⟨p6, a6, c6, L.length, L, N⟩]) := HT.out.step hb
        have SBN : Hid (Below s.heap.size s (s.alloc (.cells #[.slice none 0 0, .int .i64 0] 57))) := SB.out.trans (hb.mono SB.out.size)
        have R5 : Hid ((s.alloc (.cells #[.slice none 0 0, .int .i64 0] 57)).heap[s.heap.size]? = some (.cells #[.slice none 0 0, .int .i64 0] 57 (0, 0))) := heap_new _ _
        have PL : Hid (s.heap.size ≤ s.heap.size) := SB.out.size
        clear hb
        go_simp
        refine hK _ _ (HSB.out _ HTN.out) ?_
        clear hK K
        generalize s.alloc (.cells #[.slice none 0 0, .int .i64 0] 57) = W1 at *
        clear HT SB
        have HT : Hid (TS w W1 v nx zs e [⟨p7, a7, c7, zs.length, zs, nx⟩, ⟨p6, a6, c6, L.length, L, N⟩]) := HTN.out
        have SB : Hid (Below s.heap.size s W1) := SBN.out
        clear HTN SBN
        refine wpAnyH_all (rs := [2]) (by kernel_rfl) (by simp) (all_one (held_step rfl (by rfl) fun K hK => ?_))
        have HA := toTE_any e W1
        have HAH : Hid _ := HA
        clear HA
        unfold teA at HAH
        go_simp
        refine Calls.mono HAH.out ?_
        clear HAH
        rintro r W2 ⟨rfl, hb⟩
        have R5o := R5
        have R5 : Hid (W2.heap[s.heap.size]? = some (.cells #[.slice none 0 0, .int .i64 0] 57 (0, 0))) := (hb.block (s.heap.size) (Array.getElem?_eq_some_iff.1 R5.out).1).trans R5.out
        have HTN : Hid (TS w W2 v nx zs e [⟨p7, a7, c7, zs.length, zs, nx⟩, ⟨p6, a6, c6, L.length, L, N⟩]) := HT.out.step hb
        have SBN : Hid (Below s.heap.size s W2) := SB.out.trans (hb.mono SB.out.size)
        clear hb
        refine hK _ _ (HSB.out _ HTN.out) ?_
        clear hK K
        clear HT SB
        have HT : Hid (TS w W2 v nx zs e [⟨p7, a7, c7, zs.length, zs, nx⟩, ⟨p6, a6, c6, L.length, L, N⟩]) := HTN.out
        have SB : Hid (Below s.heap.size s W2) := SBN.out
        clear HTN SBN
        refine wpAnyH_all (rs := [3]) (by kernel_rfl) (by simp) (all_one (held_step rfl (by rfl) fun K hK => ?_))
        have HA := HAF.out W2 _ a7 c7 (HT.out.its ⟨p7, a7, c7, zs.length, zs, nx⟩ (by simp)).row
        have HAH : Hid _ := HA
        clear HA
        unfold tlA teA at HAH
        go_simp
        refine Calls.mono HAH.out ?_
        clear HAH
        rintro r W3 ⟨a4, c4, rfl, ho, hb⟩
        have R5o := R5
        have R5 : Hid (W3.heap[s.heap.size]? = some (.cells #[.slice none 0 0, .int .i64 0] 57 (0, 0))) := (hb.block (s.heap.size) (Array.getElem?_eq_some_iff.1 R5.out).1).trans R5.out
        have HTN : Hid (TS w W3 v nx zs e [⟨p7, a7, c7, zs.length, zs, nx⟩, ⟨p6, a6, c6, L.length, L, N⟩]) := HT.out.step hb
        have SBN : Hid (Below s.heap.size s W3) := SB.out.trans (hb.mono SB.out.size)
        have R4 : Hid (W3.ownsRow s.heap.size 60 5 (.slice a4 L.length c4) L.length (teR L)) := te_weak ho SB.out.size
        have D45 : Hid ((Value.slice a4 L.length c4).ownBlock ≠ some (s.heap.size)) := fun q => by have h1 := (ho.lt _ q).1; have h2 := (Array.getElem?_eq_some_iff.1 R5o.out).1; omega
        clear ho hb
        refine hK _ _ (HSB.out _ HTN.out) ?_
        clear hK K
        clear HT SB
        have HT : Hid (TS w W3 v nx zs e [⟨p7, a7, c7, zs.length, zs, nx⟩, ⟨p6, a6, c6, L.length, L, N⟩]) := HTN.out
        have SB : Hid (Below s.heap.size s W3) := SBN.out
        clear HTN SBN
        have HTP : Hid (TS w ((W3.setCell ⟨s.heap.size, 0, none⟩ (.slice a4 L.length c4)).setCell ⟨s.heap.size, 1, none⟩ (.int .i64 N)) v nx zs e [⟨p7, a7, c7, zs.length, zs, nx⟩, ⟨p6, a6, c6, L.length, L, N⟩]) := TS.put HT.out HTS.out (s.heap.size) _ _ PL.out
        have HFN : Hid (TS w ((W3.setCell ⟨s.heap.size, 0, none⟩ (.slice a4 L.length c4)).setCell ⟨s.heap.size, 1, none⟩ (.int .i64 N)) v nx zs e (⟨s.heap.size, a4, c4, L.length, L, N⟩ :: [⟨p7, a7, c7, zs.length, zs, nx⟩, ⟨p6, a6, c6, L.length, L, N⟩])) := TS.add HTP.out HTS.out ⟨s.heap.size, a4, c4, L.length, L, N⟩ PL.out (own_set (own_set R4.out D45.out) D45.out) (putBoxT R5.out _ _) D45.out
        obtain ⟨k0, k1⟩ := cel2 R5.out
        have kf : ∀ x, W3.frozen? ⟨s.heap.size, x, none⟩ = false := (fun x => by simp [World.frozen?, R5.out])
        refine wpAnyH_all (rs := [5]) (by kernel_rfl) (by simp) (all_one (held_step rfl (by rfl) fun K hK => ?_))
        go_simp
        refine hK _ _ (HSB.out _ HTP.out) ?_
        clear hK K
        refine wpAnyH_done (by kernel_rfl) ?_ _
        go_simp
        go_wp2
        go_meet
        case rel => exact ⟨s.heap.size, a4, c4, rfl, HFN.out⟩
    case rest =>
      obtain ⟨p8, a8, c8, rfl, hT⟩ := hcut
      have HV0 : Hid (TS w wc v nx zs e [⟨p8, a8, c8, L.length, L, N⟩, ⟨p7, a7, c7, zs.length, zs, nx⟩, ⟨p6, a6, c6, L.length, L, N⟩]) := hT
      clear hT HU
      obtain ⟨x0, x1⟩ := (HV0.out.its ⟨p8, a8, c8, L.length, L, N⟩ (by simp)).cel
      obtain ⟨y0, y1⟩ := (HV0.out.its ⟨p7, a7, c7, zs.length, zs, nx⟩ (by simp)).cel
      obtain ⟨z0, z1⟩ := (HV0.out.its ⟨p6, a6, c6, L.length, L, N⟩ (by simp)).cel
      simp only at x0 x1 y0 y1 z0 z1
      go_upto_region 10 with (go_at_call 34; have HA := eqTlb_ok N (TErow.of (HV0.out.its ⟨p8, a8, c8, L.length, L, N⟩ (by simp)).row) (TErow.of (HV0.out.its ⟨p6, a6, c6, L.length, L, N⟩ (by simp)).row) HLL.out; unfold tlA at HA; refine Calls.mono HA ?_; clear HA; rintro r9 u3 ⟨rfl, hb⟩; have HU : Hid (TS w u3 v nx zs e [⟨p8, a8, c8, L.length, L, N⟩, ⟨p7, a7, c7, zs.length, zs, nx⟩, ⟨p6, a6, c6, L.length, L, N⟩]) := HV0.out.step hb; clear hb HV0 x0 x1 y0 y1 z0 z1)
      have hzT : ∀ u : World, Sem.run Try.prog (zeroValue 57) u = .ok (.agg #[.slice none 0 0, .int .i64 0]) u := fun u => by kernel_rfl
      have HT : Hid (TS w u3.drew v nx zs e [⟨p8, a8, c8, L.length, L, N⟩, ⟨p7, a7, c7, zs.length, zs, nx⟩, ⟨p6, a6, c6, L.length, L, N⟩]) := HU.out.step (Below.refl _ _).drew
      have HSB : Hid (∀ w' : World, TS w w' v nx zs e [⟨p8, a8, c8, L.length, L, N⟩, ⟨p7, a7, c7, zs.length, zs, nx⟩, ⟨p6, a6, c6, L.length, L, N⟩] → w'.cell? ⟨p7, 0, none⟩ = some (.slice a7 zs.length c7) ∧ w'.cell? ⟨p7, 1, none⟩ = some (.int .i64 nx) ∧ w'.cell? ⟨w.heap.size, 0, none⟩ = some v ∧ w'.cell? ⟨w.heap.size, 1, none⟩ = some (.int .i64 nx)) := fun w' hW => by
        obtain ⟨c0, c1⟩ := (hW.its ⟨p7, a7, c7, zs.length, zs, nx⟩ (by simp)).cel
        obtain ⟨d0, d1⟩ := cel2 hW.b0
        exact ⟨c0, c1, d0, d1⟩
      refine wp_region_held (S := fun w' => w'.cell? ⟨p7, 0, none⟩ = some (.slice a7 zs.length c7) ∧ w'.cell? ⟨p7, 1, none⟩ = some (.int .i64 nx) ∧ w'.cell? ⟨w.heap.size, 0, none⟩ = some v ∧ w'.cell? ⟨w.heap.size, 1, none⟩ = some (.int .i64 nx)) (by kernel_rfl) ?_
      change wpAnyH _ _ _ _ _ _ _ _ (World.drew _)
      clear HU
      generalize World.drew u3 = s at *
      refine wpAnyH_take (i := 0) (v := .agg #[.slice a7 zs.length c7, .int .i64 nx]) rfl (by kernel_rfl) (by kernel_rfl) (by kernel_rfl) (fun _ _ _ h => h) (Or.inl ⟨by rfl, fun w9 h9 => ?_⟩) (HSB.out _ HT.out) ?_
      · have h91 := h9.1
        have h92 := h9.2.1
        go_simp
      refine wpAnyH_take (i := 1) (v := .agg #[v, .int .i64 nx]) rfl (by kernel_rfl) (by kernel_rfl) (by kernel_rfl) (fun _ _ _ h => h) (Or.inl ⟨by rfl, fun w9 h9 => ?_⟩) (HSB.out _ HT.out) ?_
      · have h91 := h9.2.2.1
        have h92 := h9.2.2.2
        go_simp
      refine wpAnyH_all (rs := [2]) (by kernel_rfl) (by simp) (all_one (held_step rfl (by rfl) fun K hK => ?_))
      have HA := toTlb_any HT.out.rw nx HL.out
      have HAH : Hid _ := HA
      clear HA
      unfold tlA at HAH
      go_simp
      refine Calls.mono HAH.out ?_
      clear HAH
      rintro r9 W1 ⟨a1, c1, rfl, ho, hb⟩
      have HT1 : Hid (TS w W1 v nx zs e [⟨p8, a8, c8, L.length, L, N⟩, ⟨p7, a7, c7, zs.length, zs, nx⟩, ⟨p6, a6, c6, L.length, L, N⟩]) := HT.out.step hb
      have HR1 : Hid (TErow W1 (.slice a1 zs.length c1) zs) := TErow.of ho
      clear ho hb HT
      refine hK _ _ (HSB.out _ HT1.out) ?_
      clear hK K
      refine wpAnyH_all (rs := [3]) (by kernel_rfl) (by simp) (all_one (held_step rfl (by rfl) fun K hK => ?_))
      have HA := eqTlb_ok nx (TErow.of (HT1.out.its ⟨p7, a7, c7, zs.length, zs, nx⟩ (by simp)).row) HR1.out HL.out
      have HAH : Hid _ := HA
      clear HA
      unfold tlA at HAH
      go_simp
      refine Calls.mono HAH.out ?_
      clear HAH HR1
      rintro r9 W2 ⟨rfl, hb⟩
      have HV4 : Hid (TS w W2 v nx zs e [⟨p8, a8, c8, L.length, L, N⟩, ⟨p7, a7, c7, zs.length, zs, nx⟩, ⟨p6, a6, c6, L.length, L, N⟩]) := HT1.out.step hb
      clear hb HT1
      refine hK _ _ (HSB.out _ HV4.out) ?_
      clear hK K
      refine wpAnyH_take (i := 4) (v := .bool false) rfl (by kernel_rfl) (by kernel_rfl) (by kernel_rfl) (fun _ _ _ h => h) (Or.inl ⟨by rfl, fun w9 _ => ?_⟩) (HSB.out _ HV4.out) ?_
      · go_simp
      refine wpAnyH_done (by kernel_rfl) ?_ _
      clear HSB hzT
      go_simp
      obtain ⟨x0, x1⟩ := (HV4.out.its ⟨p8, a8, c8, L.length, L, N⟩ (by simp)).cel
      obtain ⟨y0, y1⟩ := (HV4.out.its ⟨p7, a7, c7, zs.length, zs, nx⟩ (by simp)).cel
      obtain ⟨z0, z1⟩ := (HV4.out.its ⟨p6, a6, c6, L.length, L, N⟩ (by simp)).cel
      simp only at x0 x1 y0 y1 z0 z1
      go_upto_region 24 with (first
        | (go_at_call 35; have HA := markTlb_ok nx (HV4.out.its ⟨p7, a7, c7, zs.length, zs, nx⟩ (by simp)).row HL.out; unfold tlA at HA; refine Calls.mono HA ?_; clear HA; rintro r9 u5 ⟨rfl, ho, hg⟩; clear x0 x1 y0 y1 z0 z1; have HV5 : Hid (TS w u5 v nx zs e [⟨p7, a7, c7, zs.length, mkPL zs.length, nx⟩, ⟨p8, a8, c8, L.length, L, N⟩, ⟨p6, a6, c6, L.length, L, N⟩]) := (HV4.out.swap).mark (mkPL zs.length) hg ho; obtain ⟨x0, x1⟩ := (HV5.out.its ⟨p8, a8, c8, L.length, L, N⟩ (by simp)).cel; obtain ⟨y0, y1⟩ := (HV5.out.its ⟨p7, a7, c7, zs.length, mkPL zs.length, nx⟩ (by simp)).cel; obtain ⟨z0, z1⟩ := (HV5.out.its ⟨p6, a6, c6, L.length, L, N⟩ (by simp)).cel; simp only at x0 x1 y0 y1 z0 z1; clear ho hg HV4)
        | (go_at_call 34; have HA := eqTlb_ok N (TErow.of (HV5.out.its ⟨p8, a8, c8, L.length, L, N⟩ (by simp)).row) (TErow.of (HV5.out.its ⟨p6, a6, c6, L.length, L, N⟩ (by simp)).row) HLL.out; unfold tlA at HA; refine Calls.mono HA ?_; clear HA; rintro r9 u6 ⟨rfl, hb⟩; clear x0 x1 y0 y1 z0 z1; have HV6 : Hid (TS w u6 v nx zs e [⟨p7, a7, c7, zs.length, mkPL zs.length, nx⟩, ⟨p8, a8, c8, L.length, L, N⟩, ⟨p6, a6, c6, L.length, L, N⟩]) := HV5.out.step hb; obtain ⟨x0, x1⟩ := (HV6.out.its ⟨p8, a8, c8, L.length, L, N⟩ (by simp)).cel; obtain ⟨y0, y1⟩ := (HV6.out.its ⟨p7, a7, c7, zs.length, mkPL zs.length, nx⟩ (by simp)).cel; obtain ⟨z0, z1⟩ := (HV6.out.its ⟨p6, a6, c6, L.length, L, N⟩ (by simp)).cel; simp only at x0 x1 y0 y1 z0 z1; clear hb HV5)
        | (go_at_call 35; have HA := markTlb_ok N (HV6.out.its ⟨p8, a8, c8, L.length, L, N⟩ (by simp)).row HLL.out; unfold tlA at HA; refine Calls.mono HA ?_; clear HA; rintro r9 u7 ⟨rfl, ho, hg⟩; clear x0 x1 y0 y1 z0 z1; have HV7 : Hid (TS w u7 v nx zs e [⟨p8, a8, c8, L.length, mkPL L.length, N⟩, ⟨p7, a7, c7, zs.length, mkPL zs.length, nx⟩, ⟨p6, a6, c6, L.length, L, N⟩]) := (HV6.out.swap).mark (mkPL L.length) hg ho; obtain ⟨x0, x1⟩ := (HV7.out.its ⟨p8, a8, c8, L.length, mkPL L.length, N⟩ (by simp)).cel; obtain ⟨y0, y1⟩ := (HV7.out.its ⟨p7, a7, c7, zs.length, mkPL zs.length, nx⟩ (by simp)).cel; obtain ⟨z0, z1⟩ := (HV7.out.its ⟨p6, a6, c6, L.length, L, N⟩ (by simp)).cel; simp only at x0 x1 y0 y1 z0 z1; clear ho hg HV6)
        | (go_at_call 36; have HA := heldTlb_ok L.length N (te_mkP (HV7.out.its ⟨p8, a8, c8, L.length, mkPL L.length, N⟩ (by simp)).row) HLL.out; unfold tlA at HA; refine Calls.mono HA ?_; clear HA; rintro r9 u8 ⟨rfl, hb⟩; clear x0 x1 y0 y1 z0 z1; have HU : Hid (TS w u8 v nx zs e [⟨p8, a8, c8, L.length, mkPL L.length, N⟩, ⟨p7, a7, c7, zs.length, mkPL zs.length, nx⟩, ⟨p6, a6, c6, L.length, L, N⟩]) := HV7.out.step hb; clear hb HV7))
      go_cut [12] (fun s12 wf => ∃ (p : Nat) (a : Option Addr) (c : Nat), s12 = .pointer (some ⟨p, 0, none⟩) ∧ TS w wf v nx zs e [⟨p, a, c, L.length, L, N⟩, ⟨p8, a8, c8, L.length, mkPL L.length, N⟩, ⟨p7, a7, c7, zs.length, mkPL zs.length, nx⟩, ⟨p6, a6, c6, L.length, L, N⟩])
      case first =>
        have HAF : Hid (AnsP 33 zs nx e L N) := HAI.out
        clear HAI
        have hzT : ∀ u : World, Sem.run Try.prog (zeroValue 57) u = .ok (.agg #[.slice none 0 0, .int .i64 0]) u := fun u => by kernel_rfl
        have HT : Hid (TS w u8.drew v nx zs e [⟨p8, a8, c8, L.length, mkPL L.length, N⟩, ⟨p7, a7, c7, zs.length, mkPL zs.length, nx⟩, ⟨p6, a6, c6, L.length, L, N⟩]) := HU.out.step (Below.refl _ _).drew
        have HSB : Hid (∀ w' : World, TS w w' v nx zs e [⟨p8, a8, c8, L.length, mkPL L.length, N⟩, ⟨p7, a7, c7, zs.length, mkPL zs.length, nx⟩, ⟨p6, a6, c6, L.length, L, N⟩] → w'.cell? ⟨w.heap.size, 0, none⟩ = some v ∧ w'.cell? ⟨w.heap.size, 1, none⟩ = some (.int .i64 nx) ∧ w'.cell? ⟨w.heap.size + 1, 0, none⟩ = some (.int .i64 e.asid) ∧ w'.cell? ⟨w.heap.size + 1, 1, none⟩ = some (.int .i64 e.page) ∧ w'.cell? ⟨w.heap.size + 1, 2, none⟩ = some (.int .i64 e.frame) ∧ w'.cell? ⟨w.heap.size + 1, 3, none⟩ = some (.int .i64 e.flags) ∧ w'.cell? ⟨w.heap.size + 1, 4, none⟩ = some (.bool e.large)) := fun w' hW => by
          obtain ⟨c0, c1⟩ := cel2 hW.b0
          obtain ⟨d0, d1, d2, d3, d4⟩ := cel5 hW.b1
          exact ⟨c0, c1, d0, d1, d2, d3, d4⟩
        refine wp_region_held (S := fun w' => w'.cell? ⟨w.heap.size, 0, none⟩ = some v ∧ w'.cell? ⟨w.heap.size, 1, none⟩ = some (.int .i64 nx) ∧ w'.cell? ⟨w.heap.size + 1, 0, none⟩ = some (.int .i64 e.asid) ∧ w'.cell? ⟨w.heap.size + 1, 1, none⟩ = some (.int .i64 e.page) ∧ w'.cell? ⟨w.heap.size + 1, 2, none⟩ = some (.int .i64 e.frame) ∧ w'.cell? ⟨w.heap.size + 1, 3, none⟩ = some (.int .i64 e.flags) ∧ w'.cell? ⟨w.heap.size + 1, 4, none⟩ = some (.bool e.large)) (by kernel_rfl) ?_
        change wpAnyH _ _ _ _ _ _ _ _ (World.drew _)
        clear HU
        generalize World.drew u8 = s at *
        refine wpAnyH_take (i := 0) (v := .agg #[v, .int .i64 nx]) rfl (by kernel_rfl) (by kernel_rfl) (by kernel_rfl) (fun _ _ _ h => h) (Or.inl ⟨by rfl, fun w9 h9 => ?_⟩) (HSB.out _ HT.out) ?_
        · have h91 := h9.1
          have h92 := h9.2.1
          go_simp
        refine wpAnyH_take (i := 2) (v := .agg #[.int .i64 e.asid, .int .i64 e.page, .int .i64 e.frame, .int .i64 e.flags, .bool e.large]) rfl (by kernel_rfl) (by kernel_rfl) (by kernel_rfl) (fun _ _ _ h => h) (Or.inl ⟨by rfl, fun w9 h9 => ?_⟩) (HSB.out _ HT.out) ?_
        · obtain ⟨_, _, e0, e1, e2, e3, e4⟩ := h9
          go_simp
        have HTS : Hid (TS w s v nx zs e [⟨p8, a8, c8, L.length, mkPL L.length, N⟩, ⟨p7, a7, c7, zs.length, mkPL zs.length, nx⟩, ⟨p6, a6, c6, L.length, L, N⟩]) := HT.out
        have SB : Hid (Below s.heap.size s s) := Below.refl _ _
        refine wpAnyH_all (rs := [1, 5]) (by kernel_rfl) (by simp) (all_two (held_step rfl (by rfl) fun K hK => ?_) (held_step rfl (by rfl) fun K hK => ?_))
        · have HA := toTlb_any HT.out.rw nx HL.out
          have HAH : Hid _ := HA
          clear HA
          unfold tlA at HAH
          go_simp
          refine Calls.mono HAH.out ?_
          clear HAH
          rintro r W1 ⟨a1, c1, rfl, ho, hb⟩
          have HTN : Hid (TS w W1 v nx zs e [⟨p8, a8, c8, L.length, mkPL L.length, N⟩, ⟨p7, a7, c7, zs.length, mkPL zs.length, nx⟩, ⟨p6, a6, c6, L.length, L, N⟩]) := HT.out.step hb
          have SBN : Hid (Below s.heap.size s W1) := SB.out.trans (hb.mono SB.out.size)
          have R1 : Hid (W1.ownsRow s.heap.size 60 5 (.slice a1 zs.length c1) zs.length (teR zs)) := te_weak ho SB.out.size
          clear ho hb
          refine hK _ _ (HSB.out _ HTN.out) ?_
          clear hK K
          clear HT SB
          have HT : Hid (TS w W1 v nx zs e [⟨p8, a8, c8, L.length, mkPL L.length, N⟩, ⟨p7, a7, c7, zs.length, mkPL zs.length, nx⟩, ⟨p6, a6, c6, L.length, L, N⟩]) := HTN.out
          have SB : Hid (Below s.heap.size s W1) := SBN.out
          clear HTN SBN
          refine wpAnyH_all (rs := [3, 5]) (by kernel_rfl) (by simp) (all_two (held_step rfl (by rfl) fun K hK => ?_) (held_step rfl (by rfl) fun K hK => ?_))
          · have HA := toTE_any e W1
            have HAH : Hid _ := HA
            clear HA
            unfold teA at HAH
            go_simp
            refine Calls.mono HAH.out ?_
            clear HAH
            rintro r W2 ⟨rfl, hb⟩
            have R1 : Hid (W2.ownsRow s.heap.size 60 5 (.slice a1 zs.length c1) zs.length (teR zs)) := te_below R1.out hb
            have HTN : Hid (TS w W2 v nx zs e [⟨p8, a8, c8, L.length, mkPL L.length, N⟩, ⟨p7, a7, c7, zs.length, mkPL zs.length, nx⟩, ⟨p6, a6, c6, L.length, L, N⟩]) := HT.out.step hb
            have SBN : Hid (Below s.heap.size s W2) := SB.out.trans (hb.mono SB.out.size)
            clear hb
            refine hK _ _ (HSB.out _ HTN.out) ?_
            clear hK K
            clear HT SB
            have HT : Hid (TS w W2 v nx zs e [⟨p8, a8, c8, L.length, mkPL L.length, N⟩, ⟨p7, a7, c7, zs.length, mkPL zs.length, nx⟩, ⟨p6, a6, c6, L.length, L, N⟩]) := HTN.out
            have SB : Hid (Below s.heap.size s W2) := SBN.out
            clear HTN SBN
            refine wpAnyH_all (rs := [4, 5]) (by kernel_rfl) (by simp) (all_two (held_step rfl (by rfl) fun K hK => ?_) (held_step rfl (by rfl) fun K hK => ?_))
            · have HA := HAF.out W2 _ a1 c1 R1.out
              have HAH : Hid _ := HA
              clear HA
              unfold tlA teA at HAH
              go_simp
              refine Calls.mono HAH.out ?_
              clear HAH
              rintro r W3 ⟨a4, c4, rfl, ho, hb⟩
              have R1 : Hid (W3.ownsRow s.heap.size 60 5 (.slice a1 zs.length c1) zs.length (teR zs)) := te_below R1.out hb
              have HTN : Hid (TS w W3 v nx zs e [⟨p8, a8, c8, L.length, mkPL L.length, N⟩, ⟨p7, a7, c7, zs.length, mkPL zs.length, nx⟩, ⟨p6, a6, c6, L.length, L, N⟩]) := HT.out.step hb
              have SBN : Hid (Below s.heap.size s W3) := SB.out.trans (hb.mono SB.out.size)
              have R4 : Hid (W3.ownsRow s.heap.size 60 5 (.slice a4 L.length c4) L.length (teR L)) := te_weak ho SB.out.size
              clear ho hb
              refine hK _ _ (HSB.out _ HTN.out) ?_
              clear hK K
              clear HT SB
              have HT : Hid (TS w W3 v nx zs e [⟨p8, a8, c8, L.length, mkPL L.length, N⟩, ⟨p7, a7, c7, zs.length, mkPL zs.length, nx⟩, ⟨p6, a6, c6, L.length, L, N⟩]) := HTN.out
              have SB : Hid (Below s.heap.size s W3) := SBN.out
              clear HTN SBN
              refine wpAnyH_all (rs := [5]) (by kernel_rfl) (by simp) (all_one (held_step rfl (by rfl) fun K hK => ?_))
              have hb : Below W3.heap.size W3 (W3.alloc (.cells #[.slice none 0 0, .int .i64 0] 57)) := (Below.refl _ _).alloc (Nat.le_refl _) _
              have R1 : Hid ((W3.alloc (.cells #[.slice none 0 0, .int .i64 0] 57)).ownsRow s.heap.size 60 5 (.slice a1 zs.length c1) zs.length (teR zs)) := te_below R1.out hb
              have R4o := R4
              have R4 : Hid ((W3.alloc (.cells #[.slice none 0 0, .int .i64 0] 57)).ownsRow s.heap.size 60 5 (.slice a4 L.length c4) L.length (teR L)) := te_below R4.out hb
              have HTN : Hid (TS w (W3.alloc (.cells #[.slice none 0 0, .int .i64 0] 57)) v nx zs e [⟨p8, a8, c8, L.length, mkPL L.length, N⟩, ⟨p7, a7, c7, zs.length, mkPL zs.length, nx⟩, ⟨p6, a6, c6, L.length, L, N⟩]) := HT.out.step hb
              have SBN : Hid (Below s.heap.size s (W3.alloc (.cells #[.slice none 0 0, .int .i64 0] 57))) := SB.out.trans (hb.mono SB.out.size)
              have R5 : Hid ((W3.alloc (.cells #[.slice none 0 0, .int .i64 0] 57)).heap[W3.heap.size]? = some (.cells #[.slice none 0 0, .int .i64 0] 57 (0, 0))) := heap_new _ _
              have PL : Hid (s.heap.size ≤ W3.heap.size) := SB.out.size
              have D45 : Hid ((Value.slice a4 L.length c4).ownBlock ≠ some W3.heap.size) := fun q => by have := (R4o.out.lt _ q).2; omega
              clear hb
              go_simp
              refine hK _ _ (HSB.out _ HTN.out) ?_
              clear hK K
              generalize W3.alloc (.cells #[.slice none 0 0, .int .i64 0] 57) = W4 at *
              clear HT SB
              have HT : Hid (TS w W4 v nx zs e [⟨p8, a8, c8, L.length, mkPL L.length, N⟩, ⟨p7, a7, c7, zs.length, mkPL zs.length, nx⟩, ⟨p6, a6, c6, L.length, L, N⟩]) := HTN.out
              have SB : Hid (Below s.heap.size s W4) := SBN.out
              clear HTN SBN
              have HTP : Hid (TS w ((W4.setCell ⟨W3.heap.size, 0, none⟩ (.slice a4 L.length c4)).setCell ⟨W3.heap.size, 1, none⟩ (.int .i64 N)) v nx zs e [⟨p8, a8, c8, L.length, mkPL L.length, N⟩, ⟨p7, a7, c7, zs.length, mkPL zs.length, nx⟩, ⟨p6, a6, c6, L.length, L, N⟩]) := TS.put HT.out HTS.out (W3.heap.size) _ _ PL.out
              have HFN : Hid (TS w ((W4.setCell ⟨W3.heap.size, 0, none⟩ (.slice a4 L.length c4)).setCell ⟨W3.heap.size, 1, none⟩ (.int .i64 N)) v nx zs e (⟨W3.heap.size, a4, c4, L.length, L, N⟩ :: [⟨p8, a8, c8, L.length, mkPL L.length, N⟩, ⟨p7, a7, c7, zs.length, mkPL zs.length, nx⟩, ⟨p6, a6, c6, L.length, L, N⟩])) := TS.add HTP.out HTS.out ⟨W3.heap.size, a4, c4, L.length, L, N⟩ PL.out (own_set (own_set R4.out D45.out) D45.out) (putBoxT R5.out _ _) D45.out
              obtain ⟨k0, k1⟩ := cel2 R5.out
              have kf : ∀ x, W4.frozen? ⟨W3.heap.size, x, none⟩ = false := (fun x => by simp [World.frozen?, R5.out])
              refine wpAnyH_all (rs := [6]) (by kernel_rfl) (by simp) (all_one (held_step rfl (by rfl) fun K hK => ?_))
              go_simp
              refine hK _ _ (HSB.out _ HTP.out) ?_
              clear hK K
              refine wpAnyH_done (by kernel_rfl) ?_ _
              go_simp
              go_wp2
              go_meet
              case rel => exact ⟨W3.heap.size, a4, c4, rfl, HFN.out⟩
            · have hb : Below W2.heap.size W2 (W2.alloc (.cells #[.slice none 0 0, .int .i64 0] 57)) := (Below.refl _ _).alloc (Nat.le_refl _) _
              have R1 : Hid ((W2.alloc (.cells #[.slice none 0 0, .int .i64 0] 57)).ownsRow s.heap.size 60 5 (.slice a1 zs.length c1) zs.length (teR zs)) := te_below R1.out hb
              have HTN : Hid (TS w (W2.alloc (.cells #[.slice none 0 0, .int .i64 0] 57)) v nx zs e [⟨p8, a8, c8, L.length, mkPL L.length, N⟩, ⟨p7, a7, c7, zs.length, mkPL zs.length, nx⟩, ⟨p6, a6, c6, L.length, L, N⟩]) := HT.out.step hb
              have SBN : Hid (Below s.heap.size s (W2.alloc (.cells #[.slice none 0 0, .int .i64 0] 57))) := SB.out.trans (hb.mono SB.out.size)
              have R5 : Hid ((W2.alloc (.cells #[.slice none 0 0, .int .i64 0] 57)).heap[W2.heap.size]? = some (.cells #[.slice none 0 0, .int .i64 0] 57 (0, 0))) := heap_new _ _
              have PL : Hid (s.heap.size ≤ W2.heap.size) := SB.out.size
              clear hb
              go_simp
              refine hK _ _ (HSB.out _ HTN.out) ?_
              clear hK K
              generalize W2.alloc (.cells #[.slice none 0 0, .int .i64 0] 57) = W3 at *
              clear HT SB
              have HT : Hid (TS w W3 v nx zs e [⟨p8, a8, c8, L.length, mkPL L.length, N⟩, ⟨p7, a7, c7, zs.length, mkPL zs.length, nx⟩, ⟨p6, a6, c6, L.length, L, N⟩]) := HTN.out
              have SB : Hid (Below s.heap.size s W3) := SBN.out
              clear HTN SBN
              refine wpAnyH_all (rs := [4]) (by kernel_rfl) (by simp) (all_one (held_step rfl (by rfl) fun K hK => ?_))
              have HA := HAF.out W3 _ a1 c1 R1.out
              have HAH : Hid _ := HA
              clear HA
              unfold tlA teA at HAH
              go_simp
              refine Calls.mono HAH.out ?_
              clear HAH
              rintro r W4 ⟨a4, c4, rfl, ho, hb⟩
              have R1 : Hid (W4.ownsRow s.heap.size 60 5 (.slice a1 zs.length c1) zs.length (teR zs)) := te_below R1.out hb
              have R5o := R5
              have R5 : Hid (W4.heap[W2.heap.size]? = some (.cells #[.slice none 0 0, .int .i64 0] 57 (0, 0))) := (hb.block (W2.heap.size) (Array.getElem?_eq_some_iff.1 R5.out).1).trans R5.out
              have HTN : Hid (TS w W4 v nx zs e [⟨p8, a8, c8, L.length, mkPL L.length, N⟩, ⟨p7, a7, c7, zs.length, mkPL zs.length, nx⟩, ⟨p6, a6, c6, L.length, L, N⟩]) := HT.out.step hb
              have SBN : Hid (Below s.heap.size s W4) := SB.out.trans (hb.mono SB.out.size)
              have R4 : Hid (W4.ownsRow s.heap.size 60 5 (.slice a4 L.length c4) L.length (teR L)) := te_weak ho SB.out.size
              have D45 : Hid ((Value.slice a4 L.length c4).ownBlock ≠ some (W2.heap.size)) := fun q => by have h1 := (ho.lt _ q).1; have h2 := (Array.getElem?_eq_some_iff.1 R5o.out).1; omega
              clear ho hb
              refine hK _ _ (HSB.out _ HTN.out) ?_
              clear hK K
              clear HT SB
              have HT : Hid (TS w W4 v nx zs e [⟨p8, a8, c8, L.length, mkPL L.length, N⟩, ⟨p7, a7, c7, zs.length, mkPL zs.length, nx⟩, ⟨p6, a6, c6, L.length, L, N⟩]) := HTN.out
              have SB : Hid (Below s.heap.size s W4) := SBN.out
              clear HTN SBN
              have HTP : Hid (TS w ((W4.setCell ⟨W2.heap.size, 0, none⟩ (.slice a4 L.length c4)).setCell ⟨W2.heap.size, 1, none⟩ (.int .i64 N)) v nx zs e [⟨p8, a8, c8, L.length, mkPL L.length, N⟩, ⟨p7, a7, c7, zs.length, mkPL zs.length, nx⟩, ⟨p6, a6, c6, L.length, L, N⟩]) := TS.put HT.out HTS.out (W2.heap.size) _ _ PL.out
              have HFN : Hid (TS w ((W4.setCell ⟨W2.heap.size, 0, none⟩ (.slice a4 L.length c4)).setCell ⟨W2.heap.size, 1, none⟩ (.int .i64 N)) v nx zs e (⟨W2.heap.size, a4, c4, L.length, L, N⟩ :: [⟨p8, a8, c8, L.length, mkPL L.length, N⟩, ⟨p7, a7, c7, zs.length, mkPL zs.length, nx⟩, ⟨p6, a6, c6, L.length, L, N⟩])) := TS.add HTP.out HTS.out ⟨W2.heap.size, a4, c4, L.length, L, N⟩ PL.out (own_set (own_set R4.out D45.out) D45.out) (putBoxT R5.out _ _) D45.out
              obtain ⟨k0, k1⟩ := cel2 R5.out
              have kf : ∀ x, W4.frozen? ⟨W2.heap.size, x, none⟩ = false := (fun x => by simp [World.frozen?, R5.out])
              refine wpAnyH_all (rs := [6]) (by kernel_rfl) (by simp) (all_one (held_step rfl (by rfl) fun K hK => ?_))
              go_simp
              refine hK _ _ (HSB.out _ HTP.out) ?_
              clear hK K
              refine wpAnyH_done (by kernel_rfl) ?_ _
              go_simp
              go_wp2
              go_meet
              case rel => exact ⟨W2.heap.size, a4, c4, rfl, HFN.out⟩
          · have hb : Below W1.heap.size W1 (W1.alloc (.cells #[.slice none 0 0, .int .i64 0] 57)) := (Below.refl _ _).alloc (Nat.le_refl _) _
            have R1 : Hid ((W1.alloc (.cells #[.slice none 0 0, .int .i64 0] 57)).ownsRow s.heap.size 60 5 (.slice a1 zs.length c1) zs.length (teR zs)) := te_below R1.out hb
            have HTN : Hid (TS w (W1.alloc (.cells #[.slice none 0 0, .int .i64 0] 57)) v nx zs e [⟨p8, a8, c8, L.length, mkPL L.length, N⟩, ⟨p7, a7, c7, zs.length, mkPL zs.length, nx⟩, ⟨p6, a6, c6, L.length, L, N⟩]) := HT.out.step hb
            have SBN : Hid (Below s.heap.size s (W1.alloc (.cells #[.slice none 0 0, .int .i64 0] 57))) := SB.out.trans (hb.mono SB.out.size)
            have R5 : Hid ((W1.alloc (.cells #[.slice none 0 0, .int .i64 0] 57)).heap[W1.heap.size]? = some (.cells #[.slice none 0 0, .int .i64 0] 57 (0, 0))) := heap_new _ _
            have PL : Hid (s.heap.size ≤ W1.heap.size) := SB.out.size
            clear hb
            go_simp
            refine hK _ _ (HSB.out _ HTN.out) ?_
            clear hK K
            generalize W1.alloc (.cells #[.slice none 0 0, .int .i64 0] 57) = W2 at *
            clear HT SB
            have HT : Hid (TS w W2 v nx zs e [⟨p8, a8, c8, L.length, mkPL L.length, N⟩, ⟨p7, a7, c7, zs.length, mkPL zs.length, nx⟩, ⟨p6, a6, c6, L.length, L, N⟩]) := HTN.out
            have SB : Hid (Below s.heap.size s W2) := SBN.out
            clear HTN SBN
            refine wpAnyH_all (rs := [3]) (by kernel_rfl) (by simp) (all_one (held_step rfl (by rfl) fun K hK => ?_))
            have HA := toTE_any e W2
            have HAH : Hid _ := HA
            clear HA
            unfold teA at HAH
            go_simp
            refine Calls.mono HAH.out ?_
            clear HAH
            rintro r W3 ⟨rfl, hb⟩
            have R1 : Hid (W3.ownsRow s.heap.size 60 5 (.slice a1 zs.length c1) zs.length (teR zs)) := te_below R1.out hb
            have R5o := R5
            have R5 : Hid (W3.heap[W1.heap.size]? = some (.cells #[.slice none 0 0, .int .i64 0] 57 (0, 0))) := (hb.block (W1.heap.size) (Array.getElem?_eq_some_iff.1 R5.out).1).trans R5.out
            have HTN : Hid (TS w W3 v nx zs e [⟨p8, a8, c8, L.length, mkPL L.length, N⟩, ⟨p7, a7, c7, zs.length, mkPL zs.length, nx⟩, ⟨p6, a6, c6, L.length, L, N⟩]) := HT.out.step hb
            have SBN : Hid (Below s.heap.size s W3) := SB.out.trans (hb.mono SB.out.size)
            clear hb
            refine hK _ _ (HSB.out _ HTN.out) ?_
            clear hK K
            clear HT SB
            have HT : Hid (TS w W3 v nx zs e [⟨p8, a8, c8, L.length, mkPL L.length, N⟩, ⟨p7, a7, c7, zs.length, mkPL zs.length, nx⟩, ⟨p6, a6, c6, L.length, L, N⟩]) := HTN.out
            have SB : Hid (Below s.heap.size s W3) := SBN.out
            clear HTN SBN
            refine wpAnyH_all (rs := [4]) (by kernel_rfl) (by simp) (all_one (held_step rfl (by rfl) fun K hK => ?_))
            have HA := HAF.out W3 _ a1 c1 R1.out
            have HAH : Hid _ := HA
            clear HA
            unfold tlA teA at HAH
            go_simp
            refine Calls.mono HAH.out ?_
            clear HAH
            rintro r W4 ⟨a4, c4, rfl, ho, hb⟩
            have R1 : Hid (W4.ownsRow s.heap.size 60 5 (.slice a1 zs.length c1) zs.length (teR zs)) := te_below R1.out hb
            have R5o := R5
            have R5 : Hid (W4.heap[W1.heap.size]? = some (.cells #[.slice none 0 0, .int .i64 0] 57 (0, 0))) := (hb.block (W1.heap.size) (Array.getElem?_eq_some_iff.1 R5.out).1).trans R5.out
            have HTN : Hid (TS w W4 v nx zs e [⟨p8, a8, c8, L.length, mkPL L.length, N⟩, ⟨p7, a7, c7, zs.length, mkPL zs.length, nx⟩, ⟨p6, a6, c6, L.length, L, N⟩]) := HT.out.step hb
            have SBN : Hid (Below s.heap.size s W4) := SB.out.trans (hb.mono SB.out.size)
            have R4 : Hid (W4.ownsRow s.heap.size 60 5 (.slice a4 L.length c4) L.length (teR L)) := te_weak ho SB.out.size
            have D45 : Hid ((Value.slice a4 L.length c4).ownBlock ≠ some (W1.heap.size)) := fun q => by have h1 := (ho.lt _ q).1; have h2 := (Array.getElem?_eq_some_iff.1 R5o.out).1; omega
            clear ho hb
            refine hK _ _ (HSB.out _ HTN.out) ?_
            clear hK K
            clear HT SB
            have HT : Hid (TS w W4 v nx zs e [⟨p8, a8, c8, L.length, mkPL L.length, N⟩, ⟨p7, a7, c7, zs.length, mkPL zs.length, nx⟩, ⟨p6, a6, c6, L.length, L, N⟩]) := HTN.out
            have SB : Hid (Below s.heap.size s W4) := SBN.out
            clear HTN SBN
            have HTP : Hid (TS w ((W4.setCell ⟨W1.heap.size, 0, none⟩ (.slice a4 L.length c4)).setCell ⟨W1.heap.size, 1, none⟩ (.int .i64 N)) v nx zs e [⟨p8, a8, c8, L.length, mkPL L.length, N⟩, ⟨p7, a7, c7, zs.length, mkPL zs.length, nx⟩, ⟨p6, a6, c6, L.length, L, N⟩]) := TS.put HT.out HTS.out (W1.heap.size) _ _ PL.out
            have HFN : Hid (TS w ((W4.setCell ⟨W1.heap.size, 0, none⟩ (.slice a4 L.length c4)).setCell ⟨W1.heap.size, 1, none⟩ (.int .i64 N)) v nx zs e (⟨W1.heap.size, a4, c4, L.length, L, N⟩ :: [⟨p8, a8, c8, L.length, mkPL L.length, N⟩, ⟨p7, a7, c7, zs.length, mkPL zs.length, nx⟩, ⟨p6, a6, c6, L.length, L, N⟩])) := TS.add HTP.out HTS.out ⟨W1.heap.size, a4, c4, L.length, L, N⟩ PL.out (own_set (own_set R4.out D45.out) D45.out) (putBoxT R5.out _ _) D45.out
            obtain ⟨k0, k1⟩ := cel2 R5.out
            have kf : ∀ x, W4.frozen? ⟨W1.heap.size, x, none⟩ = false := (fun x => by simp [World.frozen?, R5.out])
            refine wpAnyH_all (rs := [6]) (by kernel_rfl) (by simp) (all_one (held_step rfl (by rfl) fun K hK => ?_))
            go_simp
            refine hK _ _ (HSB.out _ HTP.out) ?_
            clear hK K
            refine wpAnyH_done (by kernel_rfl) ?_ _
            go_simp
            go_wp2
            go_meet
            case rel => exact ⟨W1.heap.size, a4, c4, rfl, HFN.out⟩
        · have hb : Below s.heap.size s (s.alloc (.cells #[.slice none 0 0, .int .i64 0] 57)) := (Below.refl _ _).alloc (Nat.le_refl _) _
          have HTN : Hid (TS w (s.alloc (.cells #[.slice none 0 0, .int .i64 0] 57)) v nx zs e [⟨p8, a8, c8, L.length, mkPL L.length, N⟩, ⟨p7, a7, c7, zs.length, mkPL zs.length, nx⟩, ⟨p6, a6, c6, L.length, L, N⟩]) := HT.out.step hb
          have SBN : Hid (Below s.heap.size s (s.alloc (.cells #[.slice none 0 0, .int .i64 0] 57))) := SB.out.trans (hb.mono SB.out.size)
          have R5 : Hid ((s.alloc (.cells #[.slice none 0 0, .int .i64 0] 57)).heap[s.heap.size]? = some (.cells #[.slice none 0 0, .int .i64 0] 57 (0, 0))) := heap_new _ _
          have PL : Hid (s.heap.size ≤ s.heap.size) := SB.out.size
          clear hb
          go_simp
          refine hK _ _ (HSB.out _ HTN.out) ?_
          clear hK K
          generalize s.alloc (.cells #[.slice none 0 0, .int .i64 0] 57) = W1 at *
          clear HT SB
          have HT : Hid (TS w W1 v nx zs e [⟨p8, a8, c8, L.length, mkPL L.length, N⟩, ⟨p7, a7, c7, zs.length, mkPL zs.length, nx⟩, ⟨p6, a6, c6, L.length, L, N⟩]) := HTN.out
          have SB : Hid (Below s.heap.size s W1) := SBN.out
          clear HTN SBN
          refine wpAnyH_all (rs := [1]) (by kernel_rfl) (by simp) (all_one (held_step rfl (by rfl) fun K hK => ?_))
          have HA := toTlb_any HT.out.rw nx HL.out
          have HAH : Hid _ := HA
          clear HA
          unfold tlA at HAH
          go_simp
          refine Calls.mono HAH.out ?_
          clear HAH
          rintro r W2 ⟨a1, c1, rfl, ho, hb⟩
          have R5o := R5
          have R5 : Hid (W2.heap[s.heap.size]? = some (.cells #[.slice none 0 0, .int .i64 0] 57 (0, 0))) := (hb.block (s.heap.size) (Array.getElem?_eq_some_iff.1 R5.out).1).trans R5.out
          have HTN : Hid (TS w W2 v nx zs e [⟨p8, a8, c8, L.length, mkPL L.length, N⟩, ⟨p7, a7, c7, zs.length, mkPL zs.length, nx⟩, ⟨p6, a6, c6, L.length, L, N⟩]) := HT.out.step hb
          have SBN : Hid (Below s.heap.size s W2) := SB.out.trans (hb.mono SB.out.size)
          have R1 : Hid (W2.ownsRow s.heap.size 60 5 (.slice a1 zs.length c1) zs.length (teR zs)) := te_weak ho SB.out.size
          clear ho hb
          refine hK _ _ (HSB.out _ HTN.out) ?_
          clear hK K
          clear HT SB
          have HT : Hid (TS w W2 v nx zs e [⟨p8, a8, c8, L.length, mkPL L.length, N⟩, ⟨p7, a7, c7, zs.length, mkPL zs.length, nx⟩, ⟨p6, a6, c6, L.length, L, N⟩]) := HTN.out
          have SB : Hid (Below s.heap.size s W2) := SBN.out
          clear HTN SBN
          refine wpAnyH_all (rs := [3]) (by kernel_rfl) (by simp) (all_one (held_step rfl (by rfl) fun K hK => ?_))
          have HA := toTE_any e W2
          have HAH : Hid _ := HA
          clear HA
          unfold teA at HAH
          go_simp
          refine Calls.mono HAH.out ?_
          clear HAH
          rintro r W3 ⟨rfl, hb⟩
          have R1 : Hid (W3.ownsRow s.heap.size 60 5 (.slice a1 zs.length c1) zs.length (teR zs)) := te_below R1.out hb
          have R5o := R5
          have R5 : Hid (W3.heap[s.heap.size]? = some (.cells #[.slice none 0 0, .int .i64 0] 57 (0, 0))) := (hb.block (s.heap.size) (Array.getElem?_eq_some_iff.1 R5.out).1).trans R5.out
          have HTN : Hid (TS w W3 v nx zs e [⟨p8, a8, c8, L.length, mkPL L.length, N⟩, ⟨p7, a7, c7, zs.length, mkPL zs.length, nx⟩, ⟨p6, a6, c6, L.length, L, N⟩]) := HT.out.step hb
          have SBN : Hid (Below s.heap.size s W3) := SB.out.trans (hb.mono SB.out.size)
          clear hb
          refine hK _ _ (HSB.out _ HTN.out) ?_
          clear hK K
          clear HT SB
          have HT : Hid (TS w W3 v nx zs e [⟨p8, a8, c8, L.length, mkPL L.length, N⟩, ⟨p7, a7, c7, zs.length, mkPL zs.length, nx⟩, ⟨p6, a6, c6, L.length, L, N⟩]) := HTN.out
          have SB : Hid (Below s.heap.size s W3) := SBN.out
          clear HTN SBN
          refine wpAnyH_all (rs := [4]) (by kernel_rfl) (by simp) (all_one (held_step rfl (by rfl) fun K hK => ?_))
          have HA := HAF.out W3 _ a1 c1 R1.out
          have HAH : Hid _ := HA
          clear HA
          unfold tlA teA at HAH
          go_simp
          refine Calls.mono HAH.out ?_
          clear HAH
          rintro r W4 ⟨a4, c4, rfl, ho, hb⟩
          have R1 : Hid (W4.ownsRow s.heap.size 60 5 (.slice a1 zs.length c1) zs.length (teR zs)) := te_below R1.out hb
          have R5o := R5
          have R5 : Hid (W4.heap[s.heap.size]? = some (.cells #[.slice none 0 0, .int .i64 0] 57 (0, 0))) := (hb.block (s.heap.size) (Array.getElem?_eq_some_iff.1 R5.out).1).trans R5.out
          have HTN : Hid (TS w W4 v nx zs e [⟨p8, a8, c8, L.length, mkPL L.length, N⟩, ⟨p7, a7, c7, zs.length, mkPL zs.length, nx⟩, ⟨p6, a6, c6, L.length, L, N⟩]) := HT.out.step hb
          have SBN : Hid (Below s.heap.size s W4) := SB.out.trans (hb.mono SB.out.size)
          have R4 : Hid (W4.ownsRow s.heap.size 60 5 (.slice a4 L.length c4) L.length (teR L)) := te_weak ho SB.out.size
          have D45 : Hid ((Value.slice a4 L.length c4).ownBlock ≠ some (s.heap.size)) := fun q => by have h1 := (ho.lt _ q).1; have h2 := (Array.getElem?_eq_some_iff.1 R5o.out).1; omega
          clear ho hb
          refine hK _ _ (HSB.out _ HTN.out) ?_
          clear hK K
          clear HT SB
          have HT : Hid (TS w W4 v nx zs e [⟨p8, a8, c8, L.length, mkPL L.length, N⟩, ⟨p7, a7, c7, zs.length, mkPL zs.length, nx⟩, ⟨p6, a6, c6, L.length, L, N⟩]) := HTN.out
          have SB : Hid (Below s.heap.size s W4) := SBN.out
          clear HTN SBN
          have HTP : Hid (TS w ((W4.setCell ⟨s.heap.size, 0, none⟩ (.slice a4 L.length c4)).setCell ⟨s.heap.size, 1, none⟩ (.int .i64 N)) v nx zs e [⟨p8, a8, c8, L.length, mkPL L.length, N⟩, ⟨p7, a7, c7, zs.length, mkPL zs.length, nx⟩, ⟨p6, a6, c6, L.length, L, N⟩]) := TS.put HT.out HTS.out (s.heap.size) _ _ PL.out
          have HFN : Hid (TS w ((W4.setCell ⟨s.heap.size, 0, none⟩ (.slice a4 L.length c4)).setCell ⟨s.heap.size, 1, none⟩ (.int .i64 N)) v nx zs e (⟨s.heap.size, a4, c4, L.length, L, N⟩ :: [⟨p8, a8, c8, L.length, mkPL L.length, N⟩, ⟨p7, a7, c7, zs.length, mkPL zs.length, nx⟩, ⟨p6, a6, c6, L.length, L, N⟩])) := TS.add HTP.out HTS.out ⟨s.heap.size, a4, c4, L.length, L, N⟩ PL.out (own_set (own_set R4.out D45.out) D45.out) (putBoxT R5.out _ _) D45.out
          obtain ⟨k0, k1⟩ := cel2 R5.out
          have kf : ∀ x, W4.frozen? ⟨s.heap.size, x, none⟩ = false := (fun x => by simp [World.frozen?, R5.out])
          refine wpAnyH_all (rs := [6]) (by kernel_rfl) (by simp) (all_one (held_step rfl (by rfl) fun K hK => ?_))
          go_simp
          refine hK _ _ (HSB.out _ HTP.out) ?_
          clear hK K
          refine wpAnyH_done (by kernel_rfl) ?_ _
          go_simp
          go_wp2
          go_meet
          case rel => exact ⟨s.heap.size, a4, c4, rfl, HFN.out⟩
      case rest =>
        obtain ⟨p, a, c, rfl, hT⟩ := hcut
        have HV0 : Hid (TS w wc v nx zs e [⟨p, a, c, L.length, L, N⟩, ⟨p8, a8, c8, L.length, mkPL L.length, N⟩, ⟨p7, a7, c7, zs.length, mkPL zs.length, nx⟩, ⟨p6, a6, c6, L.length, L, N⟩]) := hT
        clear hT HU
        obtain ⟨x0, x1⟩ := (HV0.out.its ⟨p, a, c, L.length, L, N⟩ (by simp)).cel
        obtain ⟨y0, y1⟩ := (HV0.out.its ⟨p8, a8, c8, L.length, mkPL L.length, N⟩ (by simp)).cel
        obtain ⟨z0, z1⟩ := (HV0.out.its ⟨p6, a6, c6, L.length, L, N⟩ (by simp)).cel
        simp only at x0 x1 y0 y1 z0 z1
        go_wp2_with (first
          | (go_at_call 34; have HA := eqTlb_ok N (TErow.of (HV0.out.its ⟨p, a, c, L.length, L, N⟩ (by simp)).row) (TErow.of (HV0.out.its ⟨p6, a6, c6, L.length, L, N⟩ (by simp)).row) HLL.out; unfold tlA at HA; refine Calls.mono HA ?_; clear HA; rintro r9 u6 ⟨rfl, hb⟩; clear x0 x1 y0 y1 z0 z1; have HV1 : Hid (TS w u6 v nx zs e [⟨p, a, c, L.length, L, N⟩, ⟨p8, a8, c8, L.length, mkPL L.length, N⟩, ⟨p7, a7, c7, zs.length, mkPL zs.length, nx⟩, ⟨p6, a6, c6, L.length, L, N⟩]) := HV0.out.step hb; obtain ⟨x0, x1⟩ := (HV1.out.its ⟨p, a, c, L.length, L, N⟩ (by simp)).cel; obtain ⟨y0, y1⟩ := (HV1.out.its ⟨p8, a8, c8, L.length, mkPL L.length, N⟩ (by simp)).cel; obtain ⟨z0, z1⟩ := (HV1.out.its ⟨p6, a6, c6, L.length, L, N⟩ (by simp)).cel; simp only at x0 x1 y0 y1 z0 z1; clear hb HV0)
          | (go_at_call 36; have HA := heldTlb_ok L.length N (te_mkP (HV1.out.its ⟨p8, a8, c8, L.length, mkPL L.length, N⟩ (by simp)).row) HLL.out; unfold tlA at HA; refine Calls.mono HA ?_; clear HA; rintro r9 u7 ⟨rfl, hb⟩; clear x0 x1 y0 y1 z0 z1; have HV2 : Hid (TS w u7 v nx zs e [⟨p, a, c, L.length, L, N⟩, ⟨p8, a8, c8, L.length, mkPL L.length, N⟩, ⟨p7, a7, c7, zs.length, mkPL zs.length, nx⟩, ⟨p6, a6, c6, L.length, L, N⟩]) := HV1.out.step hb; clear hb HV1))
        go_ret
        exact ⟨rfl, HV2.out.bel⟩
end Go.Proofs.Ytjaelkagacmpkaa
