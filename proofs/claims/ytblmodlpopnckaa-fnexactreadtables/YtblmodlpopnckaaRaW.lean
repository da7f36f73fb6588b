import Derived.Test.YtblmodlpopnckaaRa8
import Derived.Test.YtblmodlpopnckaaMkFT
namespace Go.Proofs.Ytblmodlpopnckaa
open Go.ChangeShapes Go.WideShapes Go.ChangeAt Go.RowKit

/-- The code of the first k tables. -/
def rdK (m : ByteArray) (ps : List Int) : Nat → Int
  | 0 => 0
  | k + 1 => if rdK m ps k ≠ 0 then rdK m ps k else rtC m (ps.getD k 0).toNat
def rdT (m : ByteArray) (ps : List Int) (k : Nat) : List FT := (List.range k).map fun i => rtF m (ps.getD i 0).toNat
theorem rdT_len (m : ByteArray) (ps : List Int) (k : Nat) : (rdT m ps k).length = k := by simp [rdT]
theorem rdT_succ (m : ByteArray) (ps : List Int) (k : Nat) : rdT m ps (k + 1) = rdT m ps k ++ [rtF m (ps.getD k 0).toNat] := by simp [rdT, List.range_succ]
theorem rdK_stop {m : ByteArray} {ps : List Int} {k : Nat} (h : rdK m ps k = 0) (h2 : rtC m (ps.getD k 0).toNat ≠ 0) : ∀ j, rdK m ps (k + 1 + j) = rtC m (ps.getD k 0).toNat
  | 0 => by
    show (if rdK m ps k ≠ 0 then rdK m ps k else _) = _
    rw [if_neg (by omega)]
  | j + 1 => by
    have h9 := rdK_stop h h2 j
    show (if rdK m ps (k + 1 + j) ≠ 0 then rdK m ps (k + 1 + j) else _) = _
    rw [if_pos (by rw [h9]; exact h2), h9]
theorem rdK_go {m : ByteArray} {ps : List Int} {k : Nat} (h : rdK m ps k = 0) (h2 : rtC m (ps.getD k 0).toNat = 0) : rdK m ps (k + 1) = 0 := by
  show (if rdK m ps k ≠ 0 then rdK m ps k else _) = _
  rw [if_neg (by omega), h2]
/-- The code that ReadTables answers. -/
def rdC (m : ByteArray) (a : Int) : Int := if 65536 < m.size then 2 else if memC m ≠ 0 then 1 else if tbB m.size a 4 = false then 1 else if plC m a.toNat ≠ 0 then plC m a.toNat else rdK m (plL m a.toNat) (plL m a.toNat).length
/-- The tables that it answers. -/
def rdZ (m : ByteArray) (a : Int) : List FT := if rdC m a = 0 then rdT m (plL m a.toNat) (plL m a.toNat).length else []
theorem rd_of {m : ByteArray} {a c : Int} (h : rdC m a = c) (h2 : c ≠ 0) : rdC m a = c ∧ rdZ m a = [] := ⟨h, if_neg (by rw [h]; exact h2)⟩
theorem rd_big {m : ByteArray} (a : Int) (h : 65536 < m.size) : rdC m a = 2 ∧ rdZ m a = [] := rd_of (if_pos h) (by decide)
theorem rd_mem {m : ByteArray} (a : Int) (h : ¬ 65536 < m.size) (h2 : memC m ≠ 0) : rdC m a = 1 ∧ rdZ m a = [] := rd_of (by unfold rdC; rw [if_neg h, if_pos h2]) (by decide)
theorem rd_tb {m : ByteArray} {a : Int} (h : ¬ 65536 < m.size) (h2 : memC m = 0) (h3 : tbB m.size a 4 = false) : rdC m a = 1 ∧ rdZ m a = [] := rd_of (by unfold rdC; rw [if_neg h, if_neg (by omega), if_pos h3]) (by decide)
theorem rd_pl {m : ByteArray} {a : Int} (h : ¬ 65536 < m.size) (h2 : memC m = 0) (h3 : tbB m.size a 4 = true) (h4 : plC m a.toNat ≠ 0) : rdC m a = plC m a.toNat ∧ rdZ m a = [] := rd_of (by unfold rdC; rw [if_neg h, if_neg (by omega), if_neg (by rw [h3]; decide), if_pos h4]) h4
theorem rd_k {m : ByteArray} {a : Int} (h : ¬ 65536 < m.size) (h2 : memC m = 0) (h3 : tbB m.size a 4 = true) (h4 : plC m a.toNat = 0) : rdC m a = rdK m (plL m a.toNat) (plL m a.toNat).length := by
  unfold rdC
  rw [if_neg h, if_neg (by omega), if_neg (by rw [h3]; decide), if_neg (by omega)]
theorem plL_len (m : ByteArray) (a : Nat) : (plL m a).length ≤ 10 := by
  unfold plL
  split
  · rename_i h
    have hA : plA m a = true := by
      cases hq : plA m a
      · rw [(plA_no hq).1] at h
        exact absurd h (by decide)
      · rfl
    unfold plA at hA
    simp only [Bool.and_eq_true, decide_eq_true_eq] at hA
    have h9 := hA.2.2
    have hb := gwV_b m (a + 4)
    have hn : plN m a ≤ 10 := by unfold plN; omega
    simp
    omega
  · simp
theorem plL_b (m : ByteArray) (a : Nat) (k : Nat) (hk : k < (plL m a).length) : 0 ≤ (plL m a)[k] ∧ (plL m a)[k] < 4294967296 := by
  have h9 : (plL m a)[k] ∈ plL m a := List.getElem_mem hk
  generalize (plL m a)[k] = x at *
  unfold plL at h9
  split at h9
  · have h8 := List.mem_of_mem_drop (List.mem_of_mem_take h9)
    unfold plW at h8
    obtain ⟨j, _, rfl⟩ := List.mem_map.1 h8
    exact gwV_b m _
  · simp at h9
theorem infoFT : (Try.prog.info? 40).map (fun i => (i.zero, i.size, i.bytes)) = some (some (.agg #[.string ⟨#[]⟩, .int .i64 0, .string ⟨#[]⟩]), 3, 40) := by kernel_rfl
/-- One table more. -/
theorem appFT {w : World} {B n : Nat} {v : Value} {zs : List FT} (h : w.ownsRow B 40 3 v n (ftR zs)) (hB : B ≤ w.heap.size) (hn : n ≤ 100000) (m : FT) :
    ∃ v' u', (Builtin.append_ #[22, 22] 22 #[v, .slice (some ⟨w.heap.size, 0, none⟩) 1 1]).run Try.prog (w.alloc (.cells #[.string m.name, .int .i64 m.rev, .string m.body] 40)) = .ok v' u' ∧ (u'.ownsRow B 40 3 v' (n + 1) (ftR (zs ++ [m])) ∧ (w.alloc (.cells #[.string m.name, .int .i64 m.rev, .string m.body] 40)).grownBy u' v.ownBlock) := by
  obtain ⟨i0, hi0, hz0, hz1, hz2⟩ := info_parts infoFT
  obtain ⟨v', w', hr, h2, h3, _, _⟩ := run_append_own_at (P := Try.prog) (w.alloc (.cells #[.string m.name, .int .i64 m.rev, .string m.body] 40)) B 22 22 40 i0 (.agg #[.string ⟨#[]⟩, .int .i64 0, .string ⟨#[]⟩]) 3 40 Try.underlying22 hi0 hz0 hz1 hz2 rfl (by decide) v n (ftR zs) (World.ownsRow.alloc h _) ⟨w.heap.size, 0, none⟩ 1 1 (ftC m) rfl (new_cells w (ftC m) 40) (by intro u hu; simp only [ftC, List.mem_cons, List.not_mem_nil, or_false] at hu; rcases hu with rfl | rfl | rfl <;> rfl) (by unfold maxLen; omega) (by omega) (by simp; omega)
  refine ⟨v', w', hr, ?_, h3⟩
  rw [ftR_app]
  simpa [ftR] using h2

set_option maxRecDepth 100000 in
set_option maxHeartbeats 8000000 in
theorem implRT_any (m : ByteArray) (a : Int) (w : World) (hm0 : m.size ≤ 1048576) : Calls Try.prog 6 #[.string m, .int .i64 a] w fun e w' => ∃ v, e = .returned (.agg #[.int .i64 (rdC m a), v]) ∧ w'.ownsRow w.heap.size 40 3 v (rdZ m a).length (ftR (rdZ m a)) ∧ Below w.heap.size w w' := by
  have HL0 : Hid (LG w (w.alloc (.cells #[.int .i64 0, .slice none 0 0] 24)) w.heap.size #[.int .i64 0, .slice none 0 0] 24) := LG.new w _ _
  have HTL : Hid (∀ u, Calls Try.prog 21 #[.string m] u fun e w' => e = .returned (.bool (decide (65536 < (m.size : Int)))) ∧ w' = u) := fun u => tooLong_any m u
  have HMF : Hid (∀ u, Calls Try.prog 22 #[.string m] u fun e w' => e = .returned (.int .i64 (memC m)) ∧ w' = u) := fun u => implMemFault_any m u (by omega)
  have HHT : Hid (∀ u, Calls Try.prog 23 #[.string m, .int .i64 a, .int .i64 4] u fun e w' => e = .returned (.bool (tbB m.size a 4)) ∧ w' = u) := fun u => holdsTable_any m a 4 u hm0 ⟨by omega, by omega⟩
  go_enter Try.func6, Try.ntmps6
  go_upto_region 1 with fail
  generalize (w.alloc (.cells #[.int .i64 0, .slice none 0 0] 24)) = u0 at *
  generalize hb0 : w.heap.size = b0 at HL0 ⊢
  have HB0 : Hid (w.heap.size = b0) := hb0
  clear hb0
  have k0 := HL0.out.cel 0 _ rfl
  have k1 := HL0.out.cel 1 _ rfl
  have z0 := HL0.out.frz 0
  have z1 := HL0.out.frz 1
  have kl := HL0.out.lt
  by_cases h1 : 65536 < m.size
  · have hd : decide (65536 < (m.size : Int)) = true := decide_eq_true (by omega)
    have E : Hid _ := rd_big a h1
    rw [hd] at HTL
    clear HMF HHT hd h1
    go_wp2_with (go_at_call 21; refine Calls.mono (HTL.out _) ?_; rintro e u3 ⟨rfl, rfl⟩)
    refine bodyPost_ret (v := .agg #[.int .i64 2, .slice none 0 0]) ?_ rfl ⟨.slice none 0 0, by rw [E.out.1], by rw [E.out.2]; exact World.ownsRow_nil _ _ _ _, ?_⟩
    · simp [results, Try.results6, go_sem, k0, k1]
    · exact (HL0.out.bel.setCell HL0.out.ge _).setCell HL0.out.ge _
  have hd : decide (65536 < (m.size : Int)) = false := decide_eq_false (by omega)
  rw [hd] at HTL
  clear hd
  by_cases h2 : memC m = 0
  rotate_left
  · have E : Hid _ := rd_mem a h1 h2
    have hmb : memC m = 1 := by unfold memC at *; split <;> simp_all
    rw [hmb] at HMF
    clear HHT h1 h2 hmb
    go_wp2_with (first | (go_at_call 21; refine Calls.mono (HTL.out _) ?_; rintro e u3 ⟨rfl, rfl⟩) | (go_at_call 22; refine Calls.mono (HMF.out _) ?_; rintro e u3 ⟨rfl, rfl⟩))
    refine bodyPost_ret (v := .agg #[.int .i64 1, .slice none 0 0]) ?_ rfl ⟨.slice none 0 0, by rw [E.out.1], by rw [E.out.2]; exact World.ownsRow_nil _ _ _ _, ?_⟩
    · simp [results, Try.results6, go_sem, k0, k1]
    · exact (HL0.out.bel.setCell HL0.out.ge _).setCell HL0.out.ge _
  rw [h2] at HMF
  cases h3 : tbB m.size a 4
  · have E : Hid _ := rd_tb h1 h2 h3
    rw [h3] at HHT
    clear h1 h2 h3
    go_wp2_with (first | (go_at_call 21; refine Calls.mono (HTL.out _) ?_; rintro e u3 ⟨rfl, rfl⟩) | (go_at_call 22; refine Calls.mono (HMF.out _) ?_; rintro e u3 ⟨rfl, rfl⟩) | (go_at_call 23; refine Calls.mono (HHT.out _) ?_; rintro e u3 ⟨rfl, rfl⟩))
    refine bodyPost_ret (v := .agg #[.int .i64 1, .slice none 0 0]) ?_ rfl ⟨.slice none 0 0, by rw [E.out.1], by rw [E.out.2]; exact World.ownsRow_nil _ _ _ _, ?_⟩
    · simp [results, Try.results6, go_sem, k0, k1]
    · exact (HL0.out.bel.setCell HL0.out.ge _).setCell HL0.out.ge _
  rw [h3] at HHT
  have hm : m.size ≤ 65536 := by omega
  have h3' := h3
  unfold tbB at h3'
  rw [Bool.and_eq_true] at h3'
  have h5 := inW_iff.1 h3'.2
  have HA : Hid ((a.toNat : Int) = a) := (show (a.toNat : Int) = a by omega)
  have HTP : Hid (∀ u, Calls Try.prog 24 #[.string m, .int .i64 a] u fun e w' => ∃ v, e = .returned (.tuple #[v, .int .i64 (plC m a.toNat)]) ∧ Irow w' v (plL m a.toNat) ∧ Below u.heap.size u w') := fun u => by
    have h9 := tablePlaces_any (m := m) (a := a.toNat) hm (by omega) u
    rw [HA.out] at h9
    exact h9
  have HE1 : Hid (plC m a.toNat ≠ 0 → rdC m a = plC m a.toNat ∧ rdZ m a = []) := fun h => rd_pl h1 h2 h3 h
  have HE2 : Hid (plC m a.toNat = 0 → rdC m a = rdK m (plL m a.toNat) (plL m a.toNat).length) := fun h => rd_k h1 h2 h3 h
  have HE3 : Hid (rdZ m a = if rdC m a = 0 then rdT m (plL m a.toNat) (plL m a.toNat).length else []) := rfl
  have hl10 := plL_len m a.toNat
  have HPB : Hid (∀ k (hk : k < (plL m a.toNat).length), 0 ≤ (plL m a.toNat)[k]) := fun k hk => (plL_b m a.toNat k hk).1
  clear h1 h2 h3 h3' h5 HA
  generalize plL m a.toNat = ps at *
  generalize plC m a.toNat = c at *
  by_cases hc : c = 0
  rotate_left
  · have E : Hid _ := HE1.out hc
    clear HE1 HE2 HE3 HPB hl10
    go_upto_region 6 with (first | (go_at_call 21; refine Calls.mono (HTL.out _) ?_; rintro e u3 ⟨rfl, rfl⟩) | (go_at_call 22; refine Calls.mono (HMF.out _) ?_; rintro e u3 ⟨rfl, rfl⟩) | (go_at_call 23; refine Calls.mono (HHT.out _) ?_; rintro e u3 ⟨rfl, rfl⟩) | (go_at_call 24; refine Calls.mono (HTP.out _) ?_; rintro e u3 ⟨vp, rfl, _, hb⟩; have HL1 : Hid (LG w u3 b0 #[.int .i64 0, .slice none 0 0] 24) := HL0.out.step hb; clear hb HL0 k0 k1 z0 z1 kl; have k0 := HL1.out.cel 0 _ rfl; have k1 := HL1.out.cel 1 _ rfl; have z0 := HL1.out.frz 0; have z1 := HL1.out.frz 1; have kl := HL1.out.lt))
    go_wp2
    refine bodyPost_ret (v := .agg #[.int .i64 c, .slice none 0 0]) ?_ rfl ⟨.slice none 0 0, by rw [E.out.1], by rw [E.out.2]; exact World.ownsRow_nil _ _ _ _, ?_⟩
    · simp [results, Try.results6, go_sem, k0, k1]
    · exact (HL1.out.bel.setCell HL1.out.ge _).setCell HL1.out.ge _
  subst hc
  have HE4 : Hid _ := HE2.out rfl
  clear HE1 HE2
  go_wp2_with (first | (go_at_call 21; refine Calls.mono (HTL.out _) ?_; rintro e u3 ⟨rfl, rfl⟩) | (go_at_call 22; refine Calls.mono (HMF.out _) ?_; rintro e u3 ⟨rfl, rfl⟩) | (go_at_call 23; refine Calls.mono (HHT.out _) ?_; rintro e u3 ⟨rfl, rfl⟩) | (go_at_call 24; refine Calls.mono (HTP.out _) ?_; rintro e u1 ⟨vp, rfl, hro, hb⟩; obtain ⟨ap, cp, rfl⟩ := hro.sl; have HRO : Hid (Irow u1 (.slice ap ps.length cp) ps) := hro; have HL1 : Hid (LG w u1 b0 #[.int .i64 0, .slice none 0 0] 24) := HL0.out.step hb; clear hro hb HL0 k0 k1 z0 z1 kl))
  clear HTL HMF HHT HTP
  obtain ⟨q1, hq1⟩ : ∃ q, u1.heap.size = q := ⟨_, rfl⟩
  have HQ1 : Hid (u1.heap.size = q1) := hq1
  clear hq1
  go_loopw [7, 38] (fun st i wr => ∃ k : Nat, k ≤ ps.length ∧ i = .int .i64 k ∧ rdK m ps k = 0 ∧ wr.ownsRow q1 40 3 st k (ftR (rdT m ps k)) ∧ Below u1.heap.size u1 wr) (fun _ i _ => ps.length - (intOf i).toNat)
  case atStart => exact ⟨0, Nat.zero_le _, rfl, rfl, World.ownsRow_nil _ _ _ _, Below.refl _ _⟩
  case round =>
    obtain ⟨k, hk, rfl, hz, hown, hb⟩ := hrel
    obtain ⟨a3, c3, hst⟩ := ft_sl hown
    subst hst
    have HZ : Hid (rdK m ps k = 0) := hz
    have HB : Hid (Below u1.heap.size u1 wr) := hb
    have HO : Hid (wr.ownsRow q1 40 3 (.slice a3 k c3) k (ftR (rdT m ps k))) := hown
    have HLX : Hid (LG w wr b0 #[.int .i64 0, .slice none 0 0] 24) := HL1.out.step hb
    have hqb : Hid (b0 < q1) := (show b0 < q1 by have := HL1.out.lt; have := HQ1.out; omega)
    have hqw : Hid (q1 ≤ wr.heap.size) := (show q1 ≤ wr.heap.size by have := hb.size; have := HQ1.out; omega)
    clear hown hb hz
    by_cases hlt : k < ps.length
    · obtain ⟨g, o, cap2, hv, _, hg, hcc⟩ := HRO.out.resolve_left (fun h => by rw [h.1] at hlt; simp at hlt)
      injection hv with hv1 hv2 hv3
      subst hv1 hv3
      have hgw : g < wr.heap.size := Nat.lt_of_lt_of_le hg HB.out.size
      have d0 := hcc.below HB.out hg k hlt
      obtain ⟨p, hp⟩ : ∃ p : Nat, ps[k] = (p : Int) := ⟨ps[k].toNat, by have := HPB.out k hlt; omega⟩
      have hgd : (ps.getD k 0).toNat = p := by rw [List.getD_eq_getElem?_getD, List.getElem?_eq_getElem hlt, Option.getD_some, hp]; rfl
      rw [hp] at d0
      clear hp hcc hv2
      have HSU : Hid (rdT m ps (k + 1) = rdT m ps k ++ [rtF m p]) := (show _ = _ by rw [rdT_succ, hgd])
      have HST : Hid (rtC m p ≠ 0 → rdK m ps ps.length = rtC m p) := fun h => by
        have h9 := rdK_stop HZ.out (by rw [hgd]; exact h) (ps.length - (k + 1))
        rw [hgd, show k + 1 + (ps.length - (k + 1)) = ps.length by omega] at h9
        exact h9
      have HGO : Hid (rtC m p = 0 → rdK m ps (k + 1) = 0) := fun h => rdK_go HZ.out (by rw [hgd]; exact h)
      have HT : Hid (∀ {x b}, RD x x b m p 0 → Calls Try.prog 25 #[.pointer (some ⟨b, 0, none⟩)] x fun e w' => e = .returned (.tuple #[.agg #[.string (rtF m p).name, .int .i64 (rtF m p).rev, .string (rtF m p).body], .int .i64 (rtC m p)]) ∧ x.grownBy w' (some b)) := fun h => table_any h hm
      have HRD : Hid (RD (wr.alloc (.cells #[.string m, .int .i64 p, .int .u8 0] 48)) (wr.alloc (.cells #[.string m, .int .i64 p, .int .u8 0] 48)) wr.heap.size m p 0) := ⟨⟨rfl, rfl, rfl, Nat.le_refl _, fun _ _ _ => rfl⟩, heap_new wr _⟩
      generalize rtF m p = z at *
      generalize rtC m p = cc at *
      have hk0 : (0 : Int) ≤ (k : Int) := by omega
      have hk1 : (k : Int) < (ps.length : Int) := by omega
      have hk9 : (k : Int) ≤ 10 := by omega
      clear hgd HPB
      go_upto_region 13 with fail
      have HBA : Hid (Below u1.heap.size u1 (wr.alloc (.cells #[.string m, .int .i64 p, .int .u8 0] 48))) := HB.out.trans ((bx1 _ _).mono HB.out.size)
      have HOA : Hid ((wr.alloc (.cells #[.string m, .int .i64 p, .int .u8 0] 48)).ownsRow q1 40 3 (.slice a3 k c3) k (ftR (rdT m ps k))) := own_belowN HO.out (bx1 _ _)
      have HLA : Hid (LG w (wr.alloc (.cells #[.string m, .int .i64 p, .int .u8 0] 48)) b0 #[.int .i64 0, .slice none 0 0] 24) := HLX.out.step (bx1 _ _)
      have HKN : Hid (∀ j, (Value.slice a3 k c3).ownBlock = some j → j < wr.heap.size) := fun j hj => (HO.out.lt j hj).2
      generalize (wr.alloc (.cells #[.string m, .int .i64 p, .int .u8 0] 48)) = ub at *
      clear HB HO HLX d0 hgw
      obtain ⟨qr, hqr⟩ : ∃ q, wr.heap.size = q := ⟨_, rfl⟩
      have HQW : Hid (q1 ≤ qr) := hqr ▸ hqw.out
      rw [hqr] at HRD HKN ⊢
      clear hqr hqw
      go_upto_region 14 with (go_at_call 25; refine Calls.mono (HT.out HRD.out) ?_; rintro e u3 ⟨rfl, hg3⟩; have HB3 : Hid (Below u1.heap.size u1 u3) := HBA.out.grown hg3 HBA.out.size (fun j hj => by injection hj with hj; have := HQ1.out; have := HQW.out; omega); have HL3 : Hid (LG w u3 b0 #[.int .i64 0, .slice none 0 0] 24) := ⟨HLA.out.bel.grown hg3 HLA.out.bel.size (fun j hj => by injection hj with hj; have := HB0.out; have := HQW.out; have := hqb.out; omega), (hg3.block b0 HLA.out.lt (fun e => by injection e with e; have := HQW.out; have := hqb.out; omega)).trans HLA.out.box, HLA.out.ge⟩; have HO3 : Hid (u3.ownsRow q1 40 3 (.slice a3 k c3) k (ftR (rdT m ps k))) := HOA.out.kept hg3 (by cases ho : (Value.slice a3 k c3).ownBlock with | none => exact .inl rfl | some j => exact .inr (fun e => by injection e with e; have := HKN.out j ho; omega)); clear hg3 HBA HOA HLA HKN HRD HT)
      have HBX : Hid (LG u3 (u3.alloc (.cells #[.string z.name, .int .i64 z.rev, .string z.body] 40)) u3.heap.size #[.string z.name, .int .i64 z.rev, .string z.body] 40) := LG.new _ _ _
      have HB4 : Hid (Below u1.heap.size u1 (u3.alloc (.cells #[.string z.name, .int .i64 z.rev, .string z.body] 40))) := HB3.out.trans ((bx1 _ _).mono HB3.out.size)
      have HL4 : Hid (LG w (u3.alloc (.cells #[.string z.name, .int .i64 z.rev, .string z.body] 40)) b0 #[.int .i64 0, .slice none 0 0] 24) := HL3.out.step (bx1 _ _)
      have HO4 : Hid ((u3.alloc (.cells #[.string z.name, .int .i64 z.rev, .string z.body] 40)).ownsRow q1 40 3 (.slice a3 k c3) k (ftR (rdT m ps k))) := own_belowN HO3.out (bx1 _ _)
      generalize (u3.alloc (.cells #[.string z.name, .int .i64 z.rev, .string z.body] 40)) = u4 at *
      clear HB3 HL3 HO3
      generalize u3.heap.size = q4 at *
      by_cases hcc : cc = 0
      · have HG9 : Hid _ := HGO.out hcc
        subst hcc
        clear HGO HST
        have y0 := HBX.out.cel 0 _ rfl
        have y1 := HBX.out.cel 1 _ rfl
        have y2 := HBX.out.cel 2 _ rfl
        have yl := HBX.out.lt
        have HAP : Hid _ := appFT HO4.out (by have := HQ1.out; have := HB4.out.size; omega) (by omega) z
        go_wp2_with (at_builtin; (refine wl_append_exB rfl _ _ 22 rfl _ _ rfl rfl HAP.out ?_; rintro v' u' ⟨ho, hg9⟩; obtain ⟨a5, c5, rfl⟩ := ft_sl ho; have HO7 : Hid (u'.ownsRow q1 40 3 (.slice a5 (k + 1) c5) (k + 1) (ftR (rdT m ps (k + 1)))) := (by rw [HSU.out]; exact ho); have HB7 : Hid (Below u1.heap.size u1 u') := ((HB4.out.alloc HB4.out.size _).grown hg9 (by have := HB4.out.size; simp; omega) (fun j hj => by have := (HO4.out.lt j hj).1; have := HQ1.out; omega)); clear ho hg9))
        exact ⟨⟨k + 1, hlt, by go_num, HG9.out, HO7.out, HB7.out⟩, by simp [intOf]; omega⟩
      · have E1 : Hid (rdC m a = cc) := (show rdC m a = cc by rw [HE4.out, HST.out hcc])
        have E2 : Hid (rdZ m a = []) := (show rdZ m a = [] by rw [HE3.out, E1.out, if_neg hcc])
        clear HE3 HE4 HGO HST HSU
        have k0 := HL4.out.cel 0 _ rfl
        have k1 := HL4.out.cel 1 _ rfl
        have z0 := HL4.out.frz 0
        have z1 := HL4.out.frz 1
        have kl := HL4.out.lt
        go_wp2
        refine bodyPost_ret (v := .agg #[.int .i64 cc, .slice none 0 0]) ?_ rfl ⟨.slice none 0 0, by rw [E1.out], by rw [E2.out]; exact World.ownsRow_nil _ _ _ _, ?_⟩
        · simp [results, Try.results6, go_sem, k0, k1]
        · exact (HL4.out.bel.setCell HL4.out.ge _).setCell HL4.out.ge _
    · obtain rfl : k = ps.length := by omega
      have hnl : ¬ ((ps.length : Nat) : Int) < (ps.length : Int) := by omega
      have E1 : Hid (rdC m a = 0) := (show rdC m a = 0 by rw [HE4.out, HZ.out])
      have E2 : Hid (rdZ m a = rdT m ps ps.length) := (show _ = _ by rw [HE3.out, E1.out]; rfl)
      have E3 : Hid ((rdT m ps ps.length).length = ps.length) := rdT_len _ _ _
      have HO9 : Hid (((wr.setCell ⟨b0, 0, none⟩ (.int .i64 0)).setCell ⟨b0, 1, none⟩ (.slice a3 ps.length c3)).ownsRow q1 40 3 (.slice a3 ps.length c3) ps.length (ftR (rdT m ps ps.length))) := own_keepB HO.out (mf_gset (mf_gset ⟨rfl, rfl, rfl, Nat.le_refl _, fun _ _ _ => rfl⟩ _ _) _ _) hqb.out
      clear HE3 HE4 HZ HO HPB
      have k0 := HLX.out.cel 0 _ rfl
      have k1 := HLX.out.cel 1 _ rfl
      have z0 := HLX.out.frz 0
      have z1 := HLX.out.frz 1
      have kl := HLX.out.lt
      go_wp2
      refine bodyPost_ret (v := .agg #[.int .i64 0, .slice a3 ps.length c3]) ?_ rfl ⟨.slice a3 ps.length c3, by rw [E1.out], ?_, ?_⟩
      · simp [results, Try.results6, go_sem, k0, k1]
      · rw [E2.out, E3.out]
        exact ft_weak HO9.out (by have := hqb.out; have := HB0.out; omega)
      · exact (HLX.out.bel.setCell HLX.out.ge _).setCell HLX.out.ge _
end Go.Proofs.Ytblmodlpopnckaa
