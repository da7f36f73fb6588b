import Derived.Test.YtmbdclbddbbdpaaKm2
import Derived.Laws.BytesArg
import Derived.Deep.Onto
namespace Go.Proofs.Ytmbdclbddbbdpaa
open Go.ChangeShapes Go.WideShapes Go.ChangeAt Go.RowKit

theorem conv_fr {w : World} {b : Nat} {f : ByteArray} (h : MemAt w b f) (hf : f.size = 256) : Sem.run Try.prog (convert 61 9 (.slice (some ⟨b, 0, none⟩) 256 256)) w = .ok (.string f) w := by
  have h9 := run_convert_bytes_arg (P := Try.prog) w 61 5 Try.underlying61 Try.underlying5 b 0 256 256 (f.data.toList.map fun b => (b.toNat : Int)) (by rw [List.length_map, bsize, hf]) (by
    intro i hi
    have hil : i < f.data.toList.length := by rw [bsize, hf]; exact hi
    have e : (mcel f)[i]? = some (.int .u8 ((f.data.toList[i]).toNat : Int)) := by
      unfold mcel cells8
      rw [List.getElem?_toArray, List.getElem?_map, List.getElem?_eq_getElem hil]
      rfl
    have e2 : (f.data.toList.map fun b => (b.toNat : Int)).getD i 0 = ((f.data.toList[i]).toNat : Int) := by
      rw [List.getD_eq_getElem?_getD, List.getElem?_map, List.getElem?_eq_getElem hil]
      rfl
    unfold MemAt at h
    rw [e2, Nat.zero_add]
    simp [World.cell?, h, e]) 9 Try.underlying9
  rw [nums8] at h9
  exact h9
theorem store_newZ (cur : Array Value) (hc : cur.size = 256) (f : ByteArray) : (cur.toList.take 0 ++ cells8 f.data.toList ++ cur.toList.drop (0 + 256)).toArray = mcel f := by
  have h1 : cur.toList.drop (0 + 256) = [] := List.drop_of_length_le (by simp [hc])
  rw [List.take_zero, h1, List.append_nil, List.nil_append]
  rfl
set_option maxRecDepth 100000 in
theorem zeroFrame (w : World) : Sem.run Try.prog (zeroValue 52) w = .ok (.agg (zrs 256).toArray) w := by kernel_rfl
theorem own_neK {w : World} {B T T2 sz n g : Nat} {v : Value} {xs : List Value} {cs : Array Value} (h : w.ownsRow B T sz v n xs) (hg : w.heap[g]? = some (.cells cs T2 (0, 0))) (hT : T ≠ T2) : v.ownBlock ≠ some g := by
  rcases h.2 with ⟨rfl, _⟩ | ⟨g', cap, cur, rfl, _, h2, _⟩
  · simp [Value.ownBlock]
  · intro e
    simp [Value.ownBlock] at e
    subst e
    rw [h2] at hg
    injection hg with e1
    injection e1 with _ e2
    exact hT e2
/-- The frames that are not all bytes 0. -/
def fzL (s : ByteArray) (k : Nat) : List ByteArray := ((List.range k).filter (nzB s)).map (fr s)
theorem fzL_on {s : ByteArray} {k : Nat} (h : nzB s k = true) : fzL s (k + 1) = fzL s k ++ [fr s k] := by
  unfold fzL
  rw [List.range_succ, List.filter_append]
  simp [h]
theorem fzL_off {s : ByteArray} {k : Nat} (h : nzB s k = false) : fzL s (k + 1) = fzL s k := by
  unfold fzL
  rw [List.range_succ, List.filter_append]
  simp [h]
theorem fzL_len (s : ByteArray) (k : Nat) : (fzL s k).length ≤ k := by
  unfold fzL
  rw [List.length_map]
  exact Nat.le_trans (List.length_filter_le _ _) (by simp)
/-- The pieces of a memory, packed. -/
def mpL (s : ByteArray) (n k : Nat) : List ByteArray := sB (nzB s) ((n + 7) / 8) n :: fzL s k
def mpB (s : ByteArray) (n : Nat) : ByteArray := ⟨(catB (mpL s n n)).toArray⟩
theorem mpL_len (s : ByteArray) (n k : Nat) : (mpL s n k).length = (fzL s k).length + 1 := by simp [mpL]
theorem mpL_on {s : ByteArray} {n k : Nat} (h : nzB s k = true) : mpL s n (k + 1) = mpL s n k ++ [fr s k] := by unfold mpL; rw [fzL_on h]; rfl
theorem mpL_off {s : ByteArray} {n k : Nat} (h : nzB s k = false) : mpL s n (k + 1) = mpL s n k := by unfold mpL; rw [fzL_off h]
theorem catB_app (a b : List ByteArray) : catB (a ++ b) = catB a ++ catB b := by simp [catB]
theorem mpL_size {s : ByteArray} {n : Nat} (hs : s.size = n * 256) (hn : n ≤ 256) : ∀ k, k ≤ n → (catB (mpL s n k)).length ≤ 32 + 256 * k
  | 0, _ => by
    have h1 := sB_size (nzB s) ((n + 7) / 8) n (by omega)
    have e : catB (mpL s n 0) = (sB (nzB s) ((n + 7) / 8) n).data.toList := by simp [mpL, fzL, catB]
    rw [e, bsize, h1]
    omega
  | k + 1, hk => by
    have ih := mpL_size hs hn k (by omega)
    have hf := fr_size s k (by omega)
    cases hz : nzB s k
    · rw [mpL_off hz]
      omega
    · rw [mpL_on hz, catB_snoc, List.length_append, bsize, hf]
      omega
set_option maxRecDepth 100000 in
set_option maxHeartbeats 4000000 in
theorem packed_any {w : World} {b n : Nat} {s : ByteArray} (hM : MemAt w b s) (hn : s.size = n * 256) (hn2 : n ≤ 256) : Calls Try.prog 56 #[mv b n] w fun e w' => e = .returned (.string (mpB s n)) ∧ Below w.heap.size w w' := by
  have HMB : Hid (MemAt (w.alloc (.cells #[mv b n] 48)) b s) := hM.below (bx1 _ _) hM.lt
  have HLG : Hid (LG w (w.alloc (.cells #[mv b n] 48)) w.heap.size #[mv b n] 48) := LG.new w _ _
  have HST : Hid (∀ u, LG w u w.heap.size #[mv b n] 48 → MemAt u b s → Calls Try.prog 24 #[.int .i64 n, .func (.func 73) #[] #[.pointer (some ⟨w.heap.size, 0, none⟩)]] u fun e w' => e = .returned (.string (sB (nzB s) ((n + 7) / 8) n)) ∧ Below u.heap.size u w') := fun u hl hm => setOf_any n hn2 _ _ (nzB s) cfPk (fun k w' hk hb => packFn_any (hm.below hb hm.lt) hn ((hb.cell (p := ⟨w.heap.size, 0, none⟩) hl.lt).trans (hl.cel 0 _ rfl)) k hk)
  have HO0 : Hid (∀ u : World, (u.alloc (.cells #[.string (sB (nzB s) ((n + 7) / 8) n)] 9)).ownsRow u.heap.size 9 1 (.slice (some ⟨u.heap.size, 0, none⟩) 1 1) 1 (sR (mpL s n 0))) := fun u => World.ownsRow_lit u #[.string _] 1 (by simp) (by decide) rfl
  have HSZ : Hid (∀ k, k ≤ n → (catB (mpL s n k)).length ≤ 32 + 256 * k) := mpL_size hn hn2
  have HSN : Hid (s.size = n * 256) := hn
  have HG : Hid (mpB s n = ⟨(catB (mpL s n n)).toArray⟩) := (show _ = _ from rfl)
  have hn9 : (n : Int) ≤ 256 := by omega
  unfold mv at *
  clear hM hn
  generalize mpB s n = G at *
  generalize sB (nzB s) ((n + 7) / 8) n = ST at *
  go_enter Try.func56, Try.ntmps56
  go_upto_region 1 with fail
  generalize (w.alloc (.cells #[.slice (some ⟨b, 0, none⟩) n n] 48)) = u0 at *
  have c0 := HLG.out.cel 0 (.slice (some ⟨b, 0, none⟩) n n) rfl
  have cl := HLG.out.lt
  go_upto_region 2 with (go_at_call 24; refine Calls.mono (HST.out _ HLG.out HMB.out) ?_; rintro e u1 ⟨rfl, hu⟩; have HL1 : Hid (LG w u1 w.heap.size #[.slice (some ⟨b, 0, none⟩) n n] 48) := HLG.out.step hu; have HM1 : Hid (MemAt u1 b s) := HMB.out.below hu HMB.out.lt; clear hu)
  have HO1 : Hid ((u1.alloc (.cells #[.string ST] 9)).ownsRow w.heap.size 9 1 (.slice (some ⟨u1.heap.size, 0, none⟩) 1 1) 1 (sR (mpL s n 0))) := World.ownsRow.mono (HO0.out u1) HL1.out.bel.size
  have HL2 : Hid (LG w (u1.alloc (.cells #[.string ST] 9)) w.heap.size #[.slice (some ⟨b, 0, none⟩) n n] 48) := HL1.out.step (bx1 _ _)
  have HM2 : Hid (MemAt (u1.alloc (.cells #[.string ST] 9)) b s) := HM1.out.below (bx1 _ _) HM1.out.lt
  have HNB : Hid ((Value.slice (some ⟨u1.heap.size, 0, none⟩) 1 1).ownBlock ≠ some w.heap.size ∧ (Value.slice (some ⟨u1.heap.size, 0, none⟩) 1 1).ownBlock ≠ some b) := (show _ ∧ _ by have h1 := HL1.out.lt; have h2 := HM1.out.lt; simp [Value.ownBlock]; omega)
  clear HLG HMB HST HO0 HL1 HM1 c0 cl
  generalize (u1.alloc (.cells #[.string ST] 9)) = u2 at *
  generalize u1.heap.size = g1 at *
  have c0 := HL2.out.cel 0 (.slice (some ⟨b, 0, none⟩) n n) rfl
  have cl := HL2.out.lt
  go_wp2
  clear c0 cl
  go_loopw [3, 13] (fun v i wr => ∃ k : Nat, k ≤ n ∧ i = .int .i64 k ∧ LG w wr w.heap.size #[.slice (some ⟨b, 0, none⟩) n n] 48 ∧ MemAt wr b s ∧ wr.ownsRow w.heap.size 9 1 v (mpL s n k).length (sR (mpL s n k))) (fun _ i _ => n - (intOf i).toNat)
  case atStart => exact ⟨0, Nat.zero_le _, rfl, HL2.out, HM2.out, HO1.out⟩
  case round =>
    obtain ⟨k, hk, rfl, hL, hM, hown⟩ := hrel
    obtain ⟨a3, c3, rfl⟩ := s_sl hown
    clear HL2 HM2 HO1 HNB
    have HL : Hid (LG w wr w.heap.size #[.slice (some ⟨b, 0, none⟩) n n] 48) := hL
    have HM : Hid (MemAt wr b s) := hM
    have HOW : Hid (wr.ownsRow w.heap.size 9 1 (.slice a3 (mpL s n k).length c3) (mpL s n k).length (sR (mpL s n k))) := hown
    clear hL hM hown
    by_cases hlt : k < n
    · have HKM : Hid (k * 256 + 256 ≤ s.size) := (show _ ≤ _ by have := HSN.out; omega)
      have HFS : Hid ((fr s k).size = 256) := fr_size s k HKM.out
      have hk0 : (0 : Int) ≤ (k : Int) := by omega
      have hk1 : (k : Int) < (n : Int) := by omega
      have hzf := zeroFrame
      have hbl := HM.out.lt
      have HZ : Hid (∀ u, Calls Try.prog 74 #[frA (fr s k)] u fun e w' => e = .returned (.bool (decide (fr s k = zB 256))) ∧ Below u.heap.size u w') := fun u => isZero_any (fr s k) u HFS.out
      have HNZ : Hid (nzB s k = !decide (fr s k = zB 256)) := (show _ = _ from rfl)
      have HON : Hid (nzB s k = true → mpL s n (k + 1) = mpL s n k ++ [fr s k]) := mpL_on
      have HOFF : Hid (nzB s k = false → mpL s n (k + 1) = mpL s n k) := mpL_off
      have HML : Hid ((mpL s n k).length ≤ 257) := (show _ ≤ _ by rw [mpL_len]; have := fzL_len s k; omega)
      generalize decide (fr s k = zB 256) = d at *
      go_upto_region 5 with (first | (refine wl_load rfl _ rfl b k s rfl HM.out HKM.out ?_) | (refine wl_store rfl _ _ rfl wr.heap.size 0 _ (fr s k) rfl rfl (MapKept.heap_alloc wr _).1 HFS.out (by simp [zrs]) ?_; rw [store_newZ _ (by simp [zrs]), World.setRow_alloc_new]))
      have HMC : Hid (MemAt (wr.alloc (.cells (mcel (fr s k)) 52)) wr.heap.size (fr s k)) := (MapKept.heap_alloc wr _).1
      have HL2 : Hid (LG w (wr.alloc (.cells (mcel (fr s k)) 52)) w.heap.size #[.slice (some ⟨b, 0, none⟩) n n] 48) := HL.out.step (bx1 _ _)
      have HM2 : Hid (MemAt (wr.alloc (.cells (mcel (fr s k)) 52)) b s) := HM.out.below (bx1 _ _) HM.out.lt
      have HO2 : Hid ((wr.alloc (.cells (mcel (fr s k)) 52)).ownsRow w.heap.size 9 1 (.slice a3 (mpL s n k).length c3) (mpL s n k).length (sR (mpL s n k))) := World.ownsRow.alloc HOW.out _
      have HGB : Hid (w.heap.size ≤ wr.heap.size) := HL.out.bel.size
      have HSF : Hid (fr (fr s k) 0 = fr s k) := fr_self (fr s k) HFS.out
      have HF2 : Hid (0 * 256 + 256 ≤ (fr s k).size) := (show _ ≤ _ by have := HFS.out; omega)
      have hs0 := fun w' => sl_frame0 wr.heap.size 0 w'
      clear hzf HL HM HOW hbl
      generalize hW : (wr.alloc (.cells (mcel (fr s k)) 52)) = W at *
      generalize wr.heap.size = fb at *
      clear hW
      cases d
      · have HE : Hid (mpL s n (k + 1) = mpL s n k ++ [fr s k]) := HON.out (by rw [HNZ.out]; rfl)
        clear HON HOFF HNZ
        go_upto_region 6 with (first | (refine wl_load rfl _ rfl fb 0 (fr s k) rfl HMC.out HF2.out ?_; rw [HSF.out]) | (go_at_call 74; refine Calls.mono (HZ.out _) ?_; rintro e u4 ⟨rfl, hu⟩; have HMC4 : Hid (MemAt u4 fb (fr s k)) := HMC.out.below hu HMC.out.lt; have HL4 : Hid (LG w u4 w.heap.size #[.slice (some ⟨b, 0, none⟩) n n] 48) := HL2.out.step hu; have HM4 : Hid (MemAt u4 b s) := HM2.out.below hu HM2.out.lt; have HO4 : Hid (u4.ownsRow w.heap.size 9 1 (.slice a3 (mpL s n k).length c3) (mpL s n k).length (sR (mpL s n k))) := own_below HO2.out hu; clear hu))
        have hcv := conv_fr HMC4.out HFS.out
        have HAP : Hid _ := app1S HO4.out (fr s k) (by have := HML.out; omega) HL4.out.bel.size
        have HNE : Hid (∀ j, (Value.slice a3 (mpL s n k).length c3).ownBlock = some j → w.heap.size ≤ j ∧ j ≠ w.heap.size ∧ j ≠ b) := fun j hj => ⟨(HO4.out.lt j hj).1, fun e => own_neK HO4.out HL4.out.box (by decide) (e ▸ hj), fun e => own_neK HO4.out HM4.out (by decide) (e ▸ hj)⟩
        generalize fr s k = x at *
        go_wp2_with (at_builtin; (refine wl_append_exB rfl _ _ 77 rfl _ _ rfl rfl HAP.out ?_; rintro v' u' ⟨ho, hg⟩; obtain ⟨a5, c5, rfl⟩ := s_sl ho; have HO5 : Hid (u'.ownsRow w.heap.size 9 1 (.slice a5 ((mpL s n k).length + 1) c5) (mpL s n (k + 1)).length (sR (mpL s n (k + 1)))) := (by rw [HE.out, List.length_append]; unfold sR at ho ⊢; rw [List.map_append]; exact ho); have HL5 : Hid (LG w u' w.heap.size #[.slice (some ⟨b, 0, none⟩) n n] 48) := (show LG _ _ _ _ _ from ⟨(HL4.out.bel.alloc HL4.out.bel.size _).grown hg (by have := HL4.out.bel.size; simp; omega) (fun j hj => (HNE.out j hj).1), (hg.block _ (by have := HL4.out.lt; simp; omega) (fun e => (HNE.out _ e.symm).2.1 rfl)).trans (((bx1 _ _).block _ HL4.out.lt).trans HL4.out.box), Nat.le_refl _⟩); have HM5 : Hid (MemAt u' b s) := (show MemAt _ _ _ from (hg.block _ (by have := HM4.out.lt; simp; omega) (fun e => (HNE.out _ e.symm).2.2 rfl)).trans (((bx1 _ _).block _ HM4.out.lt).trans HM4.out)); clear ho hg HAP HNE))
        exact ⟨⟨k + 1, hlt, by go_num, HL5.out, HM5.out, HO5.out⟩, by simp [intOf]; omega⟩
      · have HE : Hid (mpL s n (k + 1) = mpL s n k) := HOFF.out (by rw [HNZ.out]; rfl)
        clear HON HOFF HNZ
        go_wp2_with (first | (refine wl_load rfl _ rfl fb 0 (fr s k) rfl HMC.out HF2.out ?_; rw [HSF.out]) | (go_at_call 74; refine Calls.mono (HZ.out _) ?_; rintro e u4 ⟨rfl, hu⟩; have HL4 : Hid (LG w u4 w.heap.size #[.slice (some ⟨b, 0, none⟩) n n] 48) := HL2.out.step hu; have HM4 : Hid (MemAt u4 b s) := HM2.out.below hu HM2.out.lt; have HO4 : Hid (u4.ownsRow w.heap.size 9 1 (.slice a3 (mpL s n k).length c3) (mpL s n k).length (sR (mpL s n k))) := own_below HO2.out hu; clear hu))
        exact ⟨⟨k + 1, hlt, by go_num, HL4.out, HM4.out, by rw [HE.out]; exact HO4.out⟩, by simp [intOf]; omega⟩
    · obtain rfl : k = n := by omega
      have hk1 : ¬ (k : Int) < (k : Int) := by omega
      have HJ : Hid (Calls Try.prog 29 #[.slice a3 (mpL s k k).length c3] wr fun e w' => e = .returned (.string G) ∧ Below wr.heap.size wr w') := (show Calls _ _ _ _ _ by
        have h9 := joined_row (ps := mpL s k k) HOW.out (by rw [mpL_len]; have := fzL_len s k; omega) (by have := HSZ.out k (Nat.le_refl _); omega)
        rw [← HG.out] at h9
        exact h9)
      go_wp2_with (go_at_call 29; refine Calls.mono HJ.out ?_; rintro e u4 ⟨rfl, hu⟩; have HU : Hid (Below w.heap.size w u4) := HL.out.bel.trans (hu.mono HL.out.bel.size); clear hu)
      go_ret
      exact ⟨rfl, HU.out⟩
end Go.Proofs.Ytmbdclbddbbdpaa
