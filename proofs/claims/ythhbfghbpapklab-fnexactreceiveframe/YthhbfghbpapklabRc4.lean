import Derived.Test.YthhbfghbpapklabRc3
import Derived.Test.YthhbfghbpapklabGc1
import Derived.Deep.RegionHeld3
namespace Go.Proofs.Ythhbfghbpapklab
open Go.ChangeShapes Go.WideShapes Go.ChangeAt Go.RowKit

theorem FrT.bel {w u v : World} {Bc : Nat} (hf : FrT u v Bc) (h : Below w.heap.size w u) (hb : w.heap.size ≤ Bc) : Below w.heap.size w v :=
  ⟨hf.os.trans h.os, hf.tape.trans h.tape, hf.output.trans h.output, Nat.le_trans h.size hf.size, fun k hk => (hf.block k (Nat.lt_of_lt_of_le hk h.size) (by omega) (.inl (by omega))).trans (h.block k hk)⟩
theorem FrT.low {u v : World} {Bc k : Nat} (hf : FrT u v Bc) (hk : k < Bc) (hl : Bc < u.heap.size) : v.heap[k]? = u.heap[k]? := hf.block k (by omega) (by omega) (.inl hk)
/-- A chain of a queue, if there is such a number. -/
def rcH (s : ByteArray) (q : QV) (hd : Int) : Int × List BU := if hsB q.size hd = true then (if (rcR s q.desc.toNat q.size.toNat hd.toNat).1 = 0 then (0, (rcR s q.desc.toNat q.size.toNat hd.toNat).2) else ((rcR s q.desc.toNat q.size.toNat hd.toNat).1, [])) else (1, [])
def chA (c : Int) (v : Value) : Value := .agg #[.int .i64 c, v]
set_option maxRecDepth 100000 in
set_option maxHeartbeats 4000000 in
theorem readChain_any {w : World} {mb n : Nat} {s : ByteArray} (S D : Nat) (a u t g hd : Int) (h : MemAt w mb s) (hn : s.size = n * 256) (hs : s.size ≤ 65536) (hS : S ≤ 16) (hD4 : D % 4 = 0) (hD : D + S * 16 ≤ s.size) :
    Calls Try.prog 217 #[mv mb n, qA ⟨S, D, a, u, t, g⟩, .int .i64 hd] w fun e w' => ∃ v, e = .returned (chA (rcH s ⟨S, D, a, u, t, g⟩ hd).1 v) ∧ w'.ownsRow w.heap.size 153 3 v (rcH s ⟨S, D, a, u, t, g⟩ hd).2.length (buR (rcH s ⟨S, D, a, u, t, g⟩ hd).2) ∧ Below w.heap.size w w' := by
  have HHS : Hid _ := fun x => has_any ⟨S, D, a, u, t, g⟩ hd x
  have HX : Hid (∀ x, Below ((w.alloc (.cells #[.int .i64 S, .int .i64 D, .int .i64 a, .int .i64 u, .int .i64 t, .int .i64 g] 24)).alloc (.cells #[.int .i64 0, .slice none 0 0] 150)).heap.size ((w.alloc (.cells #[.int .i64 S, .int .i64 D, .int .i64 a, .int .i64 u, .int .i64 t, .int .i64 g] 24)).alloc (.cells #[.int .i64 0, .slice none 0 0] 150)) x → TwoBx w x #[.int .i64 S, .int .i64 D, .int .i64 a, .int .i64 u, .int .i64 t, .int .i64 g] 24 #[.int .i64 0, .slice none 0 0] 150) := fun x h => TwoBx.of _ _ _ _ _ h
  have HM : Hid (∀ x, Below w.heap.size w x → MemAt x mb s) := fun x hx => h.below hx h.lt
  have hlt := h.lt
  have HRE : Hid (rcH s ⟨S, D, a, u, t, g⟩ hd = if hsB S hd = true then (if (rcR s D S hd.toNat).1 = 0 then (0, (rcR s D S hd.toNat).2) else ((rcR s D S hd.toNat).1, [])) else (1, [])) := by show _ = _; unfold rcH; simp
  have HHB : Hid (hsB S hd = true → 0 ≤ hd ∧ hd ≤ 16) := fun h => by unfold hsB at h; simp at h; omega
  have HRC : Hid (∀ (x : World) (Bc : Nat) (v : Value) (k : Nat), k ≤ 4294967295 → CR x Bc mb n v [] s → Calls Try.prog 222 #[.pointer (some ⟨Bc, 0, none⟩), .agg #[.int .i64 D, .int .i64 S, .bool false], .int .i64 k] x fun e w' => ∃ v' zs, e = .returned (.int .i64 (rcR s D S k).1) ∧ ((rcR s D S k).1 = 0 → zs = (rcR s D S k).2) ∧ CR w' Bc mb n v' zs s ∧ FrT x w' Bc) := fun x Bc v k hk hc => crRead_any hc D S k hn hs hS hD4 hD hk
  clear h hn hs hS hD4 hD
  unfold qA at HHS ⊢
  unfold mv chA
  simp only at HHS ⊢
  generalize rcH s ⟨S, D, a, u, t, g⟩ hd = RE at *
  cases hh : hsB S hd
  · rw [hh] at HHS HRE
    rw [if_neg (by simp)] at HRE
    subst RE
    clear HRC HHB hh
    go_enter Try.func217, Try.ntmps217
    go_wp2_with (go_at_call 221; refine Calls.mono (HHS.out _) ?_; rintro e y1 ⟨rfl, hu⟩; have HX1 : Hid _ := HX.out _ hu; clear hu HX; have r0 := HX1.out.c2 0 _ rfl; have r1 := HX1.out.c2 1 _ rfl; have rf := fun k => HX1.out.f2 k; have glt := HX1.out.lt)
    refine bodyPost_ret (v := .agg #[.int .i64 1, .slice none 0 0]) ?_ rfl ⟨.slice none 0 0, rfl, World.ownsRow_nil _ _ _ _, ?_⟩
    · simp [results, Try.results217, go_sem, r0, r1]
    · exact (HX1.out.bel.setCell (by simp) _).setCell (by simp) _
  rw [hh] at HHS HRE
  rw [if_pos rfl] at HRE
  obtain ⟨hd0, hd1⟩ := HHB.out hh
  obtain ⟨k, rfl⟩ := Int.eq_ofNat_of_zero_le hd0
  have HR1 : Hid _ := fun (x : World) (Bc : Nat) (v : Value) (hc : CR x Bc mb n v [] s) => HRC.out x Bc v k (by omega) hc
  rw [Int.toNat_natCast] at HRE
  clear HRC HHB hh
  generalize rcR s D S k = GG at *
  obtain ⟨gc, gz⟩ := GG
  simp only at HR1 HRE
  go_enter Try.func217, Try.ntmps217
  go_wp2_with (go_at_call 221; refine Calls.mono (HHS.out _) ?_; rintro e y1 ⟨rfl, hu⟩; have HX1 : Hid _ := HX.out _ hu; clear hu HX; have k0 := HX1.out.c1 0 _ rfl; have k1 := HX1.out.c1 1 _ rfl; have glt := HX1.out.lt; have gl0 : w.heap.size < y1.heap.size := by omega)
  have HC0 : Hid (CR (y1.alloc (.cells #[.slice (some ⟨mb, 0, none⟩) n n, .slice none 0 0] 279)) y1.heap.size mb n (.slice none 0 0) [] s) := ⟨heap_new _ _, World.ownsRow_nil _ _ _ _, (HM.out y1 HX1.out.bel).below (bx1 _ _) (HM.out y1 HX1.out.bel).lt⟩
  have HXA : Hid _ := HX1.out.step (bx1 y1 (.cells #[.slice (some ⟨mb, 0, none⟩) n n, .slice none 0 0] 279))
  generalize (y1.alloc (.cells #[.slice (some ⟨mb, 0, none⟩) n n, .slice none 0 0] 279)) = y4 at *
  generalize y1.heap.size = Bc at *
  refine Calls.mono (HR1.out _ _ _ HC0.out) ?_
  rintro e y5 ⟨v', zs', rfl, hdd, hcr, hfr⟩
  have hBl := HC0.out.lt
  have HX5 : Hid (TwoBx w y5 #[.int .i64 S, .int .i64 D, .int .i64 a, .int .i64 u, .int .i64 t, .int .i64 g] 24 #[.int .i64 0, .slice none 0 0] 150) := ⟨hfr.bel HXA.out.bel (by omega), (hfr.low (by omega) hBl).trans HXA.out.b1, (hfr.low glt hBl).trans HXA.out.b2⟩
  have HC5 : Hid _ := hcr
  obtain ⟨c0, c1, cf⟩ := hcr.cel
  obtain ⟨ao, cap, hv⟩ := bu_sl hcr.row
  subst hv
  have lt5 := hcr.lt
  have HLT : Hid (w.heap.size + 1 < Bc) := glt
  clear hcr hfr HXA HX1 HC0 k0 k1 glt gl0 hBl HR1 HHS
  have r0 := HX5.out.c2 0 _ rfl
  have r1 := HX5.out.c2 1 _ rfl
  have rf := fun k => HX5.out.f2 k
  have glt := HX5.out.lt
  by_cases hgc : gc = 0
  · subst hgc
    rw [if_pos rfl] at HRE
    subst RE
    obtain rfl := hdd rfl
    have hnb : (Value.slice ao zs'.length cap).ownBlock ≠ some (w.heap.size + 1) := fun e => by have h1 := (HC5.out.row.lt _ e).1; have h2 := HLT.out; omega
    clear hdd
    go_wp2_with fail
    refine bodyPost_ret (v := .agg #[.int .i64 0, .slice ao zs'.length cap]) ?_ rfl ⟨.slice ao zs'.length cap, rfl, ?_, ?_⟩
    · simp [results, Try.results217, go_sem, r0, r1]
    · exact own_set (own_set (bu_weak HC5.out.row (by have := HLT.out; omega)) hnb) hnb
    · exact (HX5.out.bel.setCell (by simp) _).setCell (by simp) _
  · rw [if_neg hgc] at HRE
    subst RE
    have hg2 : (gc != 0) = true := by simp [hgc]
    clear hgc hdd
    go_wp2_with fail
    refine bodyPost_ret (v := .agg #[.int .i64 gc, .slice none 0 0]) ?_ rfl ⟨.slice none 0 0, rfl, World.ownsRow_nil _ _ _ _, ?_⟩
    · simp [results, Try.results217, go_sem, r0, r1]
    · exact (HX5.out.bel.setCell (by simp) _).setCell (by simp) _
/-- What ReadChain answers. -/
def rcT (s : ByteArray) (q : QV) (hd : Int) : Int × List BU := if 65536 < s.size then (2, []) else if qOk s q = true then rcH s q hd else (1, [])
/-- What both sides answer. -/
def AnsC (f : Nat) (s : ByteArray) (q : QV) (hd : Int) (t : Int × List BU) : Prop := ∀ w : World, Calls Try.prog f #[.string s, qA q, .int .i64 hd] w fun e w' => ∃ v, e = .returned (chA t.1 v) ∧ w'.ownsRow w.heap.size 153 3 v t.2.length (buR t.2) ∧ Below w.heap.size w w'
end Go.Proofs.Ythhbfghbpapklab
