import Derived.Test.YtccapapkjikjjaaRc3
import Derived.Test.YtccapapkjikjjaaGc1
import Derived.Deep.RegionHeld3
namespace Go.Proofs.Ytccapapkjikjjaa
open Go.ChangeShapes Go.WideShapes Go.ChangeAt Go.RowKit

theorem FrT.bel {w u v : World} {Bc : Nat} (hf : FrT u v Bc) (h : Below w.heap.size w u) (hb : w.heap.size ≤ Bc) : Below w.heap.size w v :=
  ⟨hf.os.trans h.os, hf.tape.trans h.tape, hf.output.trans h.output, Nat.le_trans h.size hf.size, fun k hk => (hf.block k (Nat.lt_of_lt_of_le hk h.size) (by omega) (.inl (by omega))).trans (h.block k hk)⟩
theorem FrT.low {u v : World} {Bc k : Nat} (hf : FrT u v Bc) (hk : k < Bc) (hl : Bc < u.heap.size) : v.heap[k]? = u.heap[k]? := hf.block k (by omega) (by omega) (.inl hk)
/-- A chain of a queue, if there is such a number. -/
def rcH (s : ByteArray) (q : QV) (hd : Int) : Int × List BU := if hsB q.size hd = true then (if (rcR s q.desc.toNat q.size.toNat hd.toNat).1 = 0 then (0, (rcR s q.desc.toNat q.size.toNat hd.toNat).2) else ((rcR s q.desc.toNat q.size.toNat hd.toNat).1, [])) else (1, [])
def chA (c : Int) (v : Value) : Value := .agg #[.int .i64 c, v]
set_option maxRecDepth 100000 in
set_option maxHeartbeats 4000000 in
theorem readChain_any {w : World} {mb n : Nat} {s : ByteArray} (S D : Nat) (a u t g hd : Int) (h : MemAt w mb s) (hn : s.size = n * 256) (hs : s.size ≤ 65536) (hS : S ≤ 16) (hD4 : D % 4 = 0) (hD : D + S * 16 ≤ s.size) :
    Calls Try.prog 63 #[mv mb n, qA ⟨S, D, a, u, t, g⟩, .int .i64 hd] w fun e w' => ∃ v, e = .returned (chA (rcH s ⟨S, D, a, u, t, g⟩ hd).1 v) ∧ w'.ownsRow w.heap.size 107 3 v (rcH s ⟨S, D, a, u, t, g⟩ hd).2.length (buR (rcH s ⟨S, D, a, u, t, g⟩ hd).2) ∧ Below w.heap.size w w' := by
  have HHS : Hid _ := fun x => has_any ⟨S, D, a, u, t, g⟩ hd x
  have HX : Hid (∀ x, Below ((w.alloc (.cells #[.int .i64 S, .int .i64 D, .int .i64 a, .int .i64 u, .int .i64 t, .int .i64 g] 54)).alloc (.cells #[.int .i64 0, .slice none 0 0] 52)).heap.size ((w.alloc (.cells #[.int .i64 S, .int .i64 D, .int .i64 a, .int .i64 u, .int .i64 t, .int .i64 g] 54)).alloc (.cells #[.int .i64 0, .slice none 0 0] 52)) x → TwoBx w x #[.int .i64 S, .int .i64 D, .int .i64 a, .int .i64 u, .int .i64 t, .int .i64 g] 54 #[.int .i64 0, .slice none 0 0] 52) := fun x h => TwoBx.of _ _ _ _ _ h
  have HM : Hid (∀ x, Below w.heap.size w x → MemAt x mb s) := fun x hx => h.below hx h.lt
  have hlt := h.lt
  have HRE : Hid (rcH s ⟨S, D, a, u, t, g⟩ hd = if hsB S hd = true then (if (rcR s D S hd.toNat).1 = 0 then (0, (rcR s D S hd.toNat).2) else ((rcR s D S hd.toNat).1, [])) else (1, [])) := by show _ = _; unfold rcH; simp
  have HHB : Hid (hsB S hd = true → 0 ≤ hd ∧ hd ≤ 16) := fun h => by unfold hsB at h; simp at h; omega
  have HRC : Hid (∀ (x : World) (Bc : Nat) (v : Value) (k : Nat), k ≤ 4294967295 → CR x Bc mb n v [] s → Calls Try.prog 88 #[.pointer (some ⟨Bc, 0, none⟩), .agg #[.int .i64 D, .int .i64 S, .bool false], .int .i64 k] x fun e w' => ∃ v' zs, e = .returned (.int .i64 (rcR s D S k).1) ∧ ((rcR s D S k).1 = 0 → zs = (rcR s D S k).2) ∧ CR w' Bc mb n v' zs s ∧ FrT x w' Bc) := fun x Bc v k hk hc => crRead_any hc D S k hn hs hS hD4 hD hk
  clear h hn hs hS hD4 hD
  unfold qA at HHS ⊢
  unfold mv chA
  simp only at HHS ⊢
  generalize rcH s ⟨S, D, a, u, t, g⟩ hd = RE at *
  cases hh : hsB S hd
  · rw [hh] at HHS HRE
    rw [if_neg (by simp)] at HRE
    subst RE
    clear HRC HHB hh
    go_enter Try.func63, Try.ntmps63
    go_wp2_with (go_at_call 74; refine Calls.mono (HHS.out _) ?_; rintro e y1 ⟨rfl, hu⟩; have HX1 : Hid _ := HX.out _ hu; clear hu HX; have r0 := HX1.out.c2 0 _ rfl; have r1 := HX1.out.c2 1 _ rfl; have rf := fun k => HX1.out.f2 k; have glt := HX1.out.lt)
    refine bodyPost_ret (v := .agg #[.int .i64 1, .slice none 0 0]) ?_ rfl ⟨.slice none 0 0, rfl, World.ownsRow_nil _ _ _ _, ?_⟩
    · simp [results, Try.results63, go_sem, r0, r1]
    · exact (HX1.out.bel.setCell (by simp) _).setCell (by simp) _
  rw [hh] at HHS HRE
  rw [if_pos rfl] at HRE
  obtain ⟨hd0, hd1⟩ := HHB.out hh
  obtain ⟨k, rfl⟩ := Int.eq_ofNat_of_zero_le hd0
  have HR1 : Hid _ := fun (x : World) (Bc : Nat) (v : Value) (hc : CR x Bc mb n v [] s) => HRC.out x Bc v k (by omega) hc
  rw [Int.toNat_natCast] at HRE
  clear HRC HHB hh
  generalize rcR s D S k = GG at *
  obtain ⟨gc, gz⟩ := GG
  simp only at HR1 HRE
  go_enter Try.func63, Try.ntmps63
  go_wp2_with (go_at_call 74; refine Calls.mono (HHS.out _) ?_; rintro e y1 ⟨rfl, hu⟩; have HX1 : Hid _ := HX.out _ hu; clear hu HX; have k0 := HX1.out.c1 0 _ rfl; have k1 := HX1.out.c1 1 _ rfl; have glt := HX1.out.lt; have gl0 : w.heap.size < y1.heap.size := by omega)
  have HC0 : Hid (CR (y1.alloc (.cells #[.slice (some ⟨mb, 0, none⟩) n n, .slice none 0 0] 145)) y1.heap.size mb n (.slice none 0 0) [] s) := ⟨heap_new _ _, World.ownsRow_nil _ _ _ _, (HM.out y1 HX1.out.bel).below (bx1 _ _) (HM.out y1 HX1.out.bel).lt⟩
  have HXA : Hid _ := HX1.out.step (bx1 y1 (.cells #[.slice (some ⟨mb, 0, none⟩) n n, .slice none 0 0] 145))
  generalize (y1.alloc (.cells #[.slice (some ⟨mb, 0, none⟩) n n, .slice none 0 0] 145)) = y4 at *
  generalize y1.heap.size = Bc at *
  refine Calls.mono (HR1.out _ _ _ HC0.out) ?_
  rintro e y5 ⟨v', zs', rfl, hdd, hcr, hfr⟩
  have hBl := HC0.out.lt
  have HX5 : Hid (TwoBx w y5 #[.int .i64 S, .int .i64 D, .int .i64 a, .int .i64 u, .int .i64 t, .int .i64 g] 54 #[.int .i64 0, .slice none 0 0] 52) := ⟨hfr.bel HXA.out.bel (by omega), (hfr.low (by omega) hBl).trans HXA.out.b1, (hfr.low glt hBl).trans HXA.out.b2⟩
  have HC5 : Hid _ := hcr
  obtain ⟨c0, c1, cf⟩ := hcr.cel
  obtain ⟨ao, cap, hv⟩ := bu_sl hcr.row
  subst hv
  have lt5 := hcr.lt
  have HLT : Hid (w.heap.size + 1 < Bc) := glt
  clear hcr hfr HXA HX1 HC0 k0 k1 glt gl0 hBl HR1 HHS
  have r0 := HX5.out.c2 0 _ rfl
  have r1 := HX5.out.c2 1 _ rfl
  have rf := fun k => HX5.out.f2 k
  have glt := HX5.out.lt
  by_cases hgc : gc = 0
  · subst hgc
    rw [if_pos rfl] at HRE
    subst RE
    obtain rfl := hdd rfl
    have hnb : (Value.slice ao zs'.length cap).ownBlock ≠ some (w.heap.size + 1) := fun e => by have h1 := (HC5.out.row.lt _ e).1; have h2 := HLT.out; omega
    clear hdd
    go_wp2_with fail
    refine bodyPost_ret (v := .agg #[.int .i64 0, .slice ao zs'.length cap]) ?_ rfl ⟨.slice ao zs'.length cap, rfl, ?_, ?_⟩
    · simp [results, Try.results63, go_sem, r0, r1]
    · exact own_set (own_set (bu_weak HC5.out.row (by have := HLT.out; omega)) hnb) hnb
    · exact (HX5.out.bel.setCell (by simp) _).setCell (by simp) _
  · rw [if_neg hgc] at HRE
    subst RE
    have hg2 : (gc != 0) = true := by simp [hgc]
    clear hgc hdd
    go_wp2_with fail
    refine bodyPost_ret (v := .agg #[.int .i64 gc, .slice none 0 0]) ?_ rfl ⟨.slice none 0 0, rfl, World.ownsRow_nil _ _ _ _, ?_⟩
    · simp [results, Try.results63, go_sem, r0, r1]
    · exact (HX5.out.bel.setCell (by simp) _).setCell (by simp) _
/-- What ReadChain answers. -/
def rcT (s : ByteArray) (q : QV) (hd : Int) : Int × List BU := if 65536 < s.size then (2, []) else if qOk s q = true then rcH s q hd else (1, [])
/-- What both sides answer. -/
def AnsC (f : Nat) (s : ByteArray) (q : QV) (hd : Int) (t : Int × List BU) : Prop := ∀ w : World, Calls Try.prog f #[.string s, qA q, .int .i64 hd] w fun e w' => ∃ v, e = .returned (chA t.1 v) ∧ w'.ownsRow w.heap.size 107 3 v t.2.length (buR t.2) ∧ Below w.heap.size w w'
set_option maxRecDepth 100000 in
set_option maxHeartbeats 4000000 in
theorem implRC_code (s : ByteArray) (q : QV) (hd C : Int) (hs : s.size ≤ 1048576) (hc : qkC s q = C) (hn : (C != 0) = true) : AnsC 23 s q hd (C, []) := by
  intro w
  have HC : Hid _ := fun u => queueCode_any s q u hs
  rw [hc] at HC
  clear hc hs
  obtain ⟨a1, a2, a3, a4, a5, a6⟩ := q
  unfold qA at HC ⊢
  simp only
  go_enter Try.func23, Try.ntmps23
  go_wp2_with (go_at_call 62; refine Calls.mono (HC.out _) ?_; rintro e u1 ⟨rfl, hu1⟩; have HX1 : Hid _ := TwoBx.of _ _ _ _ _ hu1; clear hu1; have g0 := HX1.out.c2 0 _ rfl; have g1 := HX1.out.c2 1 _ rfl; have gf := fun k => HX1.out.f2 k)
  refine bodyPost_ret (v := .agg #[.int .i64 C, .slice none 0 0]) ?_ rfl ⟨.slice none 0 0, rfl, World.ownsRow_nil _ _ _ _, ?_⟩
  · simp [results, Try.results23, go_sem, g0, g1]
  · exact (HX1.out.bel.setCell (by simp) _).setCell (by simp) _
set_option maxRecDepth 100000 in
set_option maxHeartbeats 4000000 in
theorem implRC_good (s : ByteArray) (S D : Nat) (a u t g hd : Int) (hp : qOk s ⟨S, D, a, u, t, g⟩ = true) : AnsC 23 s ⟨S, D, a, u, t, g⟩ hd (rcH s ⟨S, D, a, u, t, g⟩ hd) := by
  intro w
  obtain ⟨hm, hz, _, _, ⟨b1, b2, b3⟩, _⟩ := qOk_b hp
  obtain ⟨m1, m2, m3⟩ := memOk_b hm
  simp only at hz b1 b2 b3
  have hS : S ≤ 16 := by unfold szB at hz; simp at hz; omega
  obtain ⟨n, hN⟩ : ∃ n, s.size = n * 256 := ⟨s.size / 256, by omega⟩
  have hn256 : n ≤ 256 := by omega
  have hc : qkC s ⟨S, D, a, u, t, g⟩ = 0 := by
    unfold qkC
    rw [if_neg (show ¬ 65536 < s.size by omega)]
    exact qF_ok hp
  have HC : Hid _ := fun x => queueCode_any s ⟨S, D, a, u, t, g⟩ x (by omega)
  rw [hc] at HC
  have HR : Hid _ := fun x => readMemory_any s n x hN hn256
  have HT : Hid _ := fun (x : World) (mb : Nat) (h : MemAt x mb s) => readChain_any S D a u t g hd h hN m2 hS (by omega) (by omega)
  generalize rcH s ⟨S, D, a, u, t, g⟩ hd = TT at *
  obtain ⟨tc, tz⟩ := TT
  clear hp hm hz b1 b2 b3 m1 m2 m3 hN hn256 hc hS
  unfold qA at HC HT ⊢
  unfold mv at HR HT
  unfold chA at HT ⊢
  simp only at HC HT ⊢
  go_enter Try.func23, Try.ntmps23
  go_wp2_with (go_at_call 62; refine Calls.mono (HC.out _) ?_; rintro e y1 ⟨rfl, hu1⟩; have HX1 : Hid _ := TwoBx.of _ _ _ _ _ hu1; clear hu1)
  have k0 := HX1.out.c1 0 _ rfl
  have k1 := HX1.out.c1 1 _ rfl
  have k2 := HX1.out.c1 2 _ rfl
  have k3 := HX1.out.c1 3 _ rfl
  have k4 := HX1.out.c1 4 _ rfl
  have k5 := HX1.out.c1 5 _ rfl
  go_region_held3 (fun w' => w'.cell? ⟨w.heap.size, 0, none⟩ = some (.int .i64 S) ∧ w'.cell? ⟨w.heap.size, 1, none⟩ = some (.int .i64 D) ∧ w'.cell? ⟨w.heap.size, 2, none⟩ = some (.int .i64 a) ∧ w'.cell? ⟨w.heap.size, 3, none⟩ = some (.int .i64 u) ∧ w'.cell? ⟨w.heap.size, 4, none⟩ = some (.int .i64 t) ∧ w'.cell? ⟨w.heap.size, 5, none⟩ = some (.int .i64 g)) (go_keep) ((first
    | (go_at_call 64; refine Calls.mono (HR.out _) ?_; rintro e y2 ⟨rfl, hM, hu, _⟩; have hb : Below y1.heap.size y1 y2 := ⟨hu.os, hu.tape, hu.output, hu.size, hu.block⟩; have HX2 : Hid _ := HX1.out.step hb; have HM2 : Hid (MemAt y2 y1.heap.size s) := hM; clear hu hb hM k0 k1 k2 k3 k4 k5; have k0 := HX2.out.c1 0 _ rfl; have k1 := HX2.out.c1 1 _ rfl; have k2 := HX2.out.c1 2 _ rfl; have k3 := HX2.out.c1 3 _ rfl; have k4 := HX2.out.c1 4 _ rfl; have k5 := HX2.out.c1 5 _ rfl)
    | (go_at_call 63; refine Calls.mono (HT.out _ _ HM2.out) ?_; rintro e y3 ⟨v, rfl, ho, hu⟩; obtain ⟨ao, cap, rfl⟩ := bu_sl ho; have HX3 : Hid _ := HX2.out.step hu; have HO3 : Hid (y3.ownsRow y2.heap.size 107 3 (.slice ao tz.length cap) tz.length (buR tz)) := ho; clear ho hu k0 k1 k2 k3 k4 k5; have k0 := HX3.out.c1 0 _ rfl; have k1 := HX3.out.c1 1 _ rfl; have k2 := HX3.out.c1 2 _ rfl; have k3 := HX3.out.c1 3 _ rfl; have k4 := HX3.out.c1 4 _ rfl; have k5 := HX3.out.c1 5 _ rfl; have r0 := HX3.out.c2 0 _ rfl; have r1 := HX3.out.c2 1 _ rfl; have rf := fun k => HX3.out.f2 k; have glt := HX3.out.lt)))
  have l2 := HX2.out.lt
  have hnb : (Value.slice ao tz.length cap).ownBlock ≠ some (w.heap.size + 1) := fun e => by have h1 := (HO3.out.lt _ e).1; omega
  all_goals
    go_wp2_with fail
    refine bodyPost_ret (v := .agg #[.int .i64 tc, .slice ao tz.length cap]) ?_ rfl ⟨.slice ao tz.length cap, rfl, ?_, ?_⟩
    · simp [results, Try.results23, go_sem, r0, r1]
    · exact own_set (own_set (bu_weak HO3.out (by omega)) hnb) hnb
    · exact (HX3.out.bel.setCell (by simp) _).setCell (by simp) _
theorem implRC_any (s : ByteArray) (q : QV) (hd : Int) (hs : s.size ≤ 1048576) : AnsC 23 s q hd (rcT s q hd) := by
  unfold rcT
  by_cases h : 65536 < s.size
  · rw [if_pos h]
    exact implRC_code s q hd 2 hs (by unfold qkC; rw [if_pos h]) rfl
  rw [if_neg h]
  cases hp : qOk s q
  · exact implRC_code s q hd 1 hs (by unfold qkC; rw [if_neg h]; exact qF_no hp) rfl
  · obtain ⟨sz, ds, a, u, t, g⟩ := q
    obtain ⟨hm, hz, _, _, ⟨b1, b2, b3⟩, _⟩ := qOk_b hp
    simp only at hz b1 b2 b3
    obtain ⟨S, rfl⟩ := Int.eq_ofNat_of_zero_le (show 0 ≤ sz by unfold szB at hz; simp at hz; omega)
    obtain ⟨D, rfl⟩ := Int.eq_ofNat_of_zero_le b2
    exact implRC_good s S D a u t g hd hp
end Go.Proofs.Ytccapapkjikjjaa
