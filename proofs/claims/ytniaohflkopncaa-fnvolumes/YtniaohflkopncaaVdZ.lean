import Derived.Test.YtniaohflkopncaaVd0
import Derived.Test.YtniaohflkopncaaAd4
import Derived.Test.YtniaohflkopncaaVm3
import Derived.Test.YtniaohflkopncaaFqZ
import Derived.Test.YtniaohflkopncaaHl
import Derived.Deep.DeepCutAuto
import Derived.Test.YtniaohflkopncaaTB
import Derived.Test.YtniaohflkopncaaAd2
import Derived.Test.YtniaohflkopncaaOv2
import Derived.Test.YtniaohflkopncaaDp2
namespace Go.Proofs.Ytniaohflkopncaa
open Go.ChangeShapes Go.WideShapes Go.ChangeAt Go.RowKit

theorem blk_s8 {u : World} {b : Nat} {cs : Array Value} {t : TypeId} {z : Nat × Nat} (h : u.heap[b]? = some (.cells cs t z)) (o : Nat) (v : Value) : (u.setCell ⟨b, o, none⟩ v).heap[b]? = some (.cells (cs.setIfInBounds o v) t z) := by
  simp [World.setCell, Array.getElem?_modify, h]
theorem gset8 (w : World) (b o : Nat) (v : Value) : w.grownBy (w.setCell ⟨b, o, none⟩ v) (some b) := ⟨rfl, rfl, rfl, by simp [World.setCell], fun k _ hn => Below.heap_setCell _ _ _ _ (fun e => hn (congrArg some e))⟩
theorem str_draw9 {u u2 : World} {b t : Nat} {C : List ByteArray} (hb : b < u.heap.size) (hg : (u.alloc (.cells (C.map Value.string).toArray t)).grownBy u2 (some b)) (Q : Nat) (hQ : Q < C.length) (hin : ∀ x ∈ C, x.size ≤ 4096) : ∃ y : ByteArray, u2.cell? ⟨u.heap.size, Q, none⟩ = some (.string y) ∧ y.size ≤ 4096 := by
  have h1 : u2.heap[u.heap.size]? = some (.cells (C.map Value.string).toArray t (0, 0)) := (hg.block _ (by simp) (by simp; omega)).trans (MapKept.heap_alloc u _).1
  refine ⟨C[Q], ?_, hin _ (List.getElem_mem hQ)⟩
  simp [World.cell?, h1, List.getElem?_map, List.getElem?_eq_getElem hQ]
def P5 : List ByteArray := [⟨#[111, 110, 101]⟩, ⟨#[116, 119, 111]⟩, ⟨#[116, 104, 114, 101, 101]⟩, ⟨#[110, 111]⟩, ⟨#[]⟩]
set_option maxRecDepth 100000 in
set_option maxHeartbeats 2000000 in
theorem src_pass (b : Nat) (a : Option Addr) (len cap : Nat) (w : World) (h : SrcOk w b a len cap) :
    Calls Try.prog 22 #[.pointer (some ⟨b, 0, none⟩)] w fun e w' => ∃ s : ByteArray, e = .returned (.string s) ∧ s.size ≤ 4097 ∧ SrcOk w' b a len cap ∧ w.grownBy w' (some b) := by
  go_enter Try.func22, Try.ntmps22
  go_wp2_with fail
  refine (src_one b a len cap 30 w h (by omega)).mono ?_
  rintro e w3 ⟨o3, rfl, hs3, hg3⟩
  have G3 : Hid (w.grownBy w3 (some b)) := hg3
  clear hg3 h
  cases o3
  · have HBW : Hid (b < w3.heap.size) := hs3.lt
    have HS5 : Hid (SrcOk (w3.alloc (.cells (P5.map Value.string).toArray 9)) b a len cap) := src_own (r := none) hs3 (World.grownBy_alloc w3 _ _) (fun k hk => by cases hk)
    have HG5 : Hid (w.grownBy (w3.alloc (.cells (P5.map Value.string).toArray 9)) (some b)) := Lib.grownBy_trans G3.out (World.grownBy_alloc w3 _ _)
    have HIN : Hid (∀ x ∈ P5, x.size ≤ 4096) := (show ∀ x ∈ P5, x.size ≤ 4096 by decide)
    clear hs3 G3
    go_wp2_with fail
    refine (src_n b a len cap 5 _ HS5.out (by omega)).mono ?_
    rintro e w5 ⟨r5, rfl, p5, q5, hs5, hg5⟩
    obtain ⟨R5, rfl⟩ := Int.eq_ofNat_of_zero_le p5
    have hR5 : R5 < 5 := by omega
    obtain ⟨y, y1, y2⟩ := str_draw9 HBW.out hg5 R5 (by simpa [P5] using hR5) HIN.out
    have HS8 : Hid (SrcOk w5 b a len cap) := hs5
    have HG8 : Hid (w.grownBy w5 (some b)) := Lib.grownBy_trans HG5.out hg5
    clear hs5 hg5 HS5 HG5 HIN p5 q5
    go_wp2
    go_ret
    exact ⟨y, rfl, by omega, HS8.out, HG8.out⟩
  · go_wp2_with fail
    refine (src_n b a len cap 2 w3 hs3 (by omega)).mono ?_
    rintro e w5 ⟨r5, rfl, p5, q5, hs5, hg5⟩
    obtain ⟨R5, rfl⟩ := Int.eq_ofNat_of_zero_le p5
    have hR5 : R5 < 2 := by omega
    clear p5 q5
    go_wp2_with fail
    rw [show (4096 + (R5 : Int)) = ((4096 + R5 : Nat) : Int) from by omega]
    refine (src_zeros _ (4096 + R5) w5 (by omega)).mono ?_
    rintro e w6 ⟨rfl, hg6⟩
    have hz6 := zsz (4096 + R5)
    generalize (⟨(zer (4096 + R5)).toArray⟩ : ByteArray) = z6 at *
    have HZ6 : z6.size ≤ 4097 := by omega
    clear hz6
    go_wp2
    go_ret
    exact ⟨_, rfl, HZ6, hs5.far hg6, gnone (Lib.grownBy_trans G3.out hg5) hg6⟩
/-- A source, and a volume in its box behind it. -/
structure VX (w u : World) (b : Nat) (a : Option Addr) (len cap : Nat) (R B : Nat) (sv : Value) (zs : List KS) (m p c : ByteArray) : Prop where
  src : SrcOk u b a len cap
  gr : w.grownBy u (some b)
  rb : u.heap[R]? = some (.cells #[.slice none 0 0, .string ⟨#[]⟩] 27 (0, 0))
  box : u.heap[B]? = some (.cells #[sv, .string c] 27 (0, 0))
  row : u.ownsRow w.heap.size 70 3 sv zs.length (ksR zs)
  lb : b < w.heap.size
  ge : w.heap.size ≤ R
  ge2 : R < B
  nr : sv.ownBlock ≠ some R
  nb : sv.ownBlock ≠ some B
  vg : VG zs m p c
theorem own_g {u u' : World} {B b n : Nat} {v : Value} {xs : List Value} (h : u.ownsRow B 70 3 v n xs) (hb : b < B) (hg : u.grownBy u' (some b)) : u'.ownsRow B 70 3 v n xs := by
  refine h.kept hg ?_
  cases ho : v.ownBlock with
  | none => exact .inl rfl
  | some q => exact .inr (by have := h.lt q ho; simp; omega)
theorem own_n {u u' : World} {B n : Nat} {v : Value} {xs : List Value} (h : u.ownsRow B 70 3 v n xs) {r : Option Nat} (hg : u.grownBy u' r) (hr : v.ownBlock ≠ r ∨ v.ownBlock = none) : u'.ownsRow B 70 3 v n xs := h.kept hg hr.symm
theorem own_w {u : World} {B B' n : Nat} {v : Value} {xs : List Value} (h : u.ownsRow B 70 3 v n xs) (hb : B' ≤ B) : u.ownsRow B' 70 3 v n xs := by
  obtain ⟨h1, h2 | ⟨g, cap, cur, q1, q2, q3⟩⟩ := h
  · exact ⟨h1, .inl h2⟩
  · exact ⟨h1, .inr ⟨g, cap, cur, q1, Nat.le_trans hb q2, q3⟩⟩
theorem VX.lt {w u : World} {b : Nat} {a : Option Addr} {len cap R B : Nat} {sv : Value} {zs : List KS} {m p c : ByteArray} (h : VX w u b a len cap R B sv zs m p c) : B < u.heap.size := (Array.getElem?_eq_some_iff.1 h.box).1
theorem VX.ltr {w u : World} {b : Nat} {a : Option Addr} {len cap R B : Nat} {sv : Value} {zs : List KS} {m p c : ByteArray} (h : VX w u b a len cap R B sv zs m p c) : R < u.heap.size := (Array.getElem?_eq_some_iff.1 h.rb).1
theorem VX.grow {w u u' : World} {b : Nat} {a : Option Addr} {len cap R B : Nat} {sv : Value} {zs : List KS} {m p c : ByteArray} (h : VX w u b a len cap R B sv zs m p c) (hs : SrcOk u' b a len cap) (hg : u.grownBy u' (some b)) : VX w u' b a len cap R B sv zs m p c :=
  ⟨hs, Lib.grownBy_trans h.gr hg, (hg.block _ h.ltr (by have := h.lb; have := h.ge; simp; omega)).trans h.rb, (hg.block _ h.lt (by have := h.lb; have := h.ge; have := h.ge2; simp; omega)).trans h.box, own_g h.row h.lb hg, h.lb, h.ge, h.ge2, h.nr, h.nb, h.vg⟩
theorem grn {u u' : World} (hb : Below u.heap.size u u') : u.grownBy u' none := ⟨hb.os, hb.tape, hb.output, hb.size, fun k hk _ => hb.block k hk⟩
theorem VX.step {w u u' : World} {b : Nat} {a : Option Addr} {len cap R B : Nat} {sv : Value} {zs : List KS} {m p c : ByteArray} (h : VX w u b a len cap R B sv zs m p c) (hb : Below u.heap.size u u') : VX w u' b a len cap R B sv zs m p c :=
  ⟨h.src.far (grn hb), gnone h.gr (grn hb), (hb.block _ h.ltr).trans h.rb, (hb.block _ h.lt).trans h.box, own_n h.row (grn hb) (by
    rcases hq : sv.ownBlock with _ | k
    · exact .inr rfl
    · exact .inl (by simp)), h.lb, h.ge, h.ge2, h.nr, h.nb, h.vg⟩
theorem blk2 {u : World} {B t : Nat} {c0 c1 : Value} (h : u.heap[B]? = some (.cells #[c0, c1] t (0, 0))) (d0 d1 : Value) : ((u.setCell ⟨B, 0, none⟩ d0).setCell ⟨B, 1, none⟩ d1).heap[B]? = some (.cells #[d0, d1] t (0, 0)) := blk_s8 (blk_s8 h 0 d0) 1 d1
theorem gset2 (w : World) (b : Nat) (d0 d1 : Value) : w.grownBy ((w.setCell ⟨b, 0, none⟩ d0).setCell ⟨b, 1, none⟩ d1) (some b) := Lib.grownBy_trans (gset8 w b 0 d0) (gset8 _ b 1 d1)
theorem VX.put {w u : World} {b : Nat} {a : Option Addr} {len cap R B : Nat} {sv : Value} {zs : List KS} {m p c : ByteArray} (h : VX w u b a len cap R B sv zs m p c) {sv2 : Value} {zs2 : List KS} {B2 : Nat} (ho : u.ownsRow B2 70 3 sv2 zs2.length (ksR zs2)) (hB : B < B2) (hv : VG zs2 m p c) :
    VX w ((u.setCell ⟨B, 0, none⟩ sv2).setCell ⟨B, 1, none⟩ (.string c)) b a len cap R B sv2 zs2 m p c := by
  have g := gset2 u B sv2 (.string c)
  have l1 := h.lb
  have l2 := h.ge
  have l3 := h.ge2
  have nB : sv2.ownBlock ≠ some B := fun e => by have := (ho.lt _ e).1; omega
  have nR : sv2.ownBlock ≠ some R := fun e => by have := (ho.lt _ e).1; omega
  exact ⟨src_own h.src g (fun k hk => by cases hk; omega), gfar h.gr g (fun k hk => by cases hk; omega), (g.block _ h.ltr (by simp; omega)).trans h.rb, blk2 h.box _ _, own_w (own_n ho g (.inl nB)) (by omega), h.lb, h.ge, h.ge2, nR, nB, hv⟩
theorem VX.cel {w u : World} {b : Nat} {a : Option Addr} {len cap R B : Nat} {sv : Value} {zs : List KS} {m p c : ByteArray} (h : VX w u b a len cap R B sv zs m p c) : u.cell? ⟨B, 0, none⟩ = some sv ∧ u.cell? ⟨B, 1, none⟩ = some (.string c) ∧ u.frozen? ⟨B, 0, none⟩ = false ∧ u.frozen? ⟨B, 1, none⟩ = false := by
  refine ⟨?_, ?_, ?_, ?_⟩ <;> simp [World.cell?, World.frozen?, h.box]
theorem VX.celr {w u : World} {b : Nat} {a : Option Addr} {len cap R B : Nat} {sv : Value} {zs : List KS} {m p c : ByteArray} (h : VX w u b a len cap R B sv zs m p c) : u.cell? ⟨R, 0, none⟩ = some (.slice none 0 0) ∧ u.cell? ⟨R, 1, none⟩ = some (.string ⟨#[]⟩) ∧ u.frozen? ⟨R, 0, none⟩ = false ∧ u.frozen? ⟨R, 1, none⟩ = false := by
  refine ⟨?_, ?_, ?_, ?_⟩ <;> simp [World.cell?, World.frozen?, h.rb]

def M0 : ByteArray := ⟨#[48, 49, 50, 51, 52, 53, 54, 55, 56, 57, 97, 98, 99, 100, 101, 102]⟩
def P1 : ByteArray := ⟨#[111, 110, 101]⟩
theorem isW_of {n : Int} (h0 : 0 ≤ n) (h1 : n ≤ 100) : isW n = true := by
  simp [isW]
  omega
theorem mk_any9 (r : Int) (h0 : 0 ≤ r) (h1 : r ≤ 100) : mkR M0 P1 r = ⟨0, [slV M0 P1 r], tgoV M0 ⟨#[]⟩⟩ ∧ VG [slV M0 P1 r] M0 P1 (tgoV M0 ⟨#[]⟩) := by
  have hv : MV M0 P1 r := ⟨by decide, by decide, isW_of h0 h1⟩
  refine ⟨?_, hv.vg⟩
  unfold mkR
  rw [if_neg (by decide), if_neg]
  rw [hv.ws]
  decide
/-- What adding a pass to a volume of the draws answers. -/
theorem add_any9 {u : World} {B : Nat} {sv : Value} {zs : List KS} {c : ByteArray} (ho : u.ownsRow B 70 3 sv zs.length (ksR zs)) (hv : VG zs M0 P1 c) (q : ByteArray) (st : Int) (hq : q.size ≤ 4096) (hs : isW st = true) :
    Calls Try.prog 99 #[.agg #[sv, .string c], .string P1, .string q, .int .i64 st] u fun e w' => ∃ (sv2 : Value) (x : VR), e = .returned (.agg #[.int .i64 x.code, sv2, .string x.check]) ∧ w'.ownsRow u.heap.size 70 3 sv2 x.zs.length (ksR x.zs) ∧ Below u.heap.size u w' ∧ (zs.length < 4 → x.code = 0) ∧ (x.code = 0 → x.check = c ∧ x.zs.length = zs.length + 1 ∧ VG x.zs M0 P1 c) := by
  refine (specAdd_any (KSrow.of ho) c P1 q st).mono ?_
  rintro e w' ⟨sv2, rfl, h1, h2⟩
  refine ⟨sv2, _, rfl, h1, h2, ?_, ?_⟩
  · rw [hv.ad hq hs]
    intro h4
    rw [if_neg (by simp; omega)]
  · rw [hv.ad hq hs]
    cases h4 : ((zs.length : Int) == 4)
    · intro _
      rw [if_neg (by simp)]
      exact ⟨rfl, by simp, hv.more hq hs h4⟩
    · intro h0
      rw [if_pos rfl] at h0
      exact absurd h0 (by decide)
set_option maxRecDepth 100000 in
set_option maxHeartbeats 4000000 in
theorem src_volume (b : Nat) (a : Option Addr) (len cap : Nat) (w : World) (h : SrcOk w b a len cap) :
    Calls Try.prog 58 #[.pointer (some ⟨b, 0, none⟩)] w fun e w' => ∃ (sv : Value) (zs : List KS) (c : ByteArray), e = .returned (.agg #[sv, .string c]) ∧ w'.ownsRow w.heap.size 70 3 sv zs.length (ksR zs) ∧ VG zs M0 P1 c ∧ SrcOk w' b a len cap ∧ w.grownBy w' (some b) := by
  have HLB : Hid (b < w.heap.size) := h.lt
  have HS0 : Hid (SrcOk (w.alloc (.cells #[.slice none 0 0, .string ⟨#[]⟩] 27)) b a len cap) := src_own (r := none) h (World.grownBy_alloc w _ _) (fun k hk => by cases hk)
  have HG0 : Hid (w.grownBy (w.alloc (.cells #[.slice none 0 0, .string ⟨#[]⟩] 27)) (some b)) := World.grownBy_alloc w _ _
  have HR0 : Hid ((w.alloc (.cells #[.slice none 0 0, .string ⟨#[]⟩] 27)).heap[w.heap.size]? = some (.cells #[.slice none 0 0, .string ⟨#[]⟩] 27 (0, 0))) := heap_new _ _
  have hfl : ∀ (w9 : World) (x y z : Value), Sem.run Try.prog (Instr.field 31 (.agg #[x, y, z]) 1) w9 = .ok (.agg #[y, z]) w9 := fun _ _ _ _ => by kernel_rfl
  have hP : (⟨#[111, 110, 101]⟩ : ByteArray) = P1 := rfl
  have hM : (⟨#[48, 49, 50, 51, 52, 53, 54, 55, 56, 57, 97, 98, 99, 100, 101, 102]⟩ : ByteArray) = M0 := rfl
  clear h
  go_enter Try.func58, Try.ntmps58
  go_wp2_with fail
  generalize (w.alloc (.cells #[.slice none 0 0, .string ⟨#[]⟩] 27)) = u0 at *
  refine (src_n b a len cap 9 u0 HS0.out (by omega)).mono ?_
  rintro e u1 ⟨r1, rfl, p1, q1, hs1, hg1⟩
  have hr9 : r1 ≤ 100 := by omega
  obtain ⟨em, hvg⟩ := mk_any9 r1 p1 hr9
  have HM : Hid (∀ u, Calls Try.prog 8 #[.string M0, .string P1, .int .i64 r1] u fun e w' => ∃ sv, e = .returned (.agg #[.int .i64 0, sv, .string (tgoV M0 ⟨#[]⟩)]) ∧ w'.ownsRow u.heap.size 70 3 sv [slV M0 P1 r1].length (ksR [slV M0 P1 r1]) ∧ Below u.heap.size u w') := fun u => by
    have h9 := specMake_any M0 P1 r1 u
    rw [em] at h9
    exact h9
  obtain ⟨c, hc⟩ : ∃ c, tgoV M0 ⟨#[]⟩ = c := ⟨_, rfl⟩
  obtain ⟨zs, hz⟩ : ∃ zs, [slV M0 P1 r1] = zs := ⟨_, rfl⟩
  have HLZ : Hid (zs.length < 3) := (show zs.length < 3 by rw [← hz]; simp)
  rw [hc, hz] at HM hvg
  have HVG : Hid (VG zs M0 P1 c) := hvg
  have HS1 : Hid (SrcOk u1 b a len cap) := hs1
  have HG1 : Hid (w.grownBy u1 (some b)) := Lib.grownBy_trans HG0.out hg1
  have HLR : Hid (w.heap.size < u0.heap.size) := (Array.getElem?_eq_some_iff.1 HR0.out).1
  have HR1 : Hid (u1.heap[w.heap.size]? = some (.cells #[.slice none 0 0, .string ⟨#[]⟩] 27 (0, 0))) := (hg1.block _ HLR.out (by have := HLB.out; simp; omega)).trans HR0.out
  have HLR1 : Hid (w.heap.size < u1.heap.size) := (Array.getElem?_eq_some_iff.1 HR1.out).1
  clear p1 q1 hs1 hg1 HS0 HG0 HR0 HLR hr9 em hvg hz hc
  go_wp2_with fail
  refine Calls.mono (HM.out u1) ?_
  rintro e u2 ⟨sv, rfl, ho, hb⟩
  obtain ⟨av, cv, rfl⟩ := ks_sl ho
  have HX : Hid (VX w (u2.alloc (.cells #[.slice av zs.length cv, .string c] 27)) b a len cap w.heap.size u2.heap.size (.slice av zs.length cv) zs M0 P1 c) := by
    have l1 := HLB.out
    have l2 := HLR1.out
    have l3 := hb.size
    refine ⟨src_own (r := none) (src_bel9 HS1.out hb) (World.grownBy_alloc _ _ _) (fun k hk => by cases hk), gnone (gnone HG1.out (grn hb)) (World.grownBy_alloc _ _ _), ?_, heap_new _ _, own_w (World.ownsRow.alloc ho _) (by omega), l1, Nat.le_refl _, by omega, ?_, ?_, HVG.out⟩
    · rw [(MapKept.heap_alloc u2 _).2 _ (by omega)]
      exact (hb.block _ l2).trans HR1.out
    · intro e
      have := (ho.lt _ e).1
      omega
    · intro e
      have := (ho.lt _ e).2
      omega
  clear ho hb HM HS1 HG1 HR1
  go_upto_region 2 with fail
  generalize (u2.alloc (.cells #[.slice av zs.length cv, .string c] 27)) = u3 at *
  generalize u2.heap.size = B at *
  have HL3 : Hid (zs.length < 3) := HLZ.out
  clear HVG HLZ HLR1
  go_upto_if 11 with (go_at_call 56; refine (src_one b a len cap 2 u3 HX.out.src (by omega)).mono ?_; rintro e u4 ⟨o4, rfl, hs4, hg4⟩; have HX4 : Hid (VX w u4 b a len cap w.heap.size B (.slice av zs.length cv) zs M0 P1 c) := HX.out.grow hs4 hg4; clear hs4 hg4 HX)
  go_cut [3] (fun s3 wc => ∃ (av : Option Addr) (cv : Nat) (zs : List KS), s3 = .pointer (some ⟨B, 0, none⟩) ∧ zs.length ≤ 3 ∧ VX w wc b a len cap w.heap.size B (.slice av zs.length cv) zs M0 P1 c)
  case first =>
    cases o4
    · go_wp2
      go_meet
      case rel => exact ⟨av, cv, zs, rfl, by have := HL3.out; omega, HX4.out⟩
    · go_upto_region 3 with fail
      have HLT : Hid (zs.length < 4) := (show zs.length < 4 by have := HL3.out; omega)
      have HAD : Hid (∀ (u : World) (st : Int), VX w u b a len cap w.heap.size B (.slice av zs.length cv) zs M0 P1 c → isW st = true → Calls Try.prog 99 #[.agg #[.slice av zs.length cv, .string c], .string P1, .string ⟨#[116, 119, 111]⟩, .int .i64 st] u fun e w' => ∃ (av2 : Option Addr) (cv2 : Nat) (zs2 : List KS), e = .returned (.agg #[.int .i64 0, .slice av2 zs2.length cv2, .string c]) ∧ zs2.length ≤ 3 ∧ B < u.heap.size ∧ w'.ownsRow u.heap.size 70 3 (.slice av2 zs2.length cv2) zs2.length (ksR zs2) ∧ VG zs2 M0 P1 c ∧ VX w w' b a len cap w.heap.size B (.slice av zs.length cv) zs M0 P1 c) := fun u st hx hw => by
        refine (add_any9 hx.row hx.vg ⟨#[116, 119, 111]⟩ st (by decide) hw).mono ?_
        rintro e w' ⟨sv2, x, rfl, h1, h2, h3, h4⟩
        obtain ⟨e1, e2, e3⟩ := h4 (h3 HLT.out)
        obtain ⟨av2, cv2, rfl⟩ := ks_sl h1
        refine ⟨av2, cv2, x.zs, ?_, ?_, hx.lt, h1, e3, hx.step h2⟩
        · rw [h3 HLT.out, e1]
        · have := HL3.out
          omega
      have HSN : Hid (∀ u : World, VX w u b a len cap w.heap.size B (.slice av zs.length cv) zs M0 P1 c → Calls Try.prog 21 #[.pointer (some ⟨b, 0, none⟩), .int .i64 9] u fun e w' => ∃ r : Int, e = .returned (.int .i64 r) ∧ isW r = true ∧ VX w w' b a len cap w.heap.size B (.slice av zs.length cv) zs M0 P1 c) := fun u hx => by
        refine (src_n b a len cap 9 u hx.src (by omega)).mono ?_
        rintro e w' ⟨r, rfl, r0, r1, hs, hg⟩
        exact ⟨r, rfl, isW_of r0 (by omega), hx.grow hs hg⟩
      have HXD : Hid (VX w u4.drew b a len cap w.heap.size B (.slice av zs.length cv) zs M0 P1 c) := HX4.out.step (Below.refl _ _).drew
      refine wp_region_held (S := fun _ => True) (by kernel_rfl) ?_
      change wpAnyH _ _ _ _ _ _ _ _ (World.drew _)
      refine wpAnyH_take (i := 1) (v := .pointer (some ⟨b, 0, none⟩)) rfl (by kernel_rfl) (by kernel_rfl) (by kernel_rfl) (fun _ _ _ h => h) (Or.inl ⟨by kernel_rfl, fun w9 h9 => ?_⟩) trivial ?_
      · go_simp
      refine wpAnyH_all (rs := [0, 2]) (by kernel_rfl) (by simp) (all_two (held_step rfl (by kernel_rfl) fun K hK => ?_) (held_step rfl (by kernel_rfl) fun K hK => ?_))
      · obtain ⟨k0, k1, _, _⟩ := HXD.out.cel
        have kl := HXD.out.lt
        go_simp
        refine hK _ _ trivial ?_
        clear hK K k0 k1 kl
        refine held_one 2 (by kernel_rfl) rfl (by kernel_rfl) fun K hK => ?_
        go_simp
        go_wp2_with (go_at_call 21; refine Calls.mono (HSN.out _ HXD.out) ?_; rintro e u5 ⟨r5, rfl, hr5, hx5⟩; have HX5 : Hid (VX w u5 b a len cap w.heap.size B (.slice av zs.length cv) zs M0 P1 c) := hx5; have HR5 : Hid (isW r5 = true) := hr5; clear hx5 hr5)
        refine hK _ _ trivial ?_
        clear hK K
        refine held_one 3 (by kernel_rfl) rfl (by kernel_rfl) fun K hK => ?_
        go_simp
        go_wp2_with (go_at_call 99; refine Calls.mono (HAD.out _ _ HX5.out HR5.out) ?_; rintro e u6 ⟨av2, cv2, zs2, rfl, hl2, hB6, ho6, hv6, hx6⟩; have HP6 : Hid (VX w ((u6.setCell ⟨B, 0, none⟩ (.slice av2 zs2.length cv2)).setCell ⟨B, 1, none⟩ (.string c)) b a len cap w.heap.size B (.slice av2 zs2.length cv2) zs2 M0 P1 c) := hx6.put ho6 hB6 hv6; have HL2 : Hid (zs2.length ≤ 3) := hl2; have HX6 : Hid (VX w u6 b a len cap w.heap.size B (.slice av zs.length cv) zs M0 P1 c) := hx6; clear hx6 ho6 hB6 hv6 hl2)
        refine hK _ _ trivial ?_
        clear hK K
        refine wpAnyH_take (i := 4) (v := .agg #[.slice av2 zs2.length cv2, .string c]) rfl (by kernel_rfl) (by kernel_rfl) (by kernel_rfl) (fun _ _ _ h => h) (Or.inl ⟨by kernel_rfl, fun w9 h9 => ?_⟩) trivial ?_
        · go_simp
        obtain ⟨k0, k1, k2, k3⟩ := HX6.out.cel
        have kl := HX6.out.lt
        refine held_one 5 (by kernel_rfl) rfl (by kernel_rfl) fun K hK => ?_
        go_simp
        refine hK _ _ trivial ?_
        clear hK K k0 k1 k2 k3 kl
        refine wpAnyH_done (by kernel_rfl) ?_ _
        go_simp
        go_wp2
        go_meet
        case rel => exact ⟨av2, cv2, zs2, rfl, HL2.out, HP6.out⟩
      · go_simp
        go_wp2_with (go_at_call 21; refine Calls.mono (HSN.out _ HXD.out) ?_; rintro e u5 ⟨r5, rfl, hr5, hx5⟩; have HX5 : Hid (VX w u5 b a len cap w.heap.size B (.slice av zs.length cv) zs M0 P1 c) := hx5; have HR5 : Hid (isW r5 = true) := hr5; clear hx5 hr5)
        refine hK _ _ trivial ?_
        clear hK K
        obtain ⟨k0, k1, _, _⟩ := HX5.out.cel
        have kl := HX5.out.lt
        refine held_one 0 (by kernel_rfl) rfl (by kernel_rfl) fun K hK => ?_
        go_simp
        refine hK _ _ trivial ?_
        clear hK K k0 k1 kl
        refine held_one 3 (by kernel_rfl) rfl (by kernel_rfl) fun K hK => ?_
        go_simp
        go_wp2_with (go_at_call 99; refine Calls.mono (HAD.out _ _ HX5.out HR5.out) ?_; rintro e u6 ⟨av2, cv2, zs2, rfl, hl2, hB6, ho6, hv6, hx6⟩; have HP6 : Hid (VX w ((u6.setCell ⟨B, 0, none⟩ (.slice av2 zs2.length cv2)).setCell ⟨B, 1, none⟩ (.string c)) b a len cap w.heap.size B (.slice av2 zs2.length cv2) zs2 M0 P1 c) := hx6.put ho6 hB6 hv6; have HL2 : Hid (zs2.length ≤ 3) := hl2; have HX6 : Hid (VX w u6 b a len cap w.heap.size B (.slice av zs.length cv) zs M0 P1 c) := hx6; clear hx6 ho6 hB6 hv6 hl2)
        refine hK _ _ trivial ?_
        clear hK K
        refine wpAnyH_take (i := 4) (v := .agg #[.slice av2 zs2.length cv2, .string c]) rfl (by kernel_rfl) (by kernel_rfl) (by kernel_rfl) (fun _ _ _ h => h) (Or.inl ⟨by kernel_rfl, fun w9 h9 => ?_⟩) trivial ?_
        · go_simp
        obtain ⟨k0, k1, k2, k3⟩ := HX6.out.cel
        have kl := HX6.out.lt
        refine held_one 5 (by kernel_rfl) rfl (by kernel_rfl) fun K hK => ?_
        go_simp
        refine hK _ _ trivial ?_
        clear hK K k0 k1 k2 k3 kl
        refine wpAnyH_done (by kernel_rfl) ?_ _
        go_simp
        go_wp2
        go_meet
        case rel => exact ⟨av2, cv2, zs2, rfl, HL2.out, HP6.out⟩
  case rest =>
    obtain ⟨av3, cv3, zs3, rfl, hl3, hx3⟩ := hcut
    have HX7 : Hid (VX w wc b a len cap w.heap.size B (.slice av3 zs3.length cv3) zs3 M0 P1 c) := hx3
    clear hl3 hx3 HL3 HX4
    go_wp2_with fail
    refine (src_n b a len cap 3 wc HX7.out.src (by omega)).mono ?_
    rintro e w8 ⟨r8, rfl, p8, q8, hs8, hg8⟩
    obtain ⟨R8, rfl⟩ := Int.eq_ofNat_of_zero_le p8
    have hR8 : R8 < 3 := by omega
    have HX8 : Hid (VX w w8 b a len cap w.heap.size B (.slice av3 zs3.length cv3) zs3 M0 P1 c) := HX7.out.grow hs8 hg8
    clear hs8 hg8 HX7 p8 q8
    go_wp2
    go_loopw [4] (fun i wr => ∃ (k : Nat) (av : Option Addr) (cv : Nat) (zs : List KS), k ≤ 3 ∧ i = .int .i64 k ∧ VX w wr b a len cap w.heap.size B (.slice av zs.length cv) zs M0 P1 c) (fun i _ => (intOf i).toNat)
    case atStart => exact ⟨R8, av3, cv3, zs3, by omega, rfl, HX8.out⟩
    case round =>
      obtain ⟨k, av4, cv4, zs4, hk, rfl, hx⟩ := hrel
      have HX9 : Hid (VX w wr b a len cap w.heap.size B (.slice av4 zs4.length cv4) zs4 M0 P1 c) := hx
      clear hx HX8
      by_cases hk0 : k = 0
      · subst hk0
        obtain ⟨k0, k1, k2, k3⟩ := HX9.out.cel
        obtain ⟨r0, r1, r2, r3⟩ := HX9.out.celr
        have kl := HX9.out.lt
        have kr := HX9.out.ltr
        go_wp2
        have HF : Hid _ := blk2 HX9.out.rb (.slice av4 zs4.length cv4) (.string c)
        have HO9 : Hid _ := own_n HX9.out.row (gset2 wr w.heap.size (.slice av4 zs4.length cv4) (.string c)) (.inl HX9.out.nr)
        have HS9 : Hid (SrcOk _ b a len cap) := src_own HX9.out.src (gset2 wr w.heap.size (.slice av4 zs4.length cv4) (.string c)) (fun k hk => by cases hk; have := HX9.out.lb; omega)
        have HG9 : Hid (w.grownBy _ (some b)) := gfar HX9.out.gr (gset2 wr w.heap.size (.slice av4 zs4.length cv4) (.string c)) (fun k hk => by cases hk; exact Nat.le_refl _)
        have HV9 : Hid (VG zs4 M0 P1 c) := HX9.out.vg
        clear k0 k1 k2 k3 r0 r1 r2 r3 kl kr HX9
        generalize ((wr.setCell ⟨w.heap.size, 0, none⟩ (.slice av4 zs4.length cv4)).setCell ⟨w.heap.size, 1, none⟩ (.string c)) = W9 at *
        have q0 : W9.cell? ⟨w.heap.size, 0, none⟩ = some (.slice av4 zs4.length cv4) := by simp [World.cell?, HF.out]
        have q1 : W9.cell? ⟨w.heap.size, 1, none⟩ = some (.string c) := by simp [World.cell?, HF.out]
        refine bodyPost_ret (v := .agg #[.slice av4 zs4.length cv4, .string c]) (by simp [results, Try.results58, go_sem, q0, q1]) rfl ?_
        exact ⟨_, zs4, c, rfl, HO9.out, HV9.out, HS9.out, HG9.out⟩
      · have hk1 : (0 : Int) < (k : Int) := by omega
        have HAD : Hid (∀ (u : World), VX w u b a len cap w.heap.size B (.slice av4 zs4.length cv4) zs4 M0 P1 c → Calls Try.prog 99 #[.agg #[.slice av4 zs4.length cv4, .string c], .string P1, .string ⟨#[116, 104, 114, 101, 101]⟩, .int .i64 5] u fun e w' => ∃ (cd : Int) (av2 : Option Addr) (cv2 : Nat) (zs2 : List KS) (c2 : ByteArray), e = .returned (.agg #[.int .i64 cd, .slice av2 zs2.length cv2, .string c2]) ∧ B < u.heap.size ∧ w'.ownsRow u.heap.size 70 3 (.slice av2 zs2.length cv2) zs2.length (ksR zs2) ∧ VX w w' b a len cap w.heap.size B (.slice av4 zs4.length cv4) zs4 M0 P1 c ∧ (cd = 0 → c2 = c ∧ VG zs2 M0 P1 c)) := fun u hx => by
          refine (add_any9 hx.row hx.vg ⟨#[116, 104, 114, 101, 101]⟩ 5 (by decide) (by decide)).mono ?_
          rintro e w' ⟨sv2, x, rfl, h1, h2, h3, h4⟩
          obtain ⟨av2, cv2, rfl⟩ := ks_sl h1
          exact ⟨x.code, av2, cv2, x.zs, x.check, rfl, hx.lt, h1, hx.step h2, fun q => ⟨(h4 q).1, (h4 q).2.2⟩⟩
        obtain ⟨k0, k1, k2, k3⟩ := HX9.out.cel
        have kl := HX9.out.lt
        go_upto_region 8 with (go_at_call 99; refine Calls.mono (HAD.out _ HX9.out) ?_; rintro e u6 ⟨cd, av2, cv2, zs2, c2, rfl, hB6, ho6, hx6, hc6⟩; have HX6 : Hid (VX w (u6.alloc (.cells #[.int .i64 cd, .slice av2 zs2.length cv2, .string c2] 31)) b a len cap w.heap.size B (.slice av4 zs4.length cv4) zs4 M0 P1 c) := hx6.step (bx1 _ _); have HO6 : Hid ((u6.alloc (.cells #[.int .i64 cd, .slice av2 zs2.length cv2, .string c2] 31)).ownsRow wr.heap.size 70 3 (.slice av2 zs2.length cv2) zs2.length (ksR zs2)) := World.ownsRow.alloc ho6 _; have HB6 : Hid (B < wr.heap.size) := hB6; have HC6 : Hid (cd = 0 → c2 = c ∧ VG zs2 M0 P1 c) := hc6; have HN6 : Hid ((u6.alloc (.cells #[.int .i64 cd, .slice av2 zs2.length cv2, .string c2] 31)).heap[u6.heap.size]? = some (.cells #[.int .i64 cd, .slice av2 zs2.length cv2, .string c2] 31 (0, 0))) := heap_new _ _; clear hx6 ho6 hB6 hc6)
        generalize (u6.alloc (.cells #[.int .i64 cd, .slice av2 zs2.length cv2, .string c2] 31)) = u7 at *
        generalize u6.heap.size = b6 at *
        clear k0 k1 k2 k3 kl HX9 HAD
        have n0 : u7.cell? ⟨b6, 0, none⟩ = some (.int .i64 cd) := by simp [World.cell?, HN6.out]
        have n1 : u7.cell? ⟨b6, 1, none⟩ = some (.slice av2 zs2.length cv2) := by simp [World.cell?, HN6.out]
        have n2 : u7.cell? ⟨b6, 2, none⟩ = some (.string c2) := by simp [World.cell?, HN6.out]
        have nl : b6 < u7.heap.size := (Array.getElem?_eq_some_iff.1 HN6.out).1
        obtain ⟨k0, k1, k2, k3⟩ := HX6.out.cel
        have kl := HX6.out.lt
        cases hcd : (cd == 0)
        · go_wp2
          go_round
          · exact ⟨k - 1, av4, cv4, zs4, by omega, by go_num, HX6.out⟩
          · simp only [intOf]; omega
        · obtain rfl : cd = 0 := by simpa using hcd
          obtain ⟨rfl, hv2⟩ := HC6.out rfl
          have HP : Hid _ := HX6.out.put HO6.out HB6.out hv2
          clear HC6 hv2 hcd
          go_wp2
          go_round
          · exact ⟨k - 1, av2, cv2, zs2, by omega, by go_num, HP.out⟩
          · simp only [intOf]; omega

/-- Operation j waits for operation i, itself or through others. -/
def waits (md : Region.Mode) (ops : Array Oper) (i : Nat) : Nat → Nat → Bool
  | 0, _ => false
  | f + 1, j => match ops[j]? with
    | some o => o.after.toList.any fun e => Region.binds md e && (e.on == i || waits md ops i f e.on)
    | none => false
/-- Of each that has come up all that it waits for have come up. -/
def shutB (md : Region.Mode) (ops : Array Oper) (L : Array Bool) : Bool := (List.range ops.size).all fun k => !L.getD k false || (match ops[k]? with
  | some o => o.after.toList.all fun e => !Region.binds md e || L.getD e.on false
  | none => true)
def Shut (md : Region.Mode) (ops : Array Oper) (L : Array Bool) : Prop := ∀ k o, ops[k]? = some o → L.getD k false = true → ∀ e ∈ o.after, Region.binds md e = true → L.getD e.on false = true
theorem shut_of {md : Region.Mode} {ops : Array Oper} {L : Array Bool} (h : shutB md ops L = true) : Shut md ops L := by
  intro k o ho hk e he hb
  unfold shutB at h
  rw [List.all_eq_true] at h
  have h1 := h k (List.mem_range.2 (Array.getElem?_eq_some_iff.1 ho).1)
  rw [hk, ho] at h1
  simp only [Bool.not_true, Bool.false_or, List.all_eq_true] at h1
  have h2 := h1 e (by simpa using he)
  rw [hb] at h2
  simpa using h2
theorem Shut.set {md : Region.Mode} {ops : Array Oper} {L : Array Bool} (h : Shut md ops L) {i : Nat} (hi : i ∈ Region.ready md ops L) : Shut md ops (L.setIfInBounds i true) := by
  have up : ∀ k, L.getD k false = true → (L.setIfInBounds i true).getD k false = true := fun k hk => by
    by_cases e : i = k
    · subst e
      rcases Nat.lt_or_ge i L.size with h' | h'
      · simp [h']
      · simp [Array.getElem?_eq_none h'] at hk
    · rw [getD_set_ne false e]
      exact hk
  intro k o ho hk e he hb
  by_cases e1 : i = k
  · subst e1
    obtain ⟨_, o2, ho2, hall⟩ := mem_ready.1 hi
    rw [ho] at ho2
    cases ho2
    exact up _ (hall e he hb)
  · rw [getD_set_ne false e1] at hk
    exact up _ (h k o ho hk e he hb)
theorem Shut.waits {md : Region.Mode} {ops : Array Oper} {L : Array Bool} (h : Shut md ops L) {i : Nat} : ∀ (f j : Nat), (∀ o, ops[j]? = some o → ∀ e ∈ o.after, Region.binds md e = true → L.getD e.on false = true) → waits md ops i f j = true → L.getD i false = true
  | 0, _, _, hw => by cases hw
  | f + 1, j, hj, hw => by
    unfold Go.Proofs.Ytniaohflkopncaa.waits at hw
    split at hw
    · rename_i o ho
      simp only [List.any_eq_true, Bool.and_eq_true, Bool.or_eq_true, beq_iff_eq] at hw
      obtain ⟨e, he, h1, h2⟩ := hw
      have h3 := hj o ho e (by simpa using he) h1
      rcases h2 with rfl | h2
      · exact h3
      · exact h.waits f e.on (fun o2 ho2 => h e.on o2 ho2 h3) h2
    · cases hw
/-- Whatever comes up: S holds behind all but the last ones, X. -/
def AnyE (P : Program) (md : Region.Mode) (ops : Array Oper) (Q : Exit → Act → World → Prop) (S : World → Prop) (X : List Nat) : Nat → Array Bool → Act → World → Prop
  | 0, L, a, w => Region.ready md ops L = [] ∧ Q .normal a w
  | f + 1, L, a, w => (Region.ready md ops L = [] → Q .normal a w) ∧ ∀ i ∈ Region.ready md ops L, wpOp P ops Q i (fun a' w' => (i ∉ X → S w') ∧ AnyE P md ops Q S X f (L.setIfInBounds i true) a' w') a w
section
variable {P : Program} {ops : Array Oper} {Q : Exit → Act → World → Prop} {S : World → Prop} {md : Region.Mode} {X : List Nat}
theorem AnyE.any : ∀ (f : Nat) (L : Array Bool) (a : Act) (w : World), AnyE P md ops Q S X f L a w → wpAny P md ops Q f L a w
  | 0, _, _, _, h => h
  | f + 1, _, _, _, h => ⟨h.1, fun i hi => wpOp_mono (fun a' w' h' => AnyE.any f _ a' w' h'.2) (h.2 i hi)⟩
theorem AnyE.first {i : Nat} {oi : Oper} {v : Value} (hi : ops[i]? = some oi) (hsel : ∀ (j : Nat) (o : Oper) cs b, ops[j]? = some o → o.op ≠ .select cs b)
    (hQ : ∀ c a w, Q (.panic c) (a.put oi.dst v) w → Q (.panic c) a w) (hn : X.all (waits md ops i ops.size) = true) :
    ∀ (f : Nat) (L : Array Bool) (a : Act) (w : World), Shut md ops L →
      (∀ j oj, ops[j]? = some oj → j ≠ i → L.getD j true = false → (∀ e ∈ oj.after, Region.binds md e = true → e.on ≠ i) → oi.apart ops oj = true) →
      i ∈ Region.ready md ops L → YieldsIf P ops S oi v a → S w →
      AnyE P md ops Q S X f (L.setIfInBounds i true) (a.put oi.dst v) w → AnyE P md ops Q S X (f + 1) L a w := by
  intro f
  induction f with
  | zero =>
    intro L a w _ _ hr hy hS H
    refine ⟨fun h => absurd (h ▸ hr) (by simp), fun j hj => ?_⟩
    by_cases hji : j = i
    · subst hji
      exact hy.wpOp hi hS ⟨fun _ => hS, H⟩
    · have h9 := ready_mono hj hji
      rw [H.1] at h9
      cases h9
  | succ f ih =>
    intro L a w hsh hfree hr hy hS H
    refine ⟨fun h => absurd (h ▸ hr) (by simp), fun j hj => ?_⟩
    by_cases hji : j = i
    · subst hji
      exact hy.wpOp hi hS ⟨fun _ => hS, H⟩
    · obtain ⟨hjun, oj, hoj, hall⟩ := mem_ready.1 hj
      have hnot : ∀ e ∈ oj.after, Region.binds md e = true → e.on ≠ i := fun e he hb heq => by
        have h1 := hall e he hb
        have h0 := (mem_ready.1 hr).1
        rw [heq] at h1
        rcases Nat.lt_or_ge i L.size with h' | h'
        · simp [h'] at h0 h1
          rw [h0] at h1
          cases h1
        · simp [Array.getElem?_eq_none h'] at h1
      have hjn : j ∉ X := fun e => by
        have h1 := List.all_eq_true.1 hn j e
        have h2 := hsh.waits _ j (fun o ho e he hb => by rw [hoj] at ho; cases ho; exact hall e he hb) h1
        have h0 := (mem_ready.1 hr).1
        rcases Nat.lt_or_ge i L.size with h' | h'
        · simp [h'] at h0 h2
          rw [h0] at h2
          cases h2
        · simp [Array.getElem?_eq_none h'] at h2
      have h2 := wpOp_putIf hoj (hfree j oj hoj hji hjun hnot) (fun cs b => hsel i oi cs b hi) (fun cs b => hsel j oj cs b hoj) hQ hy (H.2 j (ready_mono hj hji))
      refine wpOp_mono (fun a' w' h3 => ⟨h3.2.1, ih _ a' w' (hsh.set hj) ?_ (ready_mono hr (Ne.symm hji)) h3.1 (h3.2.1 hjn) ?_⟩) h2
      · intro k ok hk hki hun hno
        refine hfree k ok hk hki ?_ hno
        by_cases hjk : j = k
        · subst hjk
          exact hjun
        · rwa [getD_set_ne true hjk] at hun
      · rw [Array.setIfInBounds_comm _ _ hji]
        exact h3.2.2
theorem AnyE.take {i : Nat} {oi : Oper} {v : Value} {f : Nat} {L : Array Bool} {a : Act} {w : World} (hi : ops[i]? = some oi)
    (hs : Region.noSelect ops = true) (hf : Region.free md ops L i = true) (hr : (Region.ready md ops L).contains i = true) (hn : X.all (waits md ops i ops.size) = true) (hc : shutB md ops L = true)
    (hQ : ∀ c a w, Q (.panic c) (a.put oi.dst v) w → Q (.panic c) a w) (hy : YieldsIf P ops S oi v a) (hS : S w)
    (h : AnyE P md ops Q S X f (L.setIfInBounds i true) (a.put oi.dst v) w) : AnyE P md ops Q S X (f + 1) L a w :=
  AnyE.first hi (Region.noSelect_spec hs) hQ hn f L a w (shut_of hc) (Region.free_spec hi hf) (by simpa using hr) hy hS h
theorem AnyE.one {f : Nat} {L : Array Bool} {a : Act} {w : World} (i : Nat) {o : Oper} (hr : Region.ready md ops L = [i]) (ho : ops[i]? = some o)
    (hw : Region.wanted o (yielded ops a.tmps) = true) (h : ∀ K : Act → World → Prop, (∀ a' w', (i ∉ X → S w') → AnyE P md ops Q S X f (L.setIfInBounds i true) a' w' → K a' w') → o.wp P a w K Q) : AnyE P md ops Q S X (f + 1) L a w := by
  refine ⟨fun h0 => absurd (hr ▸ h0) (by simp), ?_⟩
  rw [hr]
  intro j hj
  obtain rfl := List.mem_singleton.1 hj
  unfold wpOp
  rw [ho]
  simp only [hw, if_true]
  exact Or.inl (h _ fun a' w' h1 h2 => ⟨h1, h2⟩)
theorem AnyE.two {f : Nat} {L : Array Bool} {a : Act} {w : World} (i j : Nat) {o o2 : Oper} (hr : Region.ready md ops L = [i, j]) (ho : ops[i]? = some o) (ho2 : ops[j]? = some o2)
    (hw : Region.wanted o (yielded ops a.tmps) = true) (hw2 : Region.wanted o2 (yielded ops a.tmps) = true) (h : ∀ K : Act → World → Prop, (∀ a' w', (i ∉ X → S w') → AnyE P md ops Q S X f (L.setIfInBounds i true) a' w' → K a' w') → o.wp P a w K Q)
    (h2 : ∀ K : Act → World → Prop, (∀ a' w', (j ∉ X → S w') → AnyE P md ops Q S X f (L.setIfInBounds j true) a' w' → K a' w') → o2.wp P a w K Q) : AnyE P md ops Q S X (f + 1) L a w := by
  refine ⟨fun h0 => absurd (hr ▸ h0) (by simp), ?_⟩
  rw [hr]
  intro k hk
  rcases List.mem_cons.1 hk with rfl | hk
  · unfold wpOp
    rw [ho]
    simp only [hw, if_true]
    exact Or.inl (h _ fun a' w' h1 h2 => ⟨h1, h2⟩)
  · obtain rfl := List.mem_singleton.1 hk
    unfold wpOp
    rw [ho2]
    simp only [hw2, if_true]
    exact Or.inl (h2 _ fun a' w' h1 h2 => ⟨h1, h2⟩)
theorem AnyE.done {L : Array Bool} {a : Act} {w : World} (hr : Region.ready md ops L = []) (h : Q .normal a w) : ∀ f, AnyE P md ops Q S X f L a w
  | 0 => ⟨hr, h⟩
  | _ + 1 => ⟨fun _ => h, by rw [hr]; simp⟩
theorem AnyE.start (S : World → Prop) (X : List Nat) {id : Nat} {a : Act} {w : World} (hm : P.follows .mixedOrders = true) (h : AnyE P .any ops Q S X ops.size (Array.replicate ops.size false) a w.drew) : (Code.region id ops true).wp P Q a w :=
  wp_region_any hm (AnyE.any _ _ _ _ h)
end

/-- A source, and a volume of any kind in its box behind it. -/
structure VW (w u : World) (b : Nat) (a : Option Addr) (len cap : Nat) (B : Nat) (sv : Value) (c : ByteArray) : Prop where
  src : SrcOk u b a len cap
  gr : w.grownBy u (some b)
  rb : u.heap[w.heap.size]? = some (.cells #[.slice none 0 0, .string ⟨#[]⟩] 27 (0, 0))
  box : u.heap[B]? = some (.cells #[sv, .string c] 27 (0, 0))
  lb : b < w.heap.size
  ge : w.heap.size < B
theorem VX.weak {w u : World} {b : Nat} {a : Option Addr} {len cap B : Nat} {sv : Value} {zs : List KS} {m p c : ByteArray} (h : VX w u b a len cap w.heap.size B sv zs m p c) : VW w u b a len cap B sv c := ⟨h.src, h.gr, h.rb, h.box, h.lb, h.ge2⟩
theorem VW.lt {w u : World} {b : Nat} {a : Option Addr} {len cap B : Nat} {sv : Value} {c : ByteArray} (h : VW w u b a len cap B sv c) : B < u.heap.size := (Array.getElem?_eq_some_iff.1 h.box).1
theorem VW.ltr {w u : World} {b : Nat} {a : Option Addr} {len cap B : Nat} {sv : Value} {c : ByteArray} (h : VW w u b a len cap B sv c) : w.heap.size < u.heap.size := (Array.getElem?_eq_some_iff.1 h.rb).1
theorem VW.far {w u u' : World} {b : Nat} {a : Option Addr} {len cap B : Nat} {sv : Value} {c : ByteArray} (h : VW w u b a len cap B sv c) {r : Option Nat} (hg : u.grownBy u' r) (hr : ∀ k, r = some k → w.heap.size < k ∧ k ≠ B) : VW w u' b a len cap B sv c := by
  have l1 := h.lb
  have l2 := h.ge
  exact ⟨src_own h.src hg (fun k hk => by have := hr k hk; omega), gfar h.gr hg (fun k hk => by have := hr k hk; omega), (hg.block _ h.ltr (fun e => by have := hr _ e.symm; omega)).trans h.rb, (hg.block _ h.lt (fun e => by have := hr _ e.symm; omega)).trans h.box, l1, l2⟩
theorem VW.set0 {w u : World} {b : Nat} {a : Option Addr} {len cap B : Nat} {sv : Value} {c : ByteArray} (h : VW w u b a len cap B sv c) (x : Value) : VW w (u.setCell ⟨B, 0, none⟩ x) b a len cap B x c := by
  have l1 := h.lb
  have l2 := h.ge
  have hg := gset8 u B 0 x
  exact ⟨src_own h.src hg (fun k hk => by cases hk; omega), gfar h.gr hg (fun k hk => by cases hk; omega), (hg.block _ h.ltr (by simp; omega)).trans h.rb, blk_s8 h.box 0 x, l1, l2⟩
theorem VW.set1 {w u : World} {b : Nat} {a : Option Addr} {len cap B : Nat} {sv : Value} {c : ByteArray} (h : VW w u b a len cap B sv c) (t : ByteArray) : VW w (u.setCell ⟨B, 1, none⟩ (.string t)) b a len cap B sv t := by
  have l1 := h.lb
  have l2 := h.ge
  have hg := gset8 u B 1 (.string t)
  exact ⟨src_own h.src hg (fun k hk => by cases hk; omega), gfar h.gr hg (fun k hk => by cases hk; omega), (hg.block _ h.ltr (by simp; omega)).trans h.rb, blk_s8 h.box 1 (.string t), l1, l2⟩
theorem VW.cel {w u : World} {b : Nat} {a : Option Addr} {len cap B : Nat} {sv : Value} {c : ByteArray} (h : VW w u b a len cap B sv c) : u.cell? ⟨B, 0, none⟩ = some sv ∧ u.cell? ⟨B, 1, none⟩ = some (.string c) ∧ u.cell? ⟨w.heap.size, 0, none⟩ = some (.slice none 0 0) ∧ u.cell? ⟨w.heap.size, 1, none⟩ = some (.string ⟨#[]⟩) := by
  refine ⟨?_, ?_, ?_, ?_⟩ <;> simp [World.cell?, h.box, h.rb]
theorem VW.frz {w u : World} {b : Nat} {a : Option Addr} {len cap B : Nat} {sv : Value} {c : ByteArray} (h : VW w u b a len cap B sv c) : u.frozen? ⟨B, 0, none⟩ = false ∧ u.frozen? ⟨B, 1, none⟩ = false ∧ u.frozen? ⟨w.heap.size, 0, none⟩ = false ∧ u.frozen? ⟨w.heap.size, 1, none⟩ = false := by
  refine ⟨?_, ?_, ?_, ?_⟩ <;> simp [World.frozen?, h.box, h.rb]
theorem VW.fin {w u : World} {b : Nat} {a : Option Addr} {len cap B : Nat} {sv : Value} {c : ByteArray} (h : VW w u b a len cap B sv c) : (((u.setCell ⟨w.heap.size, 0, none⟩ sv).setCell ⟨w.heap.size, 1, none⟩ (.string c)).cell? ⟨w.heap.size, 0, none⟩ = some sv ∧ ((u.setCell ⟨w.heap.size, 0, none⟩ sv).setCell ⟨w.heap.size, 1, none⟩ (.string c)).cell? ⟨w.heap.size, 1, none⟩ = some (.string c)) ∧ SrcOk ((u.setCell ⟨w.heap.size, 0, none⟩ sv).setCell ⟨w.heap.size, 1, none⟩ (.string c)) b a len cap ∧ w.grownBy ((u.setCell ⟨w.heap.size, 0, none⟩ sv).setCell ⟨w.heap.size, 1, none⟩ (.string c)) (some b) := by
  have hb := blk2 h.rb sv (.string c)
  have l1 := h.lb
  refine ⟨⟨?_, ?_⟩, src_own h.src (gset2 _ _ _ _) (fun k hk => by cases hk; omega), gfar h.gr (gset2 _ _ _ _) (fun k hk => by cases hk; omega)⟩
  · simp [World.cell?, hb]
  · simp [World.cell?, hb]
/-- The first slot of a row that is there. -/
theorem VX.head {w u : World} {b : Nat} {a : Option Addr} {len cap B g n cv : Nat} {zs : List KS} {m p c : ByteArray} (h : VX w u b a len cap w.heap.size B (.slice (some ⟨g, 0, none⟩) n cv) zs m p c) : ∃ z, u.cell? ⟨g, 0, none⟩ = some (.int .i64 z.salt) ∧ u.cell? ⟨g, 1, none⟩ = some (.string z.key) ∧ u.cell? ⟨g, 2, none⟩ = some (.string z.tag) ∧ zs[0]? = some z ∧ z.key.size ≤ 16 ∧ z.tag.size ≤ 16 ∧ zs.length = n := by
  have hr := h.row
  obtain ⟨ao, cp, e⟩ := ks_sl hr
  injection e with e1 e2 e3
  subst e2
  have h1 := h.vg.len
  obtain ⟨z, t, rfl⟩ : ∃ z t, zs = z :: t := by
    cases zs with
    | nil => simp at h1
    | cons z t => exact ⟨z, t, rfl⟩
  obtain ⟨q1, q2⟩ := h.vg.ksz z (by simp)
  have hc := fun j => hr.cellAt j
  refine ⟨z, ?_, ?_, ?_, rfl, by omega, by omega, rfl⟩
  · rw [hc 0 (by simp)]; simp [ksR, ksC]
  · rw [hc 1 (by simp; omega)]; simp [ksR, ksC]
  · rw [hc 2 (by simp; omega)]; simp [ksR, ksC]
theorem VX.gne {w u : World} {b : Nat} {a : Option Addr} {len cap B g n cv : Nat} {zs : List KS} {m p c : ByteArray} (h : VX w u b a len cap w.heap.size B (.slice (some ⟨g, 0, none⟩) n cv) zs m p c) : w.heap.size < g ∧ g ≠ B ∧ g < u.heap.size := by
  have h1 := h.row.lt g rfl
  have h2 : g ≠ w.heap.size := fun e => h.nr (by rw [← e]; rfl)
  have h3 : g ≠ B := fun e => h.nb (by rw [← e]; rfl)
  omega
theorem VX.frz {w u : World} {b : Nat} {a : Option Addr} {len cap B g n cv : Nat} {zs : List KS} {m p c : ByteArray} (h : VX w u b a len cap w.heap.size B (.slice (some ⟨g, 0, none⟩) n cv) zs m p c) (j : Nat) : u.frozen? ⟨g, j, none⟩ = false := by
  have hr := h.row
  obtain ⟨ao, cp, e⟩ := ks_sl hr
  injection e with e1 e2 e3
  subst e2
  exact hr.frozenAt j
set_option maxRecDepth 100000 in
set_option maxHeartbeats 8000000 in
theorem src_anyVolume (b : Nat) (a : Option Addr) (len cap : Nat) (w : World) (h : SrcOk w b a len cap) :
    Calls Try.prog 23 #[.pointer (some ⟨b, 0, none⟩)] w fun e w' => ∃ (ao : Option Addr) (n cp : Nat) (c : ByteArray), e = .returned (.agg #[.slice ao n cp, .string c]) ∧ SrcOk w' b a len cap ∧ w.grownBy w' (some b) := by
  have HLB : Hid (b < w.heap.size) := h.lt
  have HS0 : Hid (SrcOk (w.alloc (.cells #[.slice none 0 0, .string ⟨#[]⟩] 27)) b a len cap) := src_own (r := none) h (World.grownBy_alloc w _ _) (fun k hk => by cases hk)
  have HG0 : Hid (w.grownBy (w.alloc (.cells #[.slice none 0 0, .string ⟨#[]⟩] 27)) (some b)) := World.grownBy_alloc w _ _
  have HR0 : Hid ((w.alloc (.cells #[.slice none 0 0, .string ⟨#[]⟩] 27)).heap[w.heap.size]? = some (.cells #[.slice none 0 0, .string ⟨#[]⟩] 27 (0, 0))) := heap_new _ _
  clear h
  go_enter Try.func23, Try.ntmps23
  go_wp2_with fail
  generalize (w.alloc (.cells #[.slice none 0 0, .string ⟨#[]⟩] 27)) = u0 at *
  refine (src_volume b a len cap u0 HS0.out).mono ?_
  rintro e u2 ⟨sv, zs, c, rfl, ho, hvg, hs2, hg2⟩
  obtain ⟨g, cv, rfl⟩ : ∃ g cv, sv = .slice (some ⟨g, 0, none⟩) zs.length cv := (by
    have := hvg.len
    obtain ⟨_, ⟨_, he⟩ | ⟨g, cp, cur, e, _⟩⟩ := ho
    · omega
    · exact ⟨g, cp, e⟩)
  have HX : Hid (VX w (u2.alloc (.cells #[.slice (some ⟨g, 0, none⟩) zs.length cv, .string c] 27)) b a len cap w.heap.size u2.heap.size (.slice (some ⟨g, 0, none⟩) zs.length cv) zs M0 P1 c) := by
    have l1 := HLB.out
    have l2 : w.heap.size < u0.heap.size := (Array.getElem?_eq_some_iff.1 HR0.out).1
    have l3 := hg2.size
    have l4 := ho.lt g rfl
    refine ⟨src_own (r := none) hs2 (World.grownBy_alloc _ _ _) (fun k hk => by cases hk), gnone (Lib.grownBy_trans HG0.out hg2) (World.grownBy_alloc _ _ _), ?_, heap_new _ _, own_w (World.ownsRow.alloc ho _) (by omega), l1, Nat.le_refl _, by omega, ?_, ?_, hvg⟩
    · rw [(MapKept.heap_alloc u2 _).2 _ (by omega)]
      exact (hg2.block _ l2 (by simp; omega)).trans HR0.out
    · intro e
      have : g = w.heap.size := Option.some.inj e
      omega
    · intro e
      have : g = u2.heap.size := Option.some.inj e
      omega
  clear ho hvg hs2 hg2 HS0 HG0 HR0
  go_upto_region 2 with fail
  generalize (u2.alloc (.cells #[.slice (some ⟨g, 0, none⟩) zs.length cv, .string c] 27)) = u3 at *
  generalize u2.heap.size = B at *
  obtain ⟨n, hn⟩ : ∃ n, zs.length = n := ⟨_, rfl⟩
  rw [hn] at HX
  go_wp2_with fail
  refine (src_one b a len cap 4 u3 HX.out.src (by omega)).mono ?_
  rintro e u4 ⟨o4, rfl, hs4, hg4⟩
  have HX4 : Hid (VX w u4 b a len cap w.heap.size B (.slice (some ⟨g, 0, none⟩) n cv) zs M0 P1 c) := HX.out.grow hs4 hg4
  clear hs4 hg4 HX
  have hnn : (0 : Int) < (n : Int) := (by have := HX4.out.vg.len; omega)
  have hn0 : ¬ n = 0 := (by omega)
  have hn1 : 0 < n := (by omega)
  cases o4
  · skip
    have HW9 : Hid (VW w u4 b a len cap B (.slice (some ⟨g, 0, none⟩) n cv) c) := HX4.out.weak
    generalize u4 = W8 at *
    obtain ⟨y0, y1, y2, y3⟩ := HW9.out.cel
    obtain ⟨f0, f1, f2, f3⟩ := HW9.out.frz
    have yl := HW9.out.lt
    have yr := HW9.out.ltr
    go_wp2
    obtain ⟨⟨q0, q1⟩, hs9, hg9⟩ := HW9.out.fin
    refine bodyPost_ret (v := .agg #[(.slice (some ⟨g, 0, none⟩) n cv), .string c]) (by simp [results, Try.results23, go_sem, q0, q1]) rfl ?_
    exact ⟨_, _, _, _, rfl, hs9, hg9⟩
  · go_upto_region 5 with (go_at_call 21; refine (src_n b a len cap 6 u4 HX4.out.src (by omega)).mono ?_; rintro e u5 ⟨r5, rfl, p5, q5, hs5, hg5⟩; have HX5 : Hid (VX w u5 b a len cap w.heap.size B (.slice (some ⟨g, 0, none⟩) n cv) zs M0 P1 c) := HX4.out.grow hs5 hg5; clear hs5 hg5 HX4)
    obtain ⟨z, z0, z1, z2, hz, hzk, hzt, _⟩ := HX5.out.head
    obtain ⟨hg1, hgB, hgl⟩ := HX5.out.gne
    have HH : Hid (∀ u, VX w u b a len cap w.heap.size B (.slice (some ⟨g, 0, none⟩) n cv) zs M0 P1 c → u.cell? ⟨g, 0, none⟩ = some (.int .i64 z.salt) ∧ u.cell? ⟨g, 1, none⟩ = some (.string z.key) ∧ u.cell? ⟨g, 2, none⟩ = some (.string z.tag)) := fun u hu => (by
      obtain ⟨z', x0, x1, x2, hz', _⟩ := hu.head
      rw [hz] at hz'
      cases hz'
      exact ⟨x0, x1, x2⟩)
    have HSP : Hid (∀ (u : World) (t : ByteArray), t.size ≤ 16 → VX w u b a len cap w.heap.size B (.slice (some ⟨g, 0, none⟩) n cv) zs M0 P1 c → Calls Try.prog 59 #[.pointer (some ⟨b, 0, none⟩), .string t] u fun e w' => ∃ s : ByteArray, e = .returned (.string s) ∧ VX w w' b a len cap w.heap.size B (.slice (some ⟨g, 0, none⟩) n cv) zs M0 P1 c) := fun u t ht hx => (by
      refine (src_spoil b a len cap t u hx.src (by omega)).mono ?_
      rintro e w' ⟨s, rfl, _, hs, hg⟩
      exact ⟨s, rfl, hx.grow hs hg⟩)
    have HSN : Hid (∀ (u : World), VX w u b a len cap w.heap.size B (.slice (some ⟨g, 0, none⟩) n cv) zs M0 P1 c → Calls Try.prog 21 #[.pointer (some ⟨b, 0, none⟩), .int .i64 3] u fun e w' => ∃ R : Nat, e = .returned (.int .i64 (R : Int)) ∧ R < 3 ∧ u.grownBy w' (some b) ∧ VX w w' b a len cap w.heap.size B (.slice (some ⟨g, 0, none⟩) n cv) zs M0 P1 c) := fun u hx => (by
      refine (src_n b a len cap 3 u hx.src (by omega)).mono ?_
      rintro e w' ⟨r, rfl, r0, r1, hs, hg⟩
      obtain ⟨R, rfl⟩ := Int.eq_ofNat_of_zero_le r0
      exact ⟨R, rfl, by omega, hg, hx.grow hs hg⟩)
    have HGB : Hid (w.heap.size < g ∧ g ≠ B) := ⟨hg1, hgB⟩
    have HZK : Hid (z.key.size ≤ 16) := hzk
    have HZT : Hid (z.tag.size ≤ 16) := hzt
    have HXD : Hid (VX w u5.drew b a len cap w.heap.size B (.slice (some ⟨g, 0, none⟩) n cv) zs M0 P1 c) := HX5.out.step (Below.refl _ _).drew
    clear z0 z1 z2 hz hg1 hgB hgl p5 q5 hzk hzt
    cases k0 : (r5 == 0)
    rotate_left
    · obtain ⟨x0, x1, x2, x3⟩ := HX5.out.cel
      have xl := HX5.out.lt
      go_upto_region 17 with fail
      have HW9 : Hid (VW w ((u5.setCell ⟨B, 0, none⟩ (.slice (some ⟨u5.heap.size, 0, none⟩) 0 0)).alloc (.cells #[] 70)) b a len cap B (.slice (some ⟨u5.heap.size, 0, none⟩) 0 0) c) := (HX5.out.weak.set0 _).far (World.grownBy_alloc _ _ none) (fun k hk => by cases hk)
      generalize ((u5.setCell ⟨B, 0, none⟩ (.slice (some ⟨u5.heap.size, 0, none⟩) 0 0)).alloc (.cells #[] 70)) = W8 at *
      obtain ⟨y0, y1, y2, y3⟩ := HW9.out.cel
      obtain ⟨f0, f1, f2, f3⟩ := HW9.out.frz
      have yl := HW9.out.lt
      have yr := HW9.out.ltr
      go_wp2
      obtain ⟨⟨q0, q1⟩, hs9, hg9⟩ := HW9.out.fin
      refine bodyPost_ret (v := .agg #[(.slice (some ⟨u5.heap.size, 0, none⟩) 0 0), .string c]) (by simp [results, Try.results23, go_sem, q0, q1]) rfl ?_
      exact ⟨_, _, _, _, rfl, hs9, hg9⟩
    cases k1 : (r5 == 1)
    rotate_left
    · obtain ⟨x0, x1, x2, x3⟩ := HX5.out.cel
      have xl := HX5.out.lt
      go_upto_region 17 with (go_at_call 59; refine Calls.mono (HSP.out _ _ (by have := HX5.out.vg.csz; omega) HX5.out) ?_; rintro e u6 ⟨t, rfl, hx6⟩; have HX6 : Hid (VX w u6 b a len cap w.heap.size B (.slice (some ⟨g, 0, none⟩) n cv) zs M0 P1 c) := hx6; clear hx6 x0 x1 x2 x3 xl; obtain ⟨x0, x1, x2, x3⟩ := HX6.out.cel; have xl := HX6.out.lt)
      have HW9 : Hid (VW w (u6.setCell ⟨B, 1, none⟩ (.string t)) b a len cap B (.slice (some ⟨g, 0, none⟩) n cv) t) := HX6.out.weak.set1 t
      generalize (u6.setCell ⟨B, 1, none⟩ (.string t)) = W8 at *
      obtain ⟨y0, y1, y2, y3⟩ := HW9.out.cel
      obtain ⟨f0, f1, f2, f3⟩ := HW9.out.frz
      have yl := HW9.out.lt
      have yr := HW9.out.ltr
      go_wp2
      obtain ⟨⟨q0, q1⟩, hs9, hg9⟩ := HW9.out.fin
      refine bodyPost_ret (v := .agg #[(.slice (some ⟨g, 0, none⟩) n cv), .string t]) (by simp [results, Try.results23, go_sem, q0, q1]) rfl ?_
      exact ⟨_, _, _, _, rfl, hs9, hg9⟩
    cases k2 : (r5 == 2)
    rotate_left
    · go_upto_region 10 with fail
      refine AnyE.start (fun w9 => VX w w9 b a len cap w.heap.size B (.slice (some ⟨g, 0, none⟩) n cv) zs M0 P1 c) [11] (by kernel_rfl) ?_
      refine AnyE.take (i := 0) (v := .pointer (some ⟨B, 0, none⟩)) rfl (by kernel_rfl) (by kernel_rfl) (by kernel_rfl) (by kernel_rfl) (by kernel_rfl) (fun _ _ _ h => h) (Or.inl ⟨by kernel_rfl, fun w9 h9 => ?_⟩) HXD.out ?_
      · go_simp
      refine AnyE.take (i := 1) (v := .slice (some ⟨g, 0, none⟩) n cv) rfl (by kernel_rfl) (by kernel_rfl) (by kernel_rfl) (by kernel_rfl) (by kernel_rfl) (fun _ _ _ h => h) (Or.inl ⟨by kernel_rfl, fun w9 h9 => ?_⟩) HXD.out ?_
      · have x9 := HH.out _ h9; obtain ⟨x0, x1, x2⟩ := x9; obtain ⟨y0, y1, _, _⟩ := h9.cel; have yl := h9.lt; have gl := h9.gne.2.2; go_simp
      refine AnyE.take (i := 2) (v := .pointer (some ⟨b, 0, none⟩)) rfl (by kernel_rfl) (by kernel_rfl) (by kernel_rfl) (by kernel_rfl) (by kernel_rfl) (fun _ _ _ h => h) (Or.inl ⟨by kernel_rfl, fun w9 h9 => ?_⟩) HXD.out ?_
      · go_simp
      refine AnyE.take (i := 3) (v := .pointer (some ⟨B, 0, none⟩)) rfl (by kernel_rfl) (by kernel_rfl) (by kernel_rfl) (by kernel_rfl) (by kernel_rfl) (fun _ _ _ h => h) (Or.inl ⟨by kernel_rfl, fun w9 h9 => ?_⟩) HXD.out ?_
      · go_simp
      refine AnyE.take (i := 4) (v := .slice (some ⟨g, 0, none⟩) n cv) rfl (by kernel_rfl) (by kernel_rfl) (by kernel_rfl) (by kernel_rfl) (by kernel_rfl) (fun _ _ _ h => h) (Or.inl ⟨by kernel_rfl, fun w9 h9 => ?_⟩) HXD.out ?_
      · have x9 := HH.out _ h9; obtain ⟨x0, x1, x2⟩ := x9; obtain ⟨y0, y1, _, _⟩ := h9.cel; have yl := h9.lt; have gl := h9.gne.2.2; go_simp
      refine AnyE.take (i := 5) (v := .pointer (some ⟨g, 0, none⟩)) rfl (by kernel_rfl) (by kernel_rfl) (by kernel_rfl) (by kernel_rfl) (by kernel_rfl) (fun _ _ _ h => h) (Or.inl ⟨by kernel_rfl, fun w9 h9 => ?_⟩) HXD.out ?_
      · go_simp
      refine AnyE.take (i := 6) (v := .pointer (some ⟨g, 1, none⟩)) rfl (by kernel_rfl) (by kernel_rfl) (by kernel_rfl) (by kernel_rfl) (by kernel_rfl) (fun _ _ _ h => h) (Or.inl ⟨by kernel_rfl, fun w9 h9 => ?_⟩) HXD.out ?_
      · go_simp
      refine AnyE.take (i := 7) (v := .string z.key) rfl (by kernel_rfl) (by kernel_rfl) (by kernel_rfl) (by kernel_rfl) (by kernel_rfl) (fun _ _ _ h => h) (Or.inl ⟨by kernel_rfl, fun w9 h9 => ?_⟩) HXD.out ?_
      · have x9 := HH.out _ h9; obtain ⟨x0, x1, x2⟩ := x9; obtain ⟨y0, y1, _, _⟩ := h9.cel; have yl := h9.lt; have gl := h9.gne.2.2; go_simp
      refine AnyE.one 8 (by kernel_rfl) rfl (by kernel_rfl) fun K hK => ?_
      go_simp
      go_wp2_with (go_at_call 59; refine Calls.mono (HSP.out _ _ HZK.out HXD.out) ?_; rintro e u6 ⟨t, rfl, hx6⟩; have HX6 : Hid (VX w u6 b a len cap w.heap.size B (.slice (some ⟨g, 0, none⟩) n cv) zs M0 P1 c) := hx6; clear hx6)
      refine hK _ _ (fun _ => HX6.out) ?_
      clear hK K
      refine AnyE.take (i := 9) (v := .pointer (some ⟨g, 0, none⟩)) rfl (by kernel_rfl) (by kernel_rfl) (by kernel_rfl) (by kernel_rfl) (by kernel_rfl) (fun _ _ _ h => h) (Or.inl ⟨by kernel_rfl, fun w9 h9 => ?_⟩) HX6.out ?_
      · go_simp
      refine AnyE.take (i := 10) (v := .pointer (some ⟨g, 1, none⟩)) rfl (by kernel_rfl) (by kernel_rfl) (by kernel_rfl) (by kernel_rfl) (by kernel_rfl) (fun _ _ _ h => h) (Or.inl ⟨by kernel_rfl, fun w9 h9 => ?_⟩) HX6.out ?_
      · go_simp
      have xf := HX6.out.frz 1
      have xc := (HH.out _ HX6.out).2.1
      have xl := HX6.out.gne.2.2
      refine AnyE.one 11 (by kernel_rfl) rfl (by kernel_rfl) fun K hK => ?_
      go_simp
      skip
      refine hK _ _ (fun h => absurd (by decide) h) ?_
      clear hK K
      refine AnyE.done (by kernel_rfl) ?_ _
      go_simp
      clear xf xc xl
      go_upto_region 17 with fail
      have HW9 : Hid (VW w (u6.setCell ⟨g, 1, none⟩ (.string t)) b a len cap B (.slice (some ⟨g, 0, none⟩) n cv) c) := HX6.out.weak.far (gset8 _ _ _ _) (fun k hk => by cases hk; exact HGB.out)
      generalize (u6.setCell ⟨g, 1, none⟩ (.string t)) = W8 at *
      obtain ⟨y0, y1, y2, y3⟩ := HW9.out.cel
      obtain ⟨f0, f1, f2, f3⟩ := HW9.out.frz
      have yl := HW9.out.lt
      have yr := HW9.out.ltr
      go_wp2
      obtain ⟨⟨q0, q1⟩, hs9, hg9⟩ := HW9.out.fin
      refine bodyPost_ret (v := .agg #[(.slice (some ⟨g, 0, none⟩) n cv), .string c]) (by simp [results, Try.results23, go_sem, q0, q1]) rfl ?_
      exact ⟨_, _, _, _, rfl, hs9, hg9⟩
    cases k3 : (r5 == 3)
    rotate_left
    · go_upto_region 12 with fail
      refine AnyE.start (fun w9 => VX w w9 b a len cap w.heap.size B (.slice (some ⟨g, 0, none⟩) n cv) zs M0 P1 c) [11] (by kernel_rfl) ?_
      refine AnyE.take (i := 0) (v := .pointer (some ⟨B, 0, none⟩)) rfl (by kernel_rfl) (by kernel_rfl) (by kernel_rfl) (by kernel_rfl) (by kernel_rfl) (fun _ _ _ h => h) (Or.inl ⟨by kernel_rfl, fun w9 h9 => ?_⟩) HXD.out ?_
      · go_simp
      refine AnyE.take (i := 1) (v := .slice (some ⟨g, 0, none⟩) n cv) rfl (by kernel_rfl) (by kernel_rfl) (by kernel_rfl) (by kernel_rfl) (by kernel_rfl) (fun _ _ _ h => h) (Or.inl ⟨by kernel_rfl, fun w9 h9 => ?_⟩) HXD.out ?_
      · have x9 := HH.out _ h9; obtain ⟨x0, x1, x2⟩ := x9; obtain ⟨y0, y1, _, _⟩ := h9.cel; have yl := h9.lt; have gl := h9.gne.2.2; go_simp
      refine AnyE.take (i := 2) (v := .pointer (some ⟨b, 0, none⟩)) rfl (by kernel_rfl) (by kernel_rfl) (by kernel_rfl) (by kernel_rfl) (by kernel_rfl) (fun _ _ _ h => h) (Or.inl ⟨by kernel_rfl, fun w9 h9 => ?_⟩) HXD.out ?_
      · go_simp
      refine AnyE.take (i := 3) (v := .pointer (some ⟨B, 0, none⟩)) rfl (by kernel_rfl) (by kernel_rfl) (by kernel_rfl) (by kernel_rfl) (by kernel_rfl) (fun _ _ _ h => h) (Or.inl ⟨by kernel_rfl, fun w9 h9 => ?_⟩) HXD.out ?_
      · go_simp
      refine AnyE.take (i := 4) (v := .slice (some ⟨g, 0, none⟩) n cv) rfl (by kernel_rfl) (by kernel_rfl) (by kernel_rfl) (by kernel_rfl) (by kernel_rfl) (fun _ _ _ h => h) (Or.inl ⟨by kernel_rfl, fun w9 h9 => ?_⟩) HXD.out ?_
      · have x9 := HH.out _ h9; obtain ⟨x0, x1, x2⟩ := x9; obtain ⟨y0, y1, _, _⟩ := h9.cel; have yl := h9.lt; have gl := h9.gne.2.2; go_simp
      refine AnyE.take (i := 5) (v := .pointer (some ⟨g, 0, none⟩)) rfl (by kernel_rfl) (by kernel_rfl) (by kernel_rfl) (by kernel_rfl) (by kernel_rfl) (fun _ _ _ h => h) (Or.inl ⟨by kernel_rfl, fun w9 h9 => ?_⟩) HXD.out ?_
      · go_simp
      refine AnyE.take (i := 6) (v := .pointer (some ⟨g, 2, none⟩)) rfl (by kernel_rfl) (by kernel_rfl) (by kernel_rfl) (by kernel_rfl) (by kernel_rfl) (fun _ _ _ h => h) (Or.inl ⟨by kernel_rfl, fun w9 h9 => ?_⟩) HXD.out ?_
      · go_simp
      refine AnyE.take (i := 7) (v := .string z.tag) rfl (by kernel_rfl) (by kernel_rfl) (by kernel_rfl) (by kernel_rfl) (by kernel_rfl) (fun _ _ _ h => h) (Or.inl ⟨by kernel_rfl, fun w9 h9 => ?_⟩) HXD.out ?_
      · have x9 := HH.out _ h9; obtain ⟨x0, x1, x2⟩ := x9; obtain ⟨y0, y1, _, _⟩ := h9.cel; have yl := h9.lt; have gl := h9.gne.2.2; go_simp
      refine AnyE.one 8 (by kernel_rfl) rfl (by kernel_rfl) fun K hK => ?_
      go_simp
      go_wp2_with (go_at_call 59; refine Calls.mono (HSP.out _ _ HZT.out HXD.out) ?_; rintro e u6 ⟨t, rfl, hx6⟩; have HX6 : Hid (VX w u6 b a len cap w.heap.size B (.slice (some ⟨g, 0, none⟩) n cv) zs M0 P1 c) := hx6; clear hx6)
      refine hK _ _ (fun _ => HX6.out) ?_
      clear hK K
      refine AnyE.take (i := 9) (v := .pointer (some ⟨g, 0, none⟩)) rfl (by kernel_rfl) (by kernel_rfl) (by kernel_rfl) (by kernel_rfl) (by kernel_rfl) (fun _ _ _ h => h) (Or.inl ⟨by kernel_rfl, fun w9 h9 => ?_⟩) HX6.out ?_
      · go_simp
      refine AnyE.take (i := 10) (v := .pointer (some ⟨g, 2, none⟩)) rfl (by kernel_rfl) (by kernel_rfl) (by kernel_rfl) (by kernel_rfl) (by kernel_rfl) (fun _ _ _ h => h) (Or.inl ⟨by kernel_rfl, fun w9 h9 => ?_⟩) HX6.out ?_
      · go_simp
      have xf := HX6.out.frz 2
      have xc := (HH.out _ HX6.out).2.2
      have xl := HX6.out.gne.2.2
      refine AnyE.one 11 (by kernel_rfl) rfl (by kernel_rfl) fun K hK => ?_
      go_simp
      skip
      refine hK _ _ (fun h => absurd (by decide) h) ?_
      clear hK K
      refine AnyE.done (by kernel_rfl) ?_ _
      go_simp
      clear xf xc xl
      go_upto_region 17 with fail
      have HW9 : Hid (VW w (u6.setCell ⟨g, 2, none⟩ (.string t)) b a len cap B (.slice (some ⟨g, 0, none⟩) n cv) c) := HX6.out.weak.far (gset8 _ _ _ _) (fun k hk => by cases hk; exact HGB.out)
      generalize (u6.setCell ⟨g, 2, none⟩ (.string t)) = W8 at *
      obtain ⟨y0, y1, y2, y3⟩ := HW9.out.cel
      obtain ⟨f0, f1, f2, f3⟩ := HW9.out.frz
      have yl := HW9.out.lt
      have yr := HW9.out.ltr
      go_wp2
      obtain ⟨⟨q0, q1⟩, hs9, hg9⟩ := HW9.out.fin
      refine bodyPost_ret (v := .agg #[(.slice (some ⟨g, 0, none⟩) n cv), .string c]) (by simp [results, Try.results23, go_sem, q0, q1]) rfl ?_
      exact ⟨_, _, _, _, rfl, hs9, hg9⟩
    cases k4 : (r5 == 4)
    rotate_left
    · go_upto_region 14 with fail
      have HIN : Hid (inB9 (-1) 4294967296 [-1, 4294967296, 77]) := (fun x hx => by simp at hx; omega)
      refine AnyE.start (fun w9 => VX w w9 b a len cap w.heap.size B (.slice (some ⟨g, 0, none⟩) n cv) zs M0 P1 c) [9] (by kernel_rfl) ?_
      refine AnyE.take (i := 0) (v := .pointer (some ⟨B, 0, none⟩)) rfl (by kernel_rfl) (by kernel_rfl) (by kernel_rfl) (by kernel_rfl) (by kernel_rfl) (fun _ _ _ h => h) (Or.inl ⟨by kernel_rfl, fun w9 h9 => ?_⟩) HXD.out ?_
      · go_simp
      refine AnyE.take (i := 1) (v := .slice (some ⟨g, 0, none⟩) n cv) rfl (by kernel_rfl) (by kernel_rfl) (by kernel_rfl) (by kernel_rfl) (by kernel_rfl) (fun _ _ _ h => h) (Or.inl ⟨by kernel_rfl, fun w9 h9 => ?_⟩) HXD.out ?_
      · obtain ⟨y0, y1, _, _⟩ := h9.cel; have yl := h9.lt; go_simp
      refine AnyE.take (i := 3) (v := .pointer (some ⟨b, 0, none⟩)) rfl (by kernel_rfl) (by kernel_rfl) (by kernel_rfl) (by kernel_rfl) (by kernel_rfl) (fun _ _ _ h => h) (Or.inl ⟨by kernel_rfl, fun w9 h9 => ?_⟩) HXD.out ?_
      · go_simp
      refine AnyE.two 2 4 (by kernel_rfl) rfl rfl (by kernel_rfl) (by kernel_rfl) (fun K hK => ?_) (fun K hK => ?_)
      · skip
        have HXL : Hid (VX w (u5.alloc (.cells #[.int .i64 (-1), .int .i64 4294967296, .int .i64 77] 2)).drew b a len cap w.heap.size B (.slice (some ⟨g, 0, none⟩) n cv) zs M0 P1 c) := (HX5.out.step (bx1 _ _)).step (Below.refl _ _).drew
        have HBD : Hid (b < u5.heap.size) := HX5.out.src.lt
        go_simp
        refine hK _ _ (fun _ => HXL.out) ?_
        clear hK K
        refine AnyE.one 4 (by kernel_rfl) rfl (by kernel_rfl) fun K hK => ?_
        go_simp
        go_wp2_with (go_at_call 21; refine Calls.mono (HSN.out _ HXL.out) ?_; rintro e u6 ⟨R, rfl, hR, hg6, hx6⟩; have HX6 : Hid (VX w u6 b a len cap w.heap.size B (.slice (some ⟨g, 0, none⟩) n cv) zs M0 P1 c) := hx6; clear hx6)
        refine hK _ _ (fun _ => HX6.out) ?_
        clear hK K
        have hR0 : (0 : Int) ≤ (R : Int) := (by omega)
        have hR1 : (R : Int) < 3 := (by omega)
        obtain ⟨y, yc, yb1, yb2⟩ := lit_draw9 (u := u5) (u2 := u6) (t := 2) (C := [-1, 4294967296, 77]) HBD.out ⟨hg6.os, hg6.tape, hg6.output, hg6.size, hg6.block⟩ R (by simpa using hR) HIN.out
        have ycl : u5.heap.size < u6.heap.size := (Nat.lt_of_lt_of_le (by simp : u5.heap.size < (u5.alloc (.cells #[.int .i64 (-1), .int .i64 4294967296, .int .i64 77] 2)).heap.size) hg6.size)
        clear HX5 HXD
        generalize u5.heap.size = bl at *
        clear hg6 HXL
        refine AnyE.take (i := 5) (v := .pointer (some ⟨bl, R, none⟩)) rfl (by kernel_rfl) (by kernel_rfl) (by kernel_rfl) (by kernel_rfl) (by kernel_rfl) (fun _ _ _ h => h) (Or.inl ⟨by kernel_rfl, fun w9 h9 => ?_⟩) HX6.out ?_
        · go_simp
        refine AnyE.one 6 (by kernel_rfl) rfl (by kernel_rfl) fun K hK => ?_
        go_simp
        refine hK _ _ (fun _ => HX6.out) ?_
        clear hK K
        refine AnyE.one 7 (by kernel_rfl) rfl (by kernel_rfl) fun K hK => ?_
        go_simp
        refine hK _ _ (fun _ => HX6.out) ?_
        clear hK K
        refine AnyE.take (i := 8) (v := .pointer (some ⟨g, 0, none⟩)) rfl (by kernel_rfl) (by kernel_rfl) (by kernel_rfl) (by kernel_rfl) (by kernel_rfl) (fun _ _ _ h => h) (Or.inl ⟨by kernel_rfl, fun w9 h9 => ?_⟩) HX6.out ?_
        · have gl := h9.gne.2.2; go_simp
        have xf := HX6.out.frz 0
        have xc := (HH.out _ HX6.out).1
        have xl := HX6.out.gne.2.2
        refine AnyE.one 9 (by kernel_rfl) rfl (by kernel_rfl) fun K hK => ?_
        go_simp
        refine hK _ _ (fun h => absurd (by decide) h) ?_
        clear hK K
        refine AnyE.done (by kernel_rfl) ?_ _
        go_simp
        clear xf xc xl yc
        go_upto_region 17 with fail
        have HW9 : Hid (VW w (u6.setCell ⟨g, 0, none⟩ (.int .i64 y)) b a len cap B (.slice (some ⟨g, 0, none⟩) n cv) c) := HX6.out.weak.far (gset8 _ _ _ _) (fun k hk => by cases hk; exact HGB.out)
        generalize (u6.setCell ⟨g, 0, none⟩ (.int .i64 y)) = W8 at *
        obtain ⟨y0, y1, y2, y3⟩ := HW9.out.cel
        obtain ⟨f0, f1, f2, f3⟩ := HW9.out.frz
        have yl := HW9.out.lt
        have yr := HW9.out.ltr
        go_wp2
        obtain ⟨⟨q0, q1⟩, hs9, hg9⟩ := HW9.out.fin
        refine bodyPost_ret (v := .agg #[(.slice (some ⟨g, 0, none⟩) n cv), .string c]) (by simp [results, Try.results23, go_sem, q0, q1]) rfl ?_
        exact ⟨_, _, _, _, rfl, hs9, hg9⟩
      · skip
        go_simp
        go_wp2_with (go_at_call 21; refine Calls.mono (HSN.out _ HXD.out) ?_; rintro e u7 ⟨R, rfl, hR, hg6, hx6⟩; have HX7 : Hid (VX w u7 b a len cap w.heap.size B (.slice (some ⟨g, 0, none⟩) n cv) zs M0 P1 c) := hx6; clear hx6)
        refine hK _ _ (fun _ => HX7.out) ?_
        clear hK K hg6
        have HX6 : Hid (VX w (u7.alloc (.cells #[.int .i64 (-1), .int .i64 4294967296, .int .i64 77] 2)) b a len cap w.heap.size B (.slice (some ⟨g, 0, none⟩) n cv) zs M0 P1 c) := HX7.out.step (bx1 _ _)
        have HBD : Hid (b < u7.heap.size) := HX7.out.src.lt
        obtain ⟨y, yc, yb1, yb2⟩ := lit_draw9 (u := u7) (u2 := (u7.alloc (.cells #[.int .i64 (-1), .int .i64 4294967296, .int .i64 77] 2))) (t := 2) (C := [-1, 4294967296, 77]) HBD.out ⟨rfl, rfl, rfl, Nat.le_refl _, fun _ _ _ => rfl⟩ R (by simpa using hR) HIN.out
        refine AnyE.one 2 (by kernel_rfl) rfl (by kernel_rfl) fun K hK => ?_
        go_simp
        refine hK _ _ (fun _ => HX6.out) ?_
        clear hK K
        have hR0 : (0 : Int) ≤ (R : Int) := (by omega)
        have hR1 : (R : Int) < 3 := (by omega)
        have ycl : u7.heap.size < (u7.alloc (.cells #[.int .i64 (-1), .int .i64 4294967296, .int .i64 77] 2)).heap.size := (by simp)
        generalize (u7.alloc (.cells #[.int .i64 (-1), .int .i64 4294967296, .int .i64 77] 2)) = u6 at *
        generalize u7.heap.size = bl at *
        refine AnyE.take (i := 5) (v := .pointer (some ⟨bl, R, none⟩)) rfl (by kernel_rfl) (by kernel_rfl) (by kernel_rfl) (by kernel_rfl) (by kernel_rfl) (fun _ _ _ h => h) (Or.inl ⟨by kernel_rfl, fun w9 h9 => ?_⟩) HX6.out ?_
        · go_simp
        refine AnyE.one 6 (by kernel_rfl) rfl (by kernel_rfl) fun K hK => ?_
        go_simp
        refine hK _ _ (fun _ => HX6.out) ?_
        clear hK K
        refine AnyE.one 7 (by kernel_rfl) rfl (by kernel_rfl) fun K hK => ?_
        go_simp
        refine hK _ _ (fun _ => HX6.out) ?_
        clear hK K
        refine AnyE.take (i := 8) (v := .pointer (some ⟨g, 0, none⟩)) rfl (by kernel_rfl) (by kernel_rfl) (by kernel_rfl) (by kernel_rfl) (by kernel_rfl) (fun _ _ _ h => h) (Or.inl ⟨by kernel_rfl, fun w9 h9 => ?_⟩) HX6.out ?_
        · have gl := h9.gne.2.2; go_simp
        have xf := HX6.out.frz 0
        have xc := (HH.out _ HX6.out).1
        have xl := HX6.out.gne.2.2
        refine AnyE.one 9 (by kernel_rfl) rfl (by kernel_rfl) fun K hK => ?_
        go_simp
        refine hK _ _ (fun h => absurd (by decide) h) ?_
        clear hK K
        refine AnyE.done (by kernel_rfl) ?_ _
        go_simp
        clear xf xc xl yc
        go_upto_region 17 with fail
        have HW9 : Hid (VW w (u6.setCell ⟨g, 0, none⟩ (.int .i64 y)) b a len cap B (.slice (some ⟨g, 0, none⟩) n cv) c) := HX6.out.weak.far (gset8 _ _ _ _) (fun k hk => by cases hk; exact HGB.out)
        generalize (u6.setCell ⟨g, 0, none⟩ (.int .i64 y)) = W8 at *
        obtain ⟨y0, y1, y2, y3⟩ := HW9.out.cel
        obtain ⟨f0, f1, f2, f3⟩ := HW9.out.frz
        have yl := HW9.out.lt
        have yr := HW9.out.ltr
        go_wp2
        obtain ⟨⟨q0, q1⟩, hs9, hg9⟩ := HW9.out.fin
        refine bodyPost_ret (v := .agg #[(.slice (some ⟨g, 0, none⟩) n cv), .string c]) (by simp [results, Try.results23, go_sem, q0, q1]) rfl ?_
        exact ⟨_, _, _, _, rfl, hs9, hg9⟩
    cases k5 : (r5 == 5)
    rotate_left
    · go_upto_region 16 with fail
      refine AnyE.start (fun w9 => VX w w9 b a len cap w.heap.size B (.slice (some ⟨g, 0, none⟩) n cv) zs M0 P1 c) [15, 16, 17] (by kernel_rfl) ?_
      refine AnyE.take (i := 0) (v := .pointer (some ⟨B, 0, none⟩)) rfl (by kernel_rfl) (by kernel_rfl) (by kernel_rfl) (by kernel_rfl) (by kernel_rfl) (fun _ _ _ h => h) (Or.inl ⟨by kernel_rfl, fun w9 h9 => ?_⟩) HXD.out ?_
      · go_simp
      refine AnyE.take (i := 1) (v := .slice (some ⟨g, 0, none⟩) n cv) rfl (by kernel_rfl) (by kernel_rfl) (by kernel_rfl) (by kernel_rfl) (by kernel_rfl) (fun _ _ _ h => h) (Or.inl ⟨by kernel_rfl, fun w9 h9 => ?_⟩) HXD.out ?_
      · have x9 := HH.out _ h9; obtain ⟨x0, x1, x2⟩ := x9; obtain ⟨y0, y1, _, _⟩ := h9.cel; have yl := h9.lt; have gl := h9.gne.2.2; go_simp
      refine AnyE.take (i := 2) (v := .pointer (some ⟨B, 0, none⟩)) rfl (by kernel_rfl) (by kernel_rfl) (by kernel_rfl) (by kernel_rfl) (by kernel_rfl) (fun _ _ _ h => h) (Or.inl ⟨by kernel_rfl, fun w9 h9 => ?_⟩) HXD.out ?_
      · go_simp
      refine AnyE.take (i := 3) (v := .slice (some ⟨g, 0, none⟩) n cv) rfl (by kernel_rfl) (by kernel_rfl) (by kernel_rfl) (by kernel_rfl) (by kernel_rfl) (fun _ _ _ h => h) (Or.inl ⟨by kernel_rfl, fun w9 h9 => ?_⟩) HXD.out ?_
      · have x9 := HH.out _ h9; obtain ⟨x0, x1, x2⟩ := x9; obtain ⟨y0, y1, _, _⟩ := h9.cel; have yl := h9.lt; have gl := h9.gne.2.2; go_simp
      refine AnyE.take (i := 4) (v := .pointer (some ⟨g, 0, none⟩)) rfl (by kernel_rfl) (by kernel_rfl) (by kernel_rfl) (by kernel_rfl) (by kernel_rfl) (fun _ _ _ h => h) (Or.inl ⟨by kernel_rfl, fun w9 h9 => ?_⟩) HXD.out ?_
      · go_simp
      refine AnyE.take (i := 5) (v := .agg #[.int .i64 z.salt, .string z.key, .string z.tag]) rfl (by kernel_rfl) (by kernel_rfl) (by kernel_rfl) (by kernel_rfl) (by kernel_rfl) (fun _ _ _ h => h) (Or.inl ⟨by kernel_rfl, fun w9 h9 => ?_⟩) HXD.out ?_
      · have x9 := HH.out _ h9; obtain ⟨x0, x1, x2⟩ := x9; obtain ⟨y0, y1, _, _⟩ := h9.cel; have yl := h9.lt; have gl := h9.gne.2.2; go_simp
      refine AnyE.take (i := 6) (v := .pointer (some ⟨B, 0, none⟩)) rfl (by kernel_rfl) (by kernel_rfl) (by kernel_rfl) (by kernel_rfl) (by kernel_rfl) (fun _ _ _ h => h) (Or.inl ⟨by kernel_rfl, fun w9 h9 => ?_⟩) HXD.out ?_
      · go_simp
      refine AnyE.take (i := 7) (v := .slice (some ⟨g, 0, none⟩) n cv) rfl (by kernel_rfl) (by kernel_rfl) (by kernel_rfl) (by kernel_rfl) (by kernel_rfl) (fun _ _ _ h => h) (Or.inl ⟨by kernel_rfl, fun w9 h9 => ?_⟩) HXD.out ?_
      · have x9 := HH.out _ h9; obtain ⟨x0, x1, x2⟩ := x9; obtain ⟨y0, y1, _, _⟩ := h9.cel; have yl := h9.lt; have gl := h9.gne.2.2; go_simp
      refine AnyE.take (i := 8) (v := .pointer (some ⟨g, 0, none⟩)) rfl (by kernel_rfl) (by kernel_rfl) (by kernel_rfl) (by kernel_rfl) (by kernel_rfl) (fun _ _ _ h => h) (Or.inl ⟨by kernel_rfl, fun w9 h9 => ?_⟩) HXD.out ?_
      · go_simp
      refine AnyE.take (i := 9) (v := .agg #[.int .i64 z.salt, .string z.key, .string z.tag]) rfl (by kernel_rfl) (by kernel_rfl) (by kernel_rfl) (by kernel_rfl) (by kernel_rfl) (fun _ _ _ h => h) (Or.inl ⟨by kernel_rfl, fun w9 h9 => ?_⟩) HXD.out ?_
      · have x9 := HH.out _ h9; obtain ⟨x0, x1, x2⟩ := x9; obtain ⟨y0, y1, _, _⟩ := h9.cel; have yl := h9.lt; have gl := h9.gne.2.2; go_simp
      refine AnyE.take (i := 10) (v := .pointer (some ⟨B, 0, none⟩)) rfl (by kernel_rfl) (by kernel_rfl) (by kernel_rfl) (by kernel_rfl) (by kernel_rfl) (fun _ _ _ h => h) (Or.inl ⟨by kernel_rfl, fun w9 h9 => ?_⟩) HXD.out ?_
      · go_simp
      refine AnyE.take (i := 11) (v := .slice (some ⟨g, 0, none⟩) n cv) rfl (by kernel_rfl) (by kernel_rfl) (by kernel_rfl) (by kernel_rfl) (by kernel_rfl) (fun _ _ _ h => h) (Or.inl ⟨by kernel_rfl, fun w9 h9 => ?_⟩) HXD.out ?_
      · have x9 := HH.out _ h9; obtain ⟨x0, x1, x2⟩ := x9; obtain ⟨y0, y1, _, _⟩ := h9.cel; have yl := h9.lt; have gl := h9.gne.2.2; go_simp
      refine AnyE.take (i := 12) (v := .pointer (some ⟨g, 0, none⟩)) rfl (by kernel_rfl) (by kernel_rfl) (by kernel_rfl) (by kernel_rfl) (by kernel_rfl) (fun _ _ _ h => h) (Or.inl ⟨by kernel_rfl, fun w9 h9 => ?_⟩) HXD.out ?_
      · go_simp
      refine AnyE.take (i := 13) (v := .agg #[.int .i64 z.salt, .string z.key, .string z.tag]) rfl (by kernel_rfl) (by kernel_rfl) (by kernel_rfl) (by kernel_rfl) (by kernel_rfl) (fun _ _ _ h => h) (Or.inl ⟨by kernel_rfl, fun w9 h9 => ?_⟩) HXD.out ?_
      · have x9 := HH.out _ h9; obtain ⟨x0, x1, x2⟩ := x9; obtain ⟨y0, y1, _, _⟩ := h9.cel; have yl := h9.lt; have gl := h9.gne.2.2; go_simp
      have HXL : Hid (VX w (u5.alloc (.cells #[.int .i64 z.salt, .string z.key, .string z.tag, .int .i64 z.salt, .string z.key, .string z.tag, .int .i64 z.salt, .string z.key, .string z.tag] 70)).drew b a len cap w.heap.size B (.slice (some ⟨g, 0, none⟩) n cv) zs M0 P1 c) := (HX5.out.step (bx1 _ _)).step (Below.refl _ _).drew
      obtain ⟨_, _, _, _, _, _, _, hnz⟩ := HX5.out.head
      have HKS : Hid (KSrow (u5.alloc (.cells #[.int .i64 z.salt, .string z.key, .string z.tag, .int .i64 z.salt, .string z.key, .string z.tag, .int .i64 z.salt, .string z.key, .string z.tag] 70)).drew (.slice (some ⟨u5.heap.size, 0, none⟩) 3 3) [z, z, z]) := (KSrow.of (B := u5.heap.size) (show ((u5.alloc (.cells #[.int .i64 z.salt, .string z.key, .string z.tag, .int .i64 z.salt, .string z.key, .string z.tag, .int .i64 z.salt, .string z.key, .string z.tag] 70)).drew).ownsRow u5.heap.size 70 3 (.slice (some ⟨u5.heap.size, 0, none⟩) 3 3) 3 (ksR [z, z, z]) from World.ownsRow.drew (World.ownsRow_lit u5 #[.int .i64 z.salt, .string z.key, .string z.tag, .int .i64 z.salt, .string z.key, .string z.tag, .int .i64 z.salt, .string z.key, .string z.tag] 3 (Nat.le_refl _) (by decide) rfl)))
      have HAP : Hid (∃ v' u', (Builtin.append_ #[25, 25] 25 #[.slice (some ⟨g, 0, none⟩) n cv, .slice (some ⟨u5.heap.size, 0, none⟩) 3 3]).run Try.prog ((u5.alloc (.cells #[.int .i64 z.salt, .string z.key, .string z.tag, .int .i64 z.salt, .string z.key, .string z.tag, .int .i64 z.salt, .string z.key, .string z.tag] 70)).drew) = .ok v' u' ∧ (∃ ao nn cp, v' = .slice ao nn cp ∧ ((u5.alloc (.cells #[.int .i64 z.salt, .string z.key, .string z.tag, .int .i64 z.salt, .string z.key, .string z.tag, .int .i64 z.salt, .string z.key, .string z.tag] 70)).drew).grownBy u' (some g))) := (by
        have hr := HXL.out.row
        subst hnz
        obtain ⟨v9, u9, h1, h2, h3⟩ := appK hr HKS.out (by have := HXL.out.vg.l4; simp; omega) HXL.out.gr.size
        obtain ⟨ao, cp, e⟩ := ks_sl h2
        exact ⟨v9, u9, h1, ao, _, cp, e, h3⟩)
      refine AnyE.one 14 (by kernel_rfl) rfl (by kernel_rfl) fun K hK => ?_
      go_simp
      refine hK _ _ (fun _ => HXL.out) ?_
      clear hK K
      generalize (u5.alloc (.cells #[.int .i64 z.salt, .string z.key, .string z.tag, .int .i64 z.salt, .string z.key, .string z.tag, .int .i64 z.salt, .string z.key, .string z.tag] 70)).drew = uL at *
      refine AnyE.one 15 (by kernel_rfl) rfl (by kernel_rfl) fun K hK => ?_
      refine wp_append_ex _ _ 25 rfl (.slice (some ⟨g, 0, none⟩) n cv) (.slice (some ⟨u5.heap.size, 0, none⟩) 3 3) rfl rfl HAP.out ?_
      rintro v' u6 ⟨ao, nn, cp, rfl, hg6⟩
      refine hK _ _ (fun h => absurd (by decide) h) ?_
      clear hK K
      have HW6 : Hid (VW w u6 b a len cap B (.slice (some ⟨g, 0, none⟩) n cv) c) := HXL.out.weak.far hg6 (fun k hk => by cases hk; exact HGB.out)
      obtain ⟨x0, x1, _, _⟩ := HW6.out.cel
      obtain ⟨f0, f1, _, _⟩ := HW6.out.frz
      have xl := HW6.out.lt
      refine AnyE.one 16 (by kernel_rfl) rfl (by kernel_rfl) fun K hK => ?_
      go_simp
      refine hK _ _ (fun h => absurd (by decide) h) ?_
      clear hK K
      refine AnyE.one 17 (by kernel_rfl) rfl (by kernel_rfl) fun K hK => ?_
      go_simp
      refine hK _ _ (fun h => absurd (by decide) h) ?_
      clear hK K
      refine AnyE.done (by kernel_rfl) ?_ _
      go_simp
      clear x0 x1 f0 f1 xl
      go_upto_region 17 with fail
      have HW9 : Hid (VW w (u6.setCell ⟨B, 0, none⟩ (.slice ao nn cp)) b a len cap B (.slice ao nn cp) c) := HW6.out.set0 _
      generalize (u6.setCell ⟨B, 0, none⟩ (.slice ao nn cp)) = W8 at *
      obtain ⟨y0, y1, y2, y3⟩ := HW9.out.cel
      obtain ⟨f0, f1, f2, f3⟩ := HW9.out.frz
      have yl := HW9.out.lt
      have yr := HW9.out.ltr
      go_wp2
      obtain ⟨⟨q0, q1⟩, hs9, hg9⟩ := HW9.out.fin
      refine bodyPost_ret (v := .agg #[(.slice ao nn cp), .string c]) (by simp [results, Try.results23, go_sem, q0, q1]) rfl ?_
      exact ⟨_, _, _, _, rfl, hs9, hg9⟩
    · go_upto_region 17 with fail
      have HW9 : Hid (VW w u5 b a len cap B (.slice (some ⟨g, 0, none⟩) n cv) c) := HX5.out.weak
      generalize u5 = W8 at *
      obtain ⟨y0, y1, y2, y3⟩ := HW9.out.cel
      obtain ⟨f0, f1, f2, f3⟩ := HW9.out.frz
      have yl := HW9.out.lt
      have yr := HW9.out.ltr
      go_wp2
      obtain ⟨⟨q0, q1⟩, hs9, hg9⟩ := HW9.out.fin
      refine bodyPost_ret (v := .agg #[(.slice (some ⟨g, 0, none⟩) n cv), .string c]) (by simp [results, Try.results23, go_sem, q0, q1]) rfl ?_
      exact ⟨_, _, _, _, rfl, hs9, hg9⟩

/-- A source that was laid, and what came since. -/
structure SQ (w u : World) (a : Option Addr) (len cap : Nat) : Prop where
  src : SrcOk u w.heap.size a len cap
  bel : Below w.heap.size w u
theorem SQ.grow {w u u' : World} {a : Option Addr} {len cap : Nat} (h : SQ w u a len cap) (hs : SrcOk u' w.heap.size a len cap) (hg : u.grownBy u' (some w.heap.size)) : SQ w u' a len cap := ⟨hs, h.bel.grown hg h.bel.size (fun k hk => by cases hk; exact Nat.le_refl _)⟩
theorem SQ.step {w u u' : World} {a : Option Addr} {len cap : Nat} (h : SQ w u a len cap) (hb : Below u.heap.size u u') : SQ w u' a len cap := ⟨src_bel9 h.src hb, bel_bel9 h.bel hb⟩
set_option maxRecDepth 100000 in
set_option maxHeartbeats 4000000 in
theorem drawMake_any (a : Option Addr) (len cap : Nat) (w : World) (hcode : CodeAt w w.heap.size a len) (hl : len ≤ 1048576) :
    Calls Try.prog 5 #[.slice a len cap] w fun e w' => ∃ (m p : ByteArray) (st : Int), e = .returned (.tuple #[.string m, .string p, .int .i64 st]) ∧ m.size ≤ 17 ∧ p.size ≤ 4097 ∧ Below w.heap.size w w' := by
  have HN : Hid (∀ (u : World) (k : Int), k ≤ 100 → SQ w u a len cap → Calls Try.prog 21 #[.pointer (some ⟨w.heap.size, 0, none⟩), .int .i64 k] u fun e w' => ∃ R : Nat, e = .returned (.int .i64 (R : Int)) ∧ ((R : Int) < k ∨ R = 0) ∧ u.grownBy w' (some w.heap.size) ∧ SQ w w' a len cap) := fun u k hk hx => (by
    refine (src_n w.heap.size a len cap k u hx.src (by omega)).mono ?_
    rintro e w' ⟨r, rfl, r0, r1, hs, hg⟩
    obtain ⟨R, rfl⟩ := Int.eq_ofNat_of_zero_le r0
    exact ⟨R, rfl, by omega, hg, hx.grow hs hg⟩)
  have HBY : Hid (∀ (u : World) (k : Nat), k ≤ 100 → SQ w u a len cap → Calls Try.prog 20 #[.pointer (some ⟨w.heap.size, 0, none⟩), .int .i64 (k : Int)] u fun e w' => ∃ s : ByteArray, e = .returned (.string s) ∧ s.size = k ∧ SQ w w' a len cap) := fun u k hk hx => (by
    refine (src_bytes w.heap.size a len cap k u hx.src (by omega)).mono ?_
    rintro e w' ⟨s, rfl, hs, h2, hg⟩
    exact ⟨s, rfl, hs, hx.grow h2 hg⟩)
  have HPA : Hid (∀ (u : World), SQ w u a len cap → Calls Try.prog 22 #[.pointer (some ⟨w.heap.size, 0, none⟩)] u fun e w' => ∃ s : ByteArray, e = .returned (.string s) ∧ s.size ≤ 4097 ∧ SQ w w' a len cap) := fun u hx => (by
    refine (src_pass w.heap.size a len cap u hx.src).mono ?_
    rintro e w' ⟨s, rfl, hs, h2, hg⟩
    exact ⟨s, rfl, hs, hx.grow h2 hg⟩)
  have HIN : Hid (inB9 0 17 [16, 16, 16, 15, 17, 0]) := (fun x hx => by simp at hx; omega)
  have HSQ : Hid (∀ u, SQ w u a len cap → w.heap.size < u.heap.size) := fun u hu => hu.src.lt
  go_enter Try.func5, Try.ntmps5
  go_upto_region 2 with (go_at_call 19; refine (l01Source_any a len cap w hcode hl).mono ?_; rintro e w1 ⟨rfl, hs1, hb1⟩; have HX1 : Hid (SQ w w1 a len cap) := ⟨hs1, hb1⟩; clear hs1 hb1 hcode)
  refine AnyE.start (fun _ => True) [] (by kernel_rfl) ?_
  have HXD : Hid (SQ w w1.drew a len cap) := HX1.out.step (Below.refl _ _).drew
  refine AnyE.take (i := 0) (v := .pointer (some ⟨w.heap.size, 0, none⟩)) rfl (by kernel_rfl) (by kernel_rfl) (by kernel_rfl) (by kernel_rfl) (by kernel_rfl) (fun _ _ _ h => h) (Or.inl ⟨by kernel_rfl, fun w9 h9 => ?_⟩) trivial ?_
  · go_simp
  refine AnyE.take (i := 2) (v := .pointer (some ⟨w.heap.size, 0, none⟩)) rfl (by kernel_rfl) (by kernel_rfl) (by kernel_rfl) (by kernel_rfl) (by kernel_rfl) (fun _ _ _ h => h) (Or.inl ⟨by kernel_rfl, fun w9 h9 => ?_⟩) trivial ?_
  · go_simp
  refine AnyE.take (i := 7) (v := .pointer (some ⟨w.heap.size, 0, none⟩)) rfl (by kernel_rfl) (by kernel_rfl) (by kernel_rfl) (by kernel_rfl) (by kernel_rfl) (fun _ _ _ h => h) (Or.inl ⟨by kernel_rfl, fun w9 h9 => ?_⟩) trivial ?_
  · go_simp
  refine AnyE.take (i := 9) (v := .pointer (some ⟨w.heap.size, 0, none⟩)) rfl (by kernel_rfl) (by kernel_rfl) (by kernel_rfl) (by kernel_rfl) (by kernel_rfl) (fun _ _ _ h => h) (Or.inl ⟨by kernel_rfl, fun w9 h9 => ?_⟩) trivial ?_
  · go_simp
  refine AnyE.take (i := 12) (v := .pointer (some ⟨w.heap.size, 0, none⟩)) rfl (by kernel_rfl) (by kernel_rfl) (by kernel_rfl) (by kernel_rfl) (by kernel_rfl) (fun _ _ _ h => h) (Or.inl ⟨by kernel_rfl, fun w9 h9 => ?_⟩) trivial ?_
  · go_simp
  refine AnyE.two 1 3 (by kernel_rfl) rfl rfl (by kernel_rfl) (by kernel_rfl) (fun K hK => ?_) (fun K hK => ?_)
  · skip
    have HXL : Hid (SQ w (w1.alloc (.cells #[.int .i64 16, .int .i64 16, .int .i64 16, .int .i64 15, .int .i64 17, .int .i64 0] 2)).drew a len cap) := (HX1.out.step (bx1 _ _)).step (Below.refl _ _).drew
    have hlb := HSQ.out _ HX1.out
    go_simp
    refine hK _ _ (fun _ => trivial) ?_
    clear hK K
    refine AnyE.one 3 (by kernel_rfl) rfl (by kernel_rfl) fun K hK => ?_
    go_simp
    go_wp2_with (go_at_call 21; refine Calls.mono (HN.out _ 6 (by omega) HXL.out) ?_; rintro e u3 ⟨R, rfl, hR, hgu3, hxu3⟩; have HXu3 : Hid (SQ w u3 a len cap) := hxu3; clear hxu3)
    refine hK _ _ (fun _ => trivial) ?_
    clear hK K
    have hR6 : R < 6 := (by omega)
    obtain ⟨y, yc, y0, y1⟩ := lit_draw9 (u := w1) (u2 := u3) (t := 2) (C := [16, 16, 16, 15, 17, 0]) hlb ⟨hgu3.os, hgu3.tape, hgu3.output, hgu3.size, hgu3.block⟩ R (by simpa using hR6) HIN.out
    have ycl : w1.heap.size < u3.heap.size := (Nat.lt_of_lt_of_le (by simp : w1.heap.size < (w1.alloc (.cells #[.int .i64 16, .int .i64 16, .int .i64 16, .int .i64 15, .int .i64 17, .int .i64 0] 2)).heap.size) hgu3.size)
    have R0 : (0 : Int) ≤ (R : Int) := (by omega)
    have R1 : (R : Int) < 6 := (by omega)
    obtain ⟨Y, rfl⟩ := Int.eq_ofNat_of_zero_le y0
    clear hgu3 HXL hlb hR y0
    refine AnyE.one 4 (by kernel_rfl) rfl (by kernel_rfl) fun K hK => ?_
    go_simp
    refine hK _ _ (fun _ => trivial) ?_
    clear hK K
    refine AnyE.one 5 (by kernel_rfl) rfl (by kernel_rfl) fun K hK => ?_
    go_simp
    refine hK _ _ (fun _ => trivial) ?_
    clear hK K
    clear yc ycl
    refine AnyE.one 6 (by kernel_rfl) rfl (by kernel_rfl) fun K hK => ?_
    go_simp
    go_wp2_with (go_at_call 20; refine Calls.mono (HBY.out _ Y (by omega) HXu3.out) ?_; rintro e u4 ⟨mm, rfl, hmm, hx4⟩; have HX4 : Hid (SQ w u4 a len cap) := hx4; clear hx4)
    refine hK _ _ (fun _ => trivial) ?_
    clear hK K
    refine AnyE.one 8 (by kernel_rfl) rfl (by kernel_rfl) fun K hK => ?_
    go_simp
    go_wp2_with (go_at_call 22; refine Calls.mono (HPA.out _ HX4.out) ?_; rintro e u5 ⟨pp, rfl, hpp, hx5⟩; have HX5 : Hid (SQ w u5 a len cap) := hx5; clear hx5)
    refine hK _ _ (fun _ => trivial) ?_
    clear hK K
    refine AnyE.one 10 (by kernel_rfl) rfl (by kernel_rfl) fun K hK => ?_
    go_simp
    go_wp2_with (go_at_call 21; refine Calls.mono (HN.out _ 100 (by omega) HX5.out) ?_; rintro e u6 ⟨Q, rfl, hQ, hgu6, hxu6⟩; have HXu6 : Hid (SQ w u6 a len cap) := hxu6; clear hxu6)
    refine hK _ _ (fun _ => trivial) ?_
    clear hK K
    clear hgu6 hQ
    obtain ⟨ST, hST⟩ : ∃ ST : List Int, ST = [(Q : Int), -1, 4294967296, 4294967295, 7] := ⟨_, rfl⟩
    have HI2 : Hid (∃ lo hi, inB9 lo hi [(Q : Int), -1, 4294967296, 4294967295, 7]) := ⟨-1, 4294967296 + Q, fun x hx => by simp at hx; omega⟩
    clear hST ST
    refine AnyE.two 11 13 (by kernel_rfl) rfl rfl (by kernel_rfl) (by kernel_rfl) (fun K hK => ?_) (fun K hK => ?_)
    · skip
      have HXL : Hid (SQ w (u6.alloc (.cells #[.int .i64 (Q : Int), .int .i64 (-1), .int .i64 4294967296, .int .i64 4294967295, .int .i64 7] 2)) a len cap) := HXu6.out.step (bx1 _ _)
      have hlb := HSQ.out _ HXu6.out
      go_simp
      refine hK _ _ (fun _ => trivial) ?_
      clear hK K
      refine AnyE.one 13 (by kernel_rfl) rfl (by kernel_rfl) fun K hK => ?_
      go_simp
      go_wp2_with (go_at_call 21; refine Calls.mono (HN.out _ 5 (by omega) HXL.out) ?_; rintro e u7 ⟨V, rfl, hV, hgu7, hxu7⟩; have HXu7 : Hid (SQ w u7 a len cap) := hxu7; clear hxu7)
      refine hK _ _ (fun _ => trivial) ?_
      clear hK K
      obtain ⟨lo, hi, hin⟩ := HI2.out
      have hV5 : V < 5 := (by omega)
      obtain ⟨y9, yc, _, _⟩ := lit_draw9 (u := u6) (u2 := u7) (t := 2) (C := [(Q : Int), -1, 4294967296, 4294967295, 7]) hlb hgu7 V (by simpa using hV5) hin
      have ycl : u6.heap.size < u7.heap.size := (Nat.lt_of_lt_of_le (by simp : u6.heap.size < (u6.alloc (.cells #[.int .i64 (Q : Int), .int .i64 (-1), .int .i64 4294967296, .int .i64 4294967295, .int .i64 7] 2)).heap.size) hgu7.size)
      have V0 : (0 : Int) ≤ (V : Int) := (by omega)
      have V1 : (V : Int) < 5 := (by omega)
      clear hgu7 HXL hin hlb hV
      refine AnyE.take (i := 16) (v := .string mm) rfl (by kernel_rfl) (by kernel_rfl) (by kernel_rfl) (by kernel_rfl) (by kernel_rfl) (fun _ _ _ h => h) (Or.inl ⟨by kernel_rfl, fun w9 h9 => ?_⟩) trivial ?_
      · go_simp
      refine AnyE.take (i := 17) (v := .string pp) rfl (by kernel_rfl) (by kernel_rfl) (by kernel_rfl) (by kernel_rfl) (by kernel_rfl) (fun _ _ _ h => h) (Or.inl ⟨by kernel_rfl, fun w9 h9 => ?_⟩) trivial ?_
      · go_simp
      refine AnyE.one 14 (by kernel_rfl) rfl (by kernel_rfl) fun K hK => ?_
      go_simp
      refine hK _ _ (fun _ => trivial) ?_
      clear hK K
      refine AnyE.one 15 (by kernel_rfl) rfl (by kernel_rfl) fun K hK => ?_
      go_simp
      refine hK _ _ (fun _ => trivial) ?_
      clear hK K
      refine AnyE.take (i := 18) (v := .int .i64 y9) rfl (by kernel_rfl) (by kernel_rfl) (by kernel_rfl) (by kernel_rfl) (by kernel_rfl) (fun _ _ _ h => h) (Or.inl ⟨by kernel_rfl, fun w9 h9 => ?_⟩) trivial ?_
      · go_simp
      refine AnyE.done (by kernel_rfl) ?_ _
      go_simp
      go_wp2
      refine bodyPost_ret (v := .tuple #[.string mm, .string pp, .int .i64 y9]) (by simp [results, Try.results5, go_sem]) rfl ?_
      exact ⟨_, _, _, rfl, by omega, by omega, HXu7.out.bel⟩
    · skip
      go_simp
      go_wp2_with (go_at_call 21; refine Calls.mono (HN.out _ 5 (by omega) HXu6.out) ?_; rintro e u7 ⟨V, rfl, hV, hgu7, hxu7⟩; have HXu7 : Hid (SQ w u7 a len cap) := hxu7; clear hxu7)
      refine hK _ _ (fun _ => trivial) ?_
      clear hK K hgu7
      have HXL : Hid (SQ w (u7.alloc (.cells #[.int .i64 (Q : Int), .int .i64 (-1), .int .i64 4294967296, .int .i64 4294967295, .int .i64 7] 2)) a len cap) := HXu7.out.step (bx1 _ _)
      have hlb := HSQ.out _ HXu7.out
      obtain ⟨lo, hi, hin⟩ := HI2.out
      have hV5 : V < 5 := (by omega)
      obtain ⟨y9, yc, _, _⟩ := lit_draw9 (u := u7) (u2 := (u7.alloc (.cells #[.int .i64 (Q : Int), .int .i64 (-1), .int .i64 4294967296, .int .i64 4294967295, .int .i64 7] 2))) (t := 2) (C := [(Q : Int), -1, 4294967296, 4294967295, 7]) hlb ⟨rfl, rfl, rfl, Nat.le_refl _, fun _ _ _ => rfl⟩ V (by simpa using hV5) hin
      clear hin hlb hV
      refine AnyE.take (i := 16) (v := .string mm) rfl (by kernel_rfl) (by kernel_rfl) (by kernel_rfl) (by kernel_rfl) (by kernel_rfl) (fun _ _ _ h => h) (Or.inl ⟨by kernel_rfl, fun w9 h9 => ?_⟩) trivial ?_
      · go_simp
      refine AnyE.take (i := 17) (v := .string pp) rfl (by kernel_rfl) (by kernel_rfl) (by kernel_rfl) (by kernel_rfl) (by kernel_rfl) (fun _ _ _ h => h) (Or.inl ⟨by kernel_rfl, fun w9 h9 => ?_⟩) trivial ?_
      · go_simp
      refine AnyE.one 11 (by kernel_rfl) rfl (by kernel_rfl) fun K hK => ?_
      go_simp
      refine hK _ _ (fun _ => trivial) ?_
      clear hK K
      have ycl : u7.heap.size < (u7.alloc (.cells #[.int .i64 (Q : Int), .int .i64 (-1), .int .i64 4294967296, .int .i64 4294967295, .int .i64 7] 2)).heap.size := (by simp)
      generalize (u7.alloc (.cells #[.int .i64 (Q : Int), .int .i64 (-1), .int .i64 4294967296, .int .i64 4294967295, .int .i64 7] 2)) = u8 at *
      have V0 : (0 : Int) ≤ (V : Int) := (by omega)
      have V1 : (V : Int) < 5 := (by omega)
      refine AnyE.one 14 (by kernel_rfl) rfl (by kernel_rfl) fun K hK => ?_
      go_simp
      refine hK _ _ (fun _ => trivial) ?_
      clear hK K
      refine AnyE.one 15 (by kernel_rfl) rfl (by kernel_rfl) fun K hK => ?_
      go_simp
      refine hK _ _ (fun _ => trivial) ?_
      clear hK K
      refine AnyE.take (i := 18) (v := .int .i64 y9) rfl (by kernel_rfl) (by kernel_rfl) (by kernel_rfl) (by kernel_rfl) (by kernel_rfl) (fun _ _ _ h => h) (Or.inl ⟨by kernel_rfl, fun w9 h9 => ?_⟩) trivial ?_
      · go_simp
      refine AnyE.done (by kernel_rfl) ?_ _
      go_simp
      go_wp2
      refine bodyPost_ret (v := .tuple #[.string mm, .string pp, .int .i64 y9]) (by simp [results, Try.results5, go_sem]) rfl ?_
      exact ⟨_, _, _, rfl, by omega, by omega, HXL.out.bel⟩
  · skip
    go_simp
    go_wp2_with (go_at_call 21; refine Calls.mono (HN.out _ 6 (by omega) HXD.out) ?_; rintro e u3 ⟨R, rfl, hR, hgu3, hxu3⟩; have HXu3 : Hid (SQ w u3 a len cap) := hxu3; clear hxu3)
    refine hK _ _ (fun _ => trivial) ?_
    clear hK K hgu3
    have HXL : Hid (SQ w (u3.alloc (.cells #[.int .i64 16, .int .i64 16, .int .i64 16, .int .i64 15, .int .i64 17, .int .i64 0] 2)) a len cap) := HXu3.out.step (bx1 _ _)
    have hlb := HSQ.out _ HXu3.out
    have hR6 : R < 6 := (by omega)
    obtain ⟨y, yc, y0, y1⟩ := lit_draw9 (u := u3) (u2 := (u3.alloc (.cells #[.int .i64 16, .int .i64 16, .int .i64 16, .int .i64 15, .int .i64 17, .int .i64 0] 2))) (t := 2) (C := [16, 16, 16, 15, 17, 0]) hlb ⟨rfl, rfl, rfl, Nat.le_refl _, fun _ _ _ => rfl⟩ R (by simpa using hR6) HIN.out
    obtain ⟨Y, rfl⟩ := Int.eq_ofNat_of_zero_le y0
    clear hlb hR y0
    refine AnyE.one 1 (by kernel_rfl) rfl (by kernel_rfl) fun K hK => ?_
    go_simp
    refine hK _ _ (fun _ => trivial) ?_
    clear hK K
    have ycl : u3.heap.size < (u3.alloc (.cells #[.int .i64 16, .int .i64 16, .int .i64 16, .int .i64 15, .int .i64 17, .int .i64 0] 2)).heap.size := (by simp)
    generalize (u3.alloc (.cells #[.int .i64 16, .int .i64 16, .int .i64 16, .int .i64 15, .int .i64 17, .int .i64 0] 2)) = u2 at *
    have R0 : (0 : Int) ≤ (R : Int) := (by omega)
    have R1 : (R : Int) < 6 := (by omega)
    refine AnyE.one 4 (by kernel_rfl) rfl (by kernel_rfl) fun K hK => ?_
    go_simp
    refine hK _ _ (fun _ => trivial) ?_
    clear hK K
    refine AnyE.one 5 (by kernel_rfl) rfl (by kernel_rfl) fun K hK => ?_
    go_simp
    refine hK _ _ (fun _ => trivial) ?_
    clear hK K
    clear yc ycl
    refine AnyE.one 6 (by kernel_rfl) rfl (by kernel_rfl) fun K hK => ?_
    go_simp
    go_wp2_with (go_at_call 20; refine Calls.mono (HBY.out _ Y (by omega) HXL.out) ?_; rintro e u4 ⟨mm, rfl, hmm, hx4⟩; have HX4 : Hid (SQ w u4 a len cap) := hx4; clear hx4)
    refine hK _ _ (fun _ => trivial) ?_
    clear hK K
    refine AnyE.one 8 (by kernel_rfl) rfl (by kernel_rfl) fun K hK => ?_
    go_simp
    go_wp2_with (go_at_call 22; refine Calls.mono (HPA.out _ HX4.out) ?_; rintro e u5 ⟨pp, rfl, hpp, hx5⟩; have HX5 : Hid (SQ w u5 a len cap) := hx5; clear hx5)
    refine hK _ _ (fun _ => trivial) ?_
    clear hK K
    refine AnyE.one 10 (by kernel_rfl) rfl (by kernel_rfl) fun K hK => ?_
    go_simp
    go_wp2_with (go_at_call 21; refine Calls.mono (HN.out _ 100 (by omega) HX5.out) ?_; rintro e u6 ⟨Q, rfl, hQ, hgu6, hxu6⟩; have HXu6 : Hid (SQ w u6 a len cap) := hxu6; clear hxu6)
    refine hK _ _ (fun _ => trivial) ?_
    clear hK K
    clear hgu6 hQ
    obtain ⟨ST, hST⟩ : ∃ ST : List Int, ST = [(Q : Int), -1, 4294967296, 4294967295, 7] := ⟨_, rfl⟩
    have HI2 : Hid (∃ lo hi, inB9 lo hi [(Q : Int), -1, 4294967296, 4294967295, 7]) := ⟨-1, 4294967296 + Q, fun x hx => by simp at hx; omega⟩
    clear hST ST
    refine AnyE.two 11 13 (by kernel_rfl) rfl rfl (by kernel_rfl) (by kernel_rfl) (fun K hK => ?_) (fun K hK => ?_)
    · skip
      have HXL : Hid (SQ w (u6.alloc (.cells #[.int .i64 (Q : Int), .int .i64 (-1), .int .i64 4294967296, .int .i64 4294967295, .int .i64 7] 2)) a len cap) := HXu6.out.step (bx1 _ _)
      have hlb := HSQ.out _ HXu6.out
      go_simp
      refine hK _ _ (fun _ => trivial) ?_
      clear hK K
      refine AnyE.one 13 (by kernel_rfl) rfl (by kernel_rfl) fun K hK => ?_
      go_simp
      go_wp2_with (go_at_call 21; refine Calls.mono (HN.out _ 5 (by omega) HXL.out) ?_; rintro e u7 ⟨V, rfl, hV, hgu7, hxu7⟩; have HXu7 : Hid (SQ w u7 a len cap) := hxu7; clear hxu7)
      refine hK _ _ (fun _ => trivial) ?_
      clear hK K
      obtain ⟨lo, hi, hin⟩ := HI2.out
      have hV5 : V < 5 := (by omega)
      obtain ⟨y9, yc, _, _⟩ := lit_draw9 (u := u6) (u2 := u7) (t := 2) (C := [(Q : Int), -1, 4294967296, 4294967295, 7]) hlb hgu7 V (by simpa using hV5) hin
      have ycl : u6.heap.size < u7.heap.size := (Nat.lt_of_lt_of_le (by simp : u6.heap.size < (u6.alloc (.cells #[.int .i64 (Q : Int), .int .i64 (-1), .int .i64 4294967296, .int .i64 4294967295, .int .i64 7] 2)).heap.size) hgu7.size)
      have V0 : (0 : Int) ≤ (V : Int) := (by omega)
      have V1 : (V : Int) < 5 := (by omega)
      clear hgu7 HXL hin hlb hV
      refine AnyE.take (i := 16) (v := .string mm) rfl (by kernel_rfl) (by kernel_rfl) (by kernel_rfl) (by kernel_rfl) (by kernel_rfl) (fun _ _ _ h => h) (Or.inl ⟨by kernel_rfl, fun w9 h9 => ?_⟩) trivial ?_
      · go_simp
      refine AnyE.take (i := 17) (v := .string pp) rfl (by kernel_rfl) (by kernel_rfl) (by kernel_rfl) (by kernel_rfl) (by kernel_rfl) (fun _ _ _ h => h) (Or.inl ⟨by kernel_rfl, fun w9 h9 => ?_⟩) trivial ?_
      · go_simp
      refine AnyE.one 14 (by kernel_rfl) rfl (by kernel_rfl) fun K hK => ?_
      go_simp
      refine hK _ _ (fun _ => trivial) ?_
      clear hK K
      refine AnyE.one 15 (by kernel_rfl) rfl (by kernel_rfl) fun K hK => ?_
      go_simp
      refine hK _ _ (fun _ => trivial) ?_
      clear hK K
      refine AnyE.take (i := 18) (v := .int .i64 y9) rfl (by kernel_rfl) (by kernel_rfl) (by kernel_rfl) (by kernel_rfl) (by kernel_rfl) (fun _ _ _ h => h) (Or.inl ⟨by kernel_rfl, fun w9 h9 => ?_⟩) trivial ?_
      · go_simp
      refine AnyE.done (by kernel_rfl) ?_ _
      go_simp
      go_wp2
      refine bodyPost_ret (v := .tuple #[.string mm, .string pp, .int .i64 y9]) (by simp [results, Try.results5, go_sem]) rfl ?_
      exact ⟨_, _, _, rfl, by omega, by omega, HXu7.out.bel⟩
    · skip
      go_simp
      go_wp2_with (go_at_call 21; refine Calls.mono (HN.out _ 5 (by omega) HXu6.out) ?_; rintro e u7 ⟨V, rfl, hV, hgu7, hxu7⟩; have HXu7 : Hid (SQ w u7 a len cap) := hxu7; clear hxu7)
      refine hK _ _ (fun _ => trivial) ?_
      clear hK K hgu7
      have HXL : Hid (SQ w (u7.alloc (.cells #[.int .i64 (Q : Int), .int .i64 (-1), .int .i64 4294967296, .int .i64 4294967295, .int .i64 7] 2)) a len cap) := HXu7.out.step (bx1 _ _)
      have hlb := HSQ.out _ HXu7.out
      obtain ⟨lo, hi, hin⟩ := HI2.out
      have hV5 : V < 5 := (by omega)
      obtain ⟨y9, yc, _, _⟩ := lit_draw9 (u := u7) (u2 := (u7.alloc (.cells #[.int .i64 (Q : Int), .int .i64 (-1), .int .i64 4294967296, .int .i64 4294967295, .int .i64 7] 2))) (t := 2) (C := [(Q : Int), -1, 4294967296, 4294967295, 7]) hlb ⟨rfl, rfl, rfl, Nat.le_refl _, fun _ _ _ => rfl⟩ V (by simpa using hV5) hin
      clear hin hlb hV
      refine AnyE.take (i := 16) (v := .string mm) rfl (by kernel_rfl) (by kernel_rfl) (by kernel_rfl) (by kernel_rfl) (by kernel_rfl) (fun _ _ _ h => h) (Or.inl ⟨by kernel_rfl, fun w9 h9 => ?_⟩) trivial ?_
      · go_simp
      refine AnyE.take (i := 17) (v := .string pp) rfl (by kernel_rfl) (by kernel_rfl) (by kernel_rfl) (by kernel_rfl) (by kernel_rfl) (fun _ _ _ h => h) (Or.inl ⟨by kernel_rfl, fun w9 h9 => ?_⟩) trivial ?_
      · go_simp
      refine AnyE.one 11 (by kernel_rfl) rfl (by kernel_rfl) fun K hK => ?_
      go_simp
      refine hK _ _ (fun _ => trivial) ?_
      clear hK K
      have ycl : u7.heap.size < (u7.alloc (.cells #[.int .i64 (Q : Int), .int .i64 (-1), .int .i64 4294967296, .int .i64 4294967295, .int .i64 7] 2)).heap.size := (by simp)
      generalize (u7.alloc (.cells #[.int .i64 (Q : Int), .int .i64 (-1), .int .i64 4294967296, .int .i64 4294967295, .int .i64 7] 2)) = u8 at *
      have V0 : (0 : Int) ≤ (V : Int) := (by omega)
      have V1 : (V : Int) < 5 := (by omega)
      refine AnyE.one 14 (by kernel_rfl) rfl (by kernel_rfl) fun K hK => ?_
      go_simp
      refine hK _ _ (fun _ => trivial) ?_
      clear hK K
      refine AnyE.one 15 (by kernel_rfl) rfl (by kernel_rfl) fun K hK => ?_
      go_simp
      refine hK _ _ (fun _ => trivial) ?_
      clear hK K
      refine AnyE.take (i := 18) (v := .int .i64 y9) rfl (by kernel_rfl) (by kernel_rfl) (by kernel_rfl) (by kernel_rfl) (by kernel_rfl) (fun _ _ _ h => h) (Or.inl ⟨by kernel_rfl, fun w9 h9 => ?_⟩) trivial ?_
      · go_simp
      refine AnyE.done (by kernel_rfl) ?_ _
      go_simp
      go_wp2
      refine bodyPost_ret (v := .tuple #[.string mm, .string pp, .int .i64 y9]) (by simp [results, Try.results5, go_sem]) rfl ?_
      exact ⟨_, _, _, rfl, by omega, by omega, HXL.out.bel⟩
set_option maxRecDepth 100000 in
set_option maxHeartbeats 4000000 in
theorem drawOpen_any (a : Option Addr) (len cap : Nat) (w : World) (hcode : CodeAt w w.heap.size a len) (hl : len ≤ 1048576) :
    Calls Try.prog 6 #[.slice a len cap] w fun e w' => ∃ (ao : Option Addr) (n cp : Nat) (c s : ByteArray), e = .returned (.tuple #[.agg #[.slice ao n cp, .string c], .string s]) ∧ s.size ≤ 4097 ∧ Below w.heap.size w w' := by
  have HL0 : Hid (LG w (w.alloc (.cells #[.slice none 0 0, .string ⟨#[]⟩] 27)) w.heap.size #[.slice none 0 0, .string ⟨#[]⟩] 27) := LG.new w _ _
  have HC1 : Hid (CodeAt (w.alloc (.cells #[.slice none 0 0, .string ⟨#[]⟩] 27)) (w.alloc (.cells #[.slice none 0 0, .string ⟨#[]⟩] 27)).heap.size a len) := hcode.below (bx1 _ _)
  clear hcode
  go_enter Try.func6, Try.ntmps6
  go_upto_region 1 with fail
  generalize (w.alloc (.cells #[.slice none 0 0, .string ⟨#[]⟩] 27)) = u0 at *
  go_upto_region 2 with (go_at_call 19; refine (l01Source_any a len cap u0 HC1.out hl).mono ?_; rintro e w1 ⟨rfl, hs1, hb1⟩; have HX1 : Hid (SQ u0 w1 a len cap) := ⟨hs1, hb1⟩; clear hs1 hb1 HC1)
  go_wp2_with fail
  refine (src_anyVolume u0.heap.size a len cap w1 HX1.out.src).mono ?_
  rintro e w2 ⟨ao, n, cp, c, rfl, hs2, hg2⟩
  have HX2 : Hid (SQ u0 w2 a len cap) := HX1.out.grow hs2 hg2
  clear hs2 hg2 HX1
  go_wp2_with fail
  refine (src_pass u0.heap.size a len cap w2 HX2.out.src).mono ?_
  rintro e w3 ⟨s, rfl, hsz, hs3, hg3⟩
  have HX3 : Hid (SQ u0 w3 a len cap) := HX2.out.grow hs3 hg3
  have HL3 : Hid (LG w w3 w.heap.size #[.slice none 0 0, .string ⟨#[]⟩] 27) := HL0.out.step HX3.out.bel
  clear hs3 hg3 HX2 HX3 HL0
  have z0 := HL3.out.frz 0
  have z1 := HL3.out.frz 1
  have c0 := HL3.out.cel 0 _ rfl
  have c1 := HL3.out.cel 1 _ rfl
  have cl := HL3.out.lt
  go_wp2
  have hb9 : Below w.heap.size w ((w3.setCell ⟨w.heap.size, 0, none⟩ (.slice ao n cp)).setCell ⟨w.heap.size, 1, none⟩ (.string c)) := (HL3.out.bel.setCell (p := ⟨w.heap.size, 0, none⟩) (Nat.le_refl _) _).setCell (p := ⟨w.heap.size, 1, none⟩) (Nat.le_refl _) _
  have HF := blk2 HL3.out.box (.slice ao n cp) (.string c)
  generalize ((w3.setCell ⟨w.heap.size, 0, none⟩ (.slice ao n cp)).setCell ⟨w.heap.size, 1, none⟩ (.string c)) = W9 at *
  have q0 : W9.cell? ⟨w.heap.size, 0, none⟩ = some (.slice ao n cp) := by simp [World.cell?, HF]
  have q1 : W9.cell? ⟨w.heap.size, 1, none⟩ = some (.string c) := by simp [World.cell?, HF]
  refine bodyPost_ret (v := .tuple #[.agg #[.slice ao n cp, .string c], .string s]) (by simp [results, Try.results6, go_sem, q0, q1]) rfl ?_
  exact ⟨_, _, _, _, _, rfl, hsz, hb9⟩

theorem Aft.step9 {w u u' : World} (h : Aft w u) (hb : Below u.heap.size u u') : Aft w u' := ⟨h.out.trans (hb.mono h.out.size)⟩
theorem Aft.rf (w : World) : Aft w w := ⟨Below.refl _ _⟩
/-- What lies in a box that was laid. -/
structure BX (w : World) (b t : Nat) (cs : Array Value) : Prop where
  box : ∀ u, Aft w u → u.heap[b]? = some (.cells cs t (0, 0))
theorem BX.new (w : World) (t : Nat) (cs : Array Value) : BX (w.alloc (.cells cs t)) w.heap.size t cs := ⟨fun u hu => (hu.out.block _ (by simp)).trans (heap_new _ _)⟩
theorem BX.up {w w2 : World} {b t : Nat} {cs : Array Value} (h : BX w b t cs) (ha : Aft w w2) : BX w2 b t cs := ⟨fun u hu => h.box u ⟨ha.out.trans (hu.out.mono ha.out.size)⟩⟩
theorem BX.cel {w : World} {b t : Nat} {cs : Array Value} (h : BX w b t cs) {u : World} (hu : Aft w u) (k : Nat) (v : Value) (hv : cs[k]? = some v) : u.cell? ⟨b, k, none⟩ = some v := by simp [World.cell?, h.box u hu, hv]
theorem BX.lt {w : World} {b t : Nat} {cs : Array Value} (h : BX w b t cs) {u : World} (hu : Aft w u) : b < u.heap.size := (Array.getElem?_eq_some_iff.1 (h.box u hu)).1
set_option maxRecDepth 100000 in
set_option maxHeartbeats 8000000 in
theorem walkFV (a b : Option Addr) (len cap lenb capb : Nat) (w : World) (hcode : CodeAt w w.heap.size a len) (hmore : CodeAt w w.heap.size b lenb) (hl : len ≤ 1048576) (hlb : lenb ≤ 1048576) :
    Calls Try.prog 3 #[.slice a len cap, .slice b lenb capb] w fun e w' => e = .returned (.bool true) ∧ Below w.heap.size w w' := by
  have HC : Hid (CodeAt w w.heap.size a len) := hcode
  have HCM : Hid (∀ u, Below w.heap.size w u → CodeAt u u.heap.size b lenb) := fun u hu => hmore.below hu
  clear hcode hmore
  have e0 : decide (1048576 < (len : Int)) = false := decide_eq_false (by omega)
  have e1 : decide (1048576 < (lenb : Int)) = false := decide_eq_false (by omega)
  have hfl : ∀ (w9 : World) (x y z : Value), Sem.run Try.prog (Instr.field 31 (.agg #[x, y, z]) 0) w9 = .ok x w9 := fun _ _ _ _ => by kernel_rfl
  have hfo : ∀ (w9 : World) (x y : Value), Sem.run Try.prog (Instr.field 34 (.agg #[x, y]) 0) w9 = .ok x w9 := fun _ _ _ => by kernel_rfl
  go_enter Try.func3, Try.ntmps3
  go_wp2_with fail
  refine (drawMake_any a len cap w HC.out hl).mono ?_
  rintro e w1 ⟨m, p, st, rfl, hm, hp, hb1⟩
  have HB1 : Hid (Below w.heap.size w w1) := hb1
  clear hb1
  go_wp2_with fail
  refine (drawOpen_any b lenb capb w1 (HCM.out _ HB1.out) hlb).mono ?_
  rintro e w2 ⟨ao, n, cp, c0, oo, rfl, ho, hb2⟩
  have HB2 : Hid (Below w.heap.size w (w2.alloc (.cells #[.slice ao n cp, .string c0] 27))) := bel_bel9 (bel_bel9 HB1.out hb2) (bx1 _ _)
  clear hb2 HB1 HC HCM
  have hmm : m.size ≤ 1048576 := by omega
  have hpp : p.size ≤ 1048576 := by omega
  have hoo : oo.size ≤ 1048576 := by omega
  obtain ⟨x, hx⟩ : ∃ x, mkR m p st = x := ⟨_, rfl⟩
  have HIM : Hid (∀ u, Calls Try.prog 7 #[.string m, .string p, .int .i64 st] u fun e w' => ∃ ao2 cp2, e = .returned (.agg #[.int .i64 x.code, .slice ao2 x.zs.length cp2, .string x.check]) ∧ w'.ownsRow u.heap.size 70 3 (.slice ao2 x.zs.length cp2) x.zs.length (ksR x.zs) ∧ Below u.heap.size u w') := fun u => by
    refine (implMake_any m p st u hmm hpp).mono ?_
    rw [hx]
    rintro e w' ⟨sv, rfl, h1, h2⟩
    obtain ⟨ao2, cp2, rfl⟩ := ks_sl h1
    exact ⟨ao2, cp2, rfl, h1, h2⟩
  have HSM : Hid (∀ u, Calls Try.prog 8 #[.string m, .string p, .int .i64 st] u fun e w' => ∃ ao2 cp2, e = .returned (.agg #[.int .i64 x.code, .slice ao2 x.zs.length cp2, .string x.check]) ∧ Below u.heap.size u w') := fun u => by
    refine (specMake_any m p st u).mono ?_
    rw [hx]
    rintro e w' ⟨sv, rfl, h1, h2⟩
    obtain ⟨ao2, cp2, rfl⟩ := ks_sl h1
    exact ⟨ao2, cp2, rfl, h2⟩
  have HXE : Hid (mkR m p st = x) := hx
  clear hx
  go_upto_region 5 with fail
  generalize (w2.alloc (.cells #[.slice ao n cp, .string c0] 27)) = w3 at *
  generalize w2.heap.size = b8 at *
  go_wp2_with fail
  refine Calls.mono (HIM.out w3) ?_
  rintro e w4 ⟨ao2, cp2, rfl, ho4, hb4⟩
  have HB5 : Hid (Below w.heap.size w (w4.alloc (.cells #[.int .i64 x.code, .slice ao2 x.zs.length cp2, .string x.check] 31))) := bel_bel9 (bel_bel9 HB2.out hb4) (bx1 _ _)
  have HR5 : Hid (KSrow (w4.alloc (.cells #[.int .i64 x.code, .slice ao2 x.zs.length cp2, .string x.check] 31)) (.slice ao2 x.zs.length cp2) x.zs) := KSrow.of (World.ownsRow.alloc ho4 _)
  have HX10 : Hid (BX (w4.alloc (.cells #[.int .i64 x.code, .slice ao2 x.zs.length cp2, .string x.check] 31)) w4.heap.size 31 #[.int .i64 x.code, .slice ao2 x.zs.length cp2, .string x.check]) := BX.new _ _ _
  clear ho4 hb4 HB2 HIM
  go_upto_region 6 with fail
  generalize (w4.alloc (.cells #[.int .i64 x.code, .slice ao2 x.zs.length cp2, .string x.check] 31)) = w5 at *
  generalize w4.heap.size = b10 at *
  have HAD : Hid (Aft w5 w5.drew) := (Aft.rf w5).step9 (Below.refl _ _).drew
  have hne : (x.code != x.code) = false := by simp
  refine wp_region_held (S := Aft w5) (by kernel_rfl) ?_
  change wpAnyH _ _ _ _ _ _ _ _ (World.drew _)
  refine wpAnyH_take (i := 0) (v := .pointer (some ⟨b10, 0, none⟩)) rfl (by kernel_rfl) (by kernel_rfl) (by kernel_rfl) (fun _ _ _ h => h) (Or.inl ⟨by kernel_rfl, fun w9 h9 => ?_⟩) HAD.out ?_
  · go_simp
  refine wpAnyH_take (i := 1) (v := .int .i64 x.code) rfl (by kernel_rfl) (by kernel_rfl) (by kernel_rfl) (fun _ _ _ h => h) (Or.inl ⟨by kernel_rfl, fun w9 h9 => ?_⟩) HAD.out ?_
  · have c9 := HX10.out.cel h9 0 _ rfl; have l9 := HX10.out.lt h9; go_simp
  refine wpAnyH_take (i := 2) (v := .string m) rfl (by kernel_rfl) (by kernel_rfl) (by kernel_rfl) (fun _ _ _ h => h) (Or.inl ⟨by kernel_rfl, fun w9 h9 => ?_⟩) HAD.out ?_
  · go_simp
  refine wpAnyH_take (i := 3) (v := .string p) rfl (by kernel_rfl) (by kernel_rfl) (by kernel_rfl) (fun _ _ _ h => h) (Or.inl ⟨by kernel_rfl, fun w9 h9 => ?_⟩) HAD.out ?_
  · go_simp
  refine wpAnyH_take (i := 4) (v := .int .i64 st) rfl (by kernel_rfl) (by kernel_rfl) (by kernel_rfl) (fun _ _ _ h => h) (Or.inl ⟨by kernel_rfl, fun w9 h9 => ?_⟩) HAD.out ?_
  · go_simp
  refine held_one 5 (by kernel_rfl) rfl (by kernel_rfl) fun K hK => ?_
  go_simp
  go_wp2_with (go_at_call 8; refine Calls.mono (HSM.out _) ?_; rintro e u6 ⟨ao9, cp9, rfl, hb6⟩; have HA6 : Hid (Aft w5 u6) := HAD.out.step9 hb6; clear hb6)
  refine hK _ _ HA6.out ?_
  clear hK K
  refine wpAnyH_take (i := 6) (v := .int .i64 x.code) rfl (by kernel_rfl) (by kernel_rfl) (by kernel_rfl) (fun _ _ _ h => h) (Or.inl ⟨by kernel_rfl, fun w9 h9 => ?_⟩) HA6.out ?_
  · go_simp
  refine wpAnyH_take (i := 7) (v := .bool false) rfl (by kernel_rfl) (by kernel_rfl) (by kernel_rfl) (fun _ _ _ h => h) (Or.inl ⟨by kernel_rfl, fun w9 h9 => ?_⟩) HA6.out ?_
  · go_simp
  refine wpAnyH_done (by kernel_rfl) ?_ _
  go_simp
  have c9 := HX10.out.cel HA6.out 0 _ rfl
  have l9 := HX10.out.lt HA6.out
  clear hne HSM
  cases hxc : (x.code == 0)
  · have hx1 : (x.code != 0) = true := by simp [bne, hxc]
    go_wp2
    go_ret
    exact ⟨rfl, HB5.out.trans (HA6.out.out.mono HB5.out.size)⟩
  have hx1 : (x.code != 0) = false := by simp [bne, hxc]
  have hx0 : x.code = 0 := by simpa using hxc
  cases hov : decide (4096 < (oo.size : Int))
  rotate_left
  · go_wp2
    go_ret
    exact ⟨rfl, HB5.out.trans (HA6.out.out.mono HB5.out.size)⟩
  have ho9 : oo.size ≤ 4096 := by have := of_decide_eq_false hov; omega
  obtain ⟨hmv, hxe⟩ : MV m p st ∧ x = ⟨0, [slV m p st], tgoV m ⟨#[]⟩⟩ := by
    have h9 := HXE.out
    have h8 := mk_ok (m := m) (p := p) (st := st) (by rw [h9]; exact hx0)
    exact ⟨h8.1, h9.symm.trans h8.2⟩
  have hpo : decide (4096 < (p.size : Int)) = false := decide_eq_false (by have := hmv.pv; omega)
  obtain ⟨y, hy⟩ : ∃ y, opV x.zs x.check oo = y := ⟨_, rfl⟩
  have hlx : x.zs.length ≤ 1048576 := by rw [hxe]; simp
  have HSO : Hid (∀ u, Aft w5 u → Calls Try.prog 9 #[.agg #[.slice ao2 x.zs.length cp2, .string x.check], .string oo] u fun e w' => e = .returned (.agg #[.int .i64 y.code, .string y.data]) ∧ Below u.heap.size u w') := fun u hu => by
    have h9 := specOpen_any (HR5.out.below hu.out) x.check oo
    rw [hy] at h9
    exact h9
  have HIO : Hid (∀ u, Aft w5 u → Calls Try.prog 10 #[.agg #[.slice ao2 x.zs.length cp2, .string x.check], .string oo] u fun e w' => e = .returned (.agg #[.int .i64 y.code, .string y.data]) ∧ Below u.heap.size u w') := fun u hu => by
    have h9 := implOpen_any (HR5.out.below hu.out) hlx x.check oo
    rw [hy] at h9
    exact h9
  have c1 := HX10.out.cel HA6.out 1 _ rfl
  have c2 := HX10.out.cel HA6.out 2 _ rfl
  have HMV : Hid (MV m p st) := hmv
  have HE : Hid (x = ⟨0, [slV m p st], tgoV m ⟨#[]⟩⟩) := hxe
  have HY : Hid (opV x.zs x.check oo = y) := hy
  have hd0 : (m.toList != m.toList) = false := by simp
  have hd1 : (m.toList == m.toList) = true := by simp
  clear hmv hxe hy HXE hx0
  go_wp2_with fail
  refine Calls.mono (HSO.out _ HA6.out) ?_
  rintro e u7 ⟨rfl, hb7⟩
  have HA7 : Hid (Aft w5 u7) := HA6.out.step9 hb7
  clear hb7 c9 l9 c1 c2 HA6
  cases hyc : (y.code == 0)
  rotate_left
  · go_upto_region 11 with fail
    have HA7d : Hid (Aft w5 u7.drew) := HA7.out.step9 (Below.refl _ _).drew
    refine wp_region_held (S := Aft w5) (by kernel_rfl) ?_
    change wpAnyH _ _ _ _ _ _ _ _ (World.drew _)
    refine wpAnyH_take (i := 0) (v := .pointer (some ⟨b10, 1, none⟩)) rfl (by kernel_rfl) (by kernel_rfl) (by kernel_rfl) (fun _ _ _ h => h) (Or.inl ⟨by kernel_rfl, fun w9 h9 => ?_⟩) HA7d.out ?_
    · go_simp
    refine wpAnyH_take (i := 1) (v := .agg #[.slice ao2 x.zs.length cp2, .string x.check]) rfl (by kernel_rfl) (by kernel_rfl) (by kernel_rfl) (fun _ _ _ h => h) (Or.inl ⟨by kernel_rfl, fun w9 h9 => ?_⟩) HA7d.out ?_
    · have c0 := HX10.out.cel h9 0 _ rfl; have c1 := HX10.out.cel h9 1 _ rfl; have c2 := HX10.out.cel h9 2 _ rfl; have l9 := HX10.out.lt h9; go_simp
    refine wpAnyH_take (i := 2) (v := .string oo) rfl (by kernel_rfl) (by kernel_rfl) (by kernel_rfl) (fun _ _ _ h => h) (Or.inl ⟨by kernel_rfl, fun w9 h9 => ?_⟩) HA7d.out ?_
    · go_simp
    refine wpAnyH_take (i := 4) (v := .pointer (some ⟨b10, 1, none⟩)) rfl (by kernel_rfl) (by kernel_rfl) (by kernel_rfl) (fun _ _ _ h => h) (Or.inl ⟨by kernel_rfl, fun w9 h9 => ?_⟩) HA7d.out ?_
    · go_simp
    refine wpAnyH_take (i := 5) (v := .agg #[.slice ao2 x.zs.length cp2, .string x.check]) rfl (by kernel_rfl) (by kernel_rfl) (by kernel_rfl) (fun _ _ _ h => h) (Or.inl ⟨by kernel_rfl, fun w9 h9 => ?_⟩) HA7d.out ?_
    · have c0 := HX10.out.cel h9 0 _ rfl; have c1 := HX10.out.cel h9 1 _ rfl; have c2 := HX10.out.cel h9 2 _ rfl; have l9 := HX10.out.lt h9; go_simp
    refine wpAnyH_take (i := 6) (v := .string oo) rfl (by kernel_rfl) (by kernel_rfl) (by kernel_rfl) (fun _ _ _ h => h) (Or.inl ⟨by kernel_rfl, fun w9 h9 => ?_⟩) HA7d.out ?_
    · go_simp
    refine held_one 3 (by kernel_rfl) rfl (by kernel_rfl) fun K hK => ?_
    go_simp
    go_wp2_with (go_at_call 10; refine Calls.mono (HIO.out _ HA7d.out) ?_; rintro e u8 ⟨rfl, hb8⟩; have HA8 : Hid (Aft w5 u8) := HA7d.out.step9 hb8; clear hb8)
    refine hK _ _ HA8.out ?_
    clear hK K
    refine held_one 7 (by kernel_rfl) rfl (by kernel_rfl) fun K hK => ?_
    go_simp
    go_wp2_with (go_at_call 9; refine Calls.mono (HSO.out _ HA8.out) ?_; rintro e u9 ⟨rfl, hb9⟩; have HA9 : Hid (Aft w5 u9) := HA8.out.step9 hb9; clear hb9)
    refine hK _ _ HA9.out ?_
    clear hK K
    refine wpAnyH_take (i := 8) (v := .bool true) rfl (by kernel_rfl) (by kernel_rfl) (by kernel_rfl) (fun _ _ _ h => h) (Or.inl ⟨by kernel_rfl, fun w9 h9 => ?_⟩) HA9.out ?_
    · go_simp
    refine wpAnyH_take (i := 9) (v := .bool true) rfl (by kernel_rfl) (by kernel_rfl) (by kernel_rfl) (fun _ _ _ h => h) (Or.inl ⟨by kernel_rfl, fun w9 h9 => ?_⟩) HA9.out ?_
    · go_simp
    refine wpAnyH_done (by kernel_rfl) ?_ _
    go_simp
    go_wp2
    go_ret
    exact ⟨rfl, HB5.out.trans (HA9.out.out.mono HB5.out.size)⟩
  obtain ⟨v1, v2, v3, v4, v5⟩ := vol_law HMV.out ho9 (by
    have h9 := HY.out
    rw [HE.out] at h9
    simp only at h9
    rw [h9]
    simpa using hyc)
  obtain ⟨z3, hz3⟩ : ∃ z3, [slV m p st, slV m oo 9] = z3 := ⟨_, rfl⟩
  obtain ⟨z4, hz4⟩ : ∃ z4, [slV m oo 9] = z4 := ⟨_, rfl⟩
  have hl3 : z3.length ≤ 1048576 := by rw [← hz3]; simp
  have hl4 : z4.length ≤ 1048576 := by rw [← hz4]; simp
  rw [hz3] at v1 v3 v4
  rw [hz4] at v4 v5
  have k1 : adR x.zs x.check p oo 9 = ⟨0, z3, x.check⟩ := by rw [HE.out]; exact v1
  have k2 : opV x.zs x.check p = ⟨0, m⟩ := by rw [HE.out]; exact v2
  have k3 : opV z3 x.check oo = ⟨0, m⟩ := by rw [HE.out]; exact v3
  have k4 : dpR z3 x.check 0 = ⟨0, z4, x.check⟩ := by rw [HE.out]; exact v4
  have k5 : opV z4 x.check oo = ⟨0, m⟩ := by rw [HE.out]; exact v5
  obtain ⟨q, hq⟩ : ∃ q, opV z4 x.check p = q := ⟨_, rfl⟩
  have HIA : Hid (∀ u, Aft w5 u → Calls Try.prog 11 #[.agg #[.slice ao2 x.zs.length cp2, .string x.check], .string p, .string oo, .int .i64 9] u fun e w' => ∃ ao3 cp3, e = .returned (.agg #[.int .i64 0, .slice ao3 z3.length cp3, .string x.check]) ∧ KSrow w' (.slice ao3 z3.length cp3) z3 ∧ Below u.heap.size u w') := fun u hu => by
    refine (implAdd_any (HR5.out.below hu.out) hlx x.check p oo 9 hoo (by rw [k2]; exact hmm)).mono ?_
    rw [k1]
    rintro e w' ⟨sv, rfl, h1, h2⟩
    obtain ⟨ao3, cp3, rfl⟩ := ks_sl h1
    exact ⟨ao3, cp3, rfl, KSrow.of h1, h2⟩
  have HIP : Hid (∀ u, Aft w5 u → Calls Try.prog 10 #[.agg #[.slice ao2 x.zs.length cp2, .string x.check], .string p] u fun e w' => e = .returned (.agg #[.int .i64 0, .string m]) ∧ Below u.heap.size u w') := fun u hu => by
    have h9 := implOpen_any (HR5.out.below hu.out) hlx x.check p
    rw [k2] at h9
    exact h9
  have HI3 : Hid (∀ (u : World) ao3 cp3, KSrow u (.slice ao3 z3.length cp3) z3 → Calls Try.prog 10 #[.agg #[.slice ao3 z3.length cp3, .string x.check], .string oo] u fun e w' => e = .returned (.agg #[.int .i64 0, .string m]) ∧ Below u.heap.size u w') := fun u ao3 cp3 hk => by
    have h9 := implOpen_any hk hl3 x.check oo
    rw [k3] at h9
    exact h9
  have HID : Hid (∀ (u : World) ao3 cp3, KSrow u (.slice ao3 z3.length cp3) z3 → Calls Try.prog 12 #[.agg #[.slice ao3 z3.length cp3, .string x.check], .int .i64 0] u fun e w' => ∃ ao4 cp4, e = .returned (.agg #[.int .i64 0, .slice ao4 z4.length cp4, .string x.check]) ∧ KSrow w' (.slice ao4 z4.length cp4) z4 ∧ Below u.heap.size u w') := fun u ao3 cp3 hk => by
    refine (implDrop_any hk hl3 x.check 0).mono ?_
    rw [k4]
    rintro e w' ⟨sv, rfl, h1, h2⟩
    obtain ⟨ao4, cp4, rfl⟩ := ks_sl h1
    exact ⟨ao4, cp4, rfl, KSrow.of h1, h2⟩
  have HI4 : Hid (∀ (u : World) ao4 cp4, KSrow u (.slice ao4 z4.length cp4) z4 → Calls Try.prog 10 #[.agg #[.slice ao4 z4.length cp4, .string x.check], .string oo] u fun e w' => e = .returned (.agg #[.int .i64 0, .string m]) ∧ Below u.heap.size u w') := fun u ao4 cp4 hk => by
    have h9 := implOpen_any hk hl4 x.check oo
    rw [k5] at h9
    exact h9
  have HI5 : Hid (∀ (u : World) ao4 cp4, KSrow u (.slice ao4 z4.length cp4) z4 → Calls Try.prog 10 #[.agg #[.slice ao4 z4.length cp4, .string x.check], .string p] u fun e w' => e = .returned (.agg #[.int .i64 q.code, .string q.data]) ∧ Below u.heap.size u w') := fun u ao4 cp4 hk => by
    have h9 := implOpen_any hk hl4 x.check p
    rw [hq] at h9
    exact h9
  have HS5 : Hid (∀ (u : World) ao4 cp4, KSrow u (.slice ao4 z4.length cp4) z4 → Calls Try.prog 9 #[.agg #[.slice ao4 z4.length cp4, .string x.check], .string p] u fun e w' => e = .returned (.agg #[.int .i64 q.code, .string q.data]) ∧ Below u.heap.size u w') := fun u ao4 cp4 hk => by
    have h9 := specOpen_any hk x.check p
    rw [hq] at h9
    exact h9
  clear k1 k2 k3 k4 k5 v1 v2 v3 v4 v5 hz3 hz4 hl3 hl4 hq HSO HIO HMV HE HY
  have c0 := HX10.out.cel HA7.out 0 _ rfl
  have c1 := HX10.out.cel HA7.out 1 _ rfl
  have c2 := HX10.out.cel HA7.out 2 _ rfl
  have l9 := HX10.out.lt HA7.out
  go_wp2_with fail
  refine Calls.mono (HIA.out _ HA7.out) ?_
  rintro e u8 ⟨ao3, cp3, rfl, hk8, hb8⟩
  have HB9 : Hid (Below w.heap.size w (u8.alloc (.cells #[.int .i64 0, .slice ao3 z3.length cp3, .string x.check] 31))) := bel_bel9 (bel_bel9 (HB5.out.trans (HA7.out.out.mono HB5.out.size)) hb8) (bx1 _ _)
  have HA8 : Hid (Aft w5 (u8.alloc (.cells #[.int .i64 0, .slice ao3 z3.length cp3, .string x.check] 31))) := (HA7.out.step9 hb8).step9 (bx1 _ _)
  have HK8 : Hid (KSrow (u8.alloc (.cells #[.int .i64 0, .slice ao3 z3.length cp3, .string x.check] 31)) (.slice ao3 z3.length cp3) z3) := hk8.below (bx1 _ _)
  have HX11 : Hid (BX (u8.alloc (.cells #[.int .i64 0, .slice ao3 z3.length cp3, .string x.check] 31)) u8.heap.size 31 #[.int .i64 0, .slice ao3 z3.length cp3, .string x.check]) := BX.new _ _ _
  clear hk8 hb8 HIA HA7 c0 c1 c2 l9 HB5
  go_upto_region 13 with fail
  generalize (u8.alloc (.cells #[.int .i64 0, .slice ao3 z3.length cp3, .string x.check] 31)) = w8 at *
  generalize u8.heap.size = b11 at *
  have HY10 : Hid (BX w8 b10 31 #[.int .i64 x.code, .slice ao2 x.zs.length cp2, .string x.check]) := HX10.out.up HA8.out
  have c0 := HX10.out.cel HA8.out 0 _ rfl
  have c1 := HX10.out.cel HA8.out 1 _ rfl
  have c2 := HX10.out.cel HA8.out 2 _ rfl
  have l9 := HX10.out.lt HA8.out
  go_wp2_with fail
  refine Calls.mono (HIP.out _ HA8.out) ?_
  rintro e u9 ⟨rfl, hb9⟩
  have HA9 : Hid (Aft w8 (u9.alloc (.cells #[.int .i64 0, .string m] 34))) := ((Aft.rf w8).step9 hb9).step9 (bx1 _ _)
  have HX12 : Hid (BX (u9.alloc (.cells #[.int .i64 0, .string m] 34)) u9.heap.size 34 #[.int .i64 0, .string m]) := BX.new _ _ _
  clear hb9 HIP c0 c1 c2 l9 HX10 HA8
  go_upto_region 14 with fail
  generalize (u9.alloc (.cells #[.int .i64 0, .string m] 34)) = w9 at *
  generalize u9.heap.size = b12 at *
  have c0 := HX11.out.cel HA9.out 0 _ rfl
  have c1 := HX11.out.cel HA9.out 1 _ rfl
  have c2 := HX11.out.cel HA9.out 2 _ rfl
  have l9 := HX11.out.lt HA9.out
  go_wp2_with fail
  refine Calls.mono (HI3.out _ ao3 cp3 (HK8.out.below HA9.out.out)) ?_
  rintro e u10 ⟨rfl, hb10⟩
  have HA10 : Hid (Aft w9 (u10.alloc (.cells #[.int .i64 0, .string m] 34))) := ((Aft.rf w9).step9 hb10).step9 (bx1 _ _)
  have HX13 : Hid (BX (u10.alloc (.cells #[.int .i64 0, .string m] 34)) u10.heap.size 34 #[.int .i64 0, .string m]) := BX.new _ _ _
  clear hb10 HI3 c0 c1 c2 l9
  go_upto_region 15 with fail
  generalize (u10.alloc (.cells #[.int .i64 0, .string m] 34)) = w10 at *
  generalize u10.heap.size = b13 at *
  have HA8a : Hid (Aft w8 w10) := ⟨HA9.out.out.trans (HA10.out.out.mono HA9.out.out.size)⟩
  have c0 := HX11.out.cel HA8a.out 0 _ rfl
  have c1 := HX11.out.cel HA8a.out 1 _ rfl
  have c2 := HX11.out.cel HA8a.out 2 _ rfl
  have l9 := HX11.out.lt HA8a.out
  have d0 := HX12.out.cel HA10.out 0 _ rfl
  have d1 := HX12.out.cel HA10.out 1 _ rfl
  have l8 := HX12.out.lt HA10.out
  have f0 := HX13.out.cel (Aft.rf _) 0 _ rfl
  have f1 := HX13.out.cel (Aft.rf _) 1 _ rfl
  have l7 := HX13.out.lt (Aft.rf _)
  go_upto_region 17 with fail
  clear d0 d1 l8 f0 f1 l7
  go_wp2_with fail
  refine Calls.mono (HID.out _ ao3 cp3 (HK8.out.below HA8a.out.out)) ?_
  rintro e u11 ⟨ao4, cp4, rfl, hk11, hb11⟩
  have HB11 : Hid (Below w.heap.size w (u11.alloc (.cells #[.int .i64 0, .slice ao4 z4.length cp4, .string x.check] 31))) := bel_bel9 (bel_bel9 (HB9.out.trans (HA8a.out.out.mono HB9.out.size)) hb11) (bx1 _ _)
  have HK11 : Hid (KSrow (u11.alloc (.cells #[.int .i64 0, .slice ao4 z4.length cp4, .string x.check] 31)) (.slice ao4 z4.length cp4) z4) := hk11.below (bx1 _ _)
  have HX14 : Hid (BX (u11.alloc (.cells #[.int .i64 0, .slice ao4 z4.length cp4, .string x.check] 31)) u11.heap.size 31 #[.int .i64 0, .slice ao4 z4.length cp4, .string x.check]) := BX.new _ _ _
  clear hk11 hb11 HID c0 c1 c2 l9 HX11 HX12 HX13 HA8a HA9 HA10 HK8 HY10 HB9
  go_upto_region 18 with fail
  generalize (u11.alloc (.cells #[.int .i64 0, .slice ao4 z4.length cp4, .string x.check] 31)) = w11 at *
  generalize u11.heap.size = b14 at *
  have c0 := HX14.out.cel (Aft.rf _) 0 _ rfl
  have c1 := HX14.out.cel (Aft.rf _) 1 _ rfl
  have c2 := HX14.out.cel (Aft.rf _) 2 _ rfl
  have l9 := HX14.out.lt (Aft.rf _)
  go_wp2_with fail
  refine Calls.mono (HI4.out _ ao4 cp4 HK11.out) ?_
  rintro e u12 ⟨rfl, hb12⟩
  have HA12 : Hid (Aft w11 (u12.alloc (.cells #[.int .i64 0, .string m] 34))) := ((Aft.rf w11).step9 hb12).step9 (bx1 _ _)
  have HX15 : Hid (BX (u12.alloc (.cells #[.int .i64 0, .string m] 34)) u12.heap.size 34 #[.int .i64 0, .string m]) := BX.new _ _ _
  clear hb12 HI4 c0 c1 c2 l9
  go_upto_region 19 with fail
  generalize (u12.alloc (.cells #[.int .i64 0, .string m] 34)) = w12 at *
  generalize u12.heap.size = b15 at *
  have c0 := HX14.out.cel HA12.out 0 _ rfl
  have c1 := HX14.out.cel HA12.out 1 _ rfl
  have c2 := HX14.out.cel HA12.out 2 _ rfl
  have l9 := HX14.out.lt HA12.out
  go_wp2_with fail
  refine Calls.mono (HI5.out _ ao4 cp4 (HK11.out.below HA12.out.out)) ?_
  rintro e u13 ⟨rfl, hb13⟩
  have HA13 : Hid (Aft w12 (u13.alloc (.cells #[.int .i64 q.code, .string q.data] 34))) := ((Aft.rf w12).step9 hb13).step9 (bx1 _ _)
  have HX16 : Hid (BX (u13.alloc (.cells #[.int .i64 q.code, .string q.data] 34)) u13.heap.size 34 #[.int .i64 q.code, .string q.data]) := BX.new _ _ _
  clear hb13 HI5 c0 c1 c2 l9
  go_upto_region 20 with fail
  generalize (u13.alloc (.cells #[.int .i64 q.code, .string q.data] 34)) = w13 at *
  generalize u13.heap.size = b16 at *
  have HZ14 : Hid (BX w13 b14 31 #[.int .i64 0, .slice ao4 z4.length cp4, .string x.check]) := (HX14.out.up HA12.out).up HA13.out
  have HZ15 : Hid (BX w13 b15 34 #[.int .i64 0, .string m]) := HX15.out.up HA13.out
  have HK13 : Hid (KSrow w13 (.slice ao4 z4.length cp4) z4) := (HK11.out.below HA12.out.out).below HA13.out.out
  have HB13 : Hid (Below w.heap.size w w13) := (HB11.out.trans (HA12.out.out.mono HB11.out.size)).trans (HA13.out.out.mono (Nat.le_trans HB11.out.size HA12.out.out.size))
  have HAD2 : Hid (Aft w13 w13.drew) := (Aft.rf w13).step9 (Below.refl _ _).drew
  clear HX14 HX15 HK11 HB11 HA12 HA13 HAD
  refine wp_region_held (S := Aft w13) (by kernel_rfl) ?_
  change wpAnyH _ _ _ _ _ _ _ _ (World.drew _)
  refine wpAnyH_take (i := 0) (v := .pointer (some ⟨b14, 0, none⟩)) rfl (by kernel_rfl) (by kernel_rfl) (by kernel_rfl) (fun _ _ _ h => h) (Or.inl ⟨by kernel_rfl, fun w9 h9 => ?_⟩) HAD2.out ?_
  · go_simp
  refine wpAnyH_take (i := 1) (v := .int .i64 0) rfl (by kernel_rfl) (by kernel_rfl) (by kernel_rfl) (fun _ _ _ h => h) (Or.inl ⟨by kernel_rfl, fun w9 h9 => ?_⟩) HAD2.out ?_
  · have c0 := HZ14.out.cel h9 0 _ rfl; have c1 := HZ14.out.cel h9 1 _ rfl; have c2 := HZ14.out.cel h9 2 _ rfl; have l9 := HZ14.out.lt h9; have d0 := HZ15.out.cel h9 0 _ rfl; have d1 := HZ15.out.cel h9 1 _ rfl; have l8 := HZ15.out.lt h9; have f0 := HX16.out.cel h9 0 _ rfl; have f1 := HX16.out.cel h9 1 _ rfl; have l7 := HX16.out.lt h9; go_simp
  refine wpAnyH_take (i := 2) (v := .bool true) rfl (by kernel_rfl) (by kernel_rfl) (by kernel_rfl) (fun _ _ _ h => h) (Or.inl ⟨by kernel_rfl, fun w9 h9 => ?_⟩) HAD2.out ?_
  · go_simp
  refine wpAnyH_take (i := 3) (v := .bool true) rfl (by kernel_rfl) (by kernel_rfl) (by kernel_rfl) (fun _ _ _ h => h) (Or.inl ⟨by kernel_rfl, fun w9 h9 => ?_⟩) HAD2.out ?_
  · go_simp
  refine wpAnyH_take (i := 4) (v := .pointer (some ⟨b15, 0, none⟩)) rfl (by kernel_rfl) (by kernel_rfl) (by kernel_rfl) (fun _ _ _ h => h) (Or.inl ⟨by kernel_rfl, fun w9 h9 => ?_⟩) HAD2.out ?_
  · go_simp
  refine wpAnyH_take (i := 5) (v := .int .i64 0) rfl (by kernel_rfl) (by kernel_rfl) (by kernel_rfl) (fun _ _ _ h => h) (Or.inl ⟨by kernel_rfl, fun w9 h9 => ?_⟩) HAD2.out ?_
  · have c0 := HZ14.out.cel h9 0 _ rfl; have c1 := HZ14.out.cel h9 1 _ rfl; have c2 := HZ14.out.cel h9 2 _ rfl; have l9 := HZ14.out.lt h9; have d0 := HZ15.out.cel h9 0 _ rfl; have d1 := HZ15.out.cel h9 1 _ rfl; have l8 := HZ15.out.lt h9; have f0 := HX16.out.cel h9 0 _ rfl; have f1 := HX16.out.cel h9 1 _ rfl; have l7 := HX16.out.lt h9; go_simp
  refine wpAnyH_take (i := 6) (v := .bool true) rfl (by kernel_rfl) (by kernel_rfl) (by kernel_rfl) (fun _ _ _ h => h) (Or.inl ⟨by kernel_rfl, fun w9 h9 => ?_⟩) HAD2.out ?_
  · go_simp
  refine wpAnyH_take (i := 7) (v := .bool true) rfl (by kernel_rfl) (by kernel_rfl) (by kernel_rfl) (fun _ _ _ h => h) (Or.inl ⟨by kernel_rfl, fun w9 h9 => ?_⟩) HAD2.out ?_
  · go_simp
  refine wpAnyH_take (i := 8) (v := .bool true) rfl (by kernel_rfl) (by kernel_rfl) (by kernel_rfl) (fun _ _ _ h => h) (Or.inl ⟨by kernel_rfl, fun w9 h9 => ?_⟩) HAD2.out ?_
  · go_simp
  refine wpAnyH_take (i := 9) (v := .pointer (some ⟨b15, 1, none⟩)) rfl (by kernel_rfl) (by kernel_rfl) (by kernel_rfl) (fun _ _ _ h => h) (Or.inl ⟨by kernel_rfl, fun w9 h9 => ?_⟩) HAD2.out ?_
  · go_simp
  refine wpAnyH_take (i := 10) (v := .string m) rfl (by kernel_rfl) (by kernel_rfl) (by kernel_rfl) (fun _ _ _ h => h) (Or.inl ⟨by kernel_rfl, fun w9 h9 => ?_⟩) HAD2.out ?_
  · have c0 := HZ14.out.cel h9 0 _ rfl; have c1 := HZ14.out.cel h9 1 _ rfl; have c2 := HZ14.out.cel h9 2 _ rfl; have l9 := HZ14.out.lt h9; have d0 := HZ15.out.cel h9 0 _ rfl; have d1 := HZ15.out.cel h9 1 _ rfl; have l8 := HZ15.out.lt h9; have f0 := HX16.out.cel h9 0 _ rfl; have f1 := HX16.out.cel h9 1 _ rfl; have l7 := HX16.out.lt h9; go_simp
  refine wpAnyH_take (i := 11) (v := .string m) rfl (by kernel_rfl) (by kernel_rfl) (by kernel_rfl) (fun _ _ _ h => h) (Or.inl ⟨by kernel_rfl, fun w9 h9 => ?_⟩) HAD2.out ?_
  · go_simp
  refine wpAnyH_take (i := 12) (v := .bool true) rfl (by kernel_rfl) (by kernel_rfl) (by kernel_rfl) (fun _ _ _ h => h) (Or.inl ⟨by kernel_rfl, fun w9 h9 => ?_⟩) HAD2.out ?_
  · go_simp
  refine wpAnyH_take (i := 13) (v := .bool true) rfl (by kernel_rfl) (by kernel_rfl) (by kernel_rfl) (fun _ _ _ h => h) (Or.inl ⟨by kernel_rfl, fun w9 h9 => ?_⟩) HAD2.out ?_
  · go_simp
  refine wpAnyH_take (i := 14) (v := .bool true) rfl (by kernel_rfl) (by kernel_rfl) (by kernel_rfl) (fun _ _ _ h => h) (Or.inl ⟨by kernel_rfl, fun w9 h9 => ?_⟩) HAD2.out ?_
  · go_simp
  refine wpAnyH_take (i := 15) (v := .agg #[.int .i64 q.code, .string q.data]) rfl (by kernel_rfl) (by kernel_rfl) (by kernel_rfl) (fun _ _ _ h => h) (Or.inl ⟨by kernel_rfl, fun w9 h9 => ?_⟩) HAD2.out ?_
  · have c0 := HZ14.out.cel h9 0 _ rfl; have c1 := HZ14.out.cel h9 1 _ rfl; have c2 := HZ14.out.cel h9 2 _ rfl; have l9 := HZ14.out.lt h9; have d0 := HZ15.out.cel h9 0 _ rfl; have d1 := HZ15.out.cel h9 1 _ rfl; have l8 := HZ15.out.lt h9; have f0 := HX16.out.cel h9 0 _ rfl; have f1 := HX16.out.cel h9 1 _ rfl; have l7 := HX16.out.lt h9; go_simp
  refine wpAnyH_take (i := 16) (v := .pointer (some ⟨b14, 1, none⟩)) rfl (by kernel_rfl) (by kernel_rfl) (by kernel_rfl) (fun _ _ _ h => h) (Or.inl ⟨by kernel_rfl, fun w9 h9 => ?_⟩) HAD2.out ?_
  · go_simp
  refine wpAnyH_take (i := 17) (v := .agg #[.slice ao4 z4.length cp4, .string x.check]) rfl (by kernel_rfl) (by kernel_rfl) (by kernel_rfl) (fun _ _ _ h => h) (Or.inl ⟨by kernel_rfl, fun w9 h9 => ?_⟩) HAD2.out ?_
  · have c0 := HZ14.out.cel h9 0 _ rfl; have c1 := HZ14.out.cel h9 1 _ rfl; have c2 := HZ14.out.cel h9 2 _ rfl; have l9 := HZ14.out.lt h9; have d0 := HZ15.out.cel h9 0 _ rfl; have d1 := HZ15.out.cel h9 1 _ rfl; have l8 := HZ15.out.lt h9; have f0 := HX16.out.cel h9 0 _ rfl; have f1 := HX16.out.cel h9 1 _ rfl; have l7 := HX16.out.lt h9; go_simp
  refine wpAnyH_take (i := 18) (v := .string p) rfl (by kernel_rfl) (by kernel_rfl) (by kernel_rfl) (fun _ _ _ h => h) (Or.inl ⟨by kernel_rfl, fun w9 h9 => ?_⟩) HAD2.out ?_
  · go_simp
  refine held_one 19 (by kernel_rfl) rfl (by kernel_rfl) fun K hK => ?_
  go_simp
  go_wp2_with (go_at_call 9; refine Calls.mono (HS5.out _ ao4 cp4 (HK13.out.below HAD2.out.out)) ?_; rintro e u14 ⟨rfl, hb14⟩; have HA14 : Hid (Aft w13 u14) := HAD2.out.step9 hb14; clear hb14)
  refine hK _ _ HA14.out ?_
  clear hK K
  refine wpAnyH_take (i := 20) (v := .bool true) rfl (by kernel_rfl) (by kernel_rfl) (by kernel_rfl) (fun _ _ _ h => h) (Or.inl ⟨by kernel_rfl, fun w9 h9 => ?_⟩) HA14.out ?_
  · go_simp
  refine wpAnyH_take (i := 21) (v := .bool true) rfl (by kernel_rfl) (by kernel_rfl) (by kernel_rfl) (fun _ _ _ h => h) (Or.inl ⟨by kernel_rfl, fun w9 h9 => ?_⟩) HA14.out ?_
  · go_simp
  refine wpAnyH_take (i := 22) (v := .bool true) rfl (by kernel_rfl) (by kernel_rfl) (by kernel_rfl) (fun _ _ _ h => h) (Or.inl ⟨by kernel_rfl, fun w9 h9 => ?_⟩) HA14.out ?_
  · go_simp
  refine wpAnyH_done (by kernel_rfl) ?_ _
  go_simp
  go_wp2
  go_ret
  exact ⟨rfl, HB13.out.trans (HA14.out.out.mono HB13.out.size)⟩
end Go.Proofs.Ytniaohflkopncaa
