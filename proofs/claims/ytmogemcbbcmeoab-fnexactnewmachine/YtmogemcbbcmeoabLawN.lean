import Derived.Test.YtmogemcbbcmeoabLwM1
import Derived.Test.YtmogemcbbcmeoabLwM2
import Derived.Test.YtmogemcbbcmeoabLwM3
namespace Go.Proofs.Ytmogemcbbcmeoab
open Go.ChangeShapes Go.WideShapes Go.ChangeAt Go.RowKit

/-- What the law keeps: the two boxes and their rows. -/
structure LM (w : World) (b1 b2 : Nat) (md : Int) (mem : ByteArray) (v1 v2 v3 g1 g2 g3 : Value) (rs cs vs ys1 ys2 ys3 : List Int) (wr : World) : Prop where
  bel : Below w.heap.size w wr
  x1 : wr.heap[b1]? = some (.cells #[.int .i64 0, v1, .int .i64 md, v2, v3, .string mem, .int .i64 0, .int .i64 0, .int .i64 0, .slice none 0 0, .slice none 0 0, .int .i64 0] 48 (0, 0))
  x2 : wr.heap[b2]? = some (.cells #[.int .i64 0, g1, .int .i64 md, g2, g3, .string mem, .int .i64 0, .int .i64 0, .int .i64 0, .slice none 0 0, .slice none 0 0, .int .i64 0] 48 (0, 0))
  o1 : R3 wr w.heap.size v1 v2 v3 rs cs vs
  o2 : R3 wr (b1 + 1) g1 g2 g3 ys1 ys2 ys3
  l1 : w.heap.size ≤ b1
  n1 : ∀ k, (v1.ownBlock = some k ∨ v2.ownBlock = some k ∨ v3.ownBlock = some k) → k < b1
  n2 : ∀ k, (g1.ownBlock = some k ∨ g2.ownBlock = some k ∨ g3.ownBlock = some k) → b1 + 1 ≤ k ∧ k < b2
theorem LM.step {w wr u : World} {b1 b2 : Nat} {md : Int} {mem : ByteArray} {v1 v2 v3 g1 g2 g3 : Value} {rs cs vs ys1 ys2 ys3 : List Int} (h : LM w b1 b2 md mem v1 v2 v3 g1 g2 g3 rs cs vs ys1 ys2 ys3 wr) (hb : Below wr.heap.size wr u) : LM w b1 b2 md mem v1 v2 v3 g1 g2 g3 rs cs vs ys1 ys2 ys3 u :=
  ⟨h.bel.trans (hb.mono h.bel.size), (hb.block _ (Array.getElem?_eq_some_iff.1 h.x1).1).trans h.x1, (hb.block _ (Array.getElem?_eq_some_iff.1 h.x2).1).trans h.x2, h.o1.below hb, h.o2.below hb, h.l1, h.n1, h.n2⟩
theorem keep_gr3 {w u : World} {B n : Nat} {v a b c : Value} {xs : List Value} (h : w.ownsRow B 2 1 v n xs) (hg : Gr3 w u a b c) (hne : ∀ k, v.ownBlock = some k → a.ownBlock ≠ some k ∧ b.ownBlock ≠ some k ∧ c.ownBlock ≠ some k) : u.ownsRow B 2 1 v n xs := by
  refine ⟨h.1, ?_⟩
  rcases h.2 with hn | ⟨g, cap, cur, hv, hb, hgg, rest⟩
  · exact .inl hn
  · obtain ⟨e1, e2, e3⟩ := hne g (by rw [hv]; rfl)
    exact .inr ⟨g, cap, cur, hv, hb, (hg.block g (Array.getElem?_eq_some_iff.1 hgg).1 e1 e2 e3).trans hgg, rest⟩
theorem LM.mark {w wr u : World} {b1 b2 : Nat} {md : Int} {mem : ByteArray} {v1 v2 v3 g1 g2 g3 : Value} {rs cs vs ys1 ys2 ys3 : List Int} {zs1 zs2 zs3 : List Int} (h : LM w b1 b2 md mem v1 v2 v3 g1 g2 g3 rs cs vs ys1 ys2 ys3 wr) (hg : Gr3 wr u g1 g2 g3) (ho : R3 u (b1 + 1) g1 g2 g3 zs1 zs2 zs3) : LM w b1 b2 md mem v1 v2 v3 g1 g2 g3 rs cs vs zs1 zs2 zs3 u := by
  have hl := h.l1
  have far : ∀ k, k ≤ b1 → g1.ownBlock ≠ some k ∧ g2.ownBlock ≠ some k ∧ g3.ownBlock ≠ some k := fun k hk => ⟨fun e => by have := h.n2 k (.inl e); omega, fun e => by have := h.n2 k (.inr (.inl e)); omega, fun e => by have := h.n2 k (.inr (.inr e)); omega⟩
  have far2 : g1.ownBlock ≠ some b2 ∧ g2.ownBlock ≠ some b2 ∧ g3.ownBlock ≠ some b2 := ⟨fun e => by have := h.n2 _ (.inl e); omega, fun e => by have := h.n2 _ (.inr (.inl e)); omega, fun e => by have := h.n2 _ (.inr (.inr e)); omega⟩
  refine ⟨⟨hg.os.trans h.bel.os, hg.tape.trans h.bel.tape, hg.output.trans h.bel.output, Nat.le_trans h.bel.size hg.size, fun k hk => ?_⟩, ?_, ?_, ?_, ho, h.l1, h.n1, h.n2⟩
  · obtain ⟨e1, e2, e3⟩ := far k (by omega)
    exact (hg.block k (Nat.lt_of_lt_of_le hk h.bel.size) e1 e2 e3).trans (h.bel.block k hk)
  · obtain ⟨e1, e2, e3⟩ := far b1 (Nat.le_refl _)
    exact (hg.block _ (Array.getElem?_eq_some_iff.1 h.x1).1 e1 e2 e3).trans h.x1
  · exact (hg.block _ (Array.getElem?_eq_some_iff.1 h.x2).1 far2.1 far2.2.1 far2.2.2).trans h.x2
  · exact ⟨keep_gr3 h.o1.o1 hg (fun k e => far k (by have := h.n1 k (.inl e); omega)), keep_gr3 h.o1.o2 hg (fun k e => far k (by have := h.n1 k (.inr (.inl e)); omega)), keep_gr3 h.o1.o3 hg (fun k e => far k (by have := h.n1 k (.inr (.inr e)); omega)), h.o1.d12, h.o1.d13, h.o1.d23⟩
theorem LM.new {w u1 u2 : World} {md : Int} {mem : ByteArray} {v1 v2 v3 g1 g2 g3 : Value} {rs cs vs : List Int} (h1 : R3 u1 w.heap.size v1 v2 v3 rs cs vs) (hb1 : Below w.heap.size w u1) (h2 : R3 u2 (u1.alloc (.cells #[.int .i64 0, v1, .int .i64 md, v2, v3, .string mem, .int .i64 0, .int .i64 0, .int .i64 0, .slice none 0 0, .slice none 0 0, .int .i64 0] 48 (0, 0))).heap.size g1 g2 g3 rs cs vs) (hb2 : Below (u1.alloc (.cells #[.int .i64 0, v1, .int .i64 md, v2, v3, .string mem, .int .i64 0, .int .i64 0, .int .i64 0, .slice none 0 0, .slice none 0 0, .int .i64 0] 48 (0, 0))).heap.size (u1.alloc (.cells #[.int .i64 0, v1, .int .i64 md, v2, v3, .string mem, .int .i64 0, .int .i64 0, .int .i64 0, .slice none 0 0, .slice none 0 0, .int .i64 0] 48 (0, 0))) u2) :
    LM w u1.heap.size u2.heap.size md mem v1 v2 v3 g1 g2 g3 rs cs vs rs cs vs (u2.alloc (.cells #[.int .i64 0, g1, .int .i64 md, g2, g3, .string mem, .int .i64 0, .int .i64 0, .int .i64 0, .slice none 0 0, .slice none 0 0, .int .i64 0] 48 (0, 0))) := by
  have z : (u1.alloc (.cells #[.int .i64 0, v1, .int .i64 md, v2, v3, .string mem, .int .i64 0, .int .i64 0, .int .i64 0, .slice none 0 0, .slice none 0 0, .int .i64 0] 48 (0, 0))).heap.size = u1.heap.size + 1 := by simp
  have hz2 := hb2.size
  have hz1 := hb1.size
  have ba : Below u1.heap.size u1 (u1.alloc (.cells #[.int .i64 0, v1, .int .i64 md, v2, v3, .string mem, .int .i64 0, .int .i64 0, .int .i64 0, .slice none 0 0, .slice none 0 0, .int .i64 0] 48 (0, 0))) := (Below.refl _ _).alloc (Nat.le_refl _) _
  have bb : Below u2.heap.size u2 (u2.alloc (.cells #[.int .i64 0, g1, .int .i64 md, g2, g3, .string mem, .int .i64 0, .int .i64 0, .int .i64 0, .slice none 0 0, .slice none 0 0, .int .i64 0] 48 (0, 0))) := (Below.refl _ _).alloc (Nat.le_refl _) _
  have h2' := h2
  rw [z] at h2
  refine ⟨((hb1.trans (ba.mono hz1)).trans (hb2.mono (by omega))).trans (bb.mono (by omega)), ?_, heap_new _ _, ((h1.below ba).below hb2).below bb, h2.below bb, hz1, ?_, ?_⟩
  · rw [Below.heap_alloc _ _ _ (by omega), hb2.block _ (by omega)]
    exact heap_new _ _
  · rintro k (e | e | e)
    · exact own_lt h1.o1 k e
    · exact own_lt h1.o2 k e
    · exact own_lt h1.o3 k e
  · rintro k (e | e | e)
    · exact h2.o1.lt k e
    · exact h2.o2.lt k e
    · exact h2.o3.lt k e
set_option maxRecDepth 100000 in
set_option maxHeartbeats 4000000 in
theorem lawN (s : ByteArray) (md : Int) (mem : ByteArray) (rs cs vs : List Int) (w : World) (hs : s.size ≤ 1048576) (hlo1 : rs.length ≤ 100) (hlo2 : cs.length ≤ 100) (hlo3 : vs.length ≤ 100)
    (hS : AnsN 22 s md mem rs cs vs) (hI : AnsN 23 s md mem rs cs vs) :
    Calls Try.prog 6 #[.string s] w fun e w' => e = .returned (.bool true) ∧ Below w.heap.size w w' := by
  have HS : Hid (AnsN 22 s md mem rs cs vs) := hS
  have HI1 : Hid (AnsN 23 s md mem rs cs vs) := hI
  have HI2 : Hid (AnsN 23 s md mem rs cs vs) := hI
  have hd : decide (1048576 < (s.size : Int)) = false := by
    apply decide_eq_false
    omega
  have hp : ¬ (1 + (rs.length : Int) + (cs.length : Int) + (vs.length : Int)) < 0 := by omega
  clear hS hI hs
  go_enter Try.func6, Try.ntmps6
  go_wp2_with (first
    | (go_at_call 22; have hA := HS.out w; refine Calls.mono hA ?_; clear hA; rintro e u1 ⟨v1, v2, v3, rfl, ho1, hb1⟩; obtain ⟨a1, k1, rfl⟩ := own_sl2 ho1.o1; obtain ⟨a2, k2, rfl⟩ := own_sl2 ho1.o2; obtain ⟨a3, k3, rfl⟩ := own_sl2 ho1.o3; have HO1 : Hid _ := ho1; have HB1 : Hid _ := hb1; clear ho1 hb1 HS; simp only [macA])
    | (go_at_call 23; refine Calls.mono (HI1.out _) ?_; rintro e u2 ⟨g1, g2, g3, rfl, ho2, hb2⟩; obtain ⟨b1, j1, rfl⟩ := own_sl2 ho2.o1; obtain ⟨b2, j2, rfl⟩ := own_sl2 ho2.o2; obtain ⟨b3, j3, rfl⟩ := own_sl2 ho2.o3; have hL := LM.new HO1.out HB1.out ho2 hb2; have hx1 := (hb2.block u1.heap.size (by simp)).trans (heap_new _ _); have hl12 := (Array.getElem?_eq_some_iff.1 hx1).1; obtain ⟨d0, d1, d2, d3, d4, d5, d6, d7, d8, d9, d10, d11, df⟩ := cel12 hx1; have HL : Hid _ := hL; clear hL ho2 hb2 hx1 HI1 HO1 HB1; simp only [macA])
    | (go_at_call 24; have hA := eqMac_ok md mem HL.out.o2 HL.out.o1 hlo1 hlo2 hlo3; unfold macA at hA; refine Calls.mono hA ?_; clear hA; rintro e u3 ⟨rfl, hu3⟩; have hL3 := HL.out.step hu3; clear d0 d1 d2 d3 d4 d5 d6 d7 d8 d9 d10 d11 df; obtain ⟨e0, e1, e2, e3, e4, e5, e6, e7, e8, e9, e10, e11, ef⟩ := cel12 hL3.x1; obtain ⟨f0, f1, f2, f3, f4, f5, f6, f7, f8, f9, f10, f11, ff⟩ := cel12 hL3.x2; have HL3 : Hid _ := hL3; clear hL3 hu3 HL)
    | (go_at_call 25; have hA := markMac_ok md mem HL3.out.o2 hlo1 hlo2 hlo3; unfold macA at hA; refine Calls.mono hA ?_; clear hA; rintro e u4 ⟨rfl, ho4, hg4⟩; have hL4 := HL3.out.mark hg4 ho4; clear e0 e1 e2 e3 e4 e5 e6 e7 e8 e9 e10 e11 ef f0 f1 f2 f3 f4 f5 f6 f7 f8 f9 f10 f11 ff; obtain ⟨p0, p1, p2, p3, p4, p5, p6, p7, p8, p9, p10, p11, pf⟩ := cel12 hL4.x1; obtain ⟨q0, q1, q2, q3, q4, q5, q6, q7, q8, q9, q10, q11, qf⟩ := cel12 hL4.x2; have HL4 : Hid _ := hL4; clear hL4 ho4 hg4 HL3)
    | (go_at_call 26; have hA := heldMac_ok md mem rs.length cs.length vs.length HL4.out.o2 hlo1 hlo2 hlo3; unfold macA at hA; refine Calls.mono hA ?_; clear hA; rintro e u5 ⟨rfl, hu5⟩; have hL5 := HL4.out.step hu5; clear p0 p1 p2 p3 p4 p5 p6 p7 p8 p9 p10 p11 pf q0 q1 q2 q3 q4 q5 q6 q7 q8 q9 q10 q11 qf; obtain ⟨r0, r1, r2, r3, r4, r5, r6, r7, r8, r9, r10, r11, rf⟩ := cel12 hL5.x1; obtain ⟨t0, t1, t2, t3, t4, t5, t6, t7, t8, t9, t10, t11, tf⟩ := cel12 hL5.x2; have HL5 : Hid _ := hL5; clear hL5 hu5 HL4)
    | (go_at_call 23; refine Calls.mono (HI2.out _) ?_; rintro e u6 ⟨g1, g2, g3, rfl, ho6, hb6⟩; obtain ⟨b61, j61, rfl⟩ := own_sl2 ho6.o1; obtain ⟨b62, j62, rfl⟩ := own_sl2 ho6.o2; obtain ⟨b63, j63, rfl⟩ := own_sl2 ho6.o3; have hL6 := HL5.out.step hb6; clear r0 r1 r2 r3 r4 r5 r6 r7 r8 r9 r10 r11 rf t0 t1 t2 t3 t4 t5 t6 t7 t8 t9 t10 t11 tf; obtain ⟨x0, x1, x2, x3, x4, x5, x6, x7, x8, x9, x10, x11, xf⟩ := cel12 hL6.x1; obtain ⟨y0, y1, y2, y3, y4, y5, y6, y7, y8, y9, y10, y11, yf⟩ := cel12 hL6.x2; have hlt1 := (Array.getElem?_eq_some_iff.1 hL6.x1).1; have hlt2 := (Array.getElem?_eq_some_iff.1 hL6.x2).1; have HO6 : Hid _ := ho6; have HL6 : Hid _ := hL6; clear ho6 hb6 hL6 HI2 HL5; simp only [macA])
    | (go_at_call 24; have hA := eqMac_ok md mem (HO6.out.below ((Below.refl _ _).alloc (Nat.le_refl _) (.cells #[.int .i64 0, (.slice b61 rs.length j61), .int .i64 md, (.slice b62 cs.length j62), (.slice b63 vs.length j63), .string mem, .int .i64 0, .int .i64 0, .int .i64 0, .slice none 0 0, .slice none 0 0, .int .i64 0] 48 (0, 0)))) (HL6.out.step ((Below.refl _ _).alloc (Nat.le_refl _) (.cells #[.int .i64 0, (.slice b61 rs.length j61), .int .i64 md, (.slice b62 cs.length j62), (.slice b63 vs.length j63), .string mem, .int .i64 0, .int .i64 0, .int .i64 0, .slice none 0 0, .slice none 0 0, .int .i64 0] 48 (0, 0)))).o1 hlo1 hlo2 hlo3; unfold macA at hA; refine Calls.mono hA ?_; clear hA; rintro e u7 ⟨rfl, hu7⟩; have hL7 := (HL6.out.step ((Below.refl _ _).alloc (Nat.le_refl _) _)).step hu7; clear x0 x1 x2 x3 x4 x5 x6 x7 x8 x9 x10 x11 xf y0 y1 y2 y3 y4 y5 y6 y7 y8 y9 y10 y11 yf; obtain ⟨z0, z1, z2, z3, z4, z5, z6, z7, z8, z9, z10, z11, zf⟩ := cel12 hL7.x2; have HL7 : Hid _ := hL7; clear hL7 hu7 HL6)
    | (go_at_call 26; have hA := heldMac_ok md mem rs.length cs.length vs.length HL7.out.o2 hlo1 hlo2 hlo3; unfold macA at hA; refine Calls.mono hA ?_; clear hA; rintro e u8 ⟨rfl, hu8⟩; have HL8 : Hid _ := HL7.out.step hu8; clear hu8 HL7))
  go_ret
  exact ⟨rfl, HL8.out.bel⟩
end Go.Proofs.Ytmogemcbbcmeoab
