import Derived.Test.YtlpkkclmcgnapaaDoorPText2
import Derived.Test.YtlpkkclmcgnapaaDoorRowS
import Derived.Test.YtlpkkclmcgnapaaDoorLG
import Derived.Test.YtlpkkclmcgnapaaDoorRegE
import Derived.Laws.AppendOwn
import Derived.Maps.AppendAt
import Derived.OwnWalk
namespace Go.Proofs.YtlpkkclmcgnapaaDoor
open Go.ChangeShapes Go.WideShapes Go.ChangeAt Go.RowKit

def heA : ByteArray := ⟨#[97, 100, 100, 105, 32, 114, 49, 44, 32, 114, 48, 44, 32]⟩
def heO : ByteArray := ⟨#[111, 117, 116, 32, 114, 49, 44, 32, 49]⟩
def heH : ByteArray := ⟨#[104, 97, 108, 116]⟩
def heN : ByteArray := ⟨#[10]⟩
theorem heT_no (f : ByteArray) (j : Nat) : isT f ⟨#[]⟩ j = false := by
  unfold isT
  rw [ByteArray.toList_eq]
  rfl
theorem dec0 : decB 0 = ⟨#[48]⟩ := by
  show (⟨(decN 0).toArray⟩ : ByteArray) = _
  rw [decN_lt 0 (by omega)]
  rfl
theorem dec1 : decB 1 = ⟨#[49]⟩ := by
  show (⟨(decN 1).toArray⟩ : ByteArray) = _
  rw [decN_lt 1 (by omega)]
  rfl
theorem txt_addi (n : Int) : txt 16 1 0 0 n ⟨#[]⟩ = heA ++ decB n := by
  have h8 : fB (kd 16) = ⟨#[97, 98, 105]⟩ := by decide +kernel
  have hn : nm 16 = ⟨#[97, 100, 100, 105]⟩ := by decide +kernel
  have b0 : bt ⟨#[97, 98, 105]⟩ 0 = 97 := by decide +kernel
  have b1 : bt ⟨#[97, 98, 105]⟩ 1 = 98 := by decide +kernel
  have b2 : bt ⟨#[97, 98, 105]⟩ 2 = 105 := by decide +kernel
  unfold txt
  rw [h8, hn]
  show txtL _ _ _ _ 3 = _
  simp only [txtL, heT_no]
  have o0 : opS ⟨#[97, 98, 105]⟩ 1 0 0 n 0 = ⟨#[114]⟩ ++ ⟨#[49]⟩ := by unfold opS; rw [b0, if_pos rfl, dec1]
  have o1 : opS ⟨#[97, 98, 105]⟩ 1 0 0 n 1 = ⟨#[114]⟩ ++ ⟨#[48]⟩ := by unfold opS; rw [b1, if_neg (by decide), if_pos rfl, dec0]
  have o2 : opS ⟨#[97, 98, 105]⟩ 1 0 0 n 2 = decB n := by unfold opS; rw [b2, if_neg (by decide), if_neg (by decide), if_neg (by decide), if_neg (by decide)]
  rw [o0, o1, o2]
  have e : (((⟨#[97, 100, 100, 105]⟩ : ByteArray) ++ sep 0 ++ (⟨#[114]⟩ ++ ⟨#[49]⟩)) ++ sep 1 ++ (⟨#[114]⟩ ++ ⟨#[48]⟩)) ++ sep 2 = heA := by decide +kernel
  simp only [Bool.false_eq_true, if_false]
  rw [e]
theorem txt_out : txt 47 1 0 0 1 ⟨#[]⟩ = heO := by
  have h8 : fB (kd 47) = ⟨#[97, 105]⟩ := by decide +kernel
  have hn : nm 47 = ⟨#[111, 117, 116]⟩ := by decide +kernel
  have b0 : bt ⟨#[97, 105]⟩ 0 = 97 := by decide +kernel
  have b1 : bt ⟨#[97, 105]⟩ 1 = 105 := by decide +kernel
  unfold txt
  rw [h8, hn]
  show txtL _ _ _ _ 2 = _
  simp only [txtL, heT_no]
  have o0 : opS ⟨#[97, 105]⟩ 1 0 0 1 0 = ⟨#[114]⟩ ++ ⟨#[49]⟩ := by unfold opS; rw [b0, if_pos rfl, dec1]
  have o1 : opS ⟨#[97, 105]⟩ 1 0 0 1 1 = ⟨#[49]⟩ := by unfold opS; rw [b1, if_neg (by decide), if_neg (by decide), if_neg (by decide), if_neg (by decide), dec1]
  rw [o0, o1]
  decide +kernel
theorem txt_halt : txt 49 0 0 0 0 ⟨#[]⟩ = heH := by
  have h8 : fB (kd 49) = ⟨#[]⟩ := by decide +kernel
  have hn : nm 49 = ⟨#[104, 97, 108, 116]⟩ := by decide +kernel
  unfold txt
  rw [h8, hn]
  rfl
theorem iT_addi (n : Int) (h0 : 0 ≤ n) (h1 : n ≤ 255) : iT 16 1 0 0 n = heA ++ decB n := by
  have hk : kd 16 = 8 := by decide +kernel
  unfold iT
  rw [if_pos, txt_addi]
  unfold isOk
  rw [hk]
  show (reg 1 true false && reg 0 true false && reg 0 false false && immOk 16 n) = true
  unfold immOk
  rw [if_neg (by decide), if_neg (by decide), decide_eq_true (show (-2048 : Int) ≤ n by omega), decide_eq_true (show n < 2048 by omega)]
  decide
theorem iT_out : iT 47 1 0 0 1 = heO := by
  have hk : isOk 47 1 0 0 1 = true := by decide +kernel
  unfold iT
  rw [if_pos hk, txt_out]
theorem iT_halt : iT 49 0 0 0 0 = heH := by
  have hk : isOk 49 0 0 0 0 = true := by decide +kernel
  unfold iT
  rw [if_pos hk, txt_halt]
/-- Two texts more. -/
theorem app2S {w : World} {B n : Nat} {v : Value} {xs : List Value} (H0 : w.ownsRow B 9 1 v n xs) (x y : ByteArray) (hn : n ≤ 1048576) (hB : B ≤ w.heap.size) :
    ∃ v' u', (Builtin.append_ #[25, 25] 25 #[v, .slice (some ⟨w.heap.size, 0, none⟩) 2 2]).run Tryd.prog (w.alloc (.cells #[.string x, .string y] 9)) = .ok v' u' ∧ (u'.ownsRow B 9 1 v' (n + 2) (xs ++ [.string x, .string y]) ∧ (w.alloc (.cells #[.string x, .string y] 9)).grownBy u' v.ownBlock) := by
  obtain ⟨i0, hi0, hz0, hz1, hz2⟩ := info_parts Tryd.info9
  obtain ⟨v', w', hr, h2, h3, _, _⟩ := run_append_own_at (P := Tryd.prog) (w.alloc (.cells #[.string x, .string y] 9)) B 25 25 9 i0 (.string ⟨#[]⟩) 1 16 Tryd.underlying25 hi0 hz0 hz1 hz2 rfl (by decide) v n xs (World.ownsRow.alloc H0 _) ⟨w.heap.size, 0, none⟩ 2 2 [.string x, .string y] rfl (by
    intro j u hj
    match j, hj with
    | 0, hj =>
      simp at hj
      subst hj
      simp [Addr.add_lit]
    | 1, hj =>
      simp at hj
      subst hj
      simp [Addr.add]
    | j + 2, hj => simp at hj) (by intro u hu; simp at hu; rcases hu with rfl | rfl <;> rfl) (by unfold maxLen; omega) (by omega) (by simp; omega)
  exact ⟨v', w', hr, h2, h3⟩
theorem LG.growH {w u u' : World} {b t : Nat} {cs : Array Value} {r : Option Nat} (h : LG w u b cs t) (hg : u.grownBy u' r) (hne : r ≠ some b) (hr : ∀ k, r = some k → w.heap.size ≤ k) : LG w u' b cs t :=
  ⟨h.bel.grown hg h.bel.size hr, (hg.block b h.lt (fun e => hne e.symm)).trans h.box, h.ge⟩
theorem LG.set1 {w u : World} {b t : Nat} {x0 : Value} (h : LG w u b #[x0] t) (y : Value) : LG w (u.setCell ⟨b, 0, none⟩ y) b #[y] t := by
  refine ⟨h.bel.setCell h.ge _, ?_, h.ge⟩
  have h2 := h.box
  simp [World.setCell, Array.getElem?_modify, h2]
theorem wp_append_exH {P : Program} {o : Oper} {a : Act} {w : World} {K : Act → World → Prop} {Q : Exit → Act → World → Prop} (s x : Operand) (t : TypeId)
    (ho : o.op = .call { callee := .builtin .append, args := #[s, x], argTypes := #[t, t] }) (v v2 : Value) (hs : a.eval s = v) (hx : a.eval x = v2) {R : Value → World → Prop}
    (hr : ∃ v' w', (Builtin.append_ #[t, t] o.type #[v, v2]).run P w = .ok v' w' ∧ R v' w') (h : ∀ v' w', R v' w' → K (a.put o.dst v') w') : o.wp P a w K Q := by
  obtain ⟨v', w', hr, hR⟩ := hr
  unfold Oper.wp execOp
  simp only [ho, resolve, invoke, builtin, Sem.run_bind, Sem.run_pure, Result.andThen_ok, List.map_toArray, List.map_cons, List.map_nil, hs, hx, hr]
  exact h v' w' hR
/-- The lines so far. -/
structure HS (w u : World) (lb q : Nat) (ps : List ByteArray) (a : Option Addr) (c : Nat) : Prop where
  lg : LG w u lb #[.slice a ps.length c] 25
  ow : u.ownsRow q 9 1 (.slice a ps.length c) ps.length (sR ps)
  lt : lb < q
  le : q ≤ u.heap.size
set_option maxRecDepth 100000 in
set_option maxHeartbeats 4000000 in
theorem add_any {w u : World} {lb q : Nat} {ps : List ByteArray} {a : Option Addr} {c : Nat} (h : HS w u lb q ps a c) (hn : Names w) (ht : Tab w) (hw : 1 < w.heap.size) (hw0 : 0 < w.heap.size) (hl : ps.length ≤ 1000) (op a1 b1 c1 im : Int) (h0 : -9223372036854775808 ≤ op) (h1 : op ≤ 9223372036854775807) :
    Calls Tryd.prog 7 #[.agg #[.int .i64 op, .int .i64 a1, .int .i64 b1, .int .i64 c1, .int .i64 im], .pointer (some ⟨lb, 0, none⟩)] u fun e w' => e = .returned (.tuple #[]) ∧ ∃ a2 c2, HS w w' lb q (ps ++ [iT op a1 b1 c1 im, heN]) a2 c2 := by
  have HH : Hid (HS w u lb q ps a c) := h
  have HT : Hid (∀ x, Below w.heap.size w x → Calls Tryd.prog 8 #[ins op a1 b1 c1 im] x fun e w' => e = .returned (.string (iT op a1 b1 c1 im)) ∧ Below x.heap.size x w') := (fun x hx => implText_any op a1 b1 c1 im x (hn.below hx hw0) (ht.below hx hw) (by have := hx.size; omega) (by have := hx.size; omega) h0 h1)
  unfold ins at HT
  clear h hn ht
  generalize iT op a1 b1 c1 im = T at *
  have HB : Hid (LG w (u.alloc (.cells #[.int .i64 op, .int .i64 a1, .int .i64 b1, .int .i64 c1, .int .i64 im] 27)) u.heap.size #[.int .i64 op, .int .i64 a1, .int .i64 b1, .int .i64 c1, .int .i64 im] 27) := ⟨HH.out.lg.bel.trans ((LG.new u _ _).bel.mono HH.out.lg.bel.size), heap_new _ _, HH.out.lg.bel.size⟩
  have HS1 : Hid (HS w (u.alloc (.cells #[.int .i64 op, .int .i64 a1, .int .i64 b1, .int .i64 c1, .int .i64 im] 27)) lb q ps a c) := ⟨HH.out.lg.step (LG.new u _ _).bel, World.ownsRow.alloc HH.out.ow _, HH.out.lt, by have := HH.out.le; simp; omega⟩
  go_enter Tryd.func7, Tryd.ntmps7
  go_upto_region 1 with fail
  generalize (u.alloc (.cells #[.int .i64 op, .int .i64 a1, .int .i64 b1, .int .i64 c1, .int .i64 im] 27)) = u0 at *
  generalize u.heap.size = ib at *
  refine AnyE.start (fun w9 => LG w w9 ib #[.int .i64 op, .int .i64 a1, .int .i64 b1, .int .i64 c1, .int .i64 im] 27 ∧ LG w w9 lb #[.slice a ps.length c] 25) [4, 5] (by kernel_rfl) ?_
  have HZ0 : Hid (LG w u0.drew ib #[.int .i64 op, .int .i64 a1, .int .i64 b1, .int .i64 c1, .int .i64 im] 27 ∧ LG w u0.drew lb #[.slice a ps.length c] 25) := ⟨HB.out.drew, HS1.out.lg.drew⟩
  have HO0 : Hid (u0.drew.ownsRow q 9 1 (.slice a ps.length c) ps.length (sR ps)) := HS1.out.ow
  have HQ0 : Hid (q ≤ u0.drew.heap.size) := HS1.out.le
  have HLQ : Hid (lb < q) := HS1.out.lt
  clear HB HS1 HH
  generalize u0.drew = x0 at *
  refine AnyE.take (i := 0) (v := .slice a ps.length c) rfl (by kernel_rfl) (by kernel_rfl) (by kernel_rfl) (by kernel_rfl) (by kernel_rfl) (fun _ _ _ h => h) (Or.inl ⟨by kernel_rfl, fun w9 h9 => ?_⟩) HZ0.out ?_
  · have k0 := h9.2.cel 0 _ rfl; have kl := h9.2.lt; clear h9; go_simp
  refine AnyE.take (i := 1) (v := .agg #[.int .i64 op, .int .i64 a1, .int .i64 b1, .int .i64 c1, .int .i64 im]) rfl (by kernel_rfl) (by kernel_rfl) (by kernel_rfl) (by kernel_rfl) (by kernel_rfl) (fun _ _ _ h => h) (Or.inl ⟨by kernel_rfl, fun w9 h9 => ?_⟩) HZ0.out ?_
  · have k0 := h9.1.cel 0 _ rfl; have k1 := h9.1.cel 1 _ rfl; have k2 := h9.1.cel 2 _ rfl; have k3 := h9.1.cel 3 _ rfl; have k4 := h9.1.cel 4 _ rfl; have kl := h9.1.lt; clear h9; go_simp
  refine AnyE.one 2 (by kernel_rfl) rfl (by kernel_rfl) fun K hK => ?_
  go_simp
  go_wp2_with (go_at_call 8; refine Calls.mono (HT.out _ HZ0.out.1.bel) ?_; rintro e x1 ⟨rfl, hb⟩; have HZ1 : Hid (LG w x1 ib #[.int .i64 op, .int .i64 a1, .int .i64 b1, .int .i64 c1, .int .i64 im] 27 ∧ LG w x1 lb #[.slice a ps.length c] 25) := ⟨HZ0.out.1.step hb, HZ0.out.2.step hb⟩; have HO1 : Hid (x1.ownsRow q 9 1 (.slice a ps.length c) ps.length (sR ps)) := own_below HO0.out hb; have HQ1 : Hid (q ≤ x1.heap.size) := (show q ≤ _ by have := HQ0.out; have := hb.size; omega); clear hb)
  refine hK _ _ (fun _ => HZ1.out) ?_
  clear hK K HZ0 HO0 HQ0
  have HZ2 : Hid (LG w (x1.alloc (.cells #[.string T, .string ⟨#[10]⟩] 9)) ib #[.int .i64 op, .int .i64 a1, .int .i64 b1, .int .i64 c1, .int .i64 im] 27 ∧ LG w (x1.alloc (.cells #[.string T, .string ⟨#[10]⟩] 9)) lb #[.slice a ps.length c] 25) := ⟨HZ1.out.1.step (LG.new x1 _ _).bel, HZ1.out.2.step (LG.new x1 _ _).bel⟩
  have HAP : Hid _ := app2S HO1.out T ⟨#[10]⟩ (by omega) HQ1.out
  refine AnyE.one 3 (by kernel_rfl) rfl (by kernel_rfl) fun K hK => ?_
  go_simp
  refine hK _ _ (fun _ => HZ2.out) ?_
  clear hK K
  refine AnyE.one 4 (by kernel_rfl) rfl (by kernel_rfl) fun K hK => ?_
  refine wp_append_exH _ _ 25 rfl (.slice a ps.length c) (.slice (some ⟨x1.heap.size, 0, none⟩) 2 2) rfl rfl HAP.out ?_
  rintro v' u' ⟨ho, hg⟩
  obtain ⟨a5, c5, rfl⟩ := s_sl ho
  have HLB : Hid (LG w u' lb #[.slice a ps.length c] 25) := (HZ2.out.2.growH hg (fun e => by have := (HO1.out.lt _ e).1; have := HLQ.out; omega) (fun k hk => by have := (HO1.out.lt _ hk).1; have := HLQ.out; have := HZ1.out.2.ge; omega))
  have HO2 : Hid (u'.ownsRow q 9 1 (.slice a5 (ps.length + 2) c5) (ps.length + 2) (sR ps ++ [.string T, .string ⟨#[10]⟩])) := ho
  have HQ2 : Hid (q ≤ u'.heap.size) := (show q ≤ _ by have h1 := HQ1.out; have h2 := hg.size; simp at h2; omega)
  refine hK _ _ (fun h => absurd (by decide) h) ?_
  clear hK K ho hg HAP HZ1 HZ2 HO1 HQ1
  have HL9 : Hid (LG w (u'.setCell ⟨lb, 0, none⟩ (.slice a5 (ps.length + 2) c5)) lb #[.slice a5 (ps.length + 2) c5] 25) := HLB.out.set1 _
  have k0 := HLB.out.cel 0 _ rfl
  have f0 := HLB.out.frz 0
  have kl := HLB.out.lt
  have HOS : Hid ((u'.setCell ⟨lb, 0, none⟩ (.slice a5 (ps.length + 2) c5)).ownsRow q 9 1 (.slice a5 (ps.length + 2) c5) (ps.length + 2) (sR ps ++ [.string T, .string ⟨#[10]⟩])) := (show _ from World.ownsRow.kept HO2.out (row := some lb) ⟨rfl, rfl, rfl, by simp [World.setCell], fun k hk1 hk2 => Below.heap_setCell _ _ _ _ (fun e => hk2 (congrArg some e))⟩ (by
    rcases hq : (Value.slice a5 (ps.length + 2) c5).ownBlock with _ | k1
    · exact .inl rfl
    · exact .inr (fun e => by have h1 := (HO2.out.lt k1 hq).1; have h2 := HLQ.out; have h3 := Option.some.inj e; omega)))
  have HQ9 : Hid (q ≤ (u'.setCell ⟨lb, 0, none⟩ (.slice a5 (ps.length + 2) c5)).heap.size) := (show q ≤ _ by have := HQ2.out; simpa [World.setCell] using this)
  refine AnyE.one 5 (by kernel_rfl) rfl (by kernel_rfl) fun K hK => ?_
  go_simp
  refine hK _ _ (fun h => absurd (by decide) h) ?_
  clear hK K
  refine AnyE.done (by kernel_rfl) ?_ _
  go_simp
  go_wp2
  refine bodyPost_end (v := .tuple #[]) (by simp [results, Tryd.results7, go_sem]) rfl ?_
  have el : (ps ++ [T, heN]).length = ps.length + 2 := by simp
  have es : sR (ps ++ [T, heN]) = sR ps ++ [.string T, .string ⟨#[10]⟩] := by simp [sR, heN]
  exact ⟨rfl, a5, c5, ⟨by rw [el]; exact HL9.out, by rw [el, es]; exact HOS.out, HLQ.out, HQ9.out⟩⟩
end Go.Proofs.YtlpkkclmcgnapaaDoor
