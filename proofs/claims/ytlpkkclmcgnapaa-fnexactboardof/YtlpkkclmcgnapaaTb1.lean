import Derived.Test.YtlpkkclmcgnapaaDv2
import Derived.Test.YtlpkkclmcgnapaaDv3
import Derived.Test.YtlpkkclmcgnapaaKw1
import Derived.Test.YtlpkkclmcgnapaaRowFT3
namespace Go.Proofs.Ytlpkkclmcgnapaa
open Go.ChangeShapes Go.WideShapes Go.ChangeAt Go.RowKit

/-- A device's word. -/
def dwW (z : DV) : Int := z.kind * 16777216 + z.line * 65536 + z.port
def nmM : ByteArray := ⟨#[77, 69, 77, 79]⟩
def nmC : ByteArray := ⟨#[67, 80, 85, 83]⟩
def nmD : ByteArray := ⟨#[68, 69, 86, 83]⟩
def tbL (f c : Int) (zs : List DV) : List FT := [⟨nmM, 1, pwT [f]⟩, ⟨nmC, 1, pwT [c]⟩, ⟨nmD, 1, pwT (zs.map dwW)⟩]
def tbV (f c : Int) (zs : List DV) : List FT := if bfB f c zs = true then tbL f c zs else []
theorem dv_b {z : DV} (h : dvB z = true) : 1 ≤ z.kind ∧ z.kind ≤ 255 ∧ 0 ≤ z.port ∧ z.port ≤ 2047 ∧ 0 ≤ z.line ∧ z.line < 7 := by
  unfold dvB at h
  simp only [Bool.and_eq_true, decide_eq_true_eq] at h
  omega
theorem bf_ds {f c : Int} {zs : List DV} (h : bfB f c zs = true) : dsB zs = true := by
  unfold bfB at h
  simp only [Bool.and_eq_true] at h
  exact h.2
theorem bf_len {f c : Int} {zs : List DV} (h : bfB f c zs = true) : zs.length ≤ 16 := by
  have h2 := bf_ds h
  unfold dsB at h2
  rw [Bool.and_eq_true] at h2
  have := of_decide_eq_true h2.1
  omega
theorem bf_dv {f c : Int} {zs : List DV} (h : bfB f c zs = true) (k : Nat) (hk : k < zs.length) : dvB zs[k] = true := by
  have h2 := bf_ds h
  unfold dsB at h2
  rw [Bool.and_eq_true] at h2
  have h3 := allD_iff.1 h2.2 k hk
  unfold dvk at h3
  rw [Bool.and_eq_true] at h3
  have h4 := h3.1
  simp only [List.getD, List.getElem?_eq_getElem hk, Option.getD_some] at h4
  exact h4
theorem pwT_one (f : Int) : pwT [f] = pw f := ba_of _ _ (by simp [pwL, catB])
theorem tbV_len (f c : Int) (zs : List DV) : (tbV f c zs).length ≤ 3 := by
  unfold tbV
  split <;> simp [tbL]
theorem tb_map (zs : List DV) (k : Nat) (hk : k < zs.length) : (zs.map dwW).take (k + 1) = (zs.map dwW).take k ++ [dwW zs[k]] := by
  rw [List.take_succ_eq_append_getElem (by simpa using hk)]
  simp
theorem ft_three (u : World) (x y z : FT) (B : Nat) (hB : B ≤ u.heap.size) : (u.alloc (.cells #[.string x.name, .int .i64 x.rev, .string x.body, .string y.name, .int .i64 y.rev, .string y.body, .string z.name, .int .i64 z.rev, .string z.body] 56)).ownsRow B 56 3 (.slice (some ⟨u.heap.size, 0, none⟩) 3 3) 3 (ftR [x, y, z]) := by
  refine ⟨by simp [ftR, ftC], .inr ⟨u.heap.size, 3, _, rfl, hB, heap_new _ _, Nat.le_refl _, by unfold maxLen; omega, rfl, ?_⟩⟩
  simp [ftR, ftC]
/-- One number more. -/
theorem appN {w : World} {lo n : Nat} {v : Value} {ys : List Int} (h : w.ownsRow lo 2 1 v n (iR ys)) (hn : n ≤ 1048576) (hlo : lo ≤ w.heap.size) (x : Int) : ∃ v' u', (Builtin.append_ #[57, 57] 57 #[v, .slice (some ⟨w.heap.size, 0, none⟩) 1 1]).run Try.prog (w.alloc (.cells #[.int .i64 x] 2)) = .ok v' u' ∧ (u'.ownsRow lo 2 1 v' (n + 1) (iR (ys ++ [x])) ∧ (w.alloc (.cells #[.int .i64 x] 2)).grownBy u' v.ownBlock) := by
  obtain ⟨i0, hi0, hz0, hz1, hz2⟩ := info_parts Try.info2
  have hc1 := (LG.new w #[.int .i64 x] 2).cel 0 _ rfl
  obtain ⟨v', w', hr, h2, h3, _⟩ := run_append_own (P := Try.prog) (w.alloc (.cells #[.int .i64 x] 2)) lo 57 57 2 i0 (.int .i64 0) 1 8 Try.underlying57 hi0 hz0 hz1 hz2 rfl (by decide) v n (iR ys) (h.alloc _) ⟨w.heap.size, 0, none⟩ 1 1 [.int .i64 x] rfl (fun j u hj => by
    match j, hj with
    | 0, hj => obtain rfl := Option.some.inj hj; exact hc1
    | j + 1, hj => simp at hj) (fun u hu => by
    simp at hu
    rcases hu with rfl <;> rfl) (by unfold maxLen; omega) (by omega) (by simp; omega)
  have e : iR ys ++ [.int .i64 x] = iR (ys ++ [x]) := by simp [iR]
  rw [e] at h2
  exact ⟨v', w', hr, h2, h3⟩
theorem i_one (u : World) (x : Int) : Irow (u.alloc (.cells #[.int .i64 x] 2)) (.slice (some ⟨u.heap.size, 0, none⟩) 1 1) [x] := by
  refine .inr ⟨u.heap.size, 0, 1, rfl, Nat.le_refl _, by simp, fun k hk => ?_⟩
  have : k = 0 := by simpa using hk
  subst this
  exact (LG.new u #[.int .i64 x] 2).cel 0 _ rfl
set_option maxRecDepth 100000 in
set_option maxHeartbeats 4000000 in
theorem devWord_any (z : DV) (hz : dvB z = true) (w : World) : Calls Try.prog 29 #[.agg #[.int .i64 z.kind, .int .i64 z.port, .int .i64 z.line]] w fun e w' => e = .returned (.int .i64 (dwW z)) ∧ Below w.heap.size w w' := by
  have hb := dv_b hz
  have HL0 : Hid (LG w (w.alloc (.cells #[.int .i64 z.kind, .int .i64 z.port, .int .i64 z.line] 49)) w.heap.size #[.int .i64 z.kind, .int .i64 z.port, .int .i64 z.line] 49) := LG.new w _ _
  have E : Hid (dwW z = z.kind * 16777216 + z.line * 65536 + z.port) := rfl
  generalize dwW z = V at *
  obtain ⟨b0, b1, b2, b3, b4, b5⟩ := hb
  go_enter Try.func29, Try.ntmps29
  go_upto_region 1 with fail
  generalize (w.alloc (.cells #[.int .i64 z.kind, .int .i64 z.port, .int .i64 z.line] 49)) = u0 at *
  generalize w.heap.size = q0 at *
  have k0 := HL0.out.cel 0 _ rfl
  have k1 := HL0.out.cel 1 _ rfl
  have k2 := HL0.out.cel 2 _ rfl
  have kl := HL0.out.lt
  go_wp2
  go_ret
  exact ⟨ret_int E.out.symm, HL0.out.bel⟩
set_option maxRecDepth 100000 in
set_option maxHeartbeats 4000000 in
theorem boardTable_any {w : World} {v : Value} {t : List Int} (h : Irow w v t) (ht : t.length ≤ 1000) (n : ByteArray) : Calls Try.prog 30 #[.string n, v] w fun e w' => e = .returned (.agg #[.string n, .int .i64 1, .string (pwT t)]) ∧ Below w.heap.size w w' := by
  obtain ⟨ao, cap, rfl⟩ := h.sl
  have HP : Hid (∀ u, Aft w u → Calls Try.prog 45 #[.slice ao t.length cap] u fun e w' => e = .returned (.string (pwT t)) ∧ Below u.heap.size u w') := fun u hu => packWords_any (h.below hu.out) ht
  have HL0 : Hid (LG w (w.alloc (.cells #[.string ⟨#[]⟩, .int .i64 0, .string ⟨#[]⟩] 56)) w.heap.size #[.string ⟨#[]⟩, .int .i64 0, .string ⟨#[]⟩] 56) := LG.new w _ _
  clear h
  generalize pwT t = b at *
  go_enter Try.func30, Try.ntmps30
  go_upto_region 1 with fail
  generalize (w.alloc (.cells #[.string ⟨#[]⟩, .int .i64 0, .string ⟨#[]⟩] 56)) = u0 at *
  generalize w.heap.size = q0 at *
  go_wp2_with fail
  refine Calls.mono (HP.out _ HL0.out.aft) ?_
  rintro e u1 ⟨rfl, hb⟩
  have HL1 : Hid (LG w u1 q0 #[.string ⟨#[]⟩, .int .i64 0, .string ⟨#[]⟩] 56) := HL0.out.step hb
  clear hb HL0
  have k0 := HL1.out.cel 0 _ rfl
  have k1 := HL1.out.cel 1 _ rfl
  have k2 := HL1.out.cel 2 _ rfl
  have f0 := HL1.out.frz 0
  have f1 := HL1.out.frz 1
  have f2 := HL1.out.frz 2
  have kl := HL1.out.lt
  go_wp2
  refine bodyPost_ret (v := .agg #[.string n, .int .i64 1, .string b]) ?_ rfl ⟨rfl, ((HL1.out.bel.setCell HL1.out.ge _).setCell HL1.out.ge _).setCell HL1.out.ge _⟩
  simp [results, Try.results30, go_sem, k0, k1, k2]
end Go.Proofs.Ytlpkkclmcgnapaa
