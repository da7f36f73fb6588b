import Derived.Test.YtaobbddecmhpnaaDkZ
import Derived.Test.YtaobbddecmhpnaaPutWord
import Derived.Test.YtaobbddecmhpnaaMix
namespace Go.Proofs.Ytaobbddecmhpnaa
open Go.ChangeShapes Go.WideShapes Go.ChangeAt Go.RowKit

set_option maxRecDepth 100000
theorem conv1 (w : World) (a : Int) :
    Sem.run Try.prog (convert 61 9 (.slice (some ⟨w.heap.size, 0, none⟩) 1 1)) (w.alloc (.cells #[.int .u8 a] 5)) = .ok (.string (strOfNums [a])) (w.alloc (.cells #[.int .u8 a] 5)) := by
  refine run_convert_bytes_arg _ 61 5 Try.underlying61 Try.underlying5 w.heap.size 0 1 1 [a] rfl ?_ 9 Try.underlying9
  intro i hi
  match i, hi with
  | 0, _ => simp
theorem ba_of (l : List UInt8) (b : ByteArray) (h : b.data.toList = l) : (⟨l.toArray⟩ : ByteArray) = b := by
  apply ByteArray.ext
  rw [← h]
theorem catB_two (a b : ByteArray) : (⟨(catB [a, b]).toArray⟩ : ByteArray) = a ++ b := ba_of _ _ (by simp [catB])
theorem strOfNums_size (l : List Int) : (strOfNums l).size = l.length := by simp [strOfNums, ByteArray.size]
/-- A name with its length ahead. -/
def shB (t : ByteArray) : ByteArray := strOfNums [(t.size : Int)] ++ t
theorem shB_size (t : ByteArray) : (shB t).size = t.size + 1 := by
  unfold shB
  rw [ByteArray.size_append, strOfNums_size]
  simp
  omega
theorem pw_size (n : Int) : (pw n).size = 4 := by unfold pw; rw [strOfNums_size]; rfl
theorem short_any (t : ByteArray) (ht : t.size ≤ 20) (w : World) : Calls Try.prog 14 #[.string t] w fun e w' => e = .returned (.string (shB t)) ∧ Below w.heap.size w w' := by
  have hc := conv1 w (t.size : Int)
  have hadd := fun w => run_string_add_sum (P := Try.prog) w (strOfNums [(t.size : Int)]) t (by rw [strOfNums_size]; simp; omega)
  have hs0 : (0 : Int) ≤ (t.size : Int) := by omega
  have hs1 : (t.size : Int) ≤ 20 := by omega
  have hw : IntKind.u8.wrap (t.size : Int) = (t.size : Int) := by simp [IntKind.wrap, IntKind.bits, IntKind.signed]; omega
  have HG : Hid (shB t = strOfNums [(t.size : Int)] ++ t) := (show shB t = _ from rfl)
  generalize shB t = G at *
  go_enter Try.func14, Try.ntmps14
  go_wp2
  go_ret
  exact ⟨by rw [HG.out]; rfl, (Below.refl _ _).alloc (Nat.le_refl _) _⟩
theorem joined2x (u : World) (a b : ByteArray) (hsz : a.size + b.size ≤ 1099511627776) :
    Calls Try.prog 24 #[.slice (some ⟨u.heap.size, 0, none⟩) 2 2] (u.alloc (.cells #[.string a, .string b] 9)) fun e w' => e = .returned (.string (a ++ b)) ∧ Below u.heap.size u w' := by
  rw [← catB_two]
  refine (joined_any u.heap.size 2 2 [a, b] _ rfl (by simp) ?_ (by omega) ?_).mono ?_
  · intro i hi
    match i, hi with
    | 0, _ => simp
    | 1, _ => simp
  · simp [catB]
    omega
  · rintro e w' ⟨rfl, hb⟩
    exact ⟨rfl, ((Below.refl u.heap.size u).alloc (Nat.le_refl _) _).trans (hb.mono (by simp))⟩
set_option maxHeartbeats 2000000 in
theorem packName_any (t : ByteArray) (ht : t.size ≤ 20) (w : World) : Calls Try.prog 22 #[.string t] w fun e w' => e = .returned (.string (shB t)) ∧ Below w.heap.size w w' := by
  have hc := conv1 w (t.size : Int)
  have HJ : Hid _ := joined2x (w.alloc (.cells #[.int .u8 (t.size : Int)] 5)) (strOfNums [(t.size : Int)]) t (by rw [strOfNums_size]; simp; omega)
  have hs0 : (0 : Int) ≤ (t.size : Int) := by omega
  have hs1 : (t.size : Int) ≤ 20 := by omega
  have hw : IntKind.u8.wrap (t.size : Int) = (t.size : Int) := by simp [IntKind.wrap, IntKind.bits, IntKind.signed]; omega
  have HG : Hid (shB t = strOfNums [(t.size : Int)] ++ t) := (show shB t = _ from rfl)
  have HB : Hid (Below w.heap.size w (w.alloc (.cells #[.int .u8 (t.size : Int)] 5))) := (Below.refl _ _).alloc (Nat.le_refl _) _
  rw [← HG.out] at HJ
  generalize shB t = G at *
  simp only [World.size_alloc] at HJ
  go_enter Try.func22, Try.ntmps22
  go_wp2_with (go_at_call 24; refine Calls.mono HJ.out ?_; rintro e u1 ⟨rfl, hu⟩; have HU : Hid _ := hu; clear hu)
  go_ret
  exact ⟨rfl, HB.out.trans (HU.out.mono (by simp))⟩
/-- The words of a table. -/
def twL (t : List Int) : List ByteArray := t.map (fun e => pw (e + 2))
def twB (t : List Int) : ByteArray := ⟨(catB (twL t)).toArray⟩
theorem twL_len (t : List Int) : (twL t).length = t.length := by simp [twL]
theorem twL_size (t : List Int) : (catB (twL t)).length = 4 * t.length := by
  induction t with
  | nil => rfl
  | cons e t ih =>
    have h1 : catB (twL (e :: t)) = (pw (e + 2)).data.toList ++ catB (twL t) := by simp [twL, catB]
    have h2 : (pw (e + 2)).data.toList.length = 4 := by rw [← pw_size (e + 2)]; rfl
    rw [h1, List.length_append, ih, h2, List.length_cons]
    omega
theorem twL_take (t : List Int) (k : Nat) (hk : k < t.length) : twL (t.take (k + 1)) = twL (t.take k) ++ [pw (t[k] + 2)] := by
  unfold twL
  rw [List.take_succ_eq_append_getElem hk, List.map_append]
  rfl
structure TOk (t : List Int) : Prop where
  len : t.length ≤ 64
  el : ∀ k (hk : k < t.length), -2 ≤ t[k] ∧ t[k] ≤ 128
set_option maxHeartbeats 4000000 in
theorem putTable_any {w : World} {v : Value} {t : List Int} (h : Irow w v t) (ht : TOk t) : Calls Try.prog 15 #[v] w fun e w' => e = .returned (.string (twB t)) ∧ Below w.heap.size w w' := by
  obtain ⟨ao, cap, rfl⟩ := h.sl
  have HR : Hid (Irow w (.slice ao t.length cap) t) := h
  have HT : Hid (TOk t) := ht
  have HG : Hid (twB t = ⟨(catB (twL t)).toArray⟩) := (show twB t = _ from rfl)
  generalize twB t = G at *
  have htl := ht.len
  clear h ht
  go_enter Try.func15, Try.ntmps15
  go_wp2
  go_loopw [3, 4] (fun out i wr => ∃ k : Nat, k ≤ t.length ∧ i = .int .i64 k ∧ out = .string ⟨(catB (twL (t.take k))).toArray⟩ ∧ Below w.heap.size w wr) (fun _ i _ => t.length - (intOf i).toNat)
  case atStart => exact ⟨0, Nat.zero_le _, rfl, by simp [twL, catB], Below.refl _ _⟩
  case round =>
    obtain ⟨k, hk, rfl, rfl, hb⟩ := hrel
    have HB : Hid (Below w.heap.size w wr) := hb
    by_cases hlt : k < t.length
    · obtain ⟨g, o, cap2, hv, _, hg, hc⟩ := HR.out.resolve_left (fun h => by rw [h.1] at hlt; simp at hlt)
      injection hv with hv1 hv2 hv3
      subst hv1 hv3
      have d0 := hc.below hb hg k hlt
      obtain ⟨y0, y1⟩ := HT.out.el k hlt
      have HS : Hid ((⟨(catB (twL (t.take k))).toArray⟩ : ByteArray) ++ pw (t[k] + 2) = ⟨(catB (twL (t.take (k + 1)))).toArray⟩) := (show _ = _ by rw [twL_take t k hlt, catB_snoc, tx_add])
      have hbs : (⟨(catB (twL (t.take k))).toArray⟩ : ByteArray).size ≤ 256 := by
        have := twL_size (t.take k)
        rw [List.length_take] at this
        show (catB (twL (t.take k))).toArray.size ≤ 256
        rw [List.size_toArray]
        omega
      have hps := pw_size (t[k] + 2)
      generalize t[k] = y at *
      have HP : Hid _ := fun u => specPutWord_any (y + 2) u
      generalize pw (y + 2) = p at *
      generalize (⟨(catB (twL (t.take k))).toArray⟩ : ByteArray) = x at *
      have hadd := fun w => run_string_add_sum (P := Try.prog) w x p (by omega)
      have hk0 : (0 : Int) ≤ (k : Int) := by omega
      have hk1 : (k : Int) < (t.length : Int) := by omega
      have hk9 : (k : Int) ≤ 64 := by omega
      clear hb hc hv2 hbs hps
      go_wp2_with (go_at_call 13; refine Calls.mono (HP.out _) ?_; rintro e u1 ⟨rfl, hu⟩; have HU : Hid (Below w.heap.size w u1) := HB.out.trans (hu.mono HB.out.size); clear hu)
      exact ⟨⟨k + 1, hlt, by simp, by rw [HS.out], HU.out⟩, by simp [intOf]; omega⟩
    · obtain rfl : k = t.length := by omega
      have HG2 : Hid ((⟨(catB (twL (t.take t.length))).toArray⟩ : ByteArray) = G) := (show _ = _ by rw [List.take_length]; exact HG.out.symm)
      generalize (⟨(catB (twL (t.take t.length))).toArray⟩ : ByteArray) = x at *
      go_wp2
      go_ret
      exact ⟨by rw [← HG2.out]; rfl, hb⟩
set_option maxHeartbeats 4000000 in
theorem packTable_any {w : World} {v : Value} {t : List Int} (h : Irow w v t) (ht : TOk t) : Calls Try.prog 23 #[v] w fun e w' => e = .returned (.string (twB t)) ∧ Below w.heap.size w w' := by
  obtain ⟨ao, cap, rfl⟩ := h.sl
  have HR : Hid (Irow w (.slice ao t.length cap) t) := h
  have HT : Hid (TOk t) := ht
  have HG : Hid (twB t = ⟨(catB (twL t)).toArray⟩) := (show twB t = _ from rfl)
  generalize twB t = G at *
  have htl := ht.len
  obtain ⟨i0, hi0, hz0, hz1, hz2⟩ := info_parts Try.info9
  have HI0 : Hid _ := hi0
  have HZ0 : Hid _ := hz0
  have HZ1 : Hid _ := hz1
  have HZ2 : Hid _ := hz2
  clear h ht hi0 hz0 hz1 hz2
  go_enter Try.func23, Try.ntmps23
  go_wp2
  go_loopw [3, 8] (fun st i wr => ∃ k : Nat, k ≤ t.length ∧ i = .int .i64 k ∧ wr.ownsRow w.heap.size 9 1 st k (sR (twL (t.take k))) ∧ Below w.heap.size w wr) (fun _ i _ => t.length - (intOf i).toNat)
  case atStart => exact ⟨0, Nat.zero_le _, rfl, World.ownsRow_nil _ _ _ _, Below.refl _ _⟩
  case round =>
    obtain ⟨k, hk, rfl, hown, hb⟩ := hrel
    obtain ⟨st0, kst, hst⟩ := s_sl hown
    subst hst
    have HOW : Hid (wr.ownsRow w.heap.size 9 1 (.slice st0 k kst) k (sR (twL (t.take k)))) := hown
    have HB : Hid (Below w.heap.size w wr) := hb
    clear hown
    by_cases hlt : k < t.length
    · obtain ⟨g, o, cap2, hv, _, hg, hc⟩ := HR.out.resolve_left (fun h => by rw [h.1] at hlt; simp at hlt)
      injection hv with hv1 hv2 hv3
      subst hv1 hv3
      have d0 := hc.below hb hg k hlt
      obtain ⟨y0, y1⟩ := HT.out.el k hlt
      have HS : Hid (twL (t.take (k + 1)) = twL (t.take k) ++ [pw (t[k] + 2)]) := twL_take t k hlt
      generalize t[k] = y at *
      have HP : Hid _ := implPutWord_any (y + 2) wr
      generalize pw (y + 2) = p at *
      have hk0 : (0 : Int) ≤ (k : Int) := by omega
      have hk1 : (k : Int) < (t.length : Int) := by omega
      have hk9 : (k : Int) ≤ 64 := by omega
      clear hb hc hv2
      go_wp2_with fail
      refine Calls.mono HP.out ?_
      rintro e u1 ⟨rfl, hu⟩
      have HU : Hid (Below w.heap.size w u1) := HB.out.trans (hu.mono HB.out.size)
      have HO1 : Hid (u1.ownsRow w.heap.size 9 1 (.slice st0 k kst) k (sR (twL (t.take k)))) := own_below HOW.out hu
      clear hu HP
      go_wp2_with (at_builtin; refine wpList_append_own _ rfl _ _ 23 rfl w.heap.size 9 i0 (.string ⟨#[]⟩) 1 16 Try.underlying23 HI0.out HZ0.out HZ1.out HZ2.out rfl (by decide) (.slice st0 k kst) k (sR (twL (t.take k))) rfl (HO1.out.alloc _) ⟨u1.heap.size, 0, none⟩ 1 1 [.string p] rfl rfl ?c1 ?c2 ?c3 ?c4 ?c5 ?_)
      case c1 => exact new_cells u1 [.string p] 9
      case c2 => simp [Value.oneCell']
      case c3 => unfold maxLen; omega
      case c4 => omega
      case c5 => have := HU.out.size; simp; omega
      intro v' w2 hown2 hgrow _
      have HO2 : Hid (w2.ownsRow w.heap.size 9 1 v' (k + 1) (sR (twL (t.take (k + 1))))) := (show w2.ownsRow w.heap.size 9 1 v' (k + 1) (sR (twL (t.take (k + 1)))) by
        rw [HS.out]
        simpa [sR] using hown2)
      have HB2 : Hid (Below w.heap.size w w2) := (HU.out.alloc HU.out.size _).grown hgrow (by simp; have := HU.out.size; omega) (fun j hj => (HO1.out.lt j hj).1)
      obtain ⟨st2, k2, hst2⟩ := s_sl HO2.out
      subst hst2
      clear hown2 hgrow
      go_wp2
      exact ⟨⟨k + 1, hlt, by simp, HO2.out, HB2.out⟩, by simp [intOf]; omega⟩
    · obtain rfl : k = t.length := by omega
      have hsl := twL_size t
      have HJ : Hid _ := joined_row (ps := twL t) (v := .slice st0 t.length kst) (by rw [twL_len]; have := HOW.out; rw [List.take_length] at this; exact this) (by rw [twL_len]; omega) (by rw [hsl]; omega)
      rw [← HG.out] at HJ
      clear hsl
      go_wp2_with (go_at_call 24; refine Calls.mono HJ.out ?_; rintro e u1 ⟨rfl, hu⟩; have HU : Hid (Below w.heap.size w u1) := HB.out.trans (hu.mono HB.out.size); clear hu)
      go_ret
      exact ⟨rfl, HU.out⟩

set_option maxRecDepth 100000
def img1 : ByteArray := ⟨#[73, 77, 71, 49]⟩
/-- The pieces of an image's text. -/
def hdL (m : IM) : List ByteArray := [img1, pw m.t.length, pw m.d.length, pw m.s.length, shB m.n, shB m.b, twB m.t]
def snL (ps : List SP) : List ByteArray := ps.flatMap (fun p => [shB p.n, twB p.t])
def pcs (m : IM) : List ByteArray := hdL m ++ m.d ++ snL m.s
def txB (m : IM) : ByteArray := ⟨(catB (pcs m)).toArray⟩
def pkB (m : IM) : ByteArray := if imB m then txB m ++ pw (mixv (txB m) 7) else ⟨#[]⟩
theorem catB_add (a b : List ByteArray) : catB (a ++ b) = catB a ++ catB b := by simp [catB]
theorem bt_len (b : ByteArray) : b.data.toList.length = b.size := rfl
theorem twB_size (t : List Int) : (twB t).size = 4 * t.length := by
  rw [← twL_size t]
  simp [twB, ByteArray.size]
theorem hd_len {m : IM} (h : IR m) : (catB (hdL m)).length ≤ 400 := by
  have h1 := pw_size (m.t.length : Int)
  have h2 := pw_size (m.d.length : Int)
  have h3 := pw_size (m.s.length : Int)
  have h4 := shB_size m.n
  have h5 := shB_size m.b
  have h6 := twB_size m.t
  have n1 := (of_decide_eq_true h.n).2.1
  have b1 : m.b.size ≤ 20 := by
    have := h.b
    unfold bkB at this
    rw [Bool.or_eq_true] at this
    rcases this with h | h
    · have := of_decide_eq_true h; omega
    · exact (of_decide_eq_true h).2.1
  have t2 := h.t2
  have e : (catB (hdL m)).length = 4 + (pw m.t.length).size + (pw m.d.length).size + (pw m.s.length).size + (shB m.n).size + (shB m.b).size + (twB m.t).size := by
    simp only [hdL, catB, List.flatMap_cons, List.flatMap_nil, List.length_append, bt_len, List.length_nil]
    have : img1.size = 4 := rfl
    omega
  omega
theorem bk_size {b : ByteArray} (h : bkB b = true) : b.size ≤ 20 := by
  unfold bkB at h
  rw [Bool.or_eq_true] at h
  rcases h with h | h
  · have := of_decide_eq_true h; omega
  · exact (of_decide_eq_true h).2.1
theorem dat_len : ∀ (d : List ByteArray), (∀ k (hk : k < d.length), d[k].size = 16) → (catB d).length = 16 * d.length := by
  intro d
  induction d with
  | nil => intro _; rfl
  | cons z d ih =>
    intro h
    have h0 : z.size = 16 := h 0 (by simp)
    have e : catB (z :: d) = z.data.toList ++ catB d := by simp [catB]
    rw [e, List.length_append, ih (fun k hk => h (k + 1) (by simpa using hk)), bt_len, h0, List.length_cons]
    omega
theorem sn_len : ∀ (ps : List SP), (∀ k (hk : k < ps.length), ps[k].n.size ≤ 20 ∧ ps[k].t.length ≤ 64) → (catB (snL ps)).length ≤ 300 * ps.length := by
  intro ps
  induction ps with
  | nil => intro _; exact Nat.le_refl _
  | cons p ps ih =>
    intro h
    obtain ⟨h0, h1⟩ : p.n.size ≤ 20 ∧ p.t.length ≤ 64 := h 0 (by simp)
    have e : catB (snL (p :: ps)) = (shB p.n).data.toList ++ ((twB p.t).data.toList ++ catB (snL ps)) := by simp [snL, catB]
    have e1 := shB_size p.n
    have e2 := twB_size p.t
    have h2 := ih (fun k hk => h (k + 1) (by simpa using hk))
    rw [e, List.length_append, List.length_append, bt_len, bt_len, List.length_cons]
    omega
theorem IR.tok {m : IM} (h : IR m) : TOk m.t := ⟨h.t2, fun k hk => by
  have := of_decide_eq_true ((of_decide_eq_true (h.tb 0 (by omega))).2 k hk)
  have h2 : -2 ≤ m.t[k] ∧ m.t[k] < (m.d.length : Int) := this
  have := h.d
  omega⟩
theorem IR.sp {m : IM} (h : IR m) (k : Nat) (hk : k < m.s.length) : m.s[k].n.size ≤ 20 ∧ TOk m.s[k].t := by
  have e : tlV m (k + 1) = m.s[k].t := by simp [tlV, List.getD_eq_getElem?_getD, List.getElem?_eq_getElem hk]
  have h1 := of_decide_eq_true (h.tb (k + 1) (by omega))
  rw [e] at h1
  have h2 := (h.nm k hk).1
  rw [nmO_at m k hk] at h2
  refine ⟨(of_decide_eq_true h2).2.1, by rw [h1.1]; exact h.t2, fun j hj => ?_⟩
  have h3 : -2 ≤ m.s[k].t[j] ∧ m.s[k].t[j] < (m.d.length : Int) := of_decide_eq_true (h1.2 j hj)
  have := h.d
  omega
/-- The head with so many texts and Snaps. -/
def upB (m : IM) (k j : Nat) : ByteArray := ⟨(catB (hdL m ++ m.d.take k ++ snL (m.s.take j))).toArray⟩
theorem up_size {m : IM} (h : IR m) (k j : Nat) : (upB m k j).size ≤ 5000 := by
  have e : (upB m k j).size = (catB (hdL m ++ m.d.take k ++ snL (m.s.take j))).length := by simp [upB, ByteArray.size]
  rw [e, catB_add, catB_add, List.length_append, List.length_append]
  have h1 := hd_len h
  have h2 := dat_len (m.d.take k) (fun i hi => by
    rw [List.getElem_take]
    exact h.dz i (by rw [List.length_take] at hi; omega))
  have h3 := sn_len (m.s.take j) (fun i hi => by
    have hi2 : i < m.s.length := by rw [List.length_take] at hi; omega
    rw [List.getElem_take]
    exact ⟨(h.sp i hi2).1, (h.sp i hi2).2.len⟩)
  have h4 := h.d
  have h5 := h.s
  rw [List.length_take] at h2 h3
  have h6 : 300 * min j m.s.length ≤ 300 * 8 := Nat.mul_le_mul (Nat.le_refl _) (by omega)
  omega
theorem up_d (m : IM) (k : Nat) (hk : k < m.d.length) : upB m (k + 1) 0 = upB m k 0 ++ m.d[k] := by
  unfold upB
  rw [tx_add, List.take_succ_eq_append_getElem hk]
  generalize m.d.take k = x
  generalize m.d[k] = y
  congr 1
  simp [snL, catB]
theorem up_s (m : IM) (j : Nat) (hj : j < m.s.length) : upB m m.d.length (j + 1) = upB m m.d.length j ++ shB m.s[j].n ++ twB m.s[j].t := by
  unfold upB
  rw [tx_add, tx_add, List.take_succ_eq_append_getElem hj]
  generalize m.s.take j = x
  generalize m.s[j] = y
  congr 1
  simp [snL, catB]
theorem up_all (m : IM) : upB m m.d.length m.s.length = txB m := by
  unfold upB txB pcs
  rw [List.take_length, List.take_length]
theorem up_0 (m : IM) : upB m 0 0 = img1 ++ pw m.t.length ++ pw m.d.length ++ pw m.s.length ++ shB m.n ++ shB m.b ++ twB m.t := by
  unfold upB
  refine ba_of _ _ ?_
  simp [hdL, catB, snL]
theorem PB.five {u : World} {B : Nat} {m : IM} {a : IA} (h : PB u B m a) : u.cell? ⟨B, 0, none⟩ = some (.string m.n) ∧ u.cell? ⟨B, 1, none⟩ = some (.string m.b) ∧ u.cell? ⟨B, 2, none⟩ = some a.vt ∧ u.cell? ⟨B, 3, none⟩ = some a.vd ∧ u.cell? ⟨B, 4, none⟩ = some a.vs := ⟨h.c0, h.c1, h.c2, h.c3, h.c4⟩
set_option maxHeartbeats 8000000 in
theorem specPack_any {w : World} {m : IM} {a : IA} (h : IRows w m a) (hl : ILen m) : Calls Try.prog 5 #[imA m a] w fun e w' => e = .returned (.string (pkB m)) ∧ Below w.heap.size w w' := by
  obtain ⟨al, kl, el⟩ := h.t.sl
  obtain ⟨am, km, em⟩ := h.d.sl
  obtain ⟨ac, kc, ec⟩ := h.sn.sl
  rw [h.si.len] at ec
  obtain ⟨vc, vp, vg, qs⟩ := a
  simp only at el ec em
  subst el ec em
  have HBV : Hid (Below w.heap.size w (w.alloc (.cells #[.string m.n, .string m.b, .slice al m.t.length kl, .slice am m.d.length km, .slice ac m.s.length kc] 31))) := (Below.refl _ _).alloc (Nat.le_refl _) _
  have hbx := heap_new w (.cells #[.string m.n, .string m.b, .slice al m.t.length kl, .slice am m.d.length km, .slice ac m.s.length kc] 31)
  obtain ⟨c0, c1, c2, c3, c4, _⟩ := cel5 hbx
  have HPV : Hid (PB (w.alloc (.cells #[.string m.n, .string m.b, .slice al m.t.length kl, .slice am m.d.length km, .slice ac m.s.length kc] 31)) w.heap.size m ⟨.slice al m.t.length kl, .slice am m.d.length km, .slice ac m.s.length kc, qs⟩) := ⟨by simp, c0, c1, c2, c3, c4, h.below HBV.out⟩
  have HIF : Hid _ := specImage_any (h.below HBV.out) hl
  unfold imA at HIF ⊢
  simp only at HIF ⊢
  have HQL : Hid (qs.length = m.s.length) := h.si.len
  have HSN : Hid (SNrow (w.alloc (.cells #[.string m.n, .string m.b, .slice al m.t.length kl, .slice am m.d.length km, .slice ac m.s.length kc] 31)) (.slice ac m.s.length kc) qs) := h.sn.below HBV.out
  have HSI : Hid (SNin (w.alloc (.cells #[.string m.n, .string m.b, .slice al m.t.length kl, .slice am m.d.length km, .slice ac m.s.length kc] 31)) qs m.s) := h.si.below HBV.out
  have hlV : w.heap.size < (w.alloc (.cells #[.string m.n, .string m.b, .slice al m.t.length kl, .slice am m.d.length km, .slice ac m.s.length kc] 31)).heap.size := by simp
  clear h hl hbx
  cases him : imB m with
  | false =>
    rw [him] at HIF
    have HG : Hid (pkB m = ⟨#[]⟩) := (show pkB m = _ by unfold pkB; rw [him]; rfl)
    generalize pkB m = G at *
    clear him
    go_enter Try.func5, Try.ntmps5
    go_wp2_with (go_at_call 12; refine Calls.mono HIF.out ?_; rintro e u1 ⟨rfl, hu⟩; have HU : Hid (Below w.heap.size w u1) := HBV.out.trans (hu.mono HBV.out.size); clear hu)
    go_ret
    exact ⟨by rw [HG.out]; rfl, HU.out⟩
  | true =>
  rw [him] at HIF
  have HIR : Hid (IR m) := (imB_iff m).1 him
  have HG : Hid (pkB m = txB m ++ pw (mixv (txB m) 7)) := (show pkB m = _ by unfold pkB; rw [him]; rfl)
  generalize pkB m = G at *
  clear him
  have hn20 : m.n.size ≤ 20 := (of_decide_eq_true HIR.out.n).2.1
  have hb20 : m.b.size ≤ 20 := bk_size HIR.out.b
  have HP : Hid _ := fun (n : Int) u => specPutWord_any n u
  have HS1 : Hid _ := fun u => short_any m.n hn20 u
  have HS2 : Hid _ := fun u => short_any m.b hb20 u
  have z1 := pw_size (m.t.length : Int)
  have z2 := pw_size (m.d.length : Int)
  have z3 := pw_size (m.s.length : Int)
  have z4 := shB_size m.n
  have z5 := shB_size m.b
  have z6 := twB_size m.t
  have z7 := HIR.out.t2
  have z0 : img1.size = 4 := rfl
  have HU0 : Hid (upB m 0 0 = img1 ++ pw m.t.length ++ pw m.d.length ++ pw m.s.length ++ shB m.n ++ shB m.b ++ twB m.t) := up_0 m
  have a1 := fun w => run_string_add_sum (P := Try.prog) w img1 (pw m.t.length) (by omega)
  have a2 := fun w => run_string_add_sum (P := Try.prog) w (img1 ++ pw m.t.length) (pw m.d.length) (by simp only [ByteArray.size_append]; omega)
  have a3 := fun w => run_string_add_sum (P := Try.prog) w (img1 ++ pw m.t.length ++ pw m.d.length) (pw m.s.length) (by simp only [ByteArray.size_append]; omega)
  have a4 := fun w => run_string_add_sum (P := Try.prog) w (img1 ++ pw m.t.length ++ pw m.d.length ++ pw m.s.length) (shB m.n) (by simp only [ByteArray.size_append]; omega)
  have a5 := fun w => run_string_add_sum (P := Try.prog) w (img1 ++ pw m.t.length ++ pw m.d.length ++ pw m.s.length ++ shB m.n) (shB m.b) (by simp only [ByteArray.size_append]; omega)
  have a6 := fun w => run_string_add_sum (P := Try.prog) w (img1 ++ pw m.t.length ++ pw m.d.length ++ pw m.s.length ++ shB m.n ++ shB m.b) (twB m.t) (by simp only [ByteArray.size_append]; omega)
  clear z0 z1 z2 z3 z4 z5 z6 z7
  have hi1 : ({ data := #[73, 77, 71, 49] } : ByteArray) = img1 := rfl
  go_enter Try.func5, Try.ntmps5
  go_wp2_with fail
  generalize (w.alloc (.cells #[.string m.n, .string m.b, .slice al m.t.length kl, .slice am m.d.length km, .slice ac m.s.length kc] 31)) = V at *
  refine Calls.mono HIF.out ?_
  rintro e u0 ⟨rfl, hu⟩
  have HWX : Hid (Below V.heap.size V u0.drew) := hu.drew
  clear hu HIF
  go_wp2_with fail
  clear c0 c1 c2 c3 c4
  refine wp_region_held (S := fun w' => w'.cell? ⟨w.heap.size, 0, none⟩ = some (.string m.n) ∧ w'.cell? ⟨w.heap.size, 1, none⟩ = some (.string m.b) ∧ w'.cell? ⟨w.heap.size, 2, none⟩ = some (.slice al m.t.length kl) ∧ w'.cell? ⟨w.heap.size, 3, none⟩ = some (.slice am m.d.length km) ∧ w'.cell? ⟨w.heap.size, 4, none⟩ = some (.slice ac m.s.length kc)) (by kernel_rfl) ?_
  change wpAnyH _ _ _ _ _ _ _ _ (World.drew _)
  generalize u0.drew = X at *
  have HK : Hid _ := PB.five (HPV.out.below HWX.out)
  have HTB : Hid (∀ u, Below V.heap.size V u → Calls Try.prog 15 #[.slice al m.t.length kl] u fun e w' => e = .returned (.string (twB m.t)) ∧ Below u.heap.size u w') := fun u hu => putTable_any (HPV.out.below hu).row.t HIR.out.tok
  refine wpAnyH_take (i := 0) (v := .pointer (some ⟨w.heap.size, 2, none⟩)) rfl (by kernel_rfl) (by kernel_rfl) (by kernel_rfl) (fun _ _ _ h => h) (Or.inl ⟨by kernel_rfl, fun w9 h9 => ?_⟩) HK.out ?_
  · clear h9
    go_simp
  refine wpAnyH_take (i := 1) (v := .slice al m.t.length kl) rfl (by kernel_rfl) (by kernel_rfl) (by kernel_rfl) (fun _ _ _ h => h) (Or.inl ⟨by kernel_rfl, fun w9 h9 => ?_⟩) HK.out ?_
  · obtain ⟨d0, d1, d2, d3, d4⟩ := h9
    go_simp
  refine wpAnyH_take (i := 2) (v := .int .i64 m.t.length) rfl (by kernel_rfl) (by kernel_rfl) (by kernel_rfl) (fun _ _ _ h => h) (Or.inl ⟨by kernel_rfl, fun w9 h9 => ?_⟩) HK.out ?_
  · clear h9
    go_simp
  refine wpAnyH_take (i := 5) (v := .pointer (some ⟨w.heap.size, 3, none⟩)) rfl (by kernel_rfl) (by kernel_rfl) (by kernel_rfl) (fun _ _ _ h => h) (Or.inl ⟨by kernel_rfl, fun w9 h9 => ?_⟩) HK.out ?_
  · clear h9
    go_simp
  refine wpAnyH_take (i := 6) (v := .slice am m.d.length km) rfl (by kernel_rfl) (by kernel_rfl) (by kernel_rfl) (fun _ _ _ h => h) (Or.inl ⟨by kernel_rfl, fun w9 h9 => ?_⟩) HK.out ?_
  · obtain ⟨d0, d1, d2, d3, d4⟩ := h9
    go_simp
  refine wpAnyH_take (i := 7) (v := .int .i64 m.d.length) rfl (by kernel_rfl) (by kernel_rfl) (by kernel_rfl) (fun _ _ _ h => h) (Or.inl ⟨by kernel_rfl, fun w9 h9 => ?_⟩) HK.out ?_
  · clear h9
    go_simp
  refine wpAnyH_take (i := 10) (v := .pointer (some ⟨w.heap.size, 4, none⟩)) rfl (by kernel_rfl) (by kernel_rfl) (by kernel_rfl) (fun _ _ _ h => h) (Or.inl ⟨by kernel_rfl, fun w9 h9 => ?_⟩) HK.out ?_
  · clear h9
    go_simp
  refine wpAnyH_take (i := 11) (v := .slice ac m.s.length kc) rfl (by kernel_rfl) (by kernel_rfl) (by kernel_rfl) (fun _ _ _ h => h) (Or.inl ⟨by kernel_rfl, fun w9 h9 => ?_⟩) HK.out ?_
  · obtain ⟨d0, d1, d2, d3, d4⟩ := h9
    go_simp
  refine wpAnyH_take (i := 12) (v := .int .i64 m.s.length) rfl (by kernel_rfl) (by kernel_rfl) (by kernel_rfl) (fun _ _ _ h => h) (Or.inl ⟨by kernel_rfl, fun w9 h9 => ?_⟩) HK.out ?_
  · clear h9
    go_simp
  refine wpAnyH_take (i := 15) (v := .pointer (some ⟨w.heap.size, 0, none⟩)) rfl (by kernel_rfl) (by kernel_rfl) (by kernel_rfl) (fun _ _ _ h => h) (Or.inl ⟨by kernel_rfl, fun w9 h9 => ?_⟩) HK.out ?_
  · clear h9
    go_simp
  refine wpAnyH_take (i := 16) (v := .string m.n) rfl (by kernel_rfl) (by kernel_rfl) (by kernel_rfl) (fun _ _ _ h => h) (Or.inl ⟨by kernel_rfl, fun w9 h9 => ?_⟩) HK.out ?_
  · obtain ⟨d0, d1, d2, d3, d4⟩ := h9
    go_simp
  refine wpAnyH_take (i := 19) (v := .pointer (some ⟨w.heap.size, 1, none⟩)) rfl (by kernel_rfl) (by kernel_rfl) (by kernel_rfl) (fun _ _ _ h => h) (Or.inl ⟨by kernel_rfl, fun w9 h9 => ?_⟩) HK.out ?_
  · clear h9
    go_simp
  refine wpAnyH_take (i := 20) (v := .string m.b) rfl (by kernel_rfl) (by kernel_rfl) (by kernel_rfl) (fun _ _ _ h => h) (Or.inl ⟨by kernel_rfl, fun w9 h9 => ?_⟩) HK.out ?_
  · obtain ⟨d0, d1, d2, d3, d4⟩ := h9
    go_simp
  refine wpAnyH_take (i := 23) (v := .pointer (some ⟨w.heap.size, 2, none⟩)) rfl (by kernel_rfl) (by kernel_rfl) (by kernel_rfl) (fun _ _ _ h => h) (Or.inl ⟨by kernel_rfl, fun w9 h9 => ?_⟩) HK.out ?_
  · clear h9
    go_simp
  refine wpAnyH_take (i := 24) (v := .slice al m.t.length kl) rfl (by kernel_rfl) (by kernel_rfl) (by kernel_rfl) (fun _ _ _ h => h) (Or.inl ⟨by kernel_rfl, fun w9 h9 => ?_⟩) HK.out ?_
  · obtain ⟨d0, d1, d2, d3, d4⟩ := h9
    go_simp
  refine held_one 3 (by kernel_rfl) rfl (by kernel_rfl) fun K hK => ?_
  go_simp
  refine Calls.mono (HP.out m.t.length _) ?_
  rintro e y0 ⟨rfl, hu⟩
  have HWy0 : Hid (Below V.heap.size V y0) := HWX.out.trans (hu.mono HWX.out.size)
  clear hu
  have HKy0 : Hid _ := PB.five (HPV.out.below HWy0.out)
  go_simp
  refine hK _ _ HKy0.out ?_
  clear hK K HK HWX
  have HK : Hid _ := HKy0.out
  clear HKy0
  refine wpAnyH_take (i := 4) (v := .string (img1 ++ pw m.t.length)) rfl (by kernel_rfl) (by kernel_rfl) (by kernel_rfl) (fun _ _ _ h => h) (Or.inl ⟨by kernel_rfl, fun w9 h9 => ?_⟩) HK.out ?_
  · clear h9
    go_simp
  refine held_one 8 (by kernel_rfl) rfl (by kernel_rfl) fun K hK => ?_
  go_simp
  refine Calls.mono (HP.out m.d.length _) ?_
  rintro e y1 ⟨rfl, hu⟩
  have HWy1 : Hid (Below V.heap.size V y1) := HWy0.out.trans (hu.mono HWy0.out.size)
  clear hu
  have HKy1 : Hid _ := PB.five (HPV.out.below HWy1.out)
  go_simp
  refine hK _ _ HKy1.out ?_
  clear hK K HK HWy0
  have HK : Hid _ := HKy1.out
  clear HKy1
  refine wpAnyH_take (i := 9) (v := .string (img1 ++ pw m.t.length ++ pw m.d.length)) rfl (by kernel_rfl) (by kernel_rfl) (by kernel_rfl) (fun _ _ _ h => h) (Or.inl ⟨by kernel_rfl, fun w9 h9 => ?_⟩) HK.out ?_
  · clear h9
    go_simp
  refine held_one 13 (by kernel_rfl) rfl (by kernel_rfl) fun K hK => ?_
  go_simp
  refine Calls.mono (HP.out m.s.length _) ?_
  rintro e y2 ⟨rfl, hu⟩
  have HWy2 : Hid (Below V.heap.size V y2) := HWy1.out.trans (hu.mono HWy1.out.size)
  clear hu
  have HKy2 : Hid _ := PB.five (HPV.out.below HWy2.out)
  go_simp
  refine hK _ _ HKy2.out ?_
  clear hK K HK HWy1
  have HK : Hid _ := HKy2.out
  clear HKy2
  refine wpAnyH_take (i := 14) (v := .string (img1 ++ pw m.t.length ++ pw m.d.length ++ pw m.s.length)) rfl (by kernel_rfl) (by kernel_rfl) (by kernel_rfl) (fun _ _ _ h => h) (Or.inl ⟨by kernel_rfl, fun w9 h9 => ?_⟩) HK.out ?_
  · clear h9
    go_simp
  refine held_one 17 (by kernel_rfl) rfl (by kernel_rfl) fun K hK => ?_
  go_simp
  refine Calls.mono (HS1.out _) ?_
  rintro e y3 ⟨rfl, hu⟩
  have HWy3 : Hid (Below V.heap.size V y3) := HWy2.out.trans (hu.mono HWy2.out.size)
  clear hu
  have HKy3 : Hid _ := PB.five (HPV.out.below HWy3.out)
  go_simp
  refine hK _ _ HKy3.out ?_
  clear hK K HK HWy2
  have HK : Hid _ := HKy3.out
  clear HKy3
  refine wpAnyH_take (i := 18) (v := .string (img1 ++ pw m.t.length ++ pw m.d.length ++ pw m.s.length ++ shB m.n)) rfl (by kernel_rfl) (by kernel_rfl) (by kernel_rfl) (fun _ _ _ h => h) (Or.inl ⟨by kernel_rfl, fun w9 h9 => ?_⟩) HK.out ?_
  · clear h9
    go_simp
  refine held_one 21 (by kernel_rfl) rfl (by kernel_rfl) fun K hK => ?_
  go_simp
  refine Calls.mono (HS2.out _) ?_
  rintro e y4 ⟨rfl, hu⟩
  have HWy4 : Hid (Below V.heap.size V y4) := HWy3.out.trans (hu.mono HWy3.out.size)
  clear hu
  have HKy4 : Hid _ := PB.five (HPV.out.below HWy4.out)
  go_simp
  refine hK _ _ HKy4.out ?_
  clear hK K HK HWy3
  have HK : Hid _ := HKy4.out
  clear HKy4
  refine wpAnyH_take (i := 22) (v := .string (img1 ++ pw m.t.length ++ pw m.d.length ++ pw m.s.length ++ shB m.n ++ shB m.b)) rfl (by kernel_rfl) (by kernel_rfl) (by kernel_rfl) (fun _ _ _ h => h) (Or.inl ⟨by kernel_rfl, fun w9 h9 => ?_⟩) HK.out ?_
  · clear h9
    go_simp
  refine held_one 25 (by kernel_rfl) rfl (by kernel_rfl) fun K hK => ?_
  go_simp
  refine Calls.mono (HTB.out _ HWy4.out) ?_
  rintro e y5 ⟨rfl, hu⟩
  have HWy5 : Hid (Below V.heap.size V y5) := HWy4.out.trans (hu.mono HWy4.out.size)
  clear hu
  have HKy5 : Hid _ := PB.five (HPV.out.below HWy5.out)
  go_simp
  refine hK _ _ HKy5.out ?_
  clear hK K HK HWy4
  have HK : Hid _ := HKy5.out
  clear HKy5
  refine wpAnyH_take (i := 26) (v := .string (img1 ++ pw m.t.length ++ pw m.d.length ++ pw m.s.length ++ shB m.n ++ shB m.b ++ twB m.t)) rfl (by kernel_rfl) (by kernel_rfl) (by kernel_rfl) (fun _ _ _ h => h) (Or.inl ⟨by kernel_rfl, fun w9 h9 => ?_⟩) HK.out ?_
  · clear h9
    go_simp
  refine held_one 27 (by kernel_rfl) rfl (by kernel_rfl) fun K hK => ?_
  go_simp
  refine hK _ _ HK.out ?_
  clear hK K
  refine wpAnyH_done (by kernel_rfl) ?_ _
  go_simp
  rw [← HU0.out]
  clear a1 a2 a3 a4 a5 a6 HU0 HK HTB
  have hUS : (upB m 0 0).size ≤ 5000 := up_size HIR.out 0 0
  obtain ⟨U0, hU0⟩ : ∃ U, upB m 0 0 = U := ⟨_, rfl⟩
  have HUU : Hid (upB m 0 0 = U0) := hU0
  rw [hU0]
  clear hU0 hUS
  go_wp2
  go_loopw [3, 4] (fun out i wr => ∃ k : Nat, k ≤ m.d.length ∧ i = .int .i64 k ∧ out = .string (upB m k 0) ∧ Below V.heap.size V wr) (fun _ i _ => m.d.length - (intOf i).toNat)
  case atStart => exact ⟨0, Nat.zero_le _, rfl, by rw [HUU.out], HWy5.out⟩
  case round =>
    obtain ⟨k, hk, rfl, rfl, hb⟩ := hrel
    have HB : Hid (Below V.heap.size V wr) := hb
    have hP := HPV.out.below hb
    have c3 := hP.c3
    have c4 := hP.c4
    simp only at c3 c4
    by_cases hlt : k < m.d.length
    · obtain ⟨g, o, cap2, hv, _, hg, hc⟩ := hP.row.d.resolve_left (fun h => by rw [h.1] at hlt; simp at hlt)
      simp only at hv
      injection hv with hv1 hv2 hv3
      subst hv1 hv3
      have d0 := hc k hlt
      have HS : Hid (upB m (k + 1) 0 = upB m k 0 ++ m.d[k]) := up_d m k hlt
      have hus := up_size HIR.out k 0
      have hds := HIR.out.dz k hlt
      generalize upB m k 0 = x at *
      generalize m.d[k] = y at *
      have hadd := fun w => run_string_add_sum (P := Try.prog) w x y (by omega)
      have hk0 : (0 : Int) ≤ (k : Int) := by omega
      have hk1 : (k : Int) < (m.d.length : Int) := by omega
      have hk9 : (k : Int) ≤ 128 := by have := HIR.out.d; omega
      clear hc hv2 hus hds hP hb
      go_wp2
      exact ⟨⟨k + 1, hlt, by simp, by rw [HS.out], HB.out⟩, by simp [intOf]; omega⟩
    · obtain rfl : k = m.d.length := by omega
      clear hP
      obtain ⟨U1, hU1⟩ : ∃ U, upB m m.d.length 0 = U := ⟨_, rfl⟩
      have HU1 : Hid (upB m m.d.length 0 = U1) := hU1
      rw [hU1]
      clear hU1
      go_wp2
      clear hb
      go_loopw [3, 5] (fun out i wr => ∃ k : Nat, k ≤ m.s.length ∧ i = .int .i64 k ∧ out = .string (upB m m.d.length k) ∧ Below V.heap.size V wr) (fun _ i _ => m.s.length - (intOf i).toNat)
      case atStart => exact ⟨0, Nat.zero_le _, rfl, by rw [HU1.out], HB.out⟩
      case round =>
        obtain ⟨k, hk, rfl, rfl, hb⟩ := hrel
        clear HB
        have HB : Hid (Below V.heap.size V wr) := hb
        have hP := HPV.out.below hb
        have c4 := hP.c4
        simp only at c4
        by_cases hlt : k < m.s.length
        · have hkq : k < qs.length := by rw [HQL.out]; exact hlt
          obtain ⟨g, o, cap2, hv, _, hg, hc⟩ := HSN.out.resolve_left (fun h => by rw [h.1] at hkq; simp at hkq)
          injection hv with hv1 hv2 hv3
          subst hv1 hv3
          obtain ⟨q0, q2⟩ := HSI.out.el k hkq hlt
          obtain ⟨az, kz, hzt⟩ := q2.sl
          obtain ⟨hs20, htk⟩ := HIR.out.sp k hlt
          have HSH : Hid _ := fun u => short_any m.s[k].n hs20 u
          have HTB : Hid (∀ u, Below V.heap.size V u → Calls Try.prog 15 #[.slice az m.s[k].t.length kz] u fun e w' => e = .returned (.string (twB m.s[k].t)) ∧ Below u.heap.size u w') := fun u hu => putTable_any (by rw [← hzt]; exact q2.below hu) htk
          have HS : Hid (upB m m.d.length (k + 1) = upB m m.d.length k ++ shB m.s[k].n ++ twB m.s[k].t) := up_s m k hlt
          have hus := up_size HIR.out m.d.length k
          have e1 := shB_size m.s[k].n
          have e2 := twB_size m.s[k].t
          have e3 := htk.len
          have HKU : Hid (∀ u, Below V.heap.size V u → u.cell? ⟨w.heap.size, 4, none⟩ = some (.slice (some ⟨g, o, none⟩) m.s.length kc) ∧ u.cell? ⟨g, o + k * 2, none⟩ = some (.string m.s[k].n) ∧ u.cell? ⟨g, o + k * 2 + 1, none⟩ = some (.slice az m.s[k].t.length kz)) := fun u hu => by
            obtain ⟨x0, x1⟩ := hc.below hu hg k hkq
            rw [q0] at x0
            rw [hzt] at x1
            have x4 := (HPV.out.below hu).c4
            exact ⟨x4, x0, x1⟩
          generalize upB m m.d.length k = x at *
          generalize shB m.s[k].n = sh at *
          generalize twB m.s[k].t = tw at *
          generalize m.s[k].t.length = tl at *
          generalize m.s[k].n = nk at *
          have hadd1 := fun w => run_string_add_sum (P := Try.prog) w x sh (by omega)
          have hadd2 := fun w => run_string_add_sum (P := Try.prog) w (x ++ sh) tw (by rw [ByteArray.size_append]; omega)
          have hk0 : (0 : Int) ≤ (k : Int) := by omega
          have hk1 : (k : Int) < (m.s.length : Int) := by omega
          have hk9 : (k : Int) ≤ 8 := by have := HIR.out.s; omega
          clear hc hv2 hP hus e1 e2 e3 q0 q2 hzt hs20 htk
          go_wp2_with fail
          have HWX : Hid (Below V.heap.size V wr.drew) := hb.drew
          clear c4 hb
          refine wp_region_held (S := fun w' => w'.cell? ⟨w.heap.size, 4, none⟩ = some (.slice (some ⟨g, o, none⟩) m.s.length kc) ∧ w'.cell? ⟨g, o + k * 2, none⟩ = some (.string nk) ∧ w'.cell? ⟨g, o + k * 2 + 1, none⟩ = some (.slice az tl kz)) (by kernel_rfl) ?_
          change wpAnyH _ _ _ _ _ _ _ _ (World.drew _)
          generalize wr.drew = X at *
          have HK : Hid _ := HKU.out X HWX.out
          refine wpAnyH_take (i := 0) (v := .string x) rfl (by kernel_rfl) (by kernel_rfl) (by kernel_rfl) (fun _ _ _ h => h) (Or.inl ⟨by kernel_rfl, fun w9 h9 => ?_⟩) HK.out ?_
          · clear h9
            go_simp
          refine wpAnyH_take (i := 1) (v := .pointer (some ⟨w.heap.size, 4, none⟩)) rfl (by kernel_rfl) (by kernel_rfl) (by kernel_rfl) (fun _ _ _ h => h) (Or.inl ⟨by kernel_rfl, fun w9 h9 => ?_⟩) HK.out ?_
          · clear h9
            go_simp
          refine wpAnyH_take (i := 2) (v := .slice (some ⟨g, o, none⟩) m.s.length kc) rfl (by kernel_rfl) (by kernel_rfl) (by kernel_rfl) (fun _ _ _ h => h) (Or.inl ⟨by kernel_rfl, fun w9 h9 => ?_⟩) HK.out ?_
          · obtain ⟨d0, d1, d2⟩ := h9
            go_simp
          refine wpAnyH_take (i := 3) (v := .int .i64 k) rfl (by kernel_rfl) (by kernel_rfl) (by kernel_rfl) (fun _ _ _ h => h) (Or.inl ⟨by kernel_rfl, fun w9 h9 => ?_⟩) HK.out ?_
          · clear h9
            go_simp
          refine wpAnyH_take (i := 4) (v := .pointer (some ⟨g, o + k * 2, none⟩)) rfl (by kernel_rfl) (by kernel_rfl) (by kernel_rfl) (fun _ _ _ h => h) (Or.inl ⟨by kernel_rfl, fun w9 h9 => ?_⟩) HK.out ?_
          · clear h9
            go_simp
          refine wpAnyH_take (i := 5) (v := .pointer (some ⟨g, o + k * 2, none⟩)) rfl (by kernel_rfl) (by kernel_rfl) (by kernel_rfl) (fun _ _ _ h => h) (Or.inl ⟨by kernel_rfl, fun w9 h9 => ?_⟩) HK.out ?_
          · clear h9
            go_simp
          refine wpAnyH_take (i := 6) (v := .string nk) rfl (by kernel_rfl) (by kernel_rfl) (by kernel_rfl) (fun _ _ _ h => h) (Or.inl ⟨by kernel_rfl, fun w9 h9 => ?_⟩) HK.out ?_
          · obtain ⟨d0, d1, d2⟩ := h9
            go_simp
          refine wpAnyH_take (i := 9) (v := .pointer (some ⟨w.heap.size, 4, none⟩)) rfl (by kernel_rfl) (by kernel_rfl) (by kernel_rfl) (fun _ _ _ h => h) (Or.inl ⟨by kernel_rfl, fun w9 h9 => ?_⟩) HK.out ?_
          · clear h9
            go_simp
          refine wpAnyH_take (i := 10) (v := .slice (some ⟨g, o, none⟩) m.s.length kc) rfl (by kernel_rfl) (by kernel_rfl) (by kernel_rfl) (fun _ _ _ h => h) (Or.inl ⟨by kernel_rfl, fun w9 h9 => ?_⟩) HK.out ?_
          · obtain ⟨d0, d1, d2⟩ := h9
            go_simp
          refine wpAnyH_take (i := 11) (v := .int .i64 k) rfl (by kernel_rfl) (by kernel_rfl) (by kernel_rfl) (fun _ _ _ h => h) (Or.inl ⟨by kernel_rfl, fun w9 h9 => ?_⟩) HK.out ?_
          · clear h9
            go_simp
          refine wpAnyH_take (i := 12) (v := .pointer (some ⟨g, o + k * 2, none⟩)) rfl (by kernel_rfl) (by kernel_rfl) (by kernel_rfl) (fun _ _ _ h => h) (Or.inl ⟨by kernel_rfl, fun w9 h9 => ?_⟩) HK.out ?_
          · clear h9
            go_simp
          refine wpAnyH_take (i := 13) (v := .pointer (some ⟨g, o + k * 2 + 1, none⟩)) rfl (by kernel_rfl) (by kernel_rfl) (by kernel_rfl) (fun _ _ _ h => h) (Or.inl ⟨by kernel_rfl, fun w9 h9 => ?_⟩) HK.out ?_
          · clear h9
            go_simp
          refine wpAnyH_take (i := 14) (v := .slice az tl kz) rfl (by kernel_rfl) (by kernel_rfl) (by kernel_rfl) (fun _ _ _ h => h) (Or.inl ⟨by kernel_rfl, fun w9 h9 => ?_⟩) HK.out ?_
          · obtain ⟨d0, d1, d2⟩ := h9
            go_simp
          refine held_one 7 (by kernel_rfl) rfl (by kernel_rfl) fun K hK => ?_
          go_simp
          refine Calls.mono (HSH.out _) ?_
          rintro e y6 ⟨rfl, hu⟩
          have HWy6 : Hid (Below V.heap.size V y6) := HWX.out.trans (hu.mono HWX.out.size)
          clear hu
          have HKy6 : Hid _ := HKU.out y6 HWy6.out
          go_simp
          refine hK _ _ HKy6.out ?_
          clear hK K HK HWX
          have HK : Hid _ := HKy6.out
          clear HKy6
          refine wpAnyH_take (i := 8) (v := .string (x ++ sh)) rfl (by kernel_rfl) (by kernel_rfl) (by kernel_rfl) (fun _ _ _ h => h) (Or.inl ⟨by kernel_rfl, fun w9 h9 => ?_⟩) HK.out ?_
          · clear h9
            go_simp
          refine held_one 15 (by kernel_rfl) rfl (by kernel_rfl) fun K hK => ?_
          go_simp
          refine Calls.mono (HTB.out _ HWy6.out) ?_
          rintro e y7 ⟨rfl, hu⟩
          have HWy7 : Hid (Below V.heap.size V y7) := HWy6.out.trans (hu.mono HWy6.out.size)
          clear hu
          have HKy7 : Hid _ := HKU.out y7 HWy7.out
          go_simp
          refine hK _ _ HKy7.out ?_
          clear hK K HK HWy6
          have HK : Hid _ := HKy7.out
          clear HKy7
          refine wpAnyH_take (i := 16) (v := .string (x ++ sh ++ tw)) rfl (by kernel_rfl) (by kernel_rfl) (by kernel_rfl) (fun _ _ _ h => h) (Or.inl ⟨by kernel_rfl, fun w9 h9 => ?_⟩) HK.out ?_
          · clear h9
            go_simp
          refine held_one 17 (by kernel_rfl) rfl (by kernel_rfl) fun K hK => ?_
          go_simp
          refine hK _ _ HK.out ?_
          clear hK K
          refine wpAnyH_done (by kernel_rfl) ?_ _
          go_simp
          clear hadd1 hadd2
          go_wp2
          exact ⟨⟨k + 1, hlt, by simp, by rw [HS.out], HWy7.out⟩, by simp [intOf]; omega⟩
        · obtain rfl : k = m.s.length := by omega
          clear hP
          have hus := up_size HIR.out m.d.length m.s.length
          rw [up_all] at hus ⊢
          have HMX : Hid _ := fun u => specMix_any (txB m) 7 u (by omega)
          have hps := pw_size (mixv (txB m) 7)
          have HPW : Hid _ := fun u => HP.out (mixv (txB m) 7) u
          generalize mixv (txB m) 7 = mx at *
          generalize pw mx = pm at *
          generalize txB m = tx at *
          have hadd := fun w => run_string_add_sum (P := Try.prog) w tx pm (by omega)
          clear hus hps hb
          go_wp2_with (first | (go_at_call 16; refine Calls.mono (HMX.out _) ?_; rintro e u9 ⟨rfl, hu⟩; rw [hu]; clear hu) | (go_at_call 13; refine Calls.mono (HPW.out _) ?_; rintro e u8 ⟨rfl, hu⟩; have HU8 : Hid (Below V.heap.size V u8) := HB.out.trans (hu.mono HB.out.size); clear hu))
          go_ret
          exact ⟨by rw [HG.out]; rfl, HBV.out.trans (HU8.out.mono HBV.out.size)⟩

set_option maxRecDepth 100000
theorem own_ne {u : World} {B e z n b : Nat} {v : Value} {xs : List Value} {c : Array Value} {t : TypeId} {y : Nat × Nat} (h : u.ownsRow B e z v n xs) (hb : u.heap[b]? = some (.cells c t y)) (hne : e ≠ t) : v.ownBlock ≠ some b := by
  intro hv
  rcases h.2 with ⟨rfl, _⟩ | ⟨g, cap, cur, rfl, _, hg, _⟩
  · cases hv
  · have e2 : g = b := by simpa [Value.ownBlock] using hv
    subst e2
    rw [hg] at hb
    injection hb with hb
    injection hb with _ h2 _
    exact hne h2
theorem own_one (u : World) (B : Nat) (hB : B ≤ u.heap.size) (a : ByteArray) : (u.alloc (.cells #[.string a] 9)).ownsRow B 9 1 (.slice (some ⟨u.heap.size, 0, none⟩) 1 1) 1 (sR [a]) :=
  ⟨rfl, .inr ⟨u.heap.size, 1, _, rfl, hB, heap_new _ _, Nat.le_refl _, by unfold maxLen; omega, rfl, rfl⟩⟩
def hd3 (m : IM) (k : Nat) : List ByteArray := [img1, pw m.t.length, pw m.d.length, pw m.s.length].take (k + 1)
def up3 (m : IM) (k : Nat) : List ByteArray := hdL m ++ m.d ++ snL (m.s.take k)
theorem up3_succ (m : IM) (k : Nat) (hk : k < m.s.length) : up3 m (k + 1) = up3 m k ++ [shB m.s[k].n, twB m.s[k].t] := by
  unfold up3
  rw [List.take_succ_eq_append_getElem hk]
  generalize m.s.take k = x
  generalize m.s[k] = y
  simp [snL]
theorem snL_len (ps : List SP) : (snL ps).length = 2 * ps.length := by
  induction ps with
  | nil => rfl
  | cons p ps ih =>
    have e : snL (p :: ps) = shB p.n :: twB p.t :: snL ps := rfl
    rw [e, List.length_cons, List.length_cons, ih, List.length_cons]
    omega
theorem up3_len {m : IM} (h : IR m) (k : Nat) : (up3 m k).length ≤ 160 := by
  unfold up3
  rw [List.length_append, List.length_append, snL_len, List.length_take]
  have h1 := h.d
  have h2 := h.s
  have : (hdL m).length = 7 := rfl
  omega
theorem up3_all (m : IM) : (⟨(catB (up3 m m.s.length)).toArray⟩ : ByteArray) = txB m := by
  unfold up3 txB pcs
  rw [List.take_length]
theorem up3_size {m : IM} (h : IR m) : (catB (up3 m m.s.length)).length ≤ 5000 := by
  have := up_size h m.d.length m.s.length
  rw [up_all, ← up3_all] at this
  simpa [ByteArray.size] using this
set_option maxHeartbeats 8000000 in
theorem implPack_any {w : World} {m : IM} {a : IA} (h : IRows w m a) (hl : ILen m) : Calls Try.prog 7 #[imA m a] w fun e w' => e = .returned (.string (pkB m)) ∧ Below w.heap.size w w' := by
  obtain ⟨al, kl, el⟩ := h.t.sl
  obtain ⟨am, km, em⟩ := h.d.sl
  obtain ⟨ac, kc, ec⟩ := h.sn.sl
  rw [h.si.len] at ec
  obtain ⟨vc, vp, vg, qs⟩ := a
  simp only at el ec em
  subst el ec em
  have HBV : Hid (Below w.heap.size w (w.alloc (.cells #[.string m.n, .string m.b, .slice al m.t.length kl, .slice am m.d.length km, .slice ac m.s.length kc] 31))) := (Below.refl _ _).alloc (Nat.le_refl _) _
  have hbx := heap_new w (.cells #[.string m.n, .string m.b, .slice al m.t.length kl, .slice am m.d.length km, .slice ac m.s.length kc] 31)
  obtain ⟨c0, c1, c2, c3, c4, _⟩ := cel5 hbx
  have HPV : Hid (PB (w.alloc (.cells #[.string m.n, .string m.b, .slice al m.t.length kl, .slice am m.d.length km, .slice ac m.s.length kc] 31)) w.heap.size m ⟨.slice al m.t.length kl, .slice am m.d.length km, .slice ac m.s.length kc, qs⟩) := ⟨by simp, c0, c1, c2, c3, c4, h.below HBV.out⟩
  have HQL : Hid (qs.length = m.s.length) := h.si.len
  have HSN : Hid (SNrow (w.alloc (.cells #[.string m.n, .string m.b, .slice al m.t.length kl, .slice am m.d.length km, .slice ac m.s.length kc] 31)) (.slice ac m.s.length kc) qs) := h.sn.below HBV.out
  have HSI : Hid (SNin (w.alloc (.cells #[.string m.n, .string m.b, .slice al m.t.length kl, .slice am m.d.length km, .slice ac m.s.length kc] 31)) qs m.s) := h.si.below HBV.out
  have HIF : Hid _ := isRight_any HPV.out hl
  unfold imA
  simp only
  have hlV : w.heap.size < (w.alloc (.cells #[.string m.n, .string m.b, .slice al m.t.length kl, .slice am m.d.length km, .slice ac m.s.length kc] 31)).heap.size := by simp
  clear h hl hbx
  cases him : imB m with
  | false =>
    rw [him] at HIF
    have HG : Hid (pkB m = ⟨#[]⟩) := (show pkB m = _ by unfold pkB; rw [him]; rfl)
    generalize pkB m = G at *
    clear him
    go_enter Try.func7, Try.ntmps7
    go_wp2_with (go_at_call 20; refine Calls.mono HIF.out ?_; rintro e u1 ⟨rfl, hu⟩; have HU : Hid (Below w.heap.size w u1) := HBV.out.trans (hu.mono HBV.out.size); clear hu)
    go_ret
    exact ⟨by rw [HG.out]; rfl, HU.out⟩
  | true =>
  rw [him] at HIF
  have HIR : Hid (IR m) := (imB_iff m).1 him
  have HG : Hid (pkB m = txB m ++ pw (mixv (txB m) 7)) := (show pkB m = _ by unfold pkB; rw [him]; rfl)
  generalize pkB m = G at *
  clear him
  have hn20 : m.n.size ≤ 20 := (of_decide_eq_true HIR.out.n).2.1
  have hb20 : m.b.size ≤ 20 := bk_size HIR.out.b
  have HP : Hid _ := fun (n : Int) u => implPutWord_any n u
  have HS1 : Hid _ := fun u => packName_any m.n hn20 u
  have HS2 : Hid _ := fun u => packName_any m.b hb20 u
  obtain ⟨i0, hi0, hz0, hz1, hz2⟩ := info_parts Try.info9
  have HI0 : Hid _ := hi0
  have HZ0 : Hid _ := hz0
  have HZ1 : Hid _ := hz1
  have HZ2 : Hid _ := hz2
  clear hi0 hz0 hz1 hz2 hn20 hb20
  have hi1 : ({ data := #[73, 77, 71, 49] } : ByteArray) = img1 := rfl
  go_enter Try.func7, Try.ntmps7
  go_wp2_with fail
  generalize (w.alloc (.cells #[.string m.n, .string m.b, .slice al m.t.length kl, .slice am m.d.length km, .slice ac m.s.length kc] 31)) = V at *
  refine Calls.mono HIF.out ?_
  rintro e u0 ⟨rfl, hu⟩
  have HW0 : Hid (Below V.heap.size V u0) := hu
  have hP := HPV.out.below hu
  clear c0 c1 c2 c3 c4
  have c2 := hP.c2
  have c3 := hP.c3
  have c4 := hP.c4
  simp only at c2 c3 c4
  have hl0 : w.heap.size < u0.heap.size := hP.lt
  clear hu HIF hP
  go_wp2
  have HN0 : Hid (∃ k : Nat, (0 : Nat) = k ∧ ((u0.alloc (.cells #[.string img1] 9)).alloc (.cells #[.int .i64 m.t.length, .int .i64 m.d.length, .int .i64 m.s.length] 3)).ownsRow V.heap.size 9 1 (.slice (some ⟨u0.heap.size, 0, none⟩) 1 1) (k + 1) (sR (hd3 m k)) ∧ Below V.heap.size V ((u0.alloc (.cells #[.string img1] 9)).alloc (.cells #[.int .i64 m.t.length, .int .i64 m.d.length, .int .i64 m.s.length] 3)) ∧ ((u0.alloc (.cells #[.string img1] 9)).alloc (.cells #[.int .i64 m.t.length, .int .i64 m.d.length, .int .i64 m.s.length] 3)).heap[u0.heap.size + 1]? = some (.cells #[.int .i64 m.t.length, .int .i64 m.d.length, .int .i64 m.s.length] 3)) := ⟨0, rfl, (own_one u0 V.heap.size HW0.out.size img1).alloc _, (HW0.out.alloc HW0.out.size _).alloc (by have := HW0.out.size; simp; omega) _, by simpa using heap_new (u0.alloc (.cells #[.string img1] 9)) (.cells #[.int .i64 m.t.length, .int .i64 m.d.length, .int .i64 m.s.length] 3)⟩
  clear c2 c3 c4
  go_loopw [3, 23] (fun st i wr => ∃ k : Nat, k ≤ 3 ∧ i = .int .i64 k ∧ wr.ownsRow V.heap.size 9 1 st (k + 1) (sR (hd3 m k)) ∧ Below V.heap.size V wr ∧ wr.heap[u0.heap.size + 1]? = some (.cells #[.int .i64 m.t.length, .int .i64 m.d.length, .int .i64 m.s.length] 3)) (fun _ i _ => 3 - (intOf i).toNat)
  case atStart =>
    obtain ⟨k, rfl, h1, h2, h3⟩ := HN0.out
    exact ⟨0, by omega, rfl, h1, h2, h3⟩
  case round =>
    obtain ⟨k, hk, rfl, hown, hb, hints⟩ := hrel
    obtain ⟨st0, kst, hst⟩ := s_sl hown
    subst hst
    by_cases hlt : k < 3
    · obtain ⟨i1, i2, i3⟩ : wr.cell? ⟨u0.heap.size + 1, 0, none⟩ = some (.int .i64 m.t.length) ∧ wr.cell? ⟨u0.heap.size + 1, 1, none⟩ = some (.int .i64 m.d.length) ∧ wr.cell? ⟨u0.heap.size + 1, 2, none⟩ = some (.int .i64 m.s.length) := by simp [World.cell?, hints]
      have HOW : Hid (wr.ownsRow V.heap.size 9 1 (.slice st0 (k + 1) kst) (k + 1) (sR (hd3 m k))) := hown
      have HB : Hid (Below V.heap.size V wr) := hb
      have HIN : Hid (wr.heap[u0.heap.size + 1]? = some (.cells #[.int .i64 m.t.length, .int .i64 m.d.length, .int .i64 m.s.length] 3)) := hints
      have HNE : Hid ((Value.slice st0 (k + 1) kst).ownBlock ≠ some (u0.heap.size + 1)) := own_ne hown hints (by decide)
      clear hown hb hints
      rcases (show k = 0 ∨ k = 1 ∨ k = 2 by omega) with rfl | rfl | rfl
      · go_wp2_with fail
        refine Calls.mono (HP.out m.t.length _) ?_
        rintro e u1 ⟨rfl, hu⟩
        have HU : Hid (Below V.heap.size V u1) := HB.out.trans (hu.mono HB.out.size)
        have HO1 : Hid (u1.ownsRow V.heap.size 9 1 (.slice st0 (0 + 1) kst) (0 + 1) (sR (hd3 m 0))) := own_below HOW.out hu
        have HIN1 : Hid (u1.heap[u0.heap.size + 1]? = some (.cells #[.int .i64 m.t.length, .int .i64 m.d.length, .int .i64 m.s.length] 3)) := (hu.block _ (Array.getElem?_eq_some_iff.1 HIN.out).1).trans HIN.out
        have lt1 : u0.heap.size + 1 < u1.heap.size := (Array.getElem?_eq_some_iff.1 HIN1.out).1
        clear hu
        go_wp2_with (at_builtin; refine wpList_append_own _ rfl _ _ 23 rfl V.heap.size 9 i0 (.string ⟨#[]⟩) 1 16 Try.underlying23 HI0.out HZ0.out HZ1.out HZ2.out rfl (by decide) (.slice st0 (0 + 1) kst) (0 + 1) (sR (hd3 m 0)) rfl (HO1.out.alloc _) ⟨u1.heap.size, 0, none⟩ 1 1 [.string (pw m.t.length)] rfl rfl ?c1 ?c2 ?c3 ?c4 ?c5 ?_)
        case c1 => exact new_cells u1 [.string (pw m.t.length)] 9
        case c2 => simp [Value.oneCell']
        case c3 => unfold maxLen; omega
        case c4 => omega
        case c5 => have := HU.out.size; simp; omega
        intro v' w2 hown2 hgrow _
        have HO2 : Hid (w2.ownsRow V.heap.size 9 1 v' (0 + 1 + 1) (sR (hd3 m (0 + 1)))) := hown2
        have HB2 : Hid (Below V.heap.size V w2) := (HU.out.alloc HU.out.size _).grown hgrow (by simp; have := HU.out.size; omega) (fun j hj => (HO1.out.lt j hj).1)
        have HIN2 : Hid (w2.heap[u0.heap.size + 1]? = some (.cells #[.int .i64 m.t.length, .int .i64 m.d.length, .int .i64 m.s.length] 3)) := (hgrow.block _ (by simp; omega) (fun e => HNE.out e.symm)).trans ((Below.heap_alloc _ _ _ lt1).trans HIN1.out)
        obtain ⟨st2, k2, hst2⟩ := s_sl HO2.out
        subst hst2
        clear hown2 hgrow
        go_wp2
        exact ⟨⟨0 + 1, by omega, by simp, HO2.out, HB2.out, HIN2.out⟩, by simp [intOf]⟩
      · go_wp2_with fail
        refine Calls.mono (HP.out m.d.length _) ?_
        rintro e u1 ⟨rfl, hu⟩
        have HU : Hid (Below V.heap.size V u1) := HB.out.trans (hu.mono HB.out.size)
        have HO1 : Hid (u1.ownsRow V.heap.size 9 1 (.slice st0 (1 + 1) kst) (1 + 1) (sR (hd3 m 1))) := own_below HOW.out hu
        have HIN1 : Hid (u1.heap[u0.heap.size + 1]? = some (.cells #[.int .i64 m.t.length, .int .i64 m.d.length, .int .i64 m.s.length] 3)) := (hu.block _ (Array.getElem?_eq_some_iff.1 HIN.out).1).trans HIN.out
        have lt1 : u0.heap.size + 1 < u1.heap.size := (Array.getElem?_eq_some_iff.1 HIN1.out).1
        clear hu
        go_wp2_with (at_builtin; refine wpList_append_own _ rfl _ _ 23 rfl V.heap.size 9 i0 (.string ⟨#[]⟩) 1 16 Try.underlying23 HI0.out HZ0.out HZ1.out HZ2.out rfl (by decide) (.slice st0 (1 + 1) kst) (1 + 1) (sR (hd3 m 1)) rfl (HO1.out.alloc _) ⟨u1.heap.size, 0, none⟩ 1 1 [.string (pw m.d.length)] rfl rfl ?c1 ?c2 ?c3 ?c4 ?c5 ?_)
        case c1 => exact new_cells u1 [.string (pw m.d.length)] 9
        case c2 => simp [Value.oneCell']
        case c3 => unfold maxLen; omega
        case c4 => omega
        case c5 => have := HU.out.size; simp; omega
        intro v' w2 hown2 hgrow _
        have HO2 : Hid (w2.ownsRow V.heap.size 9 1 v' (1 + 1 + 1) (sR (hd3 m (1 + 1)))) := hown2
        have HB2 : Hid (Below V.heap.size V w2) := (HU.out.alloc HU.out.size _).grown hgrow (by simp; have := HU.out.size; omega) (fun j hj => (HO1.out.lt j hj).1)
        have HIN2 : Hid (w2.heap[u0.heap.size + 1]? = some (.cells #[.int .i64 m.t.length, .int .i64 m.d.length, .int .i64 m.s.length] 3)) := (hgrow.block _ (by simp; omega) (fun e => HNE.out e.symm)).trans ((Below.heap_alloc _ _ _ lt1).trans HIN1.out)
        obtain ⟨st2, k2, hst2⟩ := s_sl HO2.out
        subst hst2
        clear hown2 hgrow
        go_wp2
        exact ⟨⟨1 + 1, by omega, by simp, HO2.out, HB2.out, HIN2.out⟩, by simp [intOf]⟩
      · go_wp2_with fail
        refine Calls.mono (HP.out m.s.length _) ?_
        rintro e u1 ⟨rfl, hu⟩
        have HU : Hid (Below V.heap.size V u1) := HB.out.trans (hu.mono HB.out.size)
        have HO1 : Hid (u1.ownsRow V.heap.size 9 1 (.slice st0 (2 + 1) kst) (2 + 1) (sR (hd3 m 2))) := own_below HOW.out hu
        have HIN1 : Hid (u1.heap[u0.heap.size + 1]? = some (.cells #[.int .i64 m.t.length, .int .i64 m.d.length, .int .i64 m.s.length] 3)) := (hu.block _ (Array.getElem?_eq_some_iff.1 HIN.out).1).trans HIN.out
        have lt1 : u0.heap.size + 1 < u1.heap.size := (Array.getElem?_eq_some_iff.1 HIN1.out).1
        clear hu
        go_wp2_with (at_builtin; refine wpList_append_own _ rfl _ _ 23 rfl V.heap.size 9 i0 (.string ⟨#[]⟩) 1 16 Try.underlying23 HI0.out HZ0.out HZ1.out HZ2.out rfl (by decide) (.slice st0 (2 + 1) kst) (2 + 1) (sR (hd3 m 2)) rfl (HO1.out.alloc _) ⟨u1.heap.size, 0, none⟩ 1 1 [.string (pw m.s.length)] rfl rfl ?c1 ?c2 ?c3 ?c4 ?c5 ?_)
        case c1 => exact new_cells u1 [.string (pw m.s.length)] 9
        case c2 => simp [Value.oneCell']
        case c3 => unfold maxLen; omega
        case c4 => omega
        case c5 => have := HU.out.size; simp; omega
        intro v' w2 hown2 hgrow _
        have HO2 : Hid (w2.ownsRow V.heap.size 9 1 v' (2 + 1 + 1) (sR (hd3 m (2 + 1)))) := hown2
        have HB2 : Hid (Below V.heap.size V w2) := (HU.out.alloc HU.out.size _).grown hgrow (by simp; have := HU.out.size; omega) (fun j hj => (HO1.out.lt j hj).1)
        have HIN2 : Hid (w2.heap[u0.heap.size + 1]? = some (.cells #[.int .i64 m.t.length, .int .i64 m.d.length, .int .i64 m.s.length] 3)) := (hgrow.block _ (by simp; omega) (fun e => HNE.out e.symm)).trans ((Below.heap_alloc _ _ _ lt1).trans HIN1.out)
        obtain ⟨st2, k2, hst2⟩ := s_sl HO2.out
        subst hst2
        clear hown2 hgrow
        go_wp2
        exact ⟨⟨2 + 1, by omega, by simp, HO2.out, HB2.out, HIN2.out⟩, by simp [intOf]⟩
    · obtain rfl : k = 3 := by omega
      have HOX : Hid (wr.ownsRow V.heap.size 9 1 (.slice st0 4 kst) 4 (sR (hd3 m 3))) := hown
      have HB : Hid (Below V.heap.size V wr) := hb
      clear hown hints hb
      go_wp2_with fail
      have HWX : Hid (Below V.heap.size V wr.drew) := HB.out.drew
      replace HOX : Hid (wr.drew.ownsRow V.heap.size 9 1 (.slice st0 4 kst) 4 (sR (hd3 m 3))) := own_below HOX.out ((Below.refl _ _).drew)
      refine wp_region_held (S := fun w' => w'.cell? ⟨w.heap.size, 0, none⟩ = some (.string m.n) ∧ w'.cell? ⟨w.heap.size, 1, none⟩ = some (.string m.b) ∧ w'.cell? ⟨w.heap.size, 2, none⟩ = some (.slice al m.t.length kl) ∧ w'.cell? ⟨w.heap.size, 3, none⟩ = some (.slice am m.d.length km) ∧ w'.cell? ⟨w.heap.size, 4, none⟩ = some (.slice ac m.s.length kc)) (by kernel_rfl) ?_
      change wpAnyH _ _ _ _ _ _ _ _ (World.drew _)
      generalize wr.drew = X at *
      have HK : Hid _ := PB.five (HPV.out.below HWX.out)
      have HTB : Hid (∀ u, Below V.heap.size V u → Calls Try.prog 23 #[.slice al m.t.length kl] u fun e w' => e = .returned (.string (twB m.t)) ∧ Below u.heap.size u w') := fun u hu => packTable_any (HPV.out.below hu).row.t HIR.out.tok
      refine wpAnyH_take (i := 0) (v := .slice st0 4 kst) rfl (by kernel_rfl) (by kernel_rfl) (by kernel_rfl) (fun _ _ _ h => h) (Or.inl ⟨by kernel_rfl, fun w9 h9 => ?_⟩) HK.out ?_
      · clear h9
        go_simp
      refine wpAnyH_take (i := 1) (v := .pointer (some ⟨w.heap.size, 0, none⟩)) rfl (by kernel_rfl) (by kernel_rfl) (by kernel_rfl) (fun _ _ _ h => h) (Or.inl ⟨by kernel_rfl, fun w9 h9 => ?_⟩) HK.out ?_
      · clear h9
        go_simp
      refine wpAnyH_take (i := 2) (v := .string m.n) rfl (by kernel_rfl) (by kernel_rfl) (by kernel_rfl) (fun _ _ _ h => h) (Or.inl ⟨by kernel_rfl, fun w9 h9 => ?_⟩) HK.out ?_
      · obtain ⟨d0, d1, d2, d3, d4⟩ := h9
        go_simp
      refine wpAnyH_take (i := 4) (v := .pointer (some ⟨w.heap.size, 1, none⟩)) rfl (by kernel_rfl) (by kernel_rfl) (by kernel_rfl) (fun _ _ _ h => h) (Or.inl ⟨by kernel_rfl, fun w9 h9 => ?_⟩) HK.out ?_
      · clear h9
        go_simp
      refine wpAnyH_take (i := 5) (v := .string m.b) rfl (by kernel_rfl) (by kernel_rfl) (by kernel_rfl) (fun _ _ _ h => h) (Or.inl ⟨by kernel_rfl, fun w9 h9 => ?_⟩) HK.out ?_
      · obtain ⟨d0, d1, d2, d3, d4⟩ := h9
        go_simp
      refine wpAnyH_take (i := 7) (v := .pointer (some ⟨w.heap.size, 2, none⟩)) rfl (by kernel_rfl) (by kernel_rfl) (by kernel_rfl) (fun _ _ _ h => h) (Or.inl ⟨by kernel_rfl, fun w9 h9 => ?_⟩) HK.out ?_
      · clear h9
        go_simp
      refine wpAnyH_take (i := 8) (v := .slice al m.t.length kl) rfl (by kernel_rfl) (by kernel_rfl) (by kernel_rfl) (fun _ _ _ h => h) (Or.inl ⟨by kernel_rfl, fun w9 h9 => ?_⟩) HK.out ?_
      · obtain ⟨d0, d1, d2, d3, d4⟩ := h9
        go_simp
      refine held_one 3 (by kernel_rfl) rfl (by kernel_rfl) fun K hK => ?_
      go_simp
      refine Calls.mono (HS1.out _) ?_
      rintro e y0 ⟨rfl, hu⟩
      have HWy0 : Hid (Below V.heap.size V y0) := HWX.out.trans (hu.mono HWX.out.size)
      have HOy0 : Hid _ := own_below HOX.out hu
      clear hu
      have HKy0 : Hid _ := PB.five (HPV.out.below HWy0.out)
      go_simp
      refine hK _ _ HKy0.out ?_
      clear hK K HK HWX HOX
      have HK : Hid _ := HKy0.out
      clear HKy0
      refine held_one 6 (by kernel_rfl) rfl (by kernel_rfl) fun K hK => ?_
      go_simp
      refine Calls.mono (HS2.out _) ?_
      rintro e y1 ⟨rfl, hu⟩
      have HWy1 : Hid (Below V.heap.size V y1) := HWy0.out.trans (hu.mono HWy0.out.size)
      have HOy1 : Hid _ := own_below HOy0.out hu
      clear hu
      have HKy1 : Hid _ := PB.five (HPV.out.below HWy1.out)
      go_simp
      refine hK _ _ HKy1.out ?_
      clear hK K HK HWy0 HOy0
      have HK : Hid _ := HKy1.out
      clear HKy1
      refine held_one 9 (by kernel_rfl) rfl (by kernel_rfl) fun K hK => ?_
      go_simp
      refine Calls.mono (HTB.out _ HWy1.out) ?_
      rintro e y2 ⟨rfl, hu⟩
      have HWy2 : Hid (Below V.heap.size V y2) := HWy1.out.trans (hu.mono HWy1.out.size)
      have HOy2 : Hid _ := own_below HOy1.out hu
      clear hu
      have HKy2 : Hid _ := PB.five (HPV.out.below HWy2.out)
      go_simp
      refine hK _ _ HKy2.out ?_
      clear hK K HK HWy1 HOy1
      have HK : Hid _ := HKy2.out
      clear HKy2
      have HWZ : Hid (Below V.heap.size V (y2.alloc (.cells #[.string (shB m.n), .string (shB m.b), .string (twB m.t)] 9))) := HWy2.out.alloc HWy2.out.size _
      have HRW : Hid ((y2.alloc (.cells #[.string (shB m.n), .string (shB m.b), .string (twB m.t)] 9)).ownsRow V.heap.size 9 1 (.slice st0 4 kst) 4 (sR (hd3 m 3))) := World.ownsRow.alloc HOy2.out _
      have HLP : Hid ((4 : Nat) ≤ 160) := (show (4 : Nat) ≤ 160 by omega)
      refine held_one 10 (by kernel_rfl) rfl (by kernel_rfl) fun K hK => ?_
      go_simp
      refine hK _ _ (PB.five (HPV.out.below HWZ.out)) ?_
      clear hK K HK
      refine held_one 11 (by kernel_rfl) rfl (by kernel_rfl) fun K hK => ?_
      refine wp_append_own _ _ _ 23 rfl V.heap.size 9 i0 (.string ⟨#[]⟩) 1 16 Try.underlying23 HI0.out HZ0.out HZ1.out HZ2.out rfl (by decide) (.slice st0 4 kst) 4 (sR (hd3 m 3)) rfl HRW.out ⟨y2.heap.size, 0, none⟩ 3 3 [.string (shB m.n), .string (shB m.b), .string (twB m.t)] rfl rfl (new_cells y2 [.string (shB m.n), .string (shB m.b), .string (twB m.t)] 9) (by simp [Value.oneCell']) (by have := HLP.out; unfold maxLen; omega) (by have := HLP.out; omega) (by have := HWZ.out.size; omega) ?_
      intro v' x2 hown hgr _
      have HO2 : Hid (x2.ownsRow V.heap.size 9 1 v' 7 (sR (hdL m))) := hown
      have HB2 : Hid (Below V.heap.size V x2) := HWZ.out.grown hgr HWZ.out.size (fun j hj => (HRW.out.lt j hj).1)
      obtain ⟨st2, k2, hst2⟩ := s_sl HO2.out
      subst hst2
      clear hown hgr HWZ HRW HOy2 HWy2
      go_simp
      refine hK _ _ (PB.five (HPV.out.below HB2.out)) ?_
      clear hK K
      refine held_one 12 (by kernel_rfl) rfl (by kernel_rfl) fun K hK => ?_
      go_simp
      refine hK _ _ (PB.five (HPV.out.below HB2.out)) ?_
      clear hK K
      refine wpAnyH_done (by kernel_rfl) ?_ _
      go_simp
      have hP := HPV.out.below HB2.out
      have c3 := hP.c3
      have c4 := hP.c4
      simp only at c3 c4
      have hl2 : w.heap.size < x2.heap.size := hP.lt
      rcases am with _ | ⟨g4, o4, sp4⟩
      · have hmd : m.d = [] := by
          rcases hP.row.d with h | ⟨g, o, cap, hv, _⟩
          · exact h.1
          · cases hv
        have hde : m.d.length = 0 := by rw [hmd]; rfl
        obtain ⟨gg, hgg, hcg⟩ : ∃ g, st2 = some ⟨g, 0, none⟩ ∧ 7 + 0 ≤ k2 := by
          rcases HO2.out.2 with ⟨_, e⟩ | ⟨g, cap, cur, hv, _, _, hc, _⟩
          · cases e
          · injection hv with h1 h2 h3
            subst h1 h3
            exact ⟨g, rfl, by omega⟩
        subst hgg
        rw [hde] at c3
        have HO3 : Hid (x2.ownsRow V.heap.size 9 1 (.slice (some ⟨gg, 0, none⟩) 7 k2) (up3 m 0).length (sR (up3 m 0))) := (show x2.ownsRow V.heap.size 9 1 (.slice (some ⟨gg, 0, none⟩) 7 k2) (up3 m 0).length (sR (up3 m 0)) by
          have e : up3 m 0 = hdL m := by unfold up3; rw [hmd]; simp [snL]
          rw [e]
          exact HO2.out)
        have HX3 : Hid (Below V.heap.size V x2) := HB2.out
        clear hP hde hmd
        go_wp2
        go_loopw [3, 52] (fun st i wr => ∃ k : Nat, k ≤ m.s.length ∧ i = .int .i64 k ∧ wr.ownsRow V.heap.size 9 1 st (up3 m k).length (sR (up3 m k)) ∧ Below V.heap.size V wr) (fun _ i _ => m.s.length - (intOf i).toNat)
        case atStart => exact ⟨0, Nat.zero_le _, rfl, HO3.out, HX3.out⟩
        case round =>
          obtain ⟨k, hk, rfl, hown, hb⟩ := hrel
          obtain ⟨st0, kst, hst⟩ := s_sl hown
          subst hst
          clear c4
          by_cases hlt : k < m.s.length
          · have hkq : k < qs.length := by rw [HQL.out]; exact hlt
            obtain ⟨g, o, cap2, hv, _, hg, hc⟩ := HSN.out.resolve_left (fun h => by rw [h.1] at hkq; simp at hkq)
            injection hv with hv1 hv2 hv3
            subst hv1 hv3
            obtain ⟨d0, d1⟩ := hc.below hb hg k hkq
            obtain ⟨q0, q2⟩ := HSI.out.el k hkq hlt
            obtain ⟨az, kz, hzt⟩ := q2.sl
            rw [q0] at d0
            rw [hzt] at d1
            obtain ⟨hs20, htk⟩ := HIR.out.sp k hlt
            have HSH : Hid _ := fun u => packName_any m.s[k].n hs20 u
            have HTB : Hid (∀ u, Below V.heap.size V u → Calls Try.prog 23 #[.slice az m.s[k].t.length kz] u fun e w' => e = .returned (.string (twB m.s[k].t)) ∧ Below u.heap.size u w') := fun u hu => packTable_any (by rw [← hzt]; exact q2.below hu) htk
            have HS : Hid (up3 m (k + 1) = up3 m k ++ [shB m.s[k].n, twB m.s[k].t]) := up3_succ m k hlt
            have HLP : Hid ((up3 m k).length ≤ 160) := up3_len HIR.out k
            have HLK : Hid (wr.ownsRow V.heap.size 9 1 (.slice st0 (up3 m k).length kst) (up3 m k).length (sR (up3 m k))) := hown
            have HB : Hid (Below V.heap.size V wr) := hb
            generalize shB m.s[k].n = sh at *
            generalize twB m.s[k].t = tw at *
            generalize m.s[k].t.length = tl at *
            generalize m.s[k].n = nk at *
            have hk0 : (0 : Int) ≤ (k : Int) := by omega
            have hk1 : (k : Int) < (m.s.length : Int) := by omega
            have hk9 : (k : Int) ≤ 8 := by have := HIR.out.s; omega
            have hgw : g < wr.heap.size := Nat.lt_of_lt_of_le hg hb.size
            have HZB : Hid (Below V.heap.size V (wr.alloc (.cells #[.string nk, .slice az tl kz] 43))) := hb.alloc hb.size _
            have HOZ : Hid ((wr.alloc (.cells #[.string nk, .slice az tl kz] 43)).ownsRow V.heap.size 9 1 (.slice st0 (up3 m k).length kst) (up3 m k).length (sR (up3 m k))) := World.ownsRow.alloc hown _
            have HZH : Hid ((wr.alloc (.cells #[.string nk, .slice az tl kz] 43)).heap[wr.heap.size]? = some (.cells #[.string nk, .slice az tl kz] 43 (0, 0))) := heap_new _ _
            have HNB : Hid ((Value.slice st0 (up3 m k).length kst).ownBlock ≠ some wr.heap.size) := fun e => by have := (hown.lt _ e).2; omega
            clear hc hv2 hb hown q0 q2 hzt hs20 htk
            go_wp2_with fail
            clear d0 d1
            generalize (wr.alloc (.cells #[.string nk, .slice az tl kz] 43)) = Z0 at *
            have HWX : Hid (Below Z0.heap.size Z0 Z0.drew) := (Below.refl _ _).drew
            have HOX : Hid (Z0.drew.ownsRow V.heap.size 9 1 (.slice st0 (up3 m k).length kst) (up3 m k).length (sR (up3 m k))) := own_below HOZ.out ((Below.refl _ _).drew)
            have HKU : Hid (∀ u, Below Z0.heap.size Z0 u → u.cell? ⟨wr.heap.size, 0, none⟩ = some (.string nk) ∧ u.cell? ⟨wr.heap.size, 1, none⟩ = some (.slice az tl kz)) := fun u hu => by
              have hh := (hu.block _ (Array.getElem?_eq_some_iff.1 HZH.out).1).trans HZH.out
              obtain ⟨x0, x1, _⟩ := cel2 hh
              exact ⟨x0, x1⟩
            refine wp_region_held (S := fun w' => w'.cell? ⟨wr.heap.size, 0, none⟩ = some (.string nk) ∧ w'.cell? ⟨wr.heap.size, 1, none⟩ = some (.slice az tl kz)) (by kernel_rfl) ?_
            change wpAnyH _ _ _ _ _ _ _ _ (World.drew _)
            generalize Z0.drew = X at *
            have HK : Hid _ := HKU.out X HWX.out
            refine wpAnyH_take (i := 0) (v := .slice st0 (up3 m k).length kst) rfl (by kernel_rfl) (by kernel_rfl) (by kernel_rfl) (fun _ _ _ h => h) (Or.inl ⟨by kernel_rfl, fun w9 h9 => ?_⟩) HK.out ?_
            · clear h9
              go_simp
            refine wpAnyH_take (i := 1) (v := .pointer (some ⟨wr.heap.size, 0, none⟩)) rfl (by kernel_rfl) (by kernel_rfl) (by kernel_rfl) (fun _ _ _ h => h) (Or.inl ⟨by kernel_rfl, fun w9 h9 => ?_⟩) HK.out ?_
            · clear h9
              go_simp
            refine wpAnyH_take (i := 2) (v := .string nk) rfl (by kernel_rfl) (by kernel_rfl) (by kernel_rfl) (fun _ _ _ h => h) (Or.inl ⟨by kernel_rfl, fun w9 h9 => ?_⟩) HK.out ?_
            · obtain ⟨d0, d1⟩ := h9
              go_simp
            refine wpAnyH_take (i := 4) (v := .pointer (some ⟨wr.heap.size, 1, none⟩)) rfl (by kernel_rfl) (by kernel_rfl) (by kernel_rfl) (fun _ _ _ h => h) (Or.inl ⟨by kernel_rfl, fun w9 h9 => ?_⟩) HK.out ?_
            · clear h9
              go_simp
            refine wpAnyH_take (i := 5) (v := .slice az tl kz) rfl (by kernel_rfl) (by kernel_rfl) (by kernel_rfl) (fun _ _ _ h => h) (Or.inl ⟨by kernel_rfl, fun w9 h9 => ?_⟩) HK.out ?_
            · obtain ⟨d0, d1⟩ := h9
              go_simp
            refine held_one 3 (by kernel_rfl) rfl (by kernel_rfl) fun K hK => ?_
            go_simp
            refine Calls.mono (HSH.out _) ?_
            rintro e y3 ⟨rfl, hu⟩
            have HWy3 : Hid (Below Z0.heap.size Z0 y3) := HWX.out.trans (hu.mono HWX.out.size)
            have HOy3 : Hid _ := own_below HOX.out hu
            clear hu
            have HKy3 : Hid _ := HKU.out _ HWy3.out
            go_simp
            refine hK _ _ HKy3.out ?_
            clear hK K HK HWX HOX
            have HK : Hid _ := HKy3.out
            clear HKy3
            refine held_one 6 (by kernel_rfl) rfl (by kernel_rfl) fun K hK => ?_
            go_simp
            refine Calls.mono (HTB.out _ (HZB.out.trans (HWy3.out.mono HZB.out.size))) ?_
            rintro e y4 ⟨rfl, hu⟩
            have HWy4 : Hid (Below Z0.heap.size Z0 y4) := HWy3.out.trans (hu.mono HWy3.out.size)
            have HOy4 : Hid _ := own_below HOy3.out hu
            clear hu
            have HKy4 : Hid _ := HKU.out _ HWy4.out
            go_simp
            refine hK _ _ HKy4.out ?_
            clear hK K HK HWy3 HOy3
            have HK : Hid _ := HKy4.out
            clear HKy4
            have HWZ : Hid (Below V.heap.size V (y4.alloc (.cells #[.string sh, .string tw] 9))) := (HZB.out.trans (HWy4.out.mono HZB.out.size)).alloc (HZB.out.trans (HWy4.out.mono HZB.out.size)).size _
            have HWZ0 : Hid (Below Z0.heap.size Z0 (y4.alloc (.cells #[.string sh, .string tw] 9))) := HWy4.out.alloc HWy4.out.size _
            have HRW : Hid ((y4.alloc (.cells #[.string sh, .string tw] 9)).ownsRow V.heap.size 9 1 (.slice st0 (up3 m k).length kst) (up3 m k).length (sR (up3 m k))) := World.ownsRow.alloc HOy4.out _
            refine held_one 7 (by kernel_rfl) rfl (by kernel_rfl) fun K hK => ?_
            go_simp
            refine hK _ _ (HKU.out _ HWZ0.out) ?_
            clear hK K HK
            refine held_one 8 (by kernel_rfl) rfl (by kernel_rfl) fun K hK => ?_
            refine wp_append_own _ _ _ 23 rfl V.heap.size 9 i0 (.string ⟨#[]⟩) 1 16 Try.underlying23 HI0.out HZ0.out HZ1.out HZ2.out rfl (by decide) (.slice st0 (up3 m k).length kst) (up3 m k).length (sR (up3 m k)) rfl HRW.out ⟨y4.heap.size, 0, none⟩ 2 2 [.string sh, .string tw] rfl rfl (new_cells y4 [.string sh, .string tw] 9) (by simp [Value.oneCell']) (by have := HLP.out; unfold maxLen; omega) (by have := HLP.out; omega) (by have := HWZ.out.size; omega) ?_
            intro v' x2 hown hgr _
            have HO2 : Hid (x2.ownsRow V.heap.size 9 1 v' (up3 m (k + 1)).length (sR (up3 m (k + 1)))) := (show x2.ownsRow V.heap.size 9 1 v' (up3 m (k + 1)).length (sR (up3 m (k + 1))) by
              rw [HS.out, List.length_append]
              simpa [sR] using hown)
            have HB2 : Hid (Below V.heap.size V x2) := HWZ.out.grown hgr HWZ.out.size (fun j hj => (HRW.out.lt j hj).1)
            have HSB : Hid (x2.cell? ⟨wr.heap.size, 0, none⟩ = some (.string nk) ∧ x2.cell? ⟨wr.heap.size, 1, none⟩ = some (.slice az tl kz)) := (show _ from by
              obtain ⟨x0, x1⟩ := HKU.out _ HWZ0.out
              have hlt9 : wr.heap.size < (y4.alloc (.cells #[.string sh, .string tw] 9)).heap.size := Nat.lt_of_lt_of_le (Array.getElem?_eq_some_iff.1 HZH.out).1 HWZ0.out.size
              have hbk := hgr.block wr.heap.size hlt9 (fun e => HNB.out e.symm)
              exact ⟨(World.cell?_of_block hbk).trans x0, (World.cell?_of_block hbk).trans x1⟩)
            obtain ⟨st2, k2, hst2⟩ := s_sl HO2.out
            subst hst2
            clear hown hgr HWZ HRW HOy4 HWy4 HWZ0
            go_simp
            refine hK _ _ HSB.out ?_
            clear hK K
            refine held_one 9 (by kernel_rfl) rfl (by kernel_rfl) fun K hK => ?_
            go_simp
            refine hK _ _ HSB.out ?_
            clear hK K
            refine wpAnyH_done (by kernel_rfl) ?_ _
            go_simp
            go_wp2
            exact ⟨⟨k + 1, hlt, by simp, HO2.out, HB2.out⟩, by simp [intOf]; omega⟩
          · obtain rfl : k = m.s.length := by omega
            have HLP := up3_len HIR.out m.s.length
            have HJ : Hid _ := joined_row (ps := up3 m m.s.length) hown (by omega) (by have := up3_size HIR.out; omega)
            rw [up3_all] at HJ
            have hus := up_size HIR.out m.d.length m.s.length
            rw [up_all] at hus
            have HMX : Hid _ := fun u => implMix_any (txB m) 7 u (by omega)
            have hps := pw_size (mixv (txB m) 7)
            have HPW : Hid _ := fun u => HP.out (mixv (txB m) 7) u
            have HB : Hid (Below V.heap.size V wr) := hb
            generalize mixv (txB m) 7 = mx at *
            generalize pw mx = pm at *
            generalize txB m = tx at *
            have HJ2 : Hid (∀ u : World, _) := fun u => joined2x u tx pm (by omega)
            generalize (up3 m m.s.length).length = PL at *
            clear hus hps hb HLP hown
            go_wp2_with fail
            refine Calls.mono HJ.out ?_
            rintro e u5 ⟨rfl, hu⟩
            have HU5 : Hid (Below V.heap.size V u5) := HB.out.trans (hu.mono HB.out.size)
            clear hu HJ
            go_wp2_with fail
            refine Calls.mono (HMX.out _) ?_
            rintro e u6 ⟨rfl, hu⟩
            rw [hu]
            clear hu
            go_wp2_with fail
            refine Calls.mono (HPW.out _) ?_
            rintro e u7 ⟨rfl, hu⟩
            have HU7 : Hid (Below V.heap.size V u7) := HU5.out.trans (hu.mono HU5.out.size)
            clear hu
            go_wp2_with fail
            refine Calls.mono (HJ2.out _) ?_
            rintro e u8 ⟨rfl, hu⟩
            have HU8 : Hid (Below V.heap.size V u8) := HU7.out.trans (hu.mono HU7.out.size)
            clear hu
            go_wp2
            go_ret
            exact ⟨by rw [HG.out]; rfl, HBV.out.trans (HU8.out.mono HBV.out.size)⟩
      · have hrow : ∀ (j : Nat) (u : Value), (sR m.d)[j]? = some u → x2.cell? ((⟨g4, o4, sp4⟩ : Addr).add j) = some u := by
          intro j u hu
          have hj : j < m.d.length := by
            have := (List.getElem?_eq_some_iff.1 hu).1
            simpa [sR] using this
          obtain ⟨g5, o5, cap5, hv, _, hg5, hc5⟩ := hP.row.d.resolve_left (fun h => by rw [h.1] at hj; simp at hj)
          simp only at hv
          injection hv with hv1 hv2 hv3
          injection hv1 with hv1
          injection hv1 with e1 e2 e3
          subst e1 e2 e3
          have hadd : Addr.add ⟨g4, o4, none⟩ j = ⟨g4, o4 + j, none⟩ := by
            unfold Addr.add
            split
            · subst_vars; rfl
            · rfl
          rw [hadd, hc5 j hj]
          simpa [sR, List.getElem?_eq_getElem hj] using hu
        have HROW : Hid _ := hrow
        have hd1 := HIR.out.d
        clear hP hrow
        go_wp2_with (at_builtin; refine wpList_append_own _ rfl _ _ 23 rfl V.heap.size 9 i0 (.string ⟨#[]⟩) 1 16 Try.underlying23 HI0.out HZ0.out HZ1.out HZ2.out rfl (by decide) (.slice st2 7 k2) 7 (sR (hdL m)) rfl HO2.out ⟨g4, o4, sp4⟩ m.d.length km (sR m.d) rfl (sR_len m.d) ?c1 ?c2 ?c3 ?c4 ?c5 ?_)
        case c1 => exact HROW.out
        case c2 =>
          intro u hu
          unfold sR at hu
          obtain ⟨z, _, rfl⟩ := List.mem_map.1 hu
          rfl
        case c3 => unfold maxLen; omega
        case c4 => omega
        case c5 => exact HB2.out.size
        intro v' x3 hox3 hgr _
        have HO3 : Hid (x3.ownsRow V.heap.size 9 1 v' (up3 m 0).length (sR (up3 m 0))) := (show x3.ownsRow V.heap.size 9 1 v' (up3 m 0).length (sR (up3 m 0)) by
          have e : up3 m 0 = hdL m ++ m.d := by unfold up3; simp [snL]
          rw [e, List.length_append]
          have e2 : sR (hdL m ++ m.d) = sR (hdL m) ++ sR m.d := by simp [sR]
          rw [e2]
          exact hox3)
        have hx3 : Below V.heap.size V x3 := HB2.out.grown hgr HB2.out.size (fun j hj => (World.ownsRow.lt HO2.out j hj).1)
        obtain ⟨st3, k3, hst3⟩ := s_sl hox3
        subst hst3
        have hP := HPV.out.below hx3
        clear c3 c4
        have c3 := hP.c3
        have c4 := hP.c4
        simp only at c3 c4
        have hl3 : w.heap.size < x3.heap.size := hP.lt
        clear hP hgr HROW
        have HX3 : Hid (Below V.heap.size V x3) := hx3
        clear hx3 hox3
        go_wp2
        go_loopw [3, 52] (fun st i wr => ∃ k : Nat, k ≤ m.s.length ∧ i = .int .i64 k ∧ wr.ownsRow V.heap.size 9 1 st (up3 m k).length (sR (up3 m k)) ∧ Below V.heap.size V wr) (fun _ i _ => m.s.length - (intOf i).toNat)
        case atStart => exact ⟨0, Nat.zero_le _, rfl, HO3.out, HX3.out⟩
        case round =>
          obtain ⟨k, hk, rfl, hown, hb⟩ := hrel
          obtain ⟨st0, kst, hst⟩ := s_sl hown
          subst hst
          clear c4
          by_cases hlt : k < m.s.length
          · have hkq : k < qs.length := by rw [HQL.out]; exact hlt
            obtain ⟨g, o, cap2, hv, _, hg, hc⟩ := HSN.out.resolve_left (fun h => by rw [h.1] at hkq; simp at hkq)
            injection hv with hv1 hv2 hv3
            subst hv1 hv3
            obtain ⟨d0, d1⟩ := hc.below hb hg k hkq
            obtain ⟨q0, q2⟩ := HSI.out.el k hkq hlt
            obtain ⟨az, kz, hzt⟩ := q2.sl
            rw [q0] at d0
            rw [hzt] at d1
            obtain ⟨hs20, htk⟩ := HIR.out.sp k hlt
            have HSH : Hid _ := fun u => packName_any m.s[k].n hs20 u
            have HTB : Hid (∀ u, Below V.heap.size V u → Calls Try.prog 23 #[.slice az m.s[k].t.length kz] u fun e w' => e = .returned (.string (twB m.s[k].t)) ∧ Below u.heap.size u w') := fun u hu => packTable_any (by rw [← hzt]; exact q2.below hu) htk
            have HS : Hid (up3 m (k + 1) = up3 m k ++ [shB m.s[k].n, twB m.s[k].t]) := up3_succ m k hlt
            have HLP : Hid ((up3 m k).length ≤ 160) := up3_len HIR.out k
            have HLK : Hid (wr.ownsRow V.heap.size 9 1 (.slice st0 (up3 m k).length kst) (up3 m k).length (sR (up3 m k))) := hown
            have HB : Hid (Below V.heap.size V wr) := hb
            generalize shB m.s[k].n = sh at *
            generalize twB m.s[k].t = tw at *
            generalize m.s[k].t.length = tl at *
            generalize m.s[k].n = nk at *
            have hk0 : (0 : Int) ≤ (k : Int) := by omega
            have hk1 : (k : Int) < (m.s.length : Int) := by omega
            have hk9 : (k : Int) ≤ 8 := by have := HIR.out.s; omega
            have hgw : g < wr.heap.size := Nat.lt_of_lt_of_le hg hb.size
            have HZB : Hid (Below V.heap.size V (wr.alloc (.cells #[.string nk, .slice az tl kz] 43))) := hb.alloc hb.size _
            have HOZ : Hid ((wr.alloc (.cells #[.string nk, .slice az tl kz] 43)).ownsRow V.heap.size 9 1 (.slice st0 (up3 m k).length kst) (up3 m k).length (sR (up3 m k))) := World.ownsRow.alloc hown _
            have HZH : Hid ((wr.alloc (.cells #[.string nk, .slice az tl kz] 43)).heap[wr.heap.size]? = some (.cells #[.string nk, .slice az tl kz] 43 (0, 0))) := heap_new _ _
            have HNB : Hid ((Value.slice st0 (up3 m k).length kst).ownBlock ≠ some wr.heap.size) := fun e => by have := (hown.lt _ e).2; omega
            clear hc hv2 hb hown q0 q2 hzt hs20 htk
            go_wp2_with fail
            clear d0 d1
            generalize (wr.alloc (.cells #[.string nk, .slice az tl kz] 43)) = Z0 at *
            have HWX : Hid (Below Z0.heap.size Z0 Z0.drew) := (Below.refl _ _).drew
            have HOX : Hid (Z0.drew.ownsRow V.heap.size 9 1 (.slice st0 (up3 m k).length kst) (up3 m k).length (sR (up3 m k))) := own_below HOZ.out ((Below.refl _ _).drew)
            have HKU : Hid (∀ u, Below Z0.heap.size Z0 u → u.cell? ⟨wr.heap.size, 0, none⟩ = some (.string nk) ∧ u.cell? ⟨wr.heap.size, 1, none⟩ = some (.slice az tl kz)) := fun u hu => by
              have hh := (hu.block _ (Array.getElem?_eq_some_iff.1 HZH.out).1).trans HZH.out
              obtain ⟨x0, x1, _⟩ := cel2 hh
              exact ⟨x0, x1⟩
            refine wp_region_held (S := fun w' => w'.cell? ⟨wr.heap.size, 0, none⟩ = some (.string nk) ∧ w'.cell? ⟨wr.heap.size, 1, none⟩ = some (.slice az tl kz)) (by kernel_rfl) ?_
            change wpAnyH _ _ _ _ _ _ _ _ (World.drew _)
            generalize Z0.drew = X at *
            have HK : Hid _ := HKU.out X HWX.out
            refine wpAnyH_take (i := 0) (v := .slice st0 (up3 m k).length kst) rfl (by kernel_rfl) (by kernel_rfl) (by kernel_rfl) (fun _ _ _ h => h) (Or.inl ⟨by kernel_rfl, fun w9 h9 => ?_⟩) HK.out ?_
            · clear h9
              go_simp
            refine wpAnyH_take (i := 1) (v := .pointer (some ⟨wr.heap.size, 0, none⟩)) rfl (by kernel_rfl) (by kernel_rfl) (by kernel_rfl) (fun _ _ _ h => h) (Or.inl ⟨by kernel_rfl, fun w9 h9 => ?_⟩) HK.out ?_
            · clear h9
              go_simp
            refine wpAnyH_take (i := 2) (v := .string nk) rfl (by kernel_rfl) (by kernel_rfl) (by kernel_rfl) (fun _ _ _ h => h) (Or.inl ⟨by kernel_rfl, fun w9 h9 => ?_⟩) HK.out ?_
            · obtain ⟨d0, d1⟩ := h9
              go_simp
            refine wpAnyH_take (i := 4) (v := .pointer (some ⟨wr.heap.size, 1, none⟩)) rfl (by kernel_rfl) (by kernel_rfl) (by kernel_rfl) (fun _ _ _ h => h) (Or.inl ⟨by kernel_rfl, fun w9 h9 => ?_⟩) HK.out ?_
            · clear h9
              go_simp
            refine wpAnyH_take (i := 5) (v := .slice az tl kz) rfl (by kernel_rfl) (by kernel_rfl) (by kernel_rfl) (fun _ _ _ h => h) (Or.inl ⟨by kernel_rfl, fun w9 h9 => ?_⟩) HK.out ?_
            · obtain ⟨d0, d1⟩ := h9
              go_simp
            refine held_one 3 (by kernel_rfl) rfl (by kernel_rfl) fun K hK => ?_
            go_simp
            refine Calls.mono (HSH.out _) ?_
            rintro e y3 ⟨rfl, hu⟩
            have HWy3 : Hid (Below Z0.heap.size Z0 y3) := HWX.out.trans (hu.mono HWX.out.size)
            have HOy3 : Hid _ := own_below HOX.out hu
            clear hu
            have HKy3 : Hid _ := HKU.out _ HWy3.out
            go_simp
            refine hK _ _ HKy3.out ?_
            clear hK K HK HWX HOX
            have HK : Hid _ := HKy3.out
            clear HKy3
            refine held_one 6 (by kernel_rfl) rfl (by kernel_rfl) fun K hK => ?_
            go_simp
            refine Calls.mono (HTB.out _ (HZB.out.trans (HWy3.out.mono HZB.out.size))) ?_
            rintro e y4 ⟨rfl, hu⟩
            have HWy4 : Hid (Below Z0.heap.size Z0 y4) := HWy3.out.trans (hu.mono HWy3.out.size)
            have HOy4 : Hid _ := own_below HOy3.out hu
            clear hu
            have HKy4 : Hid _ := HKU.out _ HWy4.out
            go_simp
            refine hK _ _ HKy4.out ?_
            clear hK K HK HWy3 HOy3
            have HK : Hid _ := HKy4.out
            clear HKy4
            have HWZ : Hid (Below V.heap.size V (y4.alloc (.cells #[.string sh, .string tw] 9))) := (HZB.out.trans (HWy4.out.mono HZB.out.size)).alloc (HZB.out.trans (HWy4.out.mono HZB.out.size)).size _
            have HWZ0 : Hid (Below Z0.heap.size Z0 (y4.alloc (.cells #[.string sh, .string tw] 9))) := HWy4.out.alloc HWy4.out.size _
            have HRW : Hid ((y4.alloc (.cells #[.string sh, .string tw] 9)).ownsRow V.heap.size 9 1 (.slice st0 (up3 m k).length kst) (up3 m k).length (sR (up3 m k))) := World.ownsRow.alloc HOy4.out _
            refine held_one 7 (by kernel_rfl) rfl (by kernel_rfl) fun K hK => ?_
            go_simp
            refine hK _ _ (HKU.out _ HWZ0.out) ?_
            clear hK K HK
            refine held_one 8 (by kernel_rfl) rfl (by kernel_rfl) fun K hK => ?_
            refine wp_append_own _ _ _ 23 rfl V.heap.size 9 i0 (.string ⟨#[]⟩) 1 16 Try.underlying23 HI0.out HZ0.out HZ1.out HZ2.out rfl (by decide) (.slice st0 (up3 m k).length kst) (up3 m k).length (sR (up3 m k)) rfl HRW.out ⟨y4.heap.size, 0, none⟩ 2 2 [.string sh, .string tw] rfl rfl (new_cells y4 [.string sh, .string tw] 9) (by simp [Value.oneCell']) (by have := HLP.out; unfold maxLen; omega) (by have := HLP.out; omega) (by have := HWZ.out.size; omega) ?_
            intro v' x2 hown hgr _
            have HO2 : Hid (x2.ownsRow V.heap.size 9 1 v' (up3 m (k + 1)).length (sR (up3 m (k + 1)))) := (show x2.ownsRow V.heap.size 9 1 v' (up3 m (k + 1)).length (sR (up3 m (k + 1))) by
              rw [HS.out, List.length_append]
              simpa [sR] using hown)
            have HB2 : Hid (Below V.heap.size V x2) := HWZ.out.grown hgr HWZ.out.size (fun j hj => (HRW.out.lt j hj).1)
            have HSB : Hid (x2.cell? ⟨wr.heap.size, 0, none⟩ = some (.string nk) ∧ x2.cell? ⟨wr.heap.size, 1, none⟩ = some (.slice az tl kz)) := (show _ from by
              obtain ⟨x0, x1⟩ := HKU.out _ HWZ0.out
              have hlt9 : wr.heap.size < (y4.alloc (.cells #[.string sh, .string tw] 9)).heap.size := Nat.lt_of_lt_of_le (Array.getElem?_eq_some_iff.1 HZH.out).1 HWZ0.out.size
              have hbk := hgr.block wr.heap.size hlt9 (fun e => HNB.out e.symm)
              exact ⟨(World.cell?_of_block hbk).trans x0, (World.cell?_of_block hbk).trans x1⟩)
            obtain ⟨st2, k2, hst2⟩ := s_sl HO2.out
            subst hst2
            clear hown hgr HWZ HRW HOy4 HWy4 HWZ0
            go_simp
            refine hK _ _ HSB.out ?_
            clear hK K
            refine held_one 9 (by kernel_rfl) rfl (by kernel_rfl) fun K hK => ?_
            go_simp
            refine hK _ _ HSB.out ?_
            clear hK K
            refine wpAnyH_done (by kernel_rfl) ?_ _
            go_simp
            go_wp2
            exact ⟨⟨k + 1, hlt, by simp, HO2.out, HB2.out⟩, by simp [intOf]; omega⟩
          · obtain rfl : k = m.s.length := by omega
            have HLP := up3_len HIR.out m.s.length
            have HJ : Hid _ := joined_row (ps := up3 m m.s.length) hown (by omega) (by have := up3_size HIR.out; omega)
            rw [up3_all] at HJ
            have hus := up_size HIR.out m.d.length m.s.length
            rw [up_all] at hus
            have HMX : Hid _ := fun u => implMix_any (txB m) 7 u (by omega)
            have hps := pw_size (mixv (txB m) 7)
            have HPW : Hid _ := fun u => HP.out (mixv (txB m) 7) u
            have HB : Hid (Below V.heap.size V wr) := hb
            generalize mixv (txB m) 7 = mx at *
            generalize pw mx = pm at *
            generalize txB m = tx at *
            have HJ2 : Hid (∀ u : World, _) := fun u => joined2x u tx pm (by omega)
            generalize (up3 m m.s.length).length = PL at *
            clear hus hps hb HLP hown
            go_wp2_with fail
            refine Calls.mono HJ.out ?_
            rintro e u5 ⟨rfl, hu⟩
            have HU5 : Hid (Below V.heap.size V u5) := HB.out.trans (hu.mono HB.out.size)
            clear hu HJ
            go_wp2_with fail
            refine Calls.mono (HMX.out _) ?_
            rintro e u6 ⟨rfl, hu⟩
            rw [hu]
            clear hu
            go_wp2_with fail
            refine Calls.mono (HPW.out _) ?_
            rintro e u7 ⟨rfl, hu⟩
            have HU7 : Hid (Below V.heap.size V u7) := HU5.out.trans (hu.mono HU5.out.size)
            clear hu
            go_wp2_with fail
            refine Calls.mono (HJ2.out _) ?_
            rintro e u8 ⟨rfl, hu⟩
            have HU8 : Hid (Below V.heap.size V u8) := HU7.out.trans (hu.mono HU7.out.size)
            clear hu
            go_wp2
            go_ret
            exact ⟨by rw [HG.out]; rfl, HBV.out.trans (HU8.out.mono HBV.out.size)⟩
end Go.Proofs.Ytaobbddecmhpnaa
