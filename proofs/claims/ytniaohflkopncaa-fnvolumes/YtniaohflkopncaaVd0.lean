import Derived.Test.YtniaohflkopncaaAd3
import Derived.Test.YtniaohflkopncaaDp2
import Derived.Test.YtniaohflkopncaaFcZ
namespace Go.Proofs.Ytniaohflkopncaa
open Go.ChangeShapes Go.WideShapes Go.ChangeAt Go.RowKit

theorem tagV_size9 (s d : ByteArray) : (tagV s d).size = 8 := by
  unfold tagV
  rw [ByteArray.size_append, pw_size, pw_size]
/-- A master key, a pass and a salt that make a slot. -/
structure MV (m p : ByteArray) (st : Int) : Prop where
  m16 : m.size = 16
  pv : p.size ≤ 4096
  ws : isW st = true
theorem nov {s : ByteArray} (h : s.size ≤ 4096) : ovB s = false := decide_eq_false (by omega)
theorem MV.key {m p : ByteArray} {st : Int} (h : MV m p st) : cryV p st m = crV p st m := cryV_in h.pv (by have := h.m16; omega)
theorem MV.ksz {m p : ByteArray} {st : Int} (h : MV m p st) : (cryV p st m).size = 16 := by rw [h.key, crV_size, h.m16]
theorem tgo_size {s d : ByteArray} (hs : s.size ≤ 4096) (hd : d.size ≤ 4096) : (tgoV s d).size = 8 := by
  unfold tgoV
  rw [if_neg (by rw [nov hs, nov hd]; simp), tagV_size9]
theorem MV.chk {m p : ByteArray} {st : Int} (h : MV m p st) : (tgoV m ⟨#[]⟩).size = 8 := tgo_size (by have := h.m16; omega) (by show (0 : Nat) ≤ 4096; omega)
theorem MV.ksB {m p : ByteArray} {st : Int} (h : MV m p st) : ksB (slV m p st) = true := by
  unfold Go.Proofs.Ytniaohflkopncaa.ksB slV
  simp only [Bool.and_eq_true, beq_iff_eq]
  refine ⟨⟨h.ws, ?_⟩, ?_⟩
  · rw [h.ksz]; rfl
  · rw [tgo_size h.pv (by rw [h.ksz]; omega)]; rfl
theorem MV.back {m p : ByteArray} {st : Int} (h : MV m p st) : cryV p st (cryV p st m) = m := by
  rw [h.key, cryV_in h.pv (by rw [crV_size, h.m16]; omega), crV_twice]
theorem MV.hit {m p : ByteArray} {st : Int} (h : MV m p st) (zs : List KS) : opF p (tgoV m ⟨#[]⟩) (slV m p st :: zs) = ⟨0, m⟩ := by
  rw [opF]
  simp only [slV, beq_self_eq_true, if_true, h.back]
theorem vf_of {zs : List KS} {c : ByteArray} (h1 : 1 ≤ zs.length) (h4 : zs.length ≤ 4) (hc : c.size = 8) (hz : zs.all Go.Proofs.Ytniaohflkopncaa.ksB = true) : vfB zs c = true := by
  unfold vfB vhB
  rw [hz, hc, decide_eq_false (by omega), decide_eq_false (by omega)]
  rfl
/-- A volume whose first slot one pass opens. -/
structure VG (zs : List KS) (m p c : ByteArray) : Prop where
  pv : p.size ≤ 4096
  m16 : m.size = 16
  hc : c = tgoV m ⟨#[]⟩
  hd : ∃ st t, isW st = true ∧ zs = slV m p st :: t
  l4 : zs.length ≤ 4
  al : zs.all Go.Proofs.Ytniaohflkopncaa.ksB = true
theorem MV.vg {m p : ByteArray} {st : Int} (h : MV m p st) : VG [slV m p st] m p (tgoV m ⟨#[]⟩) :=
  ⟨h.pv, h.m16, rfl, ⟨st, [], h.ws, rfl⟩, by simp, by simp [h.ksB]⟩
theorem VG.len {zs : List KS} {m p c : ByteArray} (h : VG zs m p c) : 1 ≤ zs.length := by
  obtain ⟨st, t, _, rfl⟩ := h.hd
  simp
theorem VG.csz {zs : List KS} {m p c : ByteArray} (h : VG zs m p c) : c.size = 8 := by
  obtain ⟨st, t, hw, rfl⟩ := h.hd
  rw [h.hc]
  exact (MV.mk h.m16 h.pv hw).chk
theorem VG.op {zs : List KS} {m p c : ByteArray} (h : VG zs m p c) : opV zs c p = ⟨0, m⟩ := by
  unfold opV
  rw [nov h.pv, if_neg (by simp), if_pos (vf_of h.len h.l4 h.csz h.al), h.hc]
  obtain ⟨st, t, hw, rfl⟩ := h.hd
  exact (MV.mk h.m16 h.pv hw).hit _
theorem VG.ad {zs : List KS} {m p c : ByteArray} (h : VG zs m p c) {q : ByteArray} {st : Int} (hq : q.size ≤ 4096) (hs : isW st = true) :
    adR zs c p q st = if ((zs.length : Int) == 4) = true then ⟨4, [], ⟨#[]⟩⟩ else ⟨0, zs ++ [slV m q st], c⟩ := by
  unfold adR
  rw [if_neg (by rw [nov h.pv, nov hq]; simp), h.op, if_neg (by simp), if_neg (by rw [hs]; simp)]
theorem VG.more {zs : List KS} {m p c : ByteArray} (h : VG zs m p c) {q : ByteArray} {st : Int} (hq : q.size ≤ 4096) (hs : isW st = true) (hl : ((zs.length : Int) == 4) = false) : VG (zs ++ [slV m q st]) m p c := by
  refine ⟨h.pv, h.m16, h.hc, ?_, ?_, ?_⟩
  · obtain ⟨s0, t, hw, rfl⟩ := h.hd
    exact ⟨s0, t ++ [slV m q st], hw, rfl⟩
  · have := h.l4
    have : zs.length ≠ 4 := fun e => by rw [e] at hl; simp at hl
    simp
    omega
  · rw [List.all_append, h.al]
    simp [(MV.mk h.m16 hq hs).ksB]
theorem VG.ksz {zs : List KS} {m p c : ByteArray} (h : VG zs m p c) : ∀ z ∈ zs, z.key.size = 16 ∧ z.tag.size = 8 := (vfB_key (vf_of h.len h.l4 h.csz h.al)).2
theorem mk_ok {m p : ByteArray} {st : Int} (h : (mkR m p st).code = 0) : MV m p st ∧ mkR m p st = ⟨0, [slV m p st], tgoV m ⟨#[]⟩⟩ := by
  unfold mkR at h ⊢
  split at h
  · exact absurd h (by decide)
  · rename_i h1
    split at h
    · exact absurd h (by decide)
    · rename_i h2
      rw [if_neg h1, if_neg h2]
      refine ⟨⟨?_, ?_, ?_⟩, rfl⟩
      · have : ¬ ((m.size : Int) != 16) = true := fun e => h2 (.inl e)
        simp at this
        omega
      · have : ovB p = false := by
          cases e : ovB p
          · rfl
          · exact absurd (.inr e) h1
        exact ovB_le this
      · cases e : isW st
        · exact absurd (.inr e) h2
        · rfl
/-- The law's answers behind a volume that was made. -/
theorem vol_law {m p o : ByteArray} {st : Int} (h : MV m p st) (ho : o.size ≤ 4096) (hn : (opV [slV m p st] (tgoV m ⟨#[]⟩) o).code ≠ 0) :
    adR [slV m p st] (tgoV m ⟨#[]⟩) p o 9 = ⟨0, [slV m p st, slV m o 9], tgoV m ⟨#[]⟩⟩ ∧ opV [slV m p st] (tgoV m ⟨#[]⟩) p = ⟨0, m⟩ ∧ opV [slV m p st, slV m o 9] (tgoV m ⟨#[]⟩) o = ⟨0, m⟩ ∧
    dpR [slV m p st, slV m o 9] (tgoV m ⟨#[]⟩) 0 = ⟨0, [slV m o 9], tgoV m ⟨#[]⟩⟩ ∧ opV [slV m o 9] (tgoV m ⟨#[]⟩) o = ⟨0, m⟩ := by
  have w9 : isW 9 = true := by decide
  have h9 : MV m o 9 := ⟨h.m16, ho, w9⟩
  have v1 := h.vg
  have v2 := v1.more (q := o) (st := 9) ho w9 rfl
  refine ⟨?_, v1.op, ?_, ?_, h9.vg.op⟩
  · rw [v1.ad ho w9]
    rfl
  · have e1 : vfB [slV m p st] (tgoV m ⟨#[]⟩) = true := vf_of v1.len v1.l4 v1.csz v1.al
    have e2 : vfB [slV m p st, slV m o 9] (tgoV m ⟨#[]⟩) = true := vf_of v2.len v2.l4 v2.csz v2.al
    unfold opV at hn ⊢
    rw [nov ho, if_neg (by simp)] at hn ⊢
    rw [if_pos e1] at hn
    rw [if_pos e2]
    rw [opF] at hn ⊢
    split at hn
    · split at hn
      · exact absurd rfl hn
      · rename_i q1 q2
        rw [if_pos q1, if_neg q2]
        exact h9.hit _
    · rename_i q1
      rw [if_neg q1]
      exact h9.hit _
  · have e2 : vfB [slV m p st, slV m o 9] (tgoV m ⟨#[]⟩) = true := vf_of v2.len v2.l4 v2.csz v2.al
    unfold dpR
    rw [if_neg (by rw [e2]; simp), if_neg, if_neg (by simp)]
    · rfl
    · show ¬ inW (2 : Nat) 0 1 = false
      decide
end Go.Proofs.Ytniaohflkopncaa
