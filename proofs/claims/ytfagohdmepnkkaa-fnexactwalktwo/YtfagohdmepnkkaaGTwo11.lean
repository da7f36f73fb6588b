import Derived.Test.YtfagohdmepnkkaaGTwo9
import Derived.Test.YtfagohdmepnkkaaGTwo10
namespace Go.Proofs.Ytfagohdmepnkkaa
open Go.ChangeShapes Go.WideShapes Go.ChangeAt Go.RowKit

/-- What a guest's walk comes to. -/
structure FD where
  code : Int
  pa : Int
  zs : List Int
  mem : ByteArray
  steps : Int
  place : Int
/-- Behind the guest's entry. -/
def finG (f : FG) (host va : Nat) (acc : Int) (user : Bool) : FD :=
  if f.code = 0 then
    if goodV f.e acc user f.lg = true then
      if pgV f.e va f.lg < 1024 then
        if putA f.e acc = f.e then ⟨0, pgV f.e va f.lg * 256 + (va : Int) % 256, f.zs, f.mem, f.steps, f.place⟩
        else if (walkV f.mem host f.k 2 false).fault = 0 then ⟨0, pgV f.e va f.lg * 256 + (va : Int) % 256, f.zs, setv (walkV f.mem host f.k 2 false).mem (walkV f.mem host f.k 2 false).pa.toNat (putA f.e acc), f.steps + (walkV f.mem host f.k 2 false).reads.length, f.k⟩
        else ⟨3, 0, f.zs, (walkV f.mem host f.k 2 false).mem, f.steps + (walkV f.mem host f.k 2 false).reads.length, f.k⟩
      else ⟨2, 0, f.zs, f.mem, f.steps, f.place⟩
    else ⟨1, 0, f.zs, f.mem, f.steps, f.place⟩
  else ⟨f.code, 0, f.zs, f.mem, f.steps, f.place⟩
theorem findG {w0 wr : World} {b G B n : Nat} {s : ByteArray} {y : GS} {rv : Value} {x : WS} (h : GW w0 b G B n s y wr rv [] x) (hn : s.size = n * 256) (hs : s.size ≤ 65536) (root : Nat) (hr : root ≤ 255) (hv : x.va ≤ 262143) (hh : y.host ≤ 255) (hst0 : 0 ≤ y.steps) (hst : y.steps ≤ 100) (a1 : 1 ≤ x.acc) (a2 : x.acc ≤ 3) :
    Calls Try.prog 48 #[.pointer (some ⟨B, 0, none⟩), .int .i64 root] wr fun ed u => ed = .returned (.int .i64 (finG (feG s y.host root x.va y.steps) y.host x.va x.acc x.user).code) ∧ ∃ rv' x', GW w0 b G B n (finG (feG s y.host root x.va y.steps) y.host x.va x.acc x.user).mem { y with steps := (finG (feG s y.host root x.va y.steps) y.host x.va x.acc x.user).steps, place := (finG (feG s y.host root x.va y.steps) y.host x.va x.acc x.user).place } u rv' (finG (feG s y.host root x.va y.steps) y.host x.va x.acc x.user).zs x' ∧ ((finG (feG s y.host root x.va y.steps) y.host x.va x.acc x.user).code = 0 → x'.pa = (finG (feG s y.host root x.va y.steps) y.host x.va x.acc x.user).pa) := by
  have hF := findEntryG h hn hs root hr hv hh hst0 hst
  have hO := feG_ok s y.host root x.va y.steps hr hv
  obtain ⟨va, acc, user, at_, e, lg, pa⟩ := x
  simp only at *
  obtain ⟨f, hf⟩ : ∃ f, feG s y.host root va y.steps = f := ⟨_, rfl⟩
  rw [hf] at hF hO ⊢
  clear hf h
  obtain ⟨c, fe, k, lg, zs, mem, st, pl⟩ := f
  have hc := hO.code
  have e0 := hO.e0
  have e1 := hO.e1
  have k1 := hO.k1
  have k4 := hO.k4
  have hz := hO.size
  have s0 := hO.s0
  have s1 := hO.s1
  clear hO
  simp only at *
  unfold finG
  simp only
  by_cases h0 : c = 0
  · subst h0
    rw [if_pos rfl]
    have hfe : Hid (Calls Try.prog 91 #[.pointer (some ⟨B, 0, none⟩), .int .i64 root] wr fun ed u => ed = .returned (.int .i64 0) ∧ ∃ rv' pa, GW w0 b G B n mem { y with steps := st, place := pl } u rv' zs ⟨va, acc, user, (k : Int), fe, lg, pa⟩) := by
      refine Calls.mono hF ?_
      rintro ed u ⟨he, rv', ⟨va', acc', user', at', e', lg', pa'⟩, hg, h1, h2, h3, h4⟩
      obtain ⟨h5, h6, h7⟩ := h4 rfl
      simp only at h1 h2 h3 h5 h6 h7
      subst h1 h2 h3 h5 h6 h7
      exact ⟨he, rv', pa', hg⟩
    by_cases hg : goodV fe acc user lg = true
    · rw [if_pos hg]
      by_cases hp : pgV fe va lg < 1024
      · rw [if_pos hp]
        by_cases hsame : putA fe acc = fe
        · rw [if_pos hsame]
          have hq := findG_good root (fun c u => c = 0 ∧ ∃ rv', GW w0 b G B n mem { y with steps := st, place := pl } u rv' zs ⟨va, acc, user, (k : Int), fe, lg, pgV fe va lg * 256 + (va : Int) % 256⟩) hfe e0 e1 hv a1 a2 hg hp (fun u rv' hG => Calls.mono (putFlagsG_same hG hsame) (fun ed u' hq => ⟨0, hq.1, rfl, rv', hq.2 ▸ hG⟩))
          refine Calls.mono hq ?_
          rintro ed u ⟨c, he, rfl, rv', hG⟩
          exact ⟨he, rv', _, hG, fun _ => rfl⟩
        · rw [if_neg hsame]
          by_cases hf : (walkV mem y.host k 2 false).fault = 0
          · rw [if_pos hf]
            have hq := findG_good root (fun c u => c = 0 ∧ ∃ rv' x', GW w0 b G B n (setv (walkV mem y.host k 2 false).mem (walkV mem y.host k 2 false).pa.toNat (putA fe acc)) { y with steps := st + (walkV mem y.host k 2 false).reads.length, place := k } u rv' zs x' ∧ x'.pa = pgV fe va lg * 256 + (va : Int) % 256) hfe e0 e1 hv a1 a2 hg hp (fun u rv' hG => Calls.mono (putFlagsG_put hG hsame (by omega) (by omega) k rfl k1 k4 hh (by simp only; omega) (by simp only; omega)) (fun ed u' hq => ⟨0, (hq.1 hf).1, rfl, rv', _, (hq.1 hf).2, rfl⟩))
            refine Calls.mono hq ?_
            rintro ed u ⟨c, he, rfl, rv', x', hG, hx⟩
            exact ⟨he, rv', x', hG, fun _ => hx⟩
          · rw [if_neg hf]
            have hq := findG_good root (fun c u => c = 3 ∧ ∃ rv' x', GW w0 b G B n (walkV mem y.host k 2 false).mem { y with steps := st + (walkV mem y.host k 2 false).reads.length, place := k } u rv' zs x') hfe e0 e1 hv a1 a2 hg hp (fun u rv' hG => Calls.mono (putFlagsG_put hG hsame (by omega) (by omega) k rfl k1 k4 hh (by simp only; omega) (by simp only; omega)) (fun ed u' hq => ⟨3, (hq.2 hf).1, rfl, rv', _, (hq.2 hf).2⟩))
            refine Calls.mono hq ?_
            rintro ed u ⟨c, he, rfl, rv', x', hG⟩
            exact ⟨he, rv', x', hG, fun h => by cases h⟩
      · rw [if_neg hp]
        refine Calls.mono (findG_access root hfe e0 e1 hv a1 a2 hg hp) ?_
        rintro ed u ⟨he, rv', pa, hG⟩
        exact ⟨he, rv', _, hG, fun h => by cases h⟩
    · rw [if_neg hg]
      refine Calls.mono (findG_page root hfe e0 e1 hv a1 a2 (by simpa using hg)) ?_
      rintro ed u ⟨he, rv', pa, hG⟩
      exact ⟨he, rv', _, hG, fun h => by cases h⟩
  · rw [if_neg h0]
    have hq := findG_bad root c (fun u => ∃ rv' x', GW w0 b G B n mem { y with steps := st, place := pl } u rv' zs x') h0 (Calls.mono hF (fun ed u hq => ⟨hq.1, hq.2.choose, hq.2.choose_spec.choose, hq.2.choose_spec.choose_spec.1⟩))
    refine Calls.mono hq ?_
    rintro ed u ⟨he, rv', x', hG⟩
    exact ⟨he, rv', x', hG, fun h => absurd h h0⟩
end Go.Proofs.Ytfagohdmepnkkaa
