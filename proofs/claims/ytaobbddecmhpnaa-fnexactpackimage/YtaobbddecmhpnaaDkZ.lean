import Derived.Test.YtaobbddecmhpnaaDk2
import Derived.Test.YtaobbddecmhpnaaBytes
import Derived.Test.YtaobbddecmhpnaaHl
import Derived.Deep.AppendLies
import Derived.Deep.QuietTactic
namespace Go.Proofs.Ytaobbddecmhpnaa
open Go.ChangeShapes Go.WideShapes Go.ChangeAt Go.RowKit

set_option maxRecDepth 100000
theorem Try.info31 : (Try.prog.info? 31).map (fun i => (i.zero, i.size, i.bytes)) = some (some (.agg #[.string ⟨#[]⟩, .string ⟨#[]⟩, .slice none 0 0, .slice none 0 0, .slice none 0 0]), 5, 104) := by kernel_rfl
/-- The images of a way. -/
def stG (gs : List IG) (cs : List Nat) : List IG := cs.map (fun c => gs.getD c ig0)
/-- The code of a stack. -/
def osC (ms : List IM) (n : ByteArray) : Int := if 1000 < ms.length ∨ 65536 < n.size then 2 else if chB ms then (match fdN ms n with | some _ => 0 | none => 5) else 1
/-- What is told of a stack. -/
def OS (w w' : World) (gs : List IG) (ms : List IM) (n : ByteArray) (sv : Value) : Prop := chB ms = true ∧ ∃ k, fdN ms n = some k ∧ w'.ownsRow w.heap.size 31 5 sv (pth ms k).length (igR (stG gs (pth ms k)))
theorem noName {ms : List IM} (h : RL ms) {n : ByteArray} (hn : n.size = 0) : fdN ms n = none := by
  cases hq : fdN ms n with
  | none => rfl
  | some k =>
    obtain ⟨hk, hp, _⟩ := List.findIdx?_eq_some_iff_getElem.1 hq
    have hk2 : k < ms.length := by simpa using hk
    simp only [List.getElem_map] at hp
    have e := eq_of_beq hp
    have hz := (of_decide_eq_true (h.im k hk2).n).1
    have e2 : ms[k].n.size = n.size := by
      have := congrArg List.length e
      rw [ByteArray.toList_eq, ByteArray.toList_eq] at this
      simpa using this
    omega
/-- The state of the loop: what is still to come. -/
def Nx (ms : List IM) (P pre : List Nat) (i : Value) : Prop := (i = .int .i64 (-1) ∧ P = pre) ∨ ∃ c : Nat, i = .int .i64 c ∧ c < ms.length ∧ ceI ms 14 c = true ∧ P = pre ++ pth ms c
/-- How far it still goes. -/
def mz (ms : List IM) : Value → Nat
  | .int _ x => if x < 0 then 0 else (pth ms x.toNat).length
  | _ => 0
theorem mz_neg (ms : List IM) : mz ms (.int .i64 (-1)) = 0 := rfl
theorem mz_nat (ms : List IM) (k : Nat) : mz ms (.int .i64 (k : Int)) = (pth ms k).length := by
  show (if (k : Int) < 0 then 0 else (pth ms (k : Int).toNat).length) = _
  rw [if_neg (by omega), Int.toNat_natCast]
theorem new_cells (w : World) (xs : List Value) (t : Nat) : ∀ (j : Nat) (u : Value), xs[j]? = some u → (w.alloc (.cells xs.toArray t)).cell? ((⟨w.heap.size, 0, none⟩ : Addr).add j) = some u := by
  intro j u hu
  have hadd : Addr.add ⟨w.heap.size, 0, none⟩ j = ⟨w.heap.size, j, none⟩ := by
    unfold Addr.add
    split
    · subst_vars; rfl
    · simp
  rw [hadd]
  have hh := heap_new w (.cells xs.toArray t)
  simp only [World.cell?, hh]
  simpa using hu
theorem pth_le (ms : List IM) (c : Nat) : (pth ms c).length ≤ 14 := ptL_len ms 14 c
set_option maxRecDepth 100000
theorem stG_at (gs : List IG) (cs : List Nat) (k : Nat) (hk : k < cs.length) (hc : cs[k] < gs.length) : (stG gs cs)[k]'(by simpa [stG] using hk) = gs[cs[k]] := by
  simp [stG, List.getD_eq_getElem?_getD, List.getElem?_eq_getElem hc]
theorem clP_cons (ms : List IM) (n c : Nat) (cs : List Nat) : clP ms n (c :: cs) = if n < (gI ms c).t.length then
      (if 0 ≤ (gI ms c).t.getD n 0 then (gI ms c).d.getD ((gI ms c).t.getD n 0).toNat z16 else if (gI ms c).t.getD n 0 = -2 then z16 else clP ms n cs)
    else z16 := rfl
set_option maxRecDepth 100000
theorem fd_size {ms : List IM} (h : RL ms) {n : ByteArray} {k : Nat} (hq : fdN ms n = some k) : n.size ≤ 20 := by
  obtain ⟨hk, hp, _⟩ := List.findIdx?_eq_some_iff_getElem.1 hq
  have hk2 : k < ms.length := by simpa using hk
  simp only [List.getElem_map] at hp
  have e := eq_of_beq hp
  have hz := (of_decide_eq_true (h.im k hk2).n).2.1
  have e2 : ms[k].n.size = n.size := by
    have := congrArg List.length e
    rw [ByteArray.toList_eq, ByteArray.toList_eq] at this
    simpa using this
  omega
theorem osC_no {ms : List IM} {n : ByteArray} (h : ¬ osC ms n = 0) : dkO ms n = ⟨#[]⟩ := by
  unfold dkO
  cases hc : chB ms with
  | false => rfl
  | true =>
    cases hq : fdN ms n with
    | none => rfl
    | some k =>
      exfalso
      apply h
      have hr := RL.of hc
      have h1 := hr.len
      have h2 := fd_size hr hq
      unfold osC
      rw [if_neg (by omega), hc, hq]
      rfl
theorem osC_yes {ms : List IM} {n : ByteArray} (h : osC ms n = 0) : chB ms = true ∧ ∃ k, fdN ms n = some k ∧ k < ms.length ∧ dkO ms n = dkB ms k := by
  unfold osC at h
  split at h
  · exact absurd h (by decide)
  · cases hc : chB ms with
    | false => rw [hc] at h; simp at h
    | true =>
      rw [hc] at h
      cases hq : fdN ms n with
      | none => rw [hq] at h; simp at h
      | some k => exact ⟨rfl, k, rfl, fdN_lt hq, by unfold dkO; rw [hc, hq]; rfl⟩
theorem OS.row {w w' : World} {gs : List IG} {ms : List IM} {n : ByteArray} {sv : Value} (h : OS w w' gs ms n sv) {k : Nat} (hk : fdN ms n = some k) : IGrow w' sv (stG gs (pth ms k)) := by
  obtain ⟨_, k2, hq, ho⟩ := h
  rw [hk] at hq
  injection hq with e
  subst e
  exact IGrow.of (by simpa [stG] using ho)
end Go.Proofs.Ytaobbddecmhpnaa
