import Derived.Test.YtalpcjclahkgnaaGreatCl1
import Derived.Test.YtalpcjclahkgnaaGreatIs1
import Derived.Test.YtalpcjclahkgnaaGreatHl
namespace Go.Proofs.YtalpcjclahkgnaaGreat
open Go.ChangeShapes Go.WideShapes Go.ChangeAt Go.RowKit

def allD (p : Nat → Bool) (k : Nat) : Bool := (List.range k).all p
theorem allD_succ (p : Nat → Bool) (k : Nat) : allD p (k + 1) = (allD p k && p k) := by simp [allD, List.range_succ]
theorem allD_bad {p : Nat → Bool} {k m : Nat} (hk : k < m) (h : p k = false) : allD p m = false := by
  unfold allD
  rw [List.all_eq_false]
  exact ⟨k, List.mem_range.2 hk, by rw [h]; decide⟩
theorem allD_iff {p : Nat → Bool} {m : Nat} : allD p m = true ↔ ∀ k, k < m → p k = true := by
  unfold allD
  rw [List.all_eq_true]
  exact ⟨fun h k hk => h k (List.mem_range.2 hk), fun h k hk => h k (List.mem_range.1 hk)⟩
/-- Texts in order. -/
def tlt (a b : ByteArray) : Bool := Op.bytesLess a.toList b.toList
theorem bl_tri : ∀ x y : List UInt8, (Op.bytesLess y x || (y == x)) = !(Op.bytesLess x y)
  | [], [] => by simp [Op.bytesLess]
  | [], b :: y => by simp [Op.bytesLess]
  | a :: x, [] => by simp [Op.bytesLess]
  | a :: x, b :: y => by
    have ih := bl_tri x y
    by_cases h1 : b < a
    · have h2 : ¬ a < b := fun h => by simp only [UInt8.lt_iff_toNat_lt] at h h1; omega
      have h3 : ¬ a = b := fun h => by rw [h] at h1; simp at h1
      simp [Op.bytesLess, h1, h2, h3]
    · by_cases h2 : a < b
      · have h3 : ¬ b = a := fun h => by rw [h] at h2; simp at h2
        simp [Op.bytesLess, h1, h2, h3]
      · have h3 : a = b := by
          apply UInt8.toNat_inj.1
          simp only [UInt8.lt_iff_toNat_lt] at h1 h2
          omega
        subst h3
        simp only [Op.bytesLess, h1, decide_false, Bool.false_or, beq_self_eq_true, Bool.true_and]
        rw [← ih]
        simp
theorem bl_irr : ∀ x : List UInt8, Op.bytesLess x x = false
  | [] => rfl
  | a :: x => by simp [Op.bytesLess, bl_irr x]
theorem bl_trans : ∀ x y z : List UInt8, Op.bytesLess x y = true → Op.bytesLess y z = true → Op.bytesLess x z = true
  | _, [], _, h, _ => by simp [Op.bytesLess] at h
  | _, _ :: _, [], _, h => by simp [Op.bytesLess] at h
  | [], _ :: _, _ :: _, _, _ => by simp [Op.bytesLess]
  | a :: x, b :: y, c :: z, h1, h2 => by
    simp only [Op.bytesLess, Bool.or_eq_true, decide_eq_true_eq, Bool.and_eq_true, beq_iff_eq] at h1 h2 ⊢
    rcases h1 with h1 | ⟨rfl, h1⟩
    · rcases h2 with h2 | ⟨rfl, h2⟩
      · exact .inl (by simp only [UInt8.lt_iff_toNat_lt] at *; omega)
      · exact .inl h1
    · rcases h2 with h2 | ⟨rfl, h2⟩
      · exact .inl h2
      · exact .inr ⟨rfl, bl_trans x y z h1 h2⟩

def nodB (t : Int) (n : NOD) : Bool := decide (1 ≤ n.cpu) && decide (n.cpu ≤ 64) && decide (1 ≤ n.mem) && decide (n.mem ≤ 1000) && decide (1 ≤ n.zone) && decide (n.zone ≤ 20) && decide (0 ≤ n.beat) && decide (n.beat ≤ t)
def vmB (T : Int) (v : VMC) : Bool := nmB v.name && decide (1 ≤ v.cpu) && decide (v.cpu ≤ 64) && decide (1 ≤ v.mem) && decide (v.mem ≤ 1000) && decide (0 ≤ v.tenant) && decide (v.tenant < T) && decide (0 ≤ v.zone) && decide (v.zone ≤ 20) && decide (0 ≤ v.apart) && decide (v.apart ≤ 20)
def tntB (t : TNT) : Bool := decide (0 ≤ t.cpu) && decide (t.cpu ≤ 10000) && decide (0 ≤ t.mem) && decide (t.mem ≤ 10000) && decide (0 ≤ t.bill) && decide (t.bill ≤ 1152921504606846976)
def ndA (s : CL) (k : Nat) : NOD := s.nodes.getD k nod0
def vmA (s : CL) (k : Nat) : VMC := s.vms.getD k vmc0
def teA (s : CL) (k : Nat) : TNT := s.tenants.getD k tnt0
/-- One text of a rising row of names. -/
def rkB (xs : List ByteArray) (k : Nat) : Bool := nmB (xs.getD k ⟨#[]⟩) && (decide (k = 0) || tlt (xs.getD (k - 1) ⟨#[]⟩) (xs.getD k ⟨#[]⟩))
def rsB (xs : List ByteArray) : Bool := allD (rkB xs) xs.length
def nkB (s : CL) (k : Nat) : Bool := nmB (ndA s k).name && (decide (k = 0) || tlt (ndA s (k - 1)).name (ndA s k).name) && nodB s.time (ndA s k)
def nosB (s : CL) : Bool := decide ((s.nodes.length : Int) ≤ 12) && allD (nkB s) s.nodes.length
/-- A machine is on a node, and of another name. -/
def onB (s : CL) (k : Nat) (nm : ByteArray) (x : VMC) : Bool := (x.node.toList == (ndA s k).name.toList) && !(x.name.toList == nm.toList)
def cfl (s : CL) (k : Nat) (v x : VMC) : Bool := decide (v.apart ≠ 0) && (onB s k v.name x && decide (x.tenant = v.tenant) && decide (x.apart = v.apart))
def smW (f : VMC → Int) (p : VMC → Bool) (a : Int) (xs : List VMC) : Int := xs.foldl (fun c x => if p x then wrap64 (c + f x) else c) a
theorem smW_succ {f : VMC → Int} {p : VMC → Bool} {a : Int} {xs : List VMC} {k : Nat} (h : k < xs.length) : smW f p a (xs.take (k + 1)) = if p xs[k] then wrap64 (smW f p a (xs.take k) + f xs[k]) else smW f p a (xs.take k) := by
  unfold smW
  rw [List.take_succ_eq_append_getElem h, List.foldl_append]
  rfl
def hlV (s : CL) (k : Nat) (v : VMC) : Int :=
  if v.zone ≠ 0 ∧ v.zone ≠ (ndA s k).zone then 7
  else if s.vms.any (cfl s k v) then 9
  else if (ndA s k).mem < smW VMC.mem (onB s k v.name) v.mem s.vms then 2
  else if wrap64 ((ndA s k).cpu * s.over) < wrap64 (smW VMC.cpu (onB s k v.name) v.cpu s.vms * 100) then 8 else 0
/-- The number of the first node of a name, or -1. -/
def ndX (s : CL) (nm : ByteArray) : Int := match s.nodes.findIdx? (fun n => n.name.toList == nm.toList) with | some k => (k : Int) | none => -1
def vmX (s : CL) (nm : ByteArray) : Int := match s.vms.findIdx? (fun v => v.name.toList == nm.toList) with | some k => (k : Int) | none => -1
def epB (v : VMC) : Bool := decide (0 ≤ v.epoch) && decide (v.epoch ≤ 1099511627776)
def noB (v : VMC) : Bool := v.node.toList == (⟨#[]⟩ : ByteArray).toList
def styB (s : CL) (v : VMC) : Bool := noB v || (decide (0 ≤ ndX s v.node) && decide (hlV s (ndX s v.node).toNat v = 0))
def vkB (s : CL) (k : Nat) : Bool := vmB s.tenants.length (vmA s k) && (decide (k = 0) || tlt (vmA s (k - 1)).name (vmA s k).name) && epB (vmA s k) && styB s (vmA s k)
def usC (s : CL) (t : Int) : Int := smW VMC.cpu (fun x => decide (x.tenant = t)) 0 s.vms
def usM (s : CL) (t : Int) : Int := smW VMC.mem (fun x => decide (x.tenant = t)) 0 s.vms
def tkB (s : CL) (i : Nat) : Bool := tntB (teA s i) && decide (usC s i ≤ (teA s i).cpu) && decide (usM s i ≤ (teA s i).mem)
def ovB (s : CL) : Bool := decide (100 ≤ s.over) && decide (s.over ≤ 400) && decide (0 ≤ s.time) && decide (s.time ≤ 1099511627776)
def lnB (s : CL) : Bool := decide ((s.vms.length : Int) ≤ 30) && decide (1 ≤ (s.tenants.length : Int)) && decide ((s.tenants.length : Int) ≤ 8)
/-- A cluster is right. -/
def cfB (s : CL) : Bool := ovB s && nosB s && lnB s && allD (vkB s) s.vms.length && allD (tkB s) s.tenants.length
def cfV (s : CL) : Int := if cfB s = true then 0 else 1
end Go.Proofs.YtalpcjclahkgnaaGreat
