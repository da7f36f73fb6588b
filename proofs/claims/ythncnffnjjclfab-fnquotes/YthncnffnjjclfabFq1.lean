import Derived.Test.YthncnffnjjclfabQt4
namespace Go.Proofs.Ythncnffnjjclfab
open Go.ChangeShapes Go.WideShapes Go.ChangeAt Go.RowKit

/-- The power by so many steps: to be reckoned out. -/
def poF : Nat → Nat → Nat → Nat → Nat
  | 0, o, _, _ => o
  | f + 1, o, b, n => if n = 0 then o else poF f (if n % 2 = 1 then o * b % 2147482763 else o) (b * b % 2147482763) (n / 2)
theorem poF_eq : ∀ (f o b n : Nat), n < 2 ^ f → poF f o b n = poL o b n
  | 0, o, b, n, h => by
    obtain rfl : n = 0 := by simpa using h
    rw [poL_zero]
    rfl
  | f + 1, o, b, n, h => by
    by_cases h0 : n = 0
    · subst h0
      rw [poL_zero]
      simp [poF]
    · have hn : n / 2 < 2 ^ f := by
        rw [Nat.pow_succ] at h
        omega
      have hs : poF (f + 1) o b n = poF f (if n % 2 = 1 then o * b % 2147482763 else o) (b * b % 2147482763) (n / 2) := by
        show (if n = 0 then o else _) = _
        rw [if_neg h0]
      rw [hs, poF_eq f _ _ _ hn]
      by_cases h1 : n % 2 = 1
      · rw [if_pos h1, poL_odd _ _ _ h1]
      · rw [if_neg h1, poL_even _ _ _ h0 h1]
theorem po1 (b n : Nat) : poL 1 b n = b ^ n % 2147482763 := by
  rw [poL_eq n 1 b (by omega), Nat.one_mul]
theorem gQ {Q : Nat} (hQ : Q = 1073741381) : 4 ^ Q % 2147482763 = 1 := by
  rw [← po1, ← poF_eq 31 1 4 Q (by subst hQ; decide)]
  subst hQ
  decide +kernel
theorem g_mod {Q : Nat} (hQ : Q = 1073741381) (n : Nat) : 4 ^ (n % Q) % 2147482763 = 4 ^ n % 2147482763 := by
  have g := gQ hQ
  have e : n = Q * (n / Q) + n % Q := (Nat.div_add_mod n Q).symm
  clear hQ
  generalize n / Q = q at e
  generalize n % Q = r at e ⊢
  subst e
  rw [Nat.pow_add, Nat.pow_mul, Nat.mul_mod, Nat.pow_mod (4 ^ Q), g, Nat.one_pow]
  rw [show (1 % 2147482763) = 1 from rfl, Nat.one_mul, Nat.mod_mod]
theorem g_next {Q : Nat} (hQ : Q = 1073741381) (z : Nat) (hz : z < Q) : 4 ^ (z + 1) % 2147482763 ≠ 4 ^ z % 2147482763 := by
  have n1 : z + 1 + (Q - z) = Q + 1 := by clear hQ; omega
  have n2 : z + (Q - z) = Q := by clear hQ; omega
  have e1 : 4 ^ (z + 1) * 4 ^ (Q - z) = 4 ^ Q * 4 := by rw [← Nat.pow_add, n1, Nat.pow_succ]
  have e2 : 4 ^ z * 4 ^ (Q - z) = 4 ^ Q := by rw [← Nat.pow_add, n2]
  have g := gQ hQ
  clear hQ n1 n2 hz
  intro h
  generalize 4 ^ (z + 1) = a at *
  generalize 4 ^ z = b at *
  generalize 4 ^ (Q - z) = c at *
  generalize 4 ^ Q = d at *
  have h1 : a * c % 2147482763 = b * c % 2147482763 := by
    rw [Nat.mul_mod, h, ← Nat.mul_mod]
  rw [e1, e2] at h1
  clear e1 e2 h
  omega
theorem quote_eq {Q : Nat} (hQ : Q = 1073741381) (k e s : Nat) : 4 ^ ((k + e * s) % Q) % 2147482763 = (4 ^ k % 2147482763) * ((4 ^ s % 2147482763) ^ e % 2147482763) % 2147482763 := by
  rw [g_mod hQ, Nat.pow_add, Nat.mul_comm e s, Nat.pow_mul, Nat.mul_mod, Nat.pow_mod (4 ^ s)]
theorem pub_q {Q : Nat} (hQ : Q = 1073741381) (s : Nat) : (4 ^ s % 2147482763) ^ Q % 2147482763 = 1 := by
  have g := gQ hQ
  clear hQ
  rw [← Nat.pow_mod, ← Nat.pow_mul, Nat.mul_comm, Nat.pow_mul, Nat.pow_mod, g, Nat.one_pow]
/-- A quote's numbers. -/
structure QN (s : Int) (nn : ByteArray) (zs : List Int) (Q S K E : Nat) : Prop where
  hs : s = (S : Int)
  pub : pubV s = ((4 ^ S % 2147482763 : Nat) : Int)
  hr : qR s nn zs = ((4 ^ K % 2147482763 : Nat) : Int)
  he : prV (qR s nn zs) zs nn = (E : Int)
  hz : qZ s nn zs = (((K + E * S) % Q : Nat) : Int)
theorem qn_of {s : Int} {nn : ByteArray} {zs : List Int} {Q : Nat} (hQ : Q = 1073741381) (h : qoB s nn zs = true) : ∃ S K E, QN s nn zs Q S K E := by
  obtain ⟨h1, h2, h3⟩ := qoB_b h
  obtain ⟨S, rfl, s0, s1⟩ := scB_b h1
  have hk := qkV_b (S : Int) zs nn
  obtain ⟨K, hK⟩ : ∃ K : Nat, qkV (S : Int) zs nn = (K : Int) := ⟨(qkV (S : Int) zs nn).toNat, by omega⟩
  have hr : qR (S : Int) nn zs = ((4 ^ K % 2147482763 : Nat) : Int) := by
    unfold qR
    rw [if_pos h, hK, Int.toNat_natCast, po1]
  have he := prV_b (qR (S : Int) nn zs) zs nn
  obtain ⟨E, hE⟩ : ∃ E : Nat, prV (qR (S : Int) nn zs) zs nn = (E : Int) := ⟨(prV (qR (S : Int) nn zs) zs nn).toNat, by omega⟩
  refine ⟨S, K, E, rfl, ?_, hr, hE, ?_⟩
  · unfold pubV
    rw [if_pos h1, Int.toNat_natCast, po1]
  · unfold qZ
    rw [if_pos h, hE, hK, Int.natCast_emod, Int.natCast_add, Int.natCast_mul, hQ]
    rfl
/-- What was quoted is taken. -/
theorem quote_yes {s : Int} {nn : ByteArray} {zs : List Int} (h : qoB s nn zs = true) (hp : ¬ pubV s < 2) : cqV (pubV s) nn zs (qR s nn zs) (qZ s nn zs) = true := by
  obtain ⟨Q, hQ⟩ : ∃ Q : Nat, Q = 1073741381 := ⟨_, rfl⟩
  obtain ⟨h1, h2, h3⟩ := qoB_b h
  obtain ⟨S, K, E, hq⟩ := qn_of hQ h
  have hpl : 4 ^ S % 2147482763 < 2147482763 := Nat.mod_lt _ (by omega)
  have hrl : 4 ^ K % 2147482763 < 2147482763 := Nat.mod_lt _ (by omega)
  have hr0 : 4 ^ K % 2147482763 ≠ 0 := by rw [← po1]; exact pow4_ne K
  have hzl : (K + E * S) % Q < Q := Nat.mod_lt _ (by omega)
  have hb : cqB (pubV s) nn zs (qR s nn zs) (qZ s nn zs) = true := by
    rw [hq.pub] at hp
    unfold cqB puB pwB bdB
    rw [hq.pub, hq.hr, hq.hz, h2, h3, Int.toNat_natCast, po1, ← hQ, pub_q hQ]
    clear hq
    generalize 4 ^ S % 2147482763 = a at *
    generalize 4 ^ K % 2147482763 = b at *
    generalize (K + E * S) % Q = c at *
    simp
    omega
  unfold cqV
  rw [if_pos hb, hq.he, hq.pub, hq.hr, hq.hz, Int.toNat_natCast, Int.toNat_natCast, Int.toNat_natCast, po1, po1, quote_eq hQ K E S]
  rw [Int.natCast_emod, Int.natCast_mul]
  simp
/-- The next sum is not taken. -/
theorem quote_no {s : Int} {nn : ByteArray} {zs : List Int} (h : qoB s nn zs = true) : cqV (pubV s) nn zs (qR s nn zs) ((qZ s nn zs + 1) % 1073741381) = false := by
  obtain ⟨Q, hQ⟩ : ∃ Q : Nat, Q = 1073741381 := ⟨_, rfl⟩
  obtain ⟨S, K, E, hq⟩ := qn_of hQ h
  unfold cqV
  split
  · have hz : (qZ s nn zs + 1) % 1073741381 = ((((K + E * S) % Q + 1) % Q : Nat) : Int) := by
      rw [hq.hz]
      clear hq
      generalize (K + E * S) % Q = c
      subst hQ
      omega
    have hzl : (K + E * S) % Q < Q := Nat.mod_lt _ (by omega)
    have hn := g_next hQ _ hzl
    rw [hz, hq.he, hq.pub, hq.hr, Int.toNat_natCast, Int.toNat_natCast, Int.toNat_natCast, po1, po1, g_mod hQ]
    rw [quote_eq hQ K E S] at hn
    clear hz hq hzl
    generalize 4 ^ ((K + E * S) % Q + 1) % 2147482763 = x at *
    rw [← Int.natCast_mul, ← pow_end]
    generalize 4 ^ K % 2147482763 * ((4 ^ S % 2147482763) ^ E % 2147482763) % 2147482763 = y at *
    have : ¬ ((x : Int) = (y : Int)) := by omega
    simpa using this
  · rfl
end Go.Proofs.Ythncnffnjjclfab
